/- Contracts of the program's functions, part 9: own work, joined in build order. -/
import Derived.Test.YtfkkomppfghagaaGreatDoorJ8
namespace Go.Proofs.YtfkkomppfghagaaGreatDoor
open Go.RowKit
set_option maxRecDepth 100000
set_option linter.unusedVariables false
def updB (L : Nat → Bool) (i : Nat) : Nat → Bool := fun j => if j = i then true else L j
def updV (vs : Nat → Value) (i : Nat) (v : Value) : Nat → Value := fun j => if j = i then v else vs j
structure Fr (ops : Array Oper) (a0 : Act) (L : Nat → Bool) (vs : Nat → Value) (a : Act) : Prop where
  size : a.tmps.size = a0.tmps.size
  defers : a.defers = a0.defers
  out : ∀ t, (∀ (j : Nat) o, ops[j]? = some o → L j = true → o.dst ≠ some t) → a.tmps.getD t undef = a0.tmps.getD t undef
  inn : ∀ (j : Nat) o t, ops[j]? = some o → L j = true → o.dst = some t → a.tmps.getD t undef = vs j
structure Good (ops : Array Oper) (a0 : Act) : Prop where
  once : ∀ (i j : Nat) oi oj t, ops[i]? = some oi → ops[j]? = some oj → oi.dst = some t → oj.dst = some t → i = j
  lt : ∀ (i : Nat) oi t, ops[i]? = some oi → oi.dst = some t → t < a0.tmps.size
theorem put_getD_same (a : Act) (t : Nat) (v : Value) (h : t < a.tmps.size) : (a.put (some t) v).tmps.getD t undef = v := by
  simp [Act.put, h]
theorem put_getD_other (a : Act) (d : Option Nat) (t : Nat) (v : Value) (h : d ≠ some t) : (a.put d v).tmps.getD t undef = a.tmps.getD t undef := by
  cases d with
  | none => rfl
  | some d =>
    have hne : d ≠ t := fun e => h (by rw [e])
    simp [Act.put, Array.getElem?_setIfInBounds_ne hne]
theorem put_size (a : Act) (d : Option Nat) (v : Value) : (a.put d v).tmps.size = a.tmps.size := by cases d <;> simp [Act.put]
theorem put_defers' (a : Act) (d : Option Nat) (v : Value) : (a.put d v).defers = a.defers := by cases d <;> rfl
theorem Fr.step {ops : Array Oper} {a0 a : Act} {L : Nat → Bool} {vs : Nat → Value} (h : Fr ops a0 L vs a) (hg : Good ops a0) {i : Nat} {o : Oper} (hi : ops[i]? = some o) (hL : L i = false) (v : Value) :
    Fr ops a0 (updB L i) (updV vs i v) (a.put o.dst v) := by
  refine ⟨by rw [put_size, h.size], by rw [put_defers', h.defers], fun t ht => ?_, fun j oj t hj hLj ht => ?_⟩
  · have h1 : o.dst ≠ some t := ht i o hi (by simp [updB])
    rw [put_getD_other _ _ _ _ h1]
    refine h.out t fun j oj hj hLj => ?_
    have := ht j oj hj (by unfold updB; split <;> simp_all)
    exact this
  by_cases e : j = i
  · subst e
    rw [hi] at hj
    cases hj
    rw [ht]
    have := hg.lt j o t hi ht
    rw [put_getD_same _ _ _ (by rw [h.size]; exact this)]
    simp [updV]
  have h1 : o.dst ≠ some t := fun e2 => e (hg.once j i oj o t hj hi ht e2)
  rw [put_getD_other _ _ _ _ h1, h.inn j oj t hj (by simpa [updB, e] using hLj) ht]
  simp [updV, e]
def Owes (P : Program) (ops : Array Oper) (Q : Exit → Act → World → Prop) (a0 : Act) (J : (Nat → Bool) → (Nat → Value) → World → Prop) (i : Nat) (o : Oper) : Prop :=
  ∀ L vs a w, J L vs w → Fr ops a0 L vs a → (∀ e ∈ o.after, Region.binds .any e = true → L e.on = true) → L i = false →
    if Region.wanted o (yielded ops a.tmps) then o.wp P a w (fun a' w' => ∃ v, a' = a.put o.dst v ∧ J (updB L i) (updV vs i v) w') Q else J (updB L i) (updV vs i undef) w
def OwesAll (Φ : Nat → Oper → Prop) : Nat → List Oper → Prop
  | _, [] => True
  | k, o :: l => Φ k o ∧ OwesAll Φ (k + 1) l
theorem OwesAll.at {Φ : Nat → Oper → Prop} : ∀ {k : Nat} {l : List Oper}, OwesAll Φ k l → ∀ i o, l[i]? = some o → Φ (k + i) o
  | k, [], _, i, o, h => by simp at h
  | k, x :: l, h, i, o, hi => by
    cases i with
    | zero => simp at hi; subst hi; exact h.1
    | succ i =>
      have := OwesAll.at h.2 i o (by simpa using hi)
      rw [show k + (i + 1) = k + 1 + i by omega]
      exact this
def left (n : Nat) (L : Nat → Bool) : Nat := ((List.range n).filter fun i => !L i).length
theorem left_upd {n : Nat} {L : Nat → Bool} {i : Nat} (hi : i < n) (h : L i = false) : left n (updB L i) + 1 = left n L := by
  unfold left
  induction n with
  | zero => omega
  | succ n ih =>
    rw [List.range_succ, List.filter_append, List.filter_append, List.length_append, List.length_append]
    by_cases e : i = n
    · subst e
      have h1 : ((List.range i).filter fun j => !updB L i j) = (List.range i).filter fun j => !L j := List.filter_congr fun j hj => by
        have : j ≠ i := by have := List.mem_range.1 hj; omega
        simp [updB, this]
      rw [h1]
      simp [updB, h]
    have h2 := ih (by omega)
    have h3 : ([n].filter fun j => !updB L i j) = [n].filter fun j => !L j := by simp [updB, Ne.symm e, List.filter_cons]
    rw [h3]
    omega
theorem wpAny_inv {P : Program} {ops : Array Oper} {Q : Exit → Act → World → Prop} {a0 : Act} {J : (Nat → Bool) → (Nat → Value) → World → Prop} (hg : Good ops a0) (hback : ∀ (i : Nat) o, ops[i]? = some o → ∀ e ∈ o.after, Region.binds .any e = true → e.on < i)
    (hop : ∀ (i : Nat) o, ops[i]? = some o → Owes P ops Q a0 J i o) (hfin : ∀ L vs a w, (∀ i, i < ops.size → L i = true) → Fr ops a0 L vs a → J L vs w → Q .normal a w) :
    ∀ (fuel : Nat) (listed : Array Bool) (L : Nat → Bool) (vs : Nat → Value) (a : Act) (w : World), listed.size = ops.size → (∀ i, i < ops.size → listed.getD i true = L i) → left ops.size L = fuel → Fr ops a0 L vs a → J L vs w → wpAny P .any ops Q fuel listed a w
  | fuel, listed, L, vs, a, w, hsz, hL, hf, hF, hJ => by
    have hall : left ops.size L = 0 → ∀ i, i < ops.size → L i = true := fun h0 i hi => by
      cases hLi : L i
      · have := left_upd hi hLi
        omega
      rfl
    have hnone : left ops.size L ≠ 0 → Region.ready .any ops listed ≠ [] := fun hne hr => by
      have hex : ∃ i, i < ops.size ∧ L i = false := by
        rcases Classical.em (∃ i, i < ops.size ∧ L i = false) with h | h
        · exact h
        exfalso
        apply hne
        unfold left
        rw [List.length_eq_zero_iff, List.filter_eq_nil_iff]
        intro i hi
        have := List.mem_range.1 hi
        cases hLi : L i
        · exact absurd ⟨i, this, hLi⟩ h
        simp
      obtain ⟨i, hi, hmin⟩ := exists_least hex
      have ho : ops[i]? = some (ops[i]'hi.1) := Array.getElem?_eq_getElem hi.1
      have hmem : i ∈ Region.ready .any ops listed := mem_ready.2 ⟨(hL i hi.1).trans hi.2, _, ho, fun e he hb => by
        have hlt := hback i _ ho e he hb
        have h1 : L e.on = true := by
          cases hLe : L e.on
          · have := hmin e.on ⟨by omega, hLe⟩
            omega
          rfl
        have h2 := hL e.on (by omega)
        rw [h1] at h2
        have h3 : e.on < listed.size := by omega
        simpa [h3] using h2⟩
      rw [hr] at hmem
      cases hmem
    match fuel with
    | 0 =>
      refine ⟨?_, hfin L vs a w (hall hf) hF hJ⟩
      refine List.eq_nil_iff_forall_not_mem.2 fun i hi => ?_
      obtain ⟨h1, o, ho, _⟩ := mem_ready.1 hi
      have hlt : i < ops.size := (Array.getElem?_eq_some_iff.1 ho).1
      rw [hL i hlt, hall hf i hlt] at h1
      cases h1
    | fuel + 1 =>
      refine ⟨fun hr => absurd hr (hnone (by omega)), fun i hi => ?_⟩
      obtain ⟨h1, o, ho, hedges⟩ := mem_ready.1 hi
      have hlt : i < ops.size := (Array.getElem?_eq_some_iff.1 ho).1
      have hLi : L i = false := (hL i hlt).symm.trans h1
      have hP : ∀ e ∈ o.after, Region.binds .any e = true → L e.on = true := fun e he hb => by
        have h2 := hedges e he hb
        have h3 := hback i o ho e he hb
        have h4 : e.on < listed.size := by omega
        rw [← hL e.on (by omega)]
        simpa [h4] using h2
      have key := hop i o ho L vs a w hJ hF hP hLi
      have go : ∀ v w', J (updB L i) (updV vs i v) w' → wpAny P .any ops Q fuel (listed.setIfInBounds i true) (a.put o.dst v) w' := fun v w' hJ' =>
        wpAny_inv hg hback hop hfin fuel _ (updB L i) (updV vs i v) _ w' (by simpa using hsz) (fun j hj => by
          by_cases e : j = i
          · subst e
            have : j < listed.size := by omega
            simp [updB, this]
          rw [getD_set_ne true (Ne.symm e), hL j hj]
          simp [updB, e]) (by have := left_upd hlt hLi; omega) (hF.step hg ho hLi v) hJ'
      unfold wpOp
      simp only [ho]
      split
      · rename_i hw
        rw [if_pos hw] at key
        exact .inl (Oper.wp_mono (fun a' w' ⟨v, e, hj⟩ => by subst e; exact go v w' hj) key)
      rename_i hw
      rw [if_neg hw] at key
      exact go undef w key
def putL : List Oper → (Nat → Value) → Nat → Act → Act
  | [], _, _, a => a
  | o :: l, vs, k, a => putL l vs (k + 1) (a.put o.dst (vs k))
theorem Fr.congr {ops : Array Oper} {a0 a : Act} {L L' : Nat → Bool} {vs vs' : Nat → Value} (h : Fr ops a0 L vs a) (hL : ∀ j, L j = L' j) (hv : ∀ j, vs j = vs' j) : Fr ops a0 L' vs' a := by
  rw [← show L = L' from funext hL, ← show vs = vs' from funext hv]
  exact h
theorem putL_fr {ops : Array Oper} {a0 : Act} {vs : Nat → Value} (hg : Good ops a0) : ∀ (l : List Oper) (k : Nat) (b : Act), ops.toList.drop k = l → Fr ops a0 (fun j => decide (j < k)) vs b → ∃ m, ops.size ≤ m ∧ Fr ops a0 (fun j => decide (j < m)) vs (putL l vs k b)
  | [], k, b, hl, h => ⟨k, by have := List.drop_eq_nil_iff.1 hl; simpa using this, h⟩
  | o :: l, k, b, hl, h => by
    have hk : ops[k]? = some o := by
      have : (ops.toList.drop k)[0]? = some o := by rw [hl]; rfl
      simpa using this
    have hl2 : ops.toList.drop (k + 1) = l := by
      have : (ops.toList.drop k).drop 1 = l := by rw [hl]; rfl
      simpa [List.drop_drop, Nat.add_comm] using this
    have h2 := (h.step hg hk (by simp) (vs k)).congr (L' := fun j => decide (j < k + 1)) (vs' := vs) (fun j => by unfold updB; by_cases e : j = k <;> simp [e] <;> omega) (fun j => by unfold updV; split <;> simp_all)
    exact putL_fr hg l (k + 1) _ hl2 h2
theorem Fr.start (ops : Array Oper) (a0 : Act) (vs : Nat → Value) : Fr ops a0 (fun _ => false) vs a0 := ⟨rfl, rfl, fun _ _ => rfl, fun _ _ _ _ h => by cases h⟩
theorem Fr.ext {ops : Array Oper} {a0 a b : Act} {L L' : Nat → Bool} {vs : Nat → Value} (h : Fr ops a0 L vs a) (k : Fr ops a0 L' vs b) (hL : ∀ i, i < ops.size → L i = true) (hL' : ∀ i, i < ops.size → L' i = true) : a = b := by
  have key : ∀ t, a.tmps.getD t undef = b.tmps.getD t undef := fun t => by
    rcases Classical.em (∃ (j : Nat) (o : Oper), ops[j]? = some o ∧ o.dst = some t) with ⟨j, o, hj, ht⟩ | hne
    · have hlt : j < ops.size := (Array.getElem?_eq_some_iff.1 hj).1
      rw [h.inn j o t hj (hL j hlt) ht, k.inn j o t hj (hL' j hlt) ht]
    rw [h.out t fun j o hj _ ht => hne ⟨j, o, hj, ht⟩, k.out t fun j o hj _ ht => hne ⟨j, o, hj, ht⟩]
  obtain ⟨at', ad⟩ := a
  obtain ⟨bt, bd⟩ := b
  have hs : at'.size = bt.size := h.size.trans k.size.symm
  have hd : ad = bd := h.defers.trans k.defers.symm
  have ht : at' = bt := Array.ext hs fun i h1 h2 => by
    have := key i
    simpa [h1, h2] using this
  rw [hd, ht]
theorem Fr.all {ops : Array Oper} {a0 a : Act} {L : Nat → Bool} {vs : Nat → Value} (hg : Good ops a0) (h : Fr ops a0 L vs a) (hL : ∀ i, i < ops.size → L i = true) : a = putL ops.toList vs 0 a0 := by
  obtain ⟨m, hm, hF⟩ := putL_fr (vs := vs) hg ops.toList 0 a0 rfl ((Fr.start ops a0 vs).congr (fun j => by simp) (fun _ => rfl))
  exact h.ext hF hL fun i hi => by simp; omega
def goodB (l : List Oper) (n : Nat) : Bool :=
  (l.filterMap (·.dst)).all (fun t => decide (t < n)) && ((List.range l.length).all fun i => (List.range l.length).all fun j => i == j || (match (l[i]?).bind (·.dst), (l[j]?).bind (·.dst) with | some t, some u => t != u | _, _ => true)) &&
  ((List.range l.length).all fun i => ((l[i]?).map fun o => o.after.toList.all fun e => !Region.binds .any e || decide (e.on < i)).getD true)
theorem good_of {ops : Array Oper} {a0 : Act} (h : goodB ops.toList a0.tmps.size = true) : Good ops a0 ∧ ∀ (i : Nat) o, ops[i]? = some o → ∀ e ∈ o.after, Region.binds .any e = true → e.on < i := by
  unfold goodB at h
  rw [Bool.and_eq_true, Bool.and_eq_true] at h
  obtain ⟨⟨h1, h2⟩, h3⟩ := h
  refine ⟨⟨fun i j oi oj t hi hj hti htj => ?_, fun i oi t hi ht => ?_⟩, fun i o hi e he hb => ?_⟩
  · have li : i < ops.toList.length := by have := (Array.getElem?_eq_some_iff.1 hi).1; simpa using this
    have lj : j < ops.toList.length := by have := (Array.getElem?_eq_some_iff.1 hj).1; simpa using this
    have := List.all_eq_true.1 (List.all_eq_true.1 h2 i (List.mem_range.2 li)) j (List.mem_range.2 lj)
    have ei : ops.toList[i]? = some oi := by simpa using hi
    have ej : ops.toList[j]? = some oj := by simpa using hj
    rw [ei, ej] at this
    simpa [hti, htj] using this
  · have := List.all_eq_true.1 h1 t (List.mem_filterMap.2 ⟨oi, by have := Array.mem_of_getElem? hi; simpa using this, ht⟩)
    simpa using this
  have li : i < ops.toList.length := by have := (Array.getElem?_eq_some_iff.1 hi).1; simpa using this
  have h4 := List.all_eq_true.1 h3 i (List.mem_range.2 li)
  have ei : ops.toList[i]? = some o := by simpa using hi
  rw [ei] at h4
  simp only [Option.map_some, Option.getD_some] at h4
  have := List.all_eq_true.1 h4 e (by simpa using he)
  simpa [hb] using this
theorem wp_region_inv {P : Program} {id : Nat} {ops : Array Oper} {Q : Exit → Act → World → Prop} {a0 : Act} {w : World} (J : (Nat → Bool) → (Nat → Value) → World → Prop) (n : Nat) (hm : P.follows .mixedOrders = true) (hn : a0.tmps.size = n) (hg : goodB ops.toList n = true)
    (h0 : J (fun _ => false) (fun _ => undef) w.drew) (hop : goodB ops.toList n = true → a0.tmps.size = n → OwesAll (Owes P ops Q a0 J) 0 ops.toList) (hfin : ∀ L vs w', (∀ i, i < ops.size → L i = true) → J L vs w' → Q .normal (putL ops.toList vs 0 a0) w') :
    (Code.region id ops true).wp P Q a0 w := by
  subst hn
  obtain ⟨g1, g2⟩ := good_of hg
  refine wp_region_any hm (wpAny_inv g1 g2 (fun i o hi => ?_) (fun L vs a w' hL hF hJ => ?_) ops.size _ (fun _ => false) (fun _ => undef) a0 _ (by simp) (fun i hi => by simp [hi]) ?_ (Fr.start _ _ _) h0)
  · have := (hop hg rfl).at i o (by simpa using hi)
    rw [Nat.zero_add] at this
    exact this
  · rw [hF.all g1 hL]
    exact hfin L vs w' hL hJ
  unfold left
  rw [List.filter_eq_self.2 (by simp)]
  simp
structure Stab (R : World → Value → Prop) : Prop where
  mono : ∀ {w w' : World} {v : Value}, R w v → Below w.heap.size w w' → R w' v
  set : ∀ {w : World} {v : Value} {p : Addr}, R w v → (∀ k q, w.cell? p ≠ some (.int k q)) → ∀ u, R (w.setCell p u) v
def Spec : Type := { R : World → Value → Prop // Stab R }
def sAny : Spec := ⟨fun _ _ => True, ⟨fun _ _ => trivial, fun _ _ _ => trivial⟩⟩
def sEq (u : Value) : Spec := ⟨fun _ v => v = u, ⟨fun h _ => h, fun h _ _ => h⟩⟩
def sNat (x : Nat) : Spec := ⟨fun w v => IsNat w v x, ⟨fun h hb => h.mono hb, fun h hp u => h.setCell hp u⟩⟩
def BoxIs (w0 : World) (L : Nat → Bool) (vs : Nat → Value) (w : World) (b : Nat × Nat × Nat) : Prop :=
  ∃ bk, vs b.1 = .pointer (some ⟨bk, 0, none⟩) ∧ w0.heap.size ≤ bk ∧ bk < w.heap.size ∧ w.frozen? ⟨bk, 0, none⟩ = false ∧ (L b.2.1 = false → w.cell? ⟨bk, 0, none⟩ = some (.slice none 0 0)) ∧ (L b.2.1 = true → L b.2.2 = true ∧ ∃ u, vs b.2.2 = .agg #[u] ∧ w.cell? ⟨bk, 0, none⟩ = some u)
structure JB (w0 : World) (specs : List Spec) (bxs : List (Nat × Nat × Nat)) (L : Nat → Bool) (vs : Nat → Value) (w : World) : Prop where
  bel : Below w0.heap.size w0 w
  sp : ∀ i, L i = true → (specs.getD i sAny).1 w (vs i)
  bx : ∀ b ∈ bxs, L b.1 = true → BoxIs w0 L vs w b
  dj : ∀ b ∈ bxs, ∀ b' ∈ bxs, L b.1 = true → L b'.1 = true → b.1 ≠ b'.1 → vs b.1 ≠ vs b'.1
  cl : ∀ b ∈ bxs, L b.2.1 = true → L b.1 = true
theorem JB.start (w : World) (specs : List Spec) (bxs : List (Nat × Nat × Nat)) : JB w specs bxs (fun _ => false) (fun _ => undef) w.drew :=
  ⟨bel_dr (Below.refl _ _), (fun _ h => by cases h), (fun _ _ h => by cases h), (fun _ _ _ _ h => by cases h), (fun _ _ h => by cases h)⟩
def freeB (bxs : List (Nat × Nat × Nat)) (i : Nat) : Bool := bxs.all fun b => b.1 != i && b.2.1 != i
theorem JB.step {w0 : World} {specs : List Spec} {bxs : List (Nat × Nat × Nat)} {L : Nat → Bool} {vs : Nat → Value} {w w' : World} (h : JB w0 specs bxs L vs w) {i : Nat} (hL : L i = false) (hf : freeB bxs i = true) (hb : Below w.heap.size w w') {v : Value} (hs : (specs.getD i sAny).1 w' v) : JB w0 specs bxs (updB L i) (updV vs i v) w' := by
  have hne : ∀ b ∈ bxs, b.1 ≠ i ∧ b.2.1 ≠ i := fun b hb' => by
    have := List.all_eq_true.1 hf b hb'
    simpa using this
  have oldV : ∀ j, L j = true → updV vs i v j = vs j := fun j hj => by
    have : j ≠ i := fun e => by rw [e, hL] at hj; cases hj
    simp [updV, this]
  refine ⟨bel_go h.bel hb, fun j hj => ?_, fun b hbm hLb => ?_, fun b hbm b' hbm' h1 h2 h3 => ?_, fun b hbm hs' => ?_⟩
  · by_cases e : j = i
    · subst e
      simpa [updV] using hs
    have hj' : L j = true := by simpa [updB, e] using hj
    rw [oldV j hj']
    exact (specs.getD j sAny).2.mono (h.sp j hj') hb
  · obtain ⟨n1, n2⟩ := hne b hbm
    have hLb' : L b.1 = true := by simpa [updB, n1] using hLb
    obtain ⟨bk, e1, e2, e3, e4, e5, e6⟩ := h.bx b hbm hLb'
    have hcell : w'.cell? ⟨bk, 0, none⟩ = w.cell? ⟨bk, 0, none⟩ := hb.cell (p := ⟨bk, 0, none⟩) e3
    refine ⟨bk, by rw [oldV _ hLb']; exact e1, e2, Nat.lt_of_lt_of_le e3 hb.size, (hb.frozen (p := ⟨bk, 0, none⟩) e3).trans e4, fun hs' => ?_, fun hs' => ?_⟩
    · rw [hcell]
      exact e5 (by simpa [updB, n2] using hs')
    obtain ⟨q1, u, q2, q3⟩ := e6 (by simpa [updB, n2] using hs')
    refine ⟨by unfold updB; split <;> simp_all, u, ?_, by rw [hcell]; exact q3⟩
    rw [oldV _ q1]
    exact q2
  · have m1 : L b.1 = true := by simpa [updB, (hne b hbm).1] using h1
    have m2 : L b'.1 = true := by simpa [updB, (hne b' hbm').1] using h2
    rw [oldV _ m1, oldV _ m2]
    exact h.dj b hbm b' hbm' m1 m2 h3
  have := h.cl b hbm (by simpa [updB, (hne b hbm).2] using hs')
  unfold updB; split <;> simp_all
theorem JB.alloc {w0 : World} {specs : List Spec} {bxs : List (Nat × Nat × Nat)} {L : Nat → Bool} {vs : Nat → Value} {w : World} (h : JB w0 specs bxs L vs w) {i : Nat} (hL : L i = false) (hns : bxs.all (fun b => b.2.1 != i) = true) (hsp : specs.getD i sAny = sAny) (t : TypeId) :
    JB w0 specs bxs (updB L i) (updV vs i (.pointer (some ⟨w.heap.size, 0, none⟩))) (w.alloc (.cells #[.slice none 0 0] t)) := by
  have hb : Below w.heap.size w (w.alloc (.cells #[.slice none 0 0] t)) := (Below.refl _ _).alloc (Nat.le_refl _) _
  have hst : ∀ b ∈ bxs, b.1 = i → L b.2.1 = false := fun b hbm e => by
    cases hs' : L b.2.1
    · rfl
    have := h.cl b hbm hs'
    rw [e, hL] at this
    cases this
  have ns : ∀ b ∈ bxs, b.2.1 ≠ i := fun b hb' => by
    have := List.all_eq_true.1 hns b hb'
    simpa using this
  have oldV : ∀ j, L j = true → updV vs i (.pointer (some ⟨w.heap.size, 0, none⟩)) j = vs j := fun j hj => by
    have : j ≠ i := fun e => by rw [e, hL] at hj; cases hj
    simp [updV, this]
  have hnew : ∀ b ∈ bxs, L b.1 = true → vs b.1 ≠ .pointer (some ⟨w.heap.size, 0, none⟩) := fun b hbm hLb e => by
    obtain ⟨bk, e1, _, e3, _⟩ := h.bx b hbm hLb
    rw [e1] at e
    cases e
    omega
  refine ⟨bel_go h.bel hb, fun j hj => ?_, fun b hbm hLb => ?_, fun b hbm b' hbm' h1 h2 h3 => ?_, fun b hbm hs' => ?_⟩
  · by_cases e : j = i
    · subst e
      rw [hsp]
      trivial
    have hj' : L j = true := by simpa [updB, e] using hj
    rw [oldV j hj']
    exact (specs.getD j sAny).2.mono (h.sp j hj') hb
  · by_cases e : b.1 = i
    · refine ⟨w.heap.size, by rw [e]; simp [updV], h.bel.size, by simp, by simp [go_sem], fun _ => by simp [go_sem], fun hs' => ?_⟩
      have := hst b hbm e
      have n2 := ns b hbm
      simp [updB, n2, this] at hs'
    have hLb' : L b.1 = true := by simpa [updB, e] using hLb
    obtain ⟨bk, e1, e2, e3, e4, e5, e6⟩ := h.bx b hbm hLb'
    have hcell : (w.alloc (.cells #[.slice none 0 0] t)).cell? ⟨bk, 0, none⟩ = w.cell? ⟨bk, 0, none⟩ := hb.cell (p := ⟨bk, 0, none⟩) e3
    have n2 := ns b hbm
    refine ⟨bk, by rw [oldV _ hLb']; exact e1, e2, Nat.lt_of_lt_of_le e3 hb.size, (hb.frozen (p := ⟨bk, 0, none⟩) e3).trans e4, fun hs' => ?_, fun hs' => ?_⟩
    · rw [hcell]
      exact e5 (by simpa [updB, n2] using hs')
    obtain ⟨q1, u, q2, q3⟩ := e6 (by simpa [updB, n2] using hs')
    refine ⟨by unfold updB; split <;> simp_all, u, ?_, by rw [hcell]; exact q3⟩
    rw [oldV _ q1]
    exact q2
  · by_cases e : b.1 = i
    · have e' : b'.1 ≠ i := fun e2 => h3 (e.trans e2.symm)
      have m2 : L b'.1 = true := by simpa [updB, e'] using h2
      rw [oldV _ m2, e]
      simp only [updV, if_true]
      exact fun e3 => hnew b' hbm' m2 e3.symm
    have m1 : L b.1 = true := by simpa [updB, e] using h1
    by_cases e' : b'.1 = i
    · rw [oldV _ m1, e']
      simp only [updV, if_true]
      exact hnew b hbm m1
    have m2 : L b'.1 = true := by simpa [updB, e'] using h2
    rw [oldV _ m1, oldV _ m2]
    exact h.dj b hbm b' hbm' m1 m2 h3
  have := h.cl b hbm (by simpa [updB, ns b hbm] using hs')
  unfold updB; split <;> simp_all
theorem JB.store {w0 : World} {specs : List Spec} {bxs : List (Nat × Nat × Nat)} {L : Nat → Bool} {vs : Nat → Value} {w : World} (h : JB w0 specs bxs L vs w) {b : Nat × Nat × Nat} (hbm : b ∈ bxs) (hL : L b.2.1 = false) (hA : L b.1 = true) (hV : L b.2.2 = true) (hone : ∀ b' ∈ bxs, b'.1 ≠ b.2.1 ∧ (b'.2.1 = b.2.1 → b' = b) ∧ (b'.1 = b.1 → b' = b)) (hsp : specs.getD b.2.1 sAny = sAny) {bk : Nat} {u : Value} (hp : vs b.1 = .pointer (some ⟨bk, 0, none⟩)) (hu : vs b.2.2 = .agg #[u]) :
    JB w0 specs bxs (updB L b.2.1) (updV vs b.2.1 undef) (w.setCell ⟨bk, 0, none⟩ u) := by
  have oldV : ∀ j, L j = true → updV vs b.2.1 undef j = vs j := fun j hj => by
    have : j ≠ b.2.1 := fun e => by rw [e, hL] at hj; cases hj
    simp [updV, this]
  obtain ⟨bk', e1, e2, e3, e4, e5, e6⟩ := h.bx b hbm hA
  obtain rfl : bk' = bk := by rw [e1] at hp; cases hp; rfl
  have hc0 := e5 hL
  have hno : ∀ k q, w.cell? ⟨bk', 0, none⟩ ≠ some (.int k q) := no_int_slice hc0
  refine ⟨h.bel.setCell (p := ⟨bk', 0, none⟩) e2 u, fun j hj => ?_, fun b' hbm' hLb => ?_, fun b1 hm1 b2 hm2 h1 h2 h3 => ?_, fun b1 hm1 hs' => ?_⟩
  · by_cases e : j = b.2.1
    · subst e
      rw [hsp]
      trivial
    have hj' : L j = true := by simpa [updB, e] using hj
    rw [oldV j hj']
    exact (specs.getD j sAny).2.set (h.sp j hj') hno u
  · obtain ⟨n1, n2, n3⟩ := hone b' hbm'
    have hLb' : L b'.1 = true := by simpa [updB, n1] using hLb
    by_cases e : b' = b
    · subst e
      refine ⟨bk', by rw [oldV _ hA]; exact e1, e2, by simpa [World.setCell] using e3, by simp [World.frozen?_setCell, e4], fun hs' => ?_, fun _ => ⟨?_, u, ?_, ?_⟩⟩
      · simp [updB] at hs'
      · unfold updB; split <;> simp_all
      · rw [oldV _ hV]; exact hu
      simp [go_sem, hc0]
    obtain ⟨bk2, q1, q2, q3, q4, q5, q6⟩ := h.bx b' hbm' hLb'
    have hne : bk2 ≠ bk' := fun e7 => h.dj b' hbm' b hbm hLb' hA (fun e8 => e (n3 e8)) (by rw [q1, e1, e7])
    have hcell : (w.setCell ⟨bk', 0, none⟩ u).cell? ⟨bk2, 0, none⟩ = w.cell? ⟨bk2, 0, none⟩ := World.cell?_setCell_far _ _ _ _ (by simpa using Ne.symm hne)
    refine ⟨bk2, by rw [oldV _ hLb']; exact q1, q2, by simpa [World.setCell] using q3, by simp [World.frozen?_setCell, q4], fun hs' => ?_, fun hs' => ?_⟩
    · rw [hcell]
      exact q5 (by
        have : b'.2.1 ≠ b.2.1 := fun e9 => e (n2 e9)
        simpa [updB, this] using hs')
    have n4 : b'.2.1 ≠ b.2.1 := fun e9 => e (n2 e9)
    obtain ⟨r1, u2, r2, r3⟩ := q6 (by simpa [updB, n4] using hs')
    refine ⟨by unfold updB; split <;> simp_all, u2, ?_, by rw [hcell]; exact r3⟩
    rw [oldV _ r1]
    exact r2
  · have m1 : L b1.1 = true := by simpa [updB, (hone b1 hm1).1] using h1
    have m2 : L b2.1 = true := by simpa [updB, (hone b2 hm2).1] using h2
    rw [oldV _ m1, oldV _ m2]
    exact h.dj b1 hm1 b2 hm2 m1 m2 h3
  have m1 : L b1.1 = true := by
    by_cases e : b1.2.1 = b.2.1
    · rw [(hone b1 hm1).2.1 e]
      exact hA
    exact h.cl b1 hm1 (by simpa [updB, e] using hs')
  simp [updB, (hone b1 hm1).1, m1]
theorem run_val {P : Program} {ops : Array Oper} {Q : Exit → Act → World → Prop} {K : Act → World → Prop} {o : Oper} {a : Act} {w w' : World} {X : Prop} {v : Value} (hw : Region.wanted o (yielded ops a.tmps) = true) (hr : (execOp a.eval o).run P w = .ok (.value v) w') (h : K (a.put o.dst v) w') : if Region.wanted o (yielded ops a.tmps) then o.wp P a w K Q else X := by
  rw [if_pos hw]
  unfold Oper.wp
  rw [hr]
  exact h
theorem run_unit {P : Program} {ops : Array Oper} {Q : Exit → Act → World → Prop} {K : Act → World → Prop} {o : Oper} {a : Act} {w w' : World} {X : Prop} (hw : Region.wanted o (yielded ops a.tmps) = true) (hr : (execOp a.eval o).run P w = .ok .skip w') (h : K (a.put o.dst undef) w') : if Region.wanted o (yielded ops a.tmps) then o.wp P a w K Q else X := by
  rw [if_pos hw]
  unfold Oper.wp
  rw [hr]
  exact h
theorem run_call {P : Program} {ops : Array Oper} {Q : Exit → Act → World → Prop} {K : Act → World → Prop} {o : Oper} {a : Act} {w : World} {X : Prop} {f : FuncId} {args : Array Value} {R : Ending → World → Prop} (hw : Region.wanted o (yielded ops a.tmps) = true) (hr : (execOp a.eval o).run P w = .ok (.enter f args) w) (hc : Calls P f args w R) (h : ∀ e w', R e w' → ∃ v, e = .returned v ∧ K (a.put o.dst v) w') : if Region.wanted o (yielded ops a.tmps) then o.wp P a w K Q else X := by
  rw [if_pos hw]
  unfold Oper.wp
  rw [hr]
  refine hc.mono fun e w'' he => ?_
  obtain ⟨v, rfl, hk⟩ := h e w'' he
  exact hk
theorem Fr.slot {ops : Array Oper} {a0 a : Act} {L : Nat → Bool} {vs : Nat → Value} (h : Fr ops a0 L vs a) (j t : Nat) (hd : (ops[j]?).bind (·.dst) = some t) (hL : L j = true) : (a.tmps[t]?).getD undef = vs j := by
  cases ho : ops[j]? with
  | none => rw [ho] at hd; cases hd
  | some o =>
    rw [ho] at hd
    have := h.inn j o t ho hL hd
    simpa using this
theorem Fr.old {ops : Array Oper} {a0 a : Act} {L : Nat → Bool} {vs : Nat → Value} (h : Fr ops a0 L vs a) (t : Nat) (hd : ops.toList.all (fun o => o.dst != some t) = true) : (a.tmps[t]?).getD undef = a0.eval (.tmp t) := by
  have e : (a.tmps[t]?).getD undef = a.tmps.getD t undef := by simp
  rw [e]
  refine h.out t fun j o ho _ e => ?_
  have := List.all_eq_true.1 hd o (by have := Array.mem_of_getElem? ho; simpa using this)
  rw [e] at this
  simp at this
theorem Fr.wants {ops : Array Oper} {a0 a : Act} {L : Nat → Bool} {vs : Nat → Value} (h : Fr ops a0 L vs a) (n : Nat) (hn : a0.tmps.size = n) (hg : goodB ops.toList n = true) (o : Oper) (g : Nat) (b c : Bool) (ho : o.guard = some (g, b)) (hd : ((ops[g]?).bind (·.dst)).isSome = true) (hL : L g = true) (hv : vs g = .bool c) : Region.wanted o (yielded ops a.tmps) = (c == b) := by
  subst hn
  cases hg' : ops[g]? with
  | none => rw [hg'] at hd; cases hd
  | some og =>
    rw [hg'] at hd
    cases hdst : og.dst with
    | none => rw [show (some og).bind (·.dst) = og.dst from rfl, hdst] at hd; cases hd
    | some t =>
      have h1 := h.inn g og t hg' hL hdst
      have h2 := (good_of hg).1.lt g og t hg' hdst
      have h3 : t < a.tmps.size := by rw [h.size]; exact h2
      have h4 : a.tmps[t]? = some (.bool c) := by
        rw [Array.getElem?_eq_getElem h3]
        have : a.tmps.getD t undef = a.tmps[t] := by simp [h3]
        rw [← this, h1, hv]
      unfold Region.wanted
      rw [ho]
      simp only [yielded, hg', Option.bind_some, hdst, h4]
      cases b <;> cases c <;> rfl
def B (n : Nat) : Nat := 4294967296 ^ n
theorem B_zero : B 0 = 1 := rfl
theorem B_succ (n : Nat) : B (n + 1) = B n * 4294967296 := Nat.pow_succ ..
theorem B_one : B 1 = 4294967296 := by rw [B_succ, B_zero, Nat.one_mul]
theorem B_add (a b : Nat) : B (a + b) = B a * B b := Nat.pow_add ..
theorem B_pos (n : Nat) : 0 < B n := Nat.pow_pos (by decide)
theorem B_le {a b : Nat} (h : a ≤ b) : B a ≤ B b := Nat.pow_le_pow_right (by decide) h
theorem B_two (n : Nat) : B n = 2 ^ (32 * n) := by rw [B, Nat.pow_mul]
def U (F : Nat → Nat) : Nat → Nat
  | 0 => 0
  | n + 1 => U F n + F n * B n
theorem U_zero (F : Nat → Nat) : U F 0 = 0 := rfl
theorem U_succ (F : Nat → Nat) (n : Nat) : U F (n + 1) = U F n + F n * B n := rfl
theorem U_congr {F G : Nat → Nat} : ∀ {n : Nat}, (∀ i, i < n → F i = G i) → U F n = U G n
  | 0, _ => rfl
  | n + 1, h => by rw [U_succ, U_succ, U_congr fun i hi => h i (by omega), h n (by omega)]
def Dg (F : Nat → Nat) (n : Nat) : Prop := ∀ i, i < n → F i < 4294967296
theorem Dg.mono {F : Nat → Nat} {m n : Nat} (h : Dg F n) (hm : m ≤ n) : Dg F m := fun i hi => h i (by omega)
theorem U_lt {F : Nat → Nat} : ∀ {n : Nat}, Dg F n → U F n < B n
  | 0, _ => by rw [U_zero, B_zero]; omega
  | n + 1, h => by
    have h1 := U_lt (h.mono (Nat.le_succ n))
    have h2 := h n (by omega)
    have h3 : (F n + 1) * B n ≤ 4294967296 * B n := Nat.mul_le_mul_right _ (by omega)
    rw [U_succ, B_succ, Nat.mul_comm (B n)]
    rw [Nat.add_mul] at h3
    omega
theorem U_split (F : Nat → Nat) (m : Nat) : ∀ n, U F (m + n) = U F m + B m * U (fun i => F (m + i)) n
  | 0 => by simp [U_zero]
  | n + 1 => by
    rw [← Nat.add_assoc, U_succ, U_split F m n, U_succ, B_add, Nat.mul_add, Nat.add_assoc, Nat.mul_left_comm]
theorem U_zeros {F : Nat → Nat} {n : Nat} (h : ∀ i, i < n → F i = 0) : U F n = 0 := by
  induction n with
  | zero => rfl
  | succ n ih => rw [U_succ, ih fun i hi => h i (by omega), h n (by omega), Nat.zero_mul]
theorem U_top {F : Nat → Nat} {m n : Nat} (hm : m ≤ n) (h : ∀ i, m ≤ i → i < n → F i = 0) : U F n = U F m := by
  obtain ⟨k, rfl⟩ : ∃ k, n = m + k := ⟨n - m, by omega⟩
  rw [U_split, U_zeros fun i hi => h (m + i) (by omega) (by omega), Nat.mul_zero, Nat.add_zero]
theorem U_ge (F : Nat → Nat) (n : Nat) (h : 0 < n) : F (n - 1) * B (n - 1) ≤ U F n := by
  obtain ⟨m, rfl⟩ : ∃ m, n = m + 1 := ⟨n - 1, by omega⟩
  rw [U_succ, Nat.add_sub_cancel]
  omega
def RNat (w : World) (v : Value) (x : Nat) : Prop :=
  ∃ a n cap F, v = .agg #[.slice a n cap] ∧ Sl w a n cap F ∧ Dg F n ∧ (0 < n → F (n - 1) ≠ 0) ∧ U F n = x
theorem RNat.mono {w w' : World} {v : Value} {x : Nat} (h : RNat w v x) (hb : Below w.heap.size w w') : RNat w' v x := by
  obtain ⟨a, n, cap, F, e, hs, hd, h1, hv⟩ := h
  exact ⟨a, n, cap, F, e, hs.mono hb, hd, h1, hv⟩
theorem RNat.setCell {w : World} {v : Value} {x : Nat} (h : RNat w v x) {p : Addr} (hp : ∀ k q, w.cell? p ≠ some (.int k q)) (u : Value) : RNat (w.setCell p u) v x := by
  obtain ⟨a, n, cap, F, e, hs, hd, h1, hv⟩ := h
  exact ⟨a, n, cap, F, e, hs.setCell hp u, hd, h1, hv⟩
theorem RNat.isAgg {w : World} {v : Value} {x : Nat} (h : RNat w v x) : ∃ a n cap, v = .agg #[.slice a n cap] := by
  obtain ⟨a, n, cap, F, e, _⟩ := h
  exact ⟨a, n, cap, e⟩
theorem RNat.open {w : World} {a : Option Addr} {n cap : Nat} {x : Nat} (h : RNat w (.agg #[.slice a n cap]) x) : ∃ F, Sl w a n cap F ∧ Dg F n ∧ (0 < n → F (n - 1) ≠ 0) ∧ U F n = x := by
  obtain ⟨a', n', cap', F, e, h2⟩ := h
  cases e
  exact ⟨F, h2⟩
theorem rnat_zero (w : World) : RNat w (.agg #[.slice none 0 0]) 0 :=
  ⟨none, 0, 0, fun _ => 0, rfl, ⟨Nat.le_refl _, by omega, fun i hi => absurd hi (by omega), .inl rfl⟩, fun i hi => absurd hi (by omega), fun h => absurd h (by omega), rfl⟩
theorem U_long {F : Nat → Nat} {n m : Nat} (hm : m < n) (h1 : F (n - 1) ≠ 0) : B m ≤ U F n := by
  have h2 : B m ≤ B (n - 1) := B_le (by omega)
  have h3 := U_ge F n (by omega)
  have h4 : 1 * B (n - 1) ≤ F (n - 1) * B (n - 1) := Nat.mul_le_mul_right _ (by omega)
  omega
theorem U_len_le {F : Nat → Nat} {n m : Nat} (h : U F n < B m) (h1 : 0 < n → F (n - 1) ≠ 0) : n ≤ m := by
  rcases Nat.lt_or_ge m n with h' | h'
  · exact absurd h (Nat.not_lt.2 (U_long h' (h1 (by omega))))
  exact h'
structure RFits (x : Nat) : Prop where
  lt : x < B lim
theorem rfits_len {F : Nat → Nat} {n : Nat} (h : RFits (U F n)) (h1 : 0 < n → F (n - 1) ≠ 0) : n ≤ 4294967296 := le_lim (U_len_le h.lt h1)
theorem rfits_of {x n : Nat} (h : x < B n) (hn : n ≤ 4294967296) : RFits x := ⟨Nat.lt_of_lt_of_le h (B_le (show n ≤ lim from hn))⟩
def RMakes (w : World) (x : Nat) (e : Ending) (w' : World) : Prop := ∃ v, e = .returned v ∧ RNat w' v x ∧ Below w.heap.size w w'
theorem rnat_len0 {w : World} {a : Option Addr} {n cap x : Nat} (h : RNat w (.agg #[.slice a n cap]) x) : n = 0 ↔ x = 0 := by
  obtain ⟨F, hs, hd, h1, hv⟩ := h.open
  constructor
  · intro e
    subst e
    exact hv.symm
  intro e
  rcases Nat.eq_zero_or_pos n with h0 | h0
  · exact h0
  have h3 := U_ge F n h0
  have h4 : 1 * B (n - 1) ≤ F (n - 1) * B (n - 1) := Nat.mul_le_mul_right _ (by have := h1 h0; omega)
  have := B_pos (n - 1)
  omega
set_option maxHeartbeats 1000000 in
theorem rtrimmed_any (a : Option Addr) (n cap : Nat) (F : Nat → Nat) (w : World) (h : Sl w a n cap F) (hd : Dg F n) (hn : n ≤ 1099511627776) (h0 : n = 0 → a = none ∧ cap = 0) :
    Calls Tryz.prog 90 #[.slice a n cap] w (RMakes w (U F n)) := by
  have HD : Hid (Dg F n ∧ (n = 0 → a = none ∧ cap = 0)) := ⟨hd, h0⟩
  clear hd h0
  go_enter Tryz.func90, Tryz.ntmps90
  go_wp2_with fail
  go_loop [3] (fun t => ∃ k : Nat, k ≤ n ∧ t = .int .i64 k ∧ Hid (∀ i, k ≤ i → i < n → F i = 0)) (fun t => (intOf t).toNat)
  case atStart => exact ⟨n, Nat.le_refl _, rfl, fun i h1 h2 => absurd h1 (by omega)⟩
  case round =>
    obtain ⟨k, hk, rfl, hz⟩ := hrel
    have HH : Hid (Sl w a n cap F) := h
    clear h
    by_cases h0 : k = 0
    · subst h0
      by_cases hn0 : n = 0
      · subst hn0
        obtain ⟨rfl, rfl⟩ := HD.out.2 rfl
        go_wp2_with fail
        refine bodyPost_ret (v := .agg #[.slice none 0 0]) (by simp [results, Tryz.results90, go_sem]) rfl ⟨_, rfl, rnat_zero _, ?_⟩
        exact (Below.refl _ _).alloc (Nat.le_refl _) _
      obtain ⟨b, o, rfl, hw⟩ := HH.out.at 0 (by omega)
      have hcap : (0 : Int) ≤ cap := by omega
      have hcz : ¬ cap = 0 := by have := HH.out.1; omega
      clear hw
      go_wp2_with fail
      refine bodyPost_ret (v := .agg #[.slice (some ⟨b, o, none⟩) 0 cap]) (by simp [results, Tryz.results90, go_sem]) rfl ⟨_, rfl, ⟨_, 0, cap, F, rfl, ⟨Nat.zero_le _, HH.out.2.1, fun i hi => absurd hi (by omega), .inl rfl⟩, fun i hi => absurd hi (by omega), fun e => absurd e (by omega), ?_⟩, ?_⟩
      · rw [U_zero, U_zeros fun i hi => hz.out i (Nat.zero_le _) hi]
      exact (Below.refl _ _).alloc (Nat.le_refl _) _
    obtain ⟨b, o, rfl, hw⟩ := HH.out.at (k - 1) (by omega)
    have hc : (w.alloc (.cells #[.slice none 0 0] 51)).cell? ⟨b, o + (k - 1), none⟩ = some (.int .u64 (F (k - 1) : Nat)) := cell_later ((Below.refl _ _).alloc (Nat.le_refl _) _) (hw (k - 1) (by omega))
    have h0' : (0 : Int) < k := by omega
    clear hw
    by_cases hf : F (k - 1) = 0
    · rw [hf] at hc
      go_wp2_with fail
      go_round
      case rel =>
        refine ⟨k - 1, by omega, by go_num, fun i h1 h2 => ?_⟩
        by_cases e : i = k - 1
        · rw [e, hf]
        exact hz.out i (by omega) h2
      case measure => simp [intOf]; omega
    have hne : (((F (k - 1) : Nat) : Int) == 0) = false := by simp; omega
    have hk0 : ((k : Int) == 0) = false := by simp; omega
    have hcap : (k : Int) ≤ cap := by have := HH.out.1; omega
    go_wp2_with fail
    have rn : RNat w (.agg #[.slice (some ⟨b, o, none⟩) k cap]) (U F n) := by
      obtain ⟨s1, s2, s3, s4⟩ := HH.out
      obtain ⟨b2, o2, e2, hw2⟩ : ∃ b2 o2, some (⟨b, o, none⟩ : Addr) = some ⟨b2, o2, none⟩ ∧ Words w b2 o2 n F := s4.resolve_left (by omega)
      exact ⟨_, k, cap, F, rfl, ⟨by omega, s2, s3.mono hk, .inr ⟨b2, o2, e2, fun i hi => hw2 i (by omega)⟩⟩, HD.out.1.mono hk, fun _ => hf, (U_top hk hz.out).symm⟩
    refine bodyPost_ret (v := .agg #[.slice (some ⟨b, o, none⟩) k cap]) (by simp [results, Tryz.results90, go_sem]) rfl ⟨_, rfl, rn.mono ((Below.refl _ _).alloc (Nat.le_refl _) _), (Below.refl _ _).alloc (Nat.le_refl _) _⟩
set_option maxHeartbeats 1000000 in
theorem rdigit_any (a : Option Addr) (n cap : Nat) (F : Nat → Nat) (i : Nat) (w : World) (h : Sl w a n cap F) (hi : i ≤ 4611686018427387904) :
    Calls Tryz.prog 92 #[.slice a n cap, .int .i64 (i : Int)] w fun e w' => e = .returned (.int .u64 ((cutU F n 0 i : Nat) : Int)) ∧ w' = w := by
  have hc0 : (n : Int) ≤ 9223372036854775807 := by have := h.1; have := h.2.1; omega
  have hneg : decide ((i : Int) < 0) = false := decide_eq_false (by omega)
  by_cases hin : i < n
  · obtain ⟨b, o, rfl, hw⟩ := h.at i hin
    have hc := hw i hin
    have hd : decide (n ≤ i) = false := decide_eq_false (by omega)
    have HC : Hid (cutU F n 0 i = F i) := by show _ = _; rw [cutU_in (by omega), Nat.zero_add]
    clear hw h
    go_enter Tryz.func92, Tryz.ntmps92
    go_wp2_with fail
    go_ret
    exact ⟨ret_int (by rw [HC.out]), rfl⟩
  have hd : decide (n ≤ i) = true := decide_eq_true (by omega)
  have HC : Hid (cutU F n 0 i = 0) := cutU_out (by omega)
  clear h
  go_enter Tryz.func92, Tryz.ntmps92
  go_wp2_with fail
  go_ret
  exact ⟨ret_int (by rw [HC.out]; rfl), rfl⟩
set_option maxHeartbeats 1000000 in
theorem rzero_any (v : Value) (x : Nat) (w : World) (h : RNat w v x) (hx : RFits x) :
    Calls Tryz.prog 73 #[v] w fun e w' => e = .returned (.bool (decide (x = 0))) ∧ Below w.heap.size w w' := by
  obtain ⟨a, n, cap, rfl⟩ := h.isAgg
  have hz := rnat_len0 h
  have hl : n ≤ 4294967296 := by
    obtain ⟨F, hs, hd, h1, hv⟩ := h.open
    exact rfits_len (hv.symm ▸ hx) h1
  by_cases hn : n = 0
  · have HX : Hid (decide (x = 0) = true) := decide_eq_true (hz.1 hn)
    subst hn
    clear hz h hx
    go_enter Tryz.func73, Tryz.ntmps73
    go_wp2_with fail
    go_ret
    exact ⟨by rw [HX.out]; rfl, (Below.refl _ _).alloc (Nat.le_refl _) _⟩
  have HX : Hid (decide (x = 0) = false) := decide_eq_false fun e => hn (hz.2 e)
  have hb : ((n : Int) == 0) = false := by simp; omega
  clear hz h hx
  go_enter Tryz.func73, Tryz.ntmps73
  go_wp2_with fail
  go_ret
  exact ⟨by rw [HX.out]; rfl, (Below.refl _ _).alloc (Nat.le_refl _) _⟩
def two (x y : Nat) (i : Nat) : Nat := if i = 0 then x else y
theorem sl_two (w : World) (x y g : Nat) (zx zy : Int) (ex : zx = (x : Int)) (ey : zy = (y : Int)) (hx : x < 18446744073709551616) (hy : y < 18446744073709551616) (hg : g = w.heap.size) (t : TypeId) : Sl (w.alloc (.cells #[.int .u64 zx, .int .u64 zy] t)) (some ⟨g, 0, none⟩) 2 2 (two x y) := by
  subst ex ey hg
  refine ⟨Nat.le_refl _, by omega, fun i hi => by unfold two; split <;> assumption, .inr ⟨_, 0, rfl, fun i hi => ?_⟩⟩
  rcases i with _ | _ | i
  · simp [two]
  · simp [two]
  omega
set_option maxHeartbeats 1000000 in
theorem rof_any (n : Nat) (w : World) (hn : n < 18446744073709551616) : Calls Tryz.prog 56 #[.int .u64 (n : Int)] w (RMakes w n) := by
  have hz : ((4294967296 : Int) == 0) = false := by decide
  go_enter Tryz.func56, Tryz.ntmps56
  go_wp2_with fail
  refine (rtrimmed_any _ 2 2 (two (n % 4294967296) (n / 4294967296)) _ (sl_two _ _ _ _ _ _ (by simp) (by simp) (by omega) (by omega) (by simp) _) (fun i hi => by unfold two; split <;> omega) (by omega) (fun e => by omega)).mono ?_
  rintro e w1 ⟨v, rfl, hv, hb⟩
  have hc : w1.cell? ⟨w.heap.size, 0, none⟩ = some (.slice none 0 0) := cell_later hb (by simp [go_sem])
  have hf : w1.frozen? ⟨w.heap.size, 0, none⟩ = false := (hb.frozen (by simp; omega)).trans (by simp [go_sem])
  have HBB : Hid (Below w.heap.size w w1) := (bel_alloc2 _ _ _).trans (hb.mono (by simp; omega))
  obtain ⟨a', n', cap', rfl⟩ := hv.isAgg
  have e2 : U (two (n % 4294967296) (n / 4294967296)) 2 = n := by
    rw [U_succ, U_succ, U_zero, B_zero, B_one]
    show 0 + n % 4294967296 * 1 + n / 4294967296 * 4294967296 = n
    omega
  rw [e2] at hv
  have HV : Hid _ := hv
  clear hb hv e2 hz
  go_wp2_with fail
  refine bodyPost_ret (v := .agg #[.slice a' n' cap']) (by simp [results, Tryz.results56, go_sem, hc]) rfl ⟨_, rfl, ?_, HBB.out.setCell (Nat.le_refl _) _⟩
  have hx : RNat w1 (.agg #[.slice a' n' cap']) n := HV.out
  exact hx.setCell (no_int_slice hc) _
theorem U_div {F : Nat → Nat} {n : Nat} (h : Dg F n) : U F (n + 1) / B n = F n := by
  rw [U_succ, Nat.add_mul_div_right _ _ (B_pos n), Nat.div_eq_of_lt (U_lt h), Nat.zero_add]
theorem bitLen_U {F : Nat → Nat} {n : Nat} (h : Dg F (n + 1)) (h0 : F n ≠ 0) : bitLen (U F (n + 1)) = 32 * n + bitLen (F n) := by
  have h1 := U_div (h.mono (Nat.le_succ n))
  rw [B_two] at h1
  rw [bitLen_shift _ (32 * n) (by rw [h1]; exact h0), h1]
theorem bitLen_half {q : Nat} (h : q ≠ 0) : bitLen q = bitLen (q / 2) + 1 := by
  rcases Nat.lt_or_ge q 2 with h2 | h2
  · obtain rfl : q = 1 := by omega
    rfl
  have := bitLen_shift q 1 (by rw [Nat.pow_one]; omega)
  rw [Nat.pow_one] at this
  omega
set_option maxHeartbeats 1000000 in
theorem rlen_any (v : Value) (x : Nat) (w : World) (h : RNat w v x) (hx : RFits x) :
    Calls Tryz.prog 77 #[v] w fun e w' => e = .returned (.int .i64 ((bitLen x : Nat) : Int)) ∧ Below w.heap.size w w' := by
  obtain ⟨a, n, cap, rfl⟩ := h.isAgg
  obtain ⟨F, hs, hd, h1, hv⟩ := h.open
  have hl : n ≤ 4294967296 := rfits_len (hv.symm ▸ hx) h1
  by_cases hn : n = 0
  · have HX : Hid (bitLen x = 0) := by
      show _ = _
      rw [(rnat_len0 h).1 hn, bitLen_zero]
    subst hn
    clear hs hd h1 hv h hx
    go_enter Tryz.func77, Tryz.ntmps77
    go_wp2_with fail
    go_ret
    exact ⟨ret_int (by rw [HX.out]; rfl), (Below.refl _ _).alloc (Nat.le_refl _) _⟩
  obtain ⟨m, rfl⟩ : ∃ m, n = m + 1 := ⟨n - 1, by omega⟩
  have hF : F m ≠ 0 := by have := h1 (by omega); simpa using this
  have HX : Hid (bitLen x = 32 * m + bitLen (F m)) := by
    show _ = _
    rw [← hv, bitLen_U hd hF]
  obtain ⟨b, o, rfl, hw⟩ := hs.at m (by omega)
  have hc := hw m (by omega)
  have hlt : b < w.heap.size := World.block_lt_of_cell? _ _ hc
  have hFm : F m < 4294967296 := hd m (by omega)
  have hb64 := bitLen_le64 (F m) (by omega)
  have hm0 : (((m + 1 : Nat) : Int) == 0) = false := by simp; omega
  have hm1 : ((m : Int) + 1 == 0) = false := by simp; omega
  clear hs hd h1 hv h hx hw hn
  go_enter Tryz.func77, Tryz.ntmps77
  go_wp2_with fail
  go_loop [3, 4] (fun t q => ∃ (k z : Nat), t = .int .i64 ((32 * m + k : Nat) : Int) ∧ q = .int .u64 (z : Int) ∧ Hid (bitLen (F m) = k + bitLen z) ∧ k ≤ 64 ∧ z < 4294967296) (fun _ q => (intOf q).toNat)
  case atStart => exact ⟨0, F m, by go_num, rfl, (Nat.zero_add _).symm, by omega, hFm⟩
  case round =>
    obtain ⟨k, z, rfl, rfl, hk, hk64, hz⟩ := hrel
    by_cases h0 : z = 0
    · subst h0
      have HK : Hid (bitLen x = 32 * m + k) := by
        show _ = _
        rw [HX.out, hk.out, bitLen_zero, Nat.add_zero]
      go_wp2_with fail
      go_ret
      exact ⟨ret_int (by rw [HK.out]; omega), (Below.refl _ _).alloc (Nat.le_refl _) _⟩
    have hz0 : (0 : Int) < (z : Int) := by omega
    have hh := bitLen_half h0
    have hkb := hk.out
    have hk2 : k + 1 ≤ 64 := by omega
    have HK : Hid (bitLen (F m) = k + 1 + bitLen (z / 2)) := by
      show _ = _
      omega
    clear hh hkb
    go_wp2_with fail
    go_round
    case rel => exact ⟨k + 1, z / 2, by go_num, by go_num, HK.out, hk2, by omega⟩
    case measure => simp [intOf]; omega
theorem B_256 (n : Nat) : B n = 256 ^ (4 * n) := by
  unfold B
  rw [show (4294967296 : Nat) = 256 ^ 4 from rfl, ← Nat.pow_mul]
theorem digit_at {F : Nat → Nat} {n q : Nat} (h : Dg F n) (hq : q < n) : U F n / B q % 4294967296 = F q := by
  obtain ⟨t, rfl⟩ : ∃ t, n = q + (1 + t) := ⟨n - (q + 1), by omega⟩
  rw [U_split, Nat.add_mul_div_left _ _ (B_pos q), Nat.div_eq_of_lt (U_lt (h.mono (by omega))), Nat.zero_add, U_split, B_one, U_succ, U_zero, B_zero, Nat.zero_add, Nat.mul_one, Nat.add_zero, Nat.add_mul_mod_self_left]
  exact Nat.mod_eq_of_lt (h q hq)
theorem byte_of_digit {F : Nat → Nat} {n q r : Nat} (h : Dg F n) (hq : q < n) (hr : r < 4) : F q / 2 ^ (8 * r) % 256 = byteAt (U F n) (4 * q + r) := by
  rw [← digit_at h hq, Nat.mul_comm 8 r, ← pow256, byteAt, Nat.pow_add, ← B_256, ← Nat.div_div_eq_div_mul]
  generalize U F n / B q = y
  have e : (4294967296 : Nat) = 256 ^ r * 256 ^ (4 - r) := by rw [← Nat.pow_add, show r + (4 - r) = 4 by omega]
  rw [e, Nat.mod_mul_right_div_self]
  exact Nat.mod_mod_of_dvd _ ⟨256 ^ (3 - r), by rw [show 4 - r = (3 - r) + 1 by omega, Nat.pow_succ, Nat.mul_comm]⟩
set_option maxHeartbeats 1000000 in
theorem rbytes_any (v : Value) (x : Nat) (w : World) (h : RNat w v x) (hx : RFits x) :
    Calls Tryz.prog 75 #[v] w fun e w' => ∃ g, e = .returned (.slice (some ⟨g, 0, none⟩) (byteLen x) (byteLen x)) ∧ w.heap.size ≤ g ∧ BRow w' g (byteLen x) (fun i => byteAt x (byteLen x - 1 - i)) ∧ Below w.heap.size w w' := by
  obtain ⟨a, n, cap, rfl⟩ := h.isAgg
  obtain ⟨F, hs, hd, h1, hv⟩ := id h.open
  have hn : n ≤ 4294967296 := rfits_len (hv.symm ▸ hx) h1
  have hbl : bitLen x ≤ 32 * n := by
    by_cases e0 : n = 0
    · rw [(rnat_len0 h).1 e0, bitLen_zero]
      omega
    obtain ⟨t, rfl⟩ : ∃ t, n = t + 1 := ⟨n - 1, by omega⟩
    have h2 := bitLen_U hd (by have := h1 (by omega); simpa using this)
    rw [hv] at h2
    have h3 : bitLen (F t) ≤ 32 := by
      have h4 := hd t (by omega)
      have h5 := (bitLen_spec (F t)).2
      rcases Nat.eq_zero_or_pos (F t) with e | e
      · rw [e, bitLen_zero]; omega
      have h6 := h5 (by omega)
      have h7 : 2 ^ (bitLen (F t) - 1) < 2 ^ 32 := Nat.lt_of_le_of_lt h6 h4
      have := (Nat.pow_lt_pow_iff_right (show 1 < 2 by decide)).1 h7
      omega
    omega
  have HL : Hid (byteLen x = (bitLen x + 7) / 8) := rfl
  obtain ⟨L, hL⟩ : ∃ L, L = byteLen x := ⟨_, rfl⟩
  have hLn : L ≤ 4 * n := by rw [hL, HL.out]; omega
  have HLL : Hid (L = byteLen x) := hL
  have HH : Hid (Sl w a n cap F ∧ U F n = x ∧ RNat w (.agg #[.slice a n cap]) x ∧ Dg F n ∧ RFits x) := ⟨hs, hv, h, hd, hx⟩
  clear hs hd h1 hv h hx
  have mk := makeB_at ((((bitLen x : Nat) : Int) + 7) / 8) ((((bitLen x : Nat) : Int) + 7) / 8) L L (by rw [HLL.out, HL.out]; omega) (by rw [HLL.out, HL.out]; omega) (Nat.le_refl _) (by omega)
  have hLi : ((((bitLen x : Nat) : Int) + 7) / 8) = (L : Int) := by rw [HLL.out, HL.out]; omega
  rw [← hL]
  clear hL
  go_enter Tryz.func75, Tryz.ntmps75
  go_wp2_with fail
  refine (rlen_any _ x _ (HH.out.2.2.1.mono ((Below.refl _ _).alloc (Nat.le_refl _) _)) HH.out.2.2.2.2).mono ?_
  rintro e w1 ⟨rfl, hb1⟩
  have c1 : w1.cell? ⟨w.heap.size, 0, none⟩ = some (.slice a n cap) := cell_later hb1 (by simp [go_sem])
  have hsz : w.heap.size < w1.heap.size := World.block_lt_of_cell? _ _ c1
  have B1 : Hid (Below w.heap.size w w1) := bel_trans ((Below.refl _ _).alloc (Nat.le_refl _) _) hb1
  have mk2 := makeB_at (L : Int) (L : Int) L L rfl rfl (Nat.le_refl _) (by omega)
  clear hb1 mk
  go_wp2_with fail
  go_loopw [5] (fun t wr => ∃ (i : Nat) (E : Nat → Nat), i ≤ L ∧ t = .int .i64 (i : Int) ∧ Hid (BRow wr w1.heap.size L E ∧ (∀ j, j < i → E (L - 1 - j) = byteAt x j) ∧ (w1.alloc (.cells (zeroB L) 5)).grownBy wr (some w1.heap.size))) (fun t _ => L - (intOf t).toNat)
  case atStart => exact ⟨0, fun _ => 0, by omega, rfl, ⟨brow_zeros_at _ _ _ rfl, fun j hj => absurd hj (by omega), World.grownBy.refl _ _⟩⟩
  case round =>
    obtain ⟨i, E, hi, rfl, KK⟩ := hrel
    by_cases hiL : i < L
    · obtain ⟨b, o, rfl, hw⟩ := HH.out.1.at (i / 4) (by omega)
      have hc0 := hw (i / 4) (by omega)
      have hb : b < w.heap.size := World.block_lt_of_cell? _ _ hc0
      have hcw : wr.cell? ⟨b, o + i / 4, none⟩ = some (.int .u64 (F (i / 4) : Nat)) := KK.out.2.2.cell (cell_later ((Below.refl _ _).alloc (Nat.le_refl _) _) (cell_later B1.out hc0)) (by simp only [ne_eq, Option.some.injEq]; omega)
      have hcx : wr.cell? ⟨w.heap.size, 0, none⟩ = some (.slice (some ⟨b, o, none⟩) n cap) := KK.out.2.2.cell (cell_later ((Below.refl _ _).alloc (Nat.le_refl _) _) c1) (by simp only [ne_eq, Option.some.injEq]; omega)
      have hcd : wr.cell? ⟨w1.heap.size, L - 1 - i, none⟩ = some (.int .u8 (E (L - 1 - i) : Nat)) := KK.out.1.cell (by omega)
      have hfd : wr.frozen? ⟨w1.heap.size, L - 1 - i, none⟩ = false := KK.out.1.frozen _
      have hiL' : (i : Int) < L := by omega
      have hidx : (L : Int) - 1 - (i : Int) = ((L - 1 - i : Nat) : Int) := by omega
      have hin : i / 4 < n := by omega
      have BI : Hid (((F (i / 4) : Nat) : Int) / 2 ^ (8 * (i % 4)) % 256 = ((byteAt x i : Nat) : Int)) := by
        have := byte_of_digit (r := i % 4) HH.out.2.2.2.1 hin (by omega)
        rw [HH.out.2.1, show 4 * (i / 4) + i % 4 = i by omega] at this
        show _ = _
        rw [← this]
        simp
      clear hw hc0
      go_wp2_with fail
      rw [BI.out]
      go_roundw
      case rel =>
        refine ⟨i + 1, _, by omega, by go_num, ⟨KK.out.1.set (L - 1 - i) (byteAt_lt _ _), fun j hj => ?_, grown_set _ KK.out.2.2 _ _⟩⟩
        by_cases e : j = i
        · subst e
          exact put_same _ _ _
        rw [put_other _ _ (by omega)]
        exact KK.out.2.1 j (by omega)
      case measure => simp [intOf]; omega
    obtain rfl : i = L := by omega
    go_wp2_with fail
    go_ret
    refine ⟨_, rfl, by omega, KK.out.1.congr fun j hj => ?_, (B1.out.alloc B1.out.size _).grown KK.out.2.2 (by have := B1.out.size; simp; omega) (fun k hk => by cases hk; omega)⟩
    have := KK.out.2.1 (i - 1 - j) (by omega)
    rwa [show i - 1 - (i - 1 - j) = j by omega] at this
theorem P_B (n : Nat) : P n = B (2 * n) := by
  rw [P, B, Nat.pow_mul]
theorem rfits_P {x n : Nat} (h : x < P n) (hn : n ≤ 2147483648) : RFits x := rfits_of (n := 2 * n) (by rw [← P_B]; exact h) (by omega)
theorem fits_P {x n : Nat} (h : x < P n) (hn : n ≤ 4294967296) : Fits x := ⟨Nat.lt_of_lt_of_le h (P_le (show n ≤ lim from hn))⟩
def ByIs (w : World) (v : Value) (x : Nat) : Prop := ∃ g, v = .slice (some ⟨g, 0, none⟩) (byteLen x) (byteLen x) ∧ ∀ i, i < byteLen x → w.cell? ⟨g, i, none⟩ = some (.int .u8 ((byteAt x (byteLen x - 1 - i) : Nat) : Int))
theorem conv_by {w : World} {g x : Nat} (h : ∀ i, i < byteLen x → w.cell? ⟨g, i, none⟩ = some (.int .u8 ((byteAt x (byteLen x - 1 - i) : Nat) : Int))) : (convert 130 9 (.slice (some ⟨g, 0, none⟩) (byteLen x) (byteLen x))).run Tryz.prog w = .ok (.string (byteText x)) w := by
  refine run_convert_bytes_arg (P := Tryz.prog) w 130 5 (by kernel_rfl) (by kernel_rfl) g 0 (byteLen x) (byteLen x) _ (by simp) (fun i hi => ?_) 9 (by kernel_rfl)
  rw [Nat.zero_add, h i hi]
  simp [List.getD, hi]
theorem ByIs.set {w : World} {v : Value} {x : Nat} {p : Addr} (h : ByIs w v x) (hp : ∀ k q, w.cell? p ≠ some (.int k q)) (u : Value) : ByIs (w.setCell p u) v x := by
  obtain ⟨g, e, hc⟩ := h
  refine ⟨g, e, fun i hi => ?_⟩
  have hne : (⟨g, i, none⟩ : Addr) ≠ p := fun e => hp _ _ (e ▸ hc i hi)
  exact (World.cell?_setCell_other (h := hne.symm) ..).trans (hc i hi)
def sR (x : Nat) : Spec := ⟨fun w v => RNat w v x, ⟨fun h hb => h.mono hb, fun h hp u => h.setCell hp u⟩⟩
def sRI (x r : Nat) : Spec := ⟨fun w v => ∃ p, v = .tuple #[p, .int .u64 ((r : Nat) : Int)] ∧ RNat w p x, ⟨fun ⟨p, e, h1⟩ hb => ⟨p, e, h1.mono hb⟩, fun ⟨p, e, h1⟩ hp u => ⟨p, e, h1.setCell hp u⟩⟩⟩
def sBy (x : Nat) : Spec := ⟨fun w v => ByIs w v x, ⟨fun ⟨g, e, h⟩ hb => ⟨g, e, fun i hi => cell_later hb (h i hi)⟩, fun h hp u => h.set hp u⟩⟩
structure SR (w0 w : World) (N M : List (Value × Nat)) (C : List (Nat × Value)) : Prop where
  nats : ∀ p ∈ N, IsNat w p.1 p.2
  rnats : ∀ p ∈ M, RNat w p.1 p.2
  cells : ∀ p ∈ C, w.cell? ⟨p.1, 0, none⟩ = some p.2
  bel : Below w0.heap.size w0 w
theorem SR.go {w0 w w' : World} {N M : List (Value × Nat)} {C : List (Nat × Value)} (h : SR w0 w N M C) (hb : Below w.heap.size w w') : SR w0 w' N M C :=
  ⟨fun p hp => (h.nats p hp).mono hb, fun p hp => (h.rnats p hp).mono hb, fun p hp => cell_later hb (h.cells p hp), bel_go h.bel hb⟩
theorem SR.at {w0 w : World} {N M : List (Value × Nat)} {C : List (Nat × Value)} (h : SR w0 w N M C) (v : Value) (x : Nat) (hm : (v, x) ∈ N := by simp) : IsNat w v x := h.nats _ hm
theorem SR.rat {w0 w : World} {N M : List (Value × Nat)} {C : List (Nat × Value)} (h : SR w0 w N M C) (v : Value) (x : Nat) (hm : (v, x) ∈ M := by simp) : RNat w v x := h.rnats _ hm
theorem SR.cell {w0 w : World} {N M : List (Value × Nat)} {C : List (Nat × Value)} (h : SR w0 w N M C) (b : Nat) (u : Value) (hm : (b, u) ∈ C := by simp) : w.cell? ⟨b, 0, none⟩ = some u := h.cells _ hm
theorem SR.nat {w0 w : World} {N M : List (Value × Nat)} {C : List (Nat × Value)} (h : SR w0 w N M C) {v : Value} {x : Nat} (hp : IsNat w v x) : SR w0 w ((v, x) :: N) M C :=
  ⟨fun p hp' => by
    rcases List.mem_cons.1 hp' with e | e
    · subst e; exact hp
    exact h.nats p e, h.rnats, h.cells, h.bel⟩
theorem SR.rnat {w0 w : World} {N M : List (Value × Nat)} {C : List (Nat × Value)} (h : SR w0 w N M C) {v : Value} {x : Nat} (hp : RNat w v x) : SR w0 w N ((v, x) :: M) C :=
  ⟨h.nats, fun p hp' => by
    rcases List.mem_cons.1 hp' with e | e
    · subst e; exact hp
    exact h.rnats p e, h.cells, h.bel⟩
theorem SR.box {w0 w : World} {N M : List (Value × Nat)} {C : List (Nat × Value)} (h : SR w0 w N M C) (u : Value) (t : TypeId) (g : Nat) (hg : g = w.heap.size) : SR w0 (w.alloc (.cells #[u] t)) N M ((g, u) :: C) := by
  subst hg
  have h' := h.go (w' := w.alloc (.cells #[u] t)) (bel_al (Below.refl _ _))
  refine ⟨h'.nats, h'.rnats, fun p hp => ?_, h'.bel⟩
  rcases List.mem_cons.1 hp with e | e
  · subst e
    simp
  exact h'.cells p e
theorem sr_start (w : World) : SR w w [] [] [] := ⟨(fun _ h => by cases h), (fun _ h => by cases h), (fun _ h => by cases h), Below.refl _ _⟩
end Go.Proofs.YtfkkomppfghagaaGreatDoor
