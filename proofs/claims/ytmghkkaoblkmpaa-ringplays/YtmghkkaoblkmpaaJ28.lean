/- Contracts of the program's functions, part 28: own work, joined in build order. -/
import Derived.Test.YtmghkkaoblkmpaaJ27
import Derived.OrdersIn
import Derived.Deep.LoopGhost
import Derived.WalkKit
import Derived.Test.YtmghkkaoblkmpaaRows
namespace Go.Proofs.Ytmghkkaoblkmpaa
open Go.RowKit
set_option maxRecDepth 100000
set_option linter.unusedVariables false
def updB (L : Nat → Bool) (i : Nat) : Nat → Bool := fun j => if j = i then true else L j
def updV (vs : Nat → Value) (i : Nat) (v : Value) : Nat → Value := fun j => if j = i then v else vs j
/-- The frame, as far as the operations of L have come up. -/
structure Fr (ops : Array Oper) (a0 : Act) (L : Nat → Bool) (vs : Nat → Value) (a : Act) : Prop where
  size : a.tmps.size = a0.tmps.size
  defers : a.defers = a0.defers
  out : ∀ t, (∀ (j : Nat) o, ops[j]? = some o → L j = true → o.dst ≠ some t) → a.tmps.getD t undef = a0.tmps.getD t undef
  inn : ∀ (j : Nat) o t, ops[j]? = some o → L j = true → o.dst = some t → a.tmps.getD t undef = vs j
/-- Each temporary is written once, and lies in the frame. -/
structure Good (ops : Array Oper) (a0 : Act) : Prop where
  once : ∀ (i j : Nat) oi oj t, ops[i]? = some oi → ops[j]? = some oj → oi.dst = some t → oj.dst = some t → i = j
  lt : ∀ (i : Nat) oi t, ops[i]? = some oi → oi.dst = some t → t < a0.tmps.size
theorem put_getD_same (a : Act) (t : Nat) (v : Value) (h : t < a.tmps.size) : (a.put (some t) v).tmps.getD t undef = v := by
  simp [Act.put, h]
theorem put_getD_other (a : Act) (d : Option Nat) (t : Nat) (v : Value) (h : d ≠ some t) : (a.put d v).tmps.getD t undef = a.tmps.getD t undef := by
  cases d with
  | none => rfl
  | some d =>
    have hne : d ≠ t := fun e => h (by rw [e])
    simp [Act.put, Array.getElem?_setIfInBounds_ne hne]
theorem put_size (a : Act) (d : Option Nat) (v : Value) : (a.put d v).tmps.size = a.tmps.size := by cases d <;> simp [Act.put]
theorem put_defers' (a : Act) (d : Option Nat) (v : Value) : (a.put d v).defers = a.defers := by cases d <;> rfl
theorem Fr.step {ops : Array Oper} {a0 a : Act} {L : Nat → Bool} {vs : Nat → Value} (h : Fr ops a0 L vs a) (hg : Good ops a0) {i : Nat} {o : Oper} (hi : ops[i]? = some o) (hL : L i = false) (v : Value) :
    Fr ops a0 (updB L i) (updV vs i v) (a.put o.dst v) := by
  refine ⟨by rw [put_size, h.size], by rw [put_defers', h.defers], fun t ht => ?_, fun j oj t hj hLj ht => ?_⟩
  · have h1 : o.dst ≠ some t := ht i o hi (by simp [updB])
    rw [put_getD_other _ _ _ _ h1]
    refine h.out t fun j oj hj hLj => ?_
    have := ht j oj hj (by unfold updB; split <;> simp_all)
    exact this
  · by_cases e : j = i
    · subst e
      rw [hi] at hj
      cases hj
      rw [ht]
      have := hg.lt j o t hi ht
      rw [put_getD_same _ _ _ (by rw [h.size]; exact this)]
      simp [updV]
    · have h1 : o.dst ≠ some t := fun e2 => e (hg.once j i oj o t hj hi ht e2)
      rw [put_getD_other _ _ _ _ h1, h.inn j oj t hj (by simpa [updB, e] using hLj) ht]
      simp [updV, e]
/-- What one operation owes. -/
def Owes (F : Fence) (n : Nat) (P : Program) (ops : Array Oper) (Q : Exit → Act → World → Prop) (a0 : Act) (J : (Nat → Bool) → (Nat → Value) → World → Prop) (i : Nat) (o : Oper) : Prop :=
  ∀ L vs a w, J L vs w → Fr ops a0 L vs a → (∀ e ∈ o.after, Region.binds .any e = true → L e.on = true) → L i = false →
    if Region.wanted o (yielded ops a.tmps) then o.wpIn F n P a w (fun a' w' => ∃ v, a' = a.put o.dst v ∧ J (updB L i) (updV vs i v) w') Q else (∀ f, o.about P w a.eval = some f → F.fn f) ∧ J (updB L i) (updV vs i undef) w
def OwesAll (Φ : Nat → Oper → Prop) : Nat → List Oper → Prop
  | _, [] => True
  | k, o :: l => Φ k o ∧ OwesAll Φ (k + 1) l
theorem OwesAll.at {Φ : Nat → Oper → Prop} : ∀ {k : Nat} {l : List Oper}, OwesAll Φ k l → ∀ i o, l[i]? = some o → Φ (k + i) o
  | k, [], _, i, o, h => by simp at h
  | k, x :: l, h, i, o, hi => by
    cases i with
    | zero => simp at hi; subst hi; exact h.1
    | succ i =>
      have := OwesAll.at h.2 i o (by simpa using hi)
      rw [show k + (i + 1) = k + 1 + i by omega]
      exact this
/-- How many have not come up. -/
def left (n : Nat) (L : Nat → Bool) : Nat := ((List.range n).filter fun i => !L i).length
theorem left_upd {n : Nat} {L : Nat → Bool} {i : Nat} (hi : i < n) (h : L i = false) : left n (updB L i) + 1 = left n L := by
  unfold left
  induction n with
  | zero => omega
  | succ n ih =>
    rw [List.range_succ, List.filter_append, List.filter_append, List.length_append, List.length_append]
    by_cases e : i = n
    · subst e
      have h1 : ((List.range i).filter fun j => !updB L i j) = (List.range i).filter fun j => !L j := List.filter_congr fun j hj => by
        have : j ≠ i := by have := List.mem_range.1 hj; omega
        simp [updB, this]
      rw [h1]
      simp [updB, h]
    · have h2 := ih (by omega)
      have h3 : ([n].filter fun j => !updB L i j) = [n].filter fun j => !L j := by simp [updB, Ne.symm e, List.filter_cons]
      rw [h3]
      omega
theorem wpAnyIn_inv {F : Fence} {n : Nat} {P : Program} {ops : Array Oper} {Q : Exit → Act → World → Prop} {a0 : Act} {J : (Nat → Bool) → (Nat → Value) → World → Prop} (hg : Good ops a0) (hback : ∀ (i : Nat) o, ops[i]? = some o → ∀ e ∈ o.after, Region.binds .any e = true → e.on < i)
    (hop : ∀ (i : Nat) o, ops[i]? = some o → Owes F n P ops Q a0 J i o) (hfin : ∀ L vs a w, (∀ i, i < ops.size → L i = true) → Fr ops a0 L vs a → J L vs w → Q .normal a w) :
    ∀ (fuel : Nat) (listed : Array Bool) (L : Nat → Bool) (vs : Nat → Value) (a : Act) (w : World), listed.size = ops.size → (∀ i, i < ops.size → listed.getD i true = L i) → left ops.size L = fuel → Fr ops a0 L vs a → J L vs w → wpAnyIn F n P .any ops Q fuel listed a w
  | fuel, listed, L, vs, a, w, hsz, hL, hf, hF, hJ => by
    have hall : left ops.size L = 0 → ∀ i, i < ops.size → L i = true := fun h0 i hi => by
      cases hLi : L i
      · have := left_upd hi hLi
        omega
      · rfl
    have hnone : left ops.size L ≠ 0 → Region.ready .any ops listed ≠ [] := fun hne hr => by
      have hex : ∃ i, i < ops.size ∧ L i = false := by
        rcases Classical.em (∃ i, i < ops.size ∧ L i = false) with h | h
        · exact h
        · exfalso
          apply hne
          unfold left
          rw [List.length_eq_zero_iff, List.filter_eq_nil_iff]
          intro i hi
          have := List.mem_range.1 hi
          cases hLi : L i
          · exact absurd ⟨i, this, hLi⟩ h
          · simp
      obtain ⟨i, hi, hmin⟩ := exists_least hex
      have ho : ops[i]? = some (ops[i]'hi.1) := Array.getElem?_eq_getElem hi.1
      have hmem : i ∈ Region.ready .any ops listed := mem_ready.2 ⟨(hL i hi.1).trans hi.2, _, ho, fun e he hb => by
        have hlt := hback i _ ho e he hb
        have h1 : L e.on = true := by
          cases hLe : L e.on
          · have := hmin e.on ⟨by omega, hLe⟩
            omega
          · rfl
        have h2 := hL e.on (by omega)
        rw [h1] at h2
        have h3 : e.on < listed.size := by omega
        simpa [h3] using h2⟩
      rw [hr] at hmem
      cases hmem
    match fuel with
    | 0 =>
      refine ⟨?_, hfin L vs a w (hall hf) hF hJ⟩
      refine List.eq_nil_iff_forall_not_mem.2 fun i hi => ?_
      obtain ⟨h1, o, ho, _⟩ := mem_ready.1 hi
      have hlt : i < ops.size := (Array.getElem?_eq_some_iff.1 ho).1
      rw [hL i hlt, hall hf i hlt] at h1
      cases h1
    | fuel + 1 =>
      refine ⟨fun hr => absurd hr (hnone (by omega)), fun i hi => ?_⟩
      obtain ⟨h1, o, ho, hedges⟩ := mem_ready.1 hi
      have hlt : i < ops.size := (Array.getElem?_eq_some_iff.1 ho).1
      have hLi : L i = false := (hL i hlt).symm.trans h1
      have hP : ∀ e ∈ o.after, Region.binds .any e = true → L e.on = true := fun e he hb => by
        have h2 := hedges e he hb
        have h3 := hback i o ho e he hb
        have h4 : e.on < listed.size := by omega
        rw [← hL e.on (by omega)]
        simpa [h4] using h2
      have key := hop i o ho L vs a w hJ hF hP hLi
      have go : ∀ v w', J (updB L i) (updV vs i v) w' → wpAnyIn F n P .any ops Q fuel (listed.setIfInBounds i true) (a.put o.dst v) w' := fun v w' hJ' =>
        wpAnyIn_inv hg hback hop hfin fuel _ (updB L i) (updV vs i v) _ w' (by simpa using hsz) (fun j hj => by
          by_cases e : j = i
          · subst e
            have : j < listed.size := by omega
            simp [updB, this]
          · rw [getD_set_ne true (Ne.symm e), hL j hj]
            simp [updB, e]) (by have := left_upd hlt hLi; omega) (hF.step hg ho hLi v) hJ'
      unfold wpOpIn
      simp only [ho]
      split
      · rename_i hw
        rw [if_pos hw] at key
        exact Oper.wpIn_mono (fun a' w' ⟨v, e, hj⟩ => by subst e; exact go v w' hj) key
      · rename_i hw
        rw [if_neg hw] at key
        exact ⟨key.1, go undef w key.2⟩
/-- The frame behind all. -/
def putL : List Oper → (Nat → Value) → Nat → Act → Act
  | [], _, _, a => a
  | o :: l, vs, k, a => putL l vs (k + 1) (a.put o.dst (vs k))
theorem Fr.congr {ops : Array Oper} {a0 a : Act} {L L' : Nat → Bool} {vs vs' : Nat → Value} (h : Fr ops a0 L vs a) (hL : ∀ j, L j = L' j) (hv : ∀ j, vs j = vs' j) : Fr ops a0 L' vs' a := by
  rw [← show L = L' from funext hL, ← show vs = vs' from funext hv]
  exact h
theorem putL_fr {ops : Array Oper} {a0 : Act} {vs : Nat → Value} (hg : Good ops a0) : ∀ (l : List Oper) (k : Nat) (b : Act), ops.toList.drop k = l → Fr ops a0 (fun j => decide (j < k)) vs b → ∃ m, ops.size ≤ m ∧ Fr ops a0 (fun j => decide (j < m)) vs (putL l vs k b)
  | [], k, b, hl, h => ⟨k, by have := List.drop_eq_nil_iff.1 hl; simpa using this, h⟩
  | o :: l, k, b, hl, h => by
    have hk : ops[k]? = some o := by
      have : (ops.toList.drop k)[0]? = some o := by rw [hl]; rfl
      simpa using this
    have hl2 : ops.toList.drop (k + 1) = l := by
      have : (ops.toList.drop k).drop 1 = l := by rw [hl]; rfl
      simpa [List.drop_drop, Nat.add_comm] using this
    have h2 := (h.step hg hk (by simp) (vs k)).congr (L' := fun j => decide (j < k + 1)) (vs' := vs) (fun j => by unfold updB; by_cases e : j = k <;> simp [e] <;> omega) (fun j => by unfold updV; split <;> simp_all)
    exact putL_fr hg l (k + 1) _ hl2 h2
theorem Fr.start (ops : Array Oper) (a0 : Act) (vs : Nat → Value) : Fr ops a0 (fun _ => false) vs a0 := ⟨rfl, rfl, fun _ _ => rfl, fun _ _ _ _ h => by cases h⟩
theorem Fr.ext {ops : Array Oper} {a0 a b : Act} {L L' : Nat → Bool} {vs : Nat → Value} (h : Fr ops a0 L vs a) (k : Fr ops a0 L' vs b) (hL : ∀ i, i < ops.size → L i = true) (hL' : ∀ i, i < ops.size → L' i = true) : a = b := by
  have key : ∀ t, a.tmps.getD t undef = b.tmps.getD t undef := fun t => by
    rcases Classical.em (∃ (j : Nat) (o : Oper), ops[j]? = some o ∧ o.dst = some t) with ⟨j, o, hj, ht⟩ | hne
    · have hlt : j < ops.size := (Array.getElem?_eq_some_iff.1 hj).1
      rw [h.inn j o t hj (hL j hlt) ht, k.inn j o t hj (hL' j hlt) ht]
    · rw [h.out t fun j o hj _ ht => hne ⟨j, o, hj, ht⟩, k.out t fun j o hj _ ht => hne ⟨j, o, hj, ht⟩]
  obtain ⟨at', ad⟩ := a
  obtain ⟨bt, bd⟩ := b
  have hs : at'.size = bt.size := h.size.trans k.size.symm
  have hd : ad = bd := h.defers.trans k.defers.symm
  have ht : at' = bt := Array.ext hs fun i h1 h2 => by
    have := key i
    simpa [h1, h2] using this
  rw [hd, ht]
theorem Fr.all {ops : Array Oper} {a0 a : Act} {L : Nat → Bool} {vs : Nat → Value} (hg : Good ops a0) (h : Fr ops a0 L vs a) (hL : ∀ i, i < ops.size → L i = true) : a = putL ops.toList vs 0 a0 := by
  obtain ⟨m, hm, hF⟩ := putL_fr (vs := vs) hg ops.toList 0 a0 rfl ((Fr.start ops a0 vs).congr (fun j => by simp) (fun _ => rfl))
  exact h.ext hF hL fun i hi => by simp; omega
/-- The closed facts, to be decided. -/
def goodB (l : List Oper) (n : Nat) : Bool :=
  (l.filterMap (·.dst)).all (fun t => decide (t < n)) && ((List.range l.length).all fun i => (List.range l.length).all fun j => i == j || (match (l[i]?).bind (·.dst), (l[j]?).bind (·.dst) with | some t, some u => t != u | _, _ => true)) &&
  ((List.range l.length).all fun i => ((l[i]?).map fun o => o.after.toList.all fun e => !Region.binds .any e || decide (e.on < i)).getD true)
theorem good_of {ops : Array Oper} {a0 : Act} (h : goodB ops.toList a0.tmps.size = true) : Good ops a0 ∧ ∀ (i : Nat) o, ops[i]? = some o → ∀ e ∈ o.after, Region.binds .any e = true → e.on < i := by
  unfold goodB at h
  rw [Bool.and_eq_true, Bool.and_eq_true] at h
  obtain ⟨⟨h1, h2⟩, h3⟩ := h
  refine ⟨⟨fun i j oi oj t hi hj hti htj => ?_, fun i oi t hi ht => ?_⟩, fun i o hi e he hb => ?_⟩
  · have li : i < ops.toList.length := by have := (Array.getElem?_eq_some_iff.1 hi).1; simpa using this
    have lj : j < ops.toList.length := by have := (Array.getElem?_eq_some_iff.1 hj).1; simpa using this
    have := List.all_eq_true.1 (List.all_eq_true.1 h2 i (List.mem_range.2 li)) j (List.mem_range.2 lj)
    have ei : ops.toList[i]? = some oi := by simpa using hi
    have ej : ops.toList[j]? = some oj := by simpa using hj
    rw [ei, ej] at this
    simpa [hti, htj] using this
  · have := List.all_eq_true.1 h1 t (List.mem_filterMap.2 ⟨oi, by have := Array.mem_of_getElem? hi; simpa using this, ht⟩)
    simpa using this
  · have li : i < ops.toList.length := by have := (Array.getElem?_eq_some_iff.1 hi).1; simpa using this
    have h4 := List.all_eq_true.1 h3 i (List.mem_range.2 li)
    have ei : ops.toList[i]? = some o := by simpa using hi
    rw [ei] at h4
    simp only [Option.map_some, Option.getD_some] at h4
    have := List.all_eq_true.1 h4 e (by simpa using he)
    simpa [hb] using this
theorem wpIn_region_inv {F : Fence} {nF : Nat} {P : Program} {id : Nat} {ops : Array Oper} {Q : Exit → Act → World → Prop} {a0 : Act} {w : World} (J : (Nat → Bool) → (Nat → Value) → World → Prop) (n : Nat) (hm : P.follows .mixedOrders = true) (hn : a0.tmps.size = n) (hg : goodB ops.toList n = true)
    (h0 : J (fun _ => false) (fun _ => undef) w.drew) (hop : goodB ops.toList n = true → a0.tmps.size = n → OwesAll (Owes F nF P ops Q a0 J) 0 ops.toList) (hfin : ∀ L vs w', (∀ i, i < ops.size → L i = true) → J L vs w' → Q .normal (putL ops.toList vs 0 a0) w') :
    (Code.region id ops true).wpIn F nF P Q a0 w := by
  subst hn
  obtain ⟨g1, g2⟩ := good_of hg
  refine wpIn_region_any hm (wpAnyIn_inv g1 g2 (fun i o hi => ?_) (fun L vs a w' hL hF hJ => ?_) ops.size _ (fun _ => false) (fun _ => undef) a0 _ (by simp) (fun i hi => by simp [hi]) ?_ (Fr.start _ _ _) h0)
  · have := (hop hg rfl).at i o (by simpa using hi)
    rw [Nat.zero_add] at this
    exact this
  · rw [hF.all g1 hL]
    exact hfin L vs w' hL hJ
  · unfold left
    rw [List.filter_eq_self.2 (by simp)]
    simp
end Go.Proofs.Ytmghkkaoblkmpaa
