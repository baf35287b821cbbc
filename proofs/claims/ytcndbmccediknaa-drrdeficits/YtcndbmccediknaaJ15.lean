/- Contracts of the program's functions, part 15: own work, joined in build order. -/
import Derived.Test.YtcndbmccediknaaJ14
import Derived.OrdersIn
import Derived.Deep.LoopGhost
import Derived.WalkKit
import Derived.Test.YtcndbmccediknaaRows
import Derived.RangeFuncNested
import Derived.RangeFuncCalls
import Derived.Maps.AppendAt
namespace Go.Proofs.Ytcndbmccediknaa
open Go.RowKit
set_option maxRecDepth 100000
set_option linter.unusedVariables false
def updB (L : Nat → Bool) (i : Nat) : Nat → Bool := fun j => if j = i then true else L j
def updV (vs : Nat → Value) (i : Nat) (v : Value) : Nat → Value := fun j => if j = i then v else vs j
structure Fr (ops : Array Oper) (a0 : Act) (L : Nat → Bool) (vs : Nat → Value) (a : Act) : Prop where
  size : a.tmps.size = a0.tmps.size
  defers : a.defers = a0.defers
  out : ∀ t, (∀ (j : Nat) o, ops[j]? = some o → L j = true → o.dst ≠ some t) → a.tmps.getD t undef = a0.tmps.getD t undef
  inn : ∀ (j : Nat) o t, ops[j]? = some o → L j = true → o.dst = some t → a.tmps.getD t undef = vs j
structure Good (ops : Array Oper) (a0 : Act) : Prop where
  once : ∀ (i j : Nat) oi oj t, ops[i]? = some oi → ops[j]? = some oj → oi.dst = some t → oj.dst = some t → i = j
  lt : ∀ (i : Nat) oi t, ops[i]? = some oi → oi.dst = some t → t < a0.tmps.size
theorem put_getD_same (a : Act) (t : Nat) (v : Value) (h : t < a.tmps.size) : (a.put (some t) v).tmps.getD t undef = v := by
  simp [Act.put, h]
theorem put_getD_other (a : Act) (d : Option Nat) (t : Nat) (v : Value) (h : d ≠ some t) : (a.put d v).tmps.getD t undef = a.tmps.getD t undef := by
  cases d with
  | none => rfl
  | some d =>
    have hne : d ≠ t := fun e => h (by rw [e])
    simp [Act.put, Array.getElem?_setIfInBounds_ne hne]
theorem put_size (a : Act) (d : Option Nat) (v : Value) : (a.put d v).tmps.size = a.tmps.size := by cases d <;> simp [Act.put]
theorem put_defers' (a : Act) (d : Option Nat) (v : Value) : (a.put d v).defers = a.defers := by cases d <;> rfl
theorem Fr.step {ops : Array Oper} {a0 a : Act} {L : Nat → Bool} {vs : Nat → Value} (h : Fr ops a0 L vs a) (hg : Good ops a0) {i : Nat} {o : Oper} (hi : ops[i]? = some o) (hL : L i = false) (v : Value) :
    Fr ops a0 (updB L i) (updV vs i v) (a.put o.dst v) := by
  refine ⟨by rw [put_size, h.size], by rw [put_defers', h.defers], fun t ht => ?_, fun j oj t hj hLj ht => ?_⟩
  · have h1 : o.dst ≠ some t := ht i o hi (by simp [updB])
    rw [put_getD_other _ _ _ _ h1]
    refine h.out t fun j oj hj hLj => ?_
    have := ht j oj hj (by unfold updB; split <;> simp_all)
    exact this
  by_cases e : j = i
  · subst e
    rw [hi] at hj
    cases hj
    rw [ht]
    have := hg.lt j o t hi ht
    rw [put_getD_same _ _ _ (by rw [h.size]; exact this)]
    simp [updV]
  have h1 : o.dst ≠ some t := fun e2 => e (hg.once j i oj o t hj hi ht e2)
  rw [put_getD_other _ _ _ _ h1, h.inn j oj t hj (by simpa [updB, e] using hLj) ht]
  simp [updV, e]
def Owes (F : Fence) (n : Nat) (P : Program) (ops : Array Oper) (Q : Exit → Act → World → Prop) (a0 : Act) (J : (Nat → Bool) → (Nat → Value) → World → Prop) (i : Nat) (o : Oper) : Prop :=
  ∀ L vs a w, J L vs w → Fr ops a0 L vs a → (∀ e ∈ o.after, Region.binds .any e = true → L e.on = true) → L i = false →
    if Region.wanted o (yielded ops a.tmps) then o.wpIn F n P a w (fun a' w' => ∃ v, a' = a.put o.dst v ∧ J (updB L i) (updV vs i v) w') Q else (∀ f, o.about P w a.eval = some f → F.fn f) ∧ J (updB L i) (updV vs i undef) w
def OwesAll (Φ : Nat → Oper → Prop) : Nat → List Oper → Prop
  | _, [] => True
  | k, o :: l => Φ k o ∧ OwesAll Φ (k + 1) l
theorem OwesAll.at {Φ : Nat → Oper → Prop} : ∀ {k : Nat} {l : List Oper}, OwesAll Φ k l → ∀ i o, l[i]? = some o → Φ (k + i) o
  | k, [], _, i, o, h => by simp at h
  | k, x :: l, h, i, o, hi => by
    cases i with
    | zero => simp at hi; subst hi; exact h.1
    | succ i =>
      have := OwesAll.at h.2 i o (by simpa using hi)
      rw [show k + (i + 1) = k + 1 + i by omega]
      exact this
def left (n : Nat) (L : Nat → Bool) : Nat := ((List.range n).filter fun i => !L i).length
theorem left_upd {n : Nat} {L : Nat → Bool} {i : Nat} (hi : i < n) (h : L i = false) : left n (updB L i) + 1 = left n L := by
  unfold left
  induction n with
  | zero => omega
  | succ n ih =>
    rw [List.range_succ, List.filter_append, List.filter_append, List.length_append, List.length_append]
    by_cases e : i = n
    · subst e
      have h1 : ((List.range i).filter fun j => !updB L i j) = (List.range i).filter fun j => !L j := List.filter_congr fun j hj => by
        have : j ≠ i := by have := List.mem_range.1 hj; omega
        simp [updB, this]
      rw [h1]
      simp [updB, h]
    have h2 := ih (by omega)
    have h3 : ([n].filter fun j => !updB L i j) = [n].filter fun j => !L j := by simp [updB, Ne.symm e, List.filter_cons]
    rw [h3]
    omega
theorem wpAnyIn_inv {F : Fence} {n : Nat} {P : Program} {ops : Array Oper} {Q : Exit → Act → World → Prop} {a0 : Act} {J : (Nat → Bool) → (Nat → Value) → World → Prop} (hg : Good ops a0) (hback : ∀ (i : Nat) o, ops[i]? = some o → ∀ e ∈ o.after, Region.binds .any e = true → e.on < i)
    (hop : ∀ (i : Nat) o, ops[i]? = some o → Owes F n P ops Q a0 J i o) (hfin : ∀ L vs a w, (∀ i, i < ops.size → L i = true) → Fr ops a0 L vs a → J L vs w → Q .normal a w) :
    ∀ (fuel : Nat) (listed : Array Bool) (L : Nat → Bool) (vs : Nat → Value) (a : Act) (w : World), listed.size = ops.size → (∀ i, i < ops.size → listed.getD i true = L i) → left ops.size L = fuel → Fr ops a0 L vs a → J L vs w → wpAnyIn F n P .any ops Q fuel listed a w
  | fuel, listed, L, vs, a, w, hsz, hL, hf, hF, hJ => by
    have hall : left ops.size L = 0 → ∀ i, i < ops.size → L i = true := fun h0 i hi => by
      cases hLi : L i
      · have := left_upd hi hLi
        omega
      rfl
    have hnone : left ops.size L ≠ 0 → Region.ready .any ops listed ≠ [] := fun hne hr => by
      have hex : ∃ i, i < ops.size ∧ L i = false := by
        rcases Classical.em (∃ i, i < ops.size ∧ L i = false) with h | h
        · exact h
        exfalso
        apply hne
        unfold left
        rw [List.length_eq_zero_iff, List.filter_eq_nil_iff]
        intro i hi
        have := List.mem_range.1 hi
        cases hLi : L i
        · exact absurd ⟨i, this, hLi⟩ h
        simp
      obtain ⟨i, hi, hmin⟩ := exists_least hex
      have ho : ops[i]? = some (ops[i]'hi.1) := Array.getElem?_eq_getElem hi.1
      have hmem : i ∈ Region.ready .any ops listed := mem_ready.2 ⟨(hL i hi.1).trans hi.2, _, ho, fun e he hb => by
        have hlt := hback i _ ho e he hb
        have h1 : L e.on = true := by
          cases hLe : L e.on
          · have := hmin e.on ⟨by omega, hLe⟩
            omega
          rfl
        have h2 := hL e.on (by omega)
        rw [h1] at h2
        have h3 : e.on < listed.size := by omega
        simpa [h3] using h2⟩
      rw [hr] at hmem
      cases hmem
    match fuel with
    | 0 =>
      refine ⟨?_, hfin L vs a w (hall hf) hF hJ⟩
      refine List.eq_nil_iff_forall_not_mem.2 fun i hi => ?_
      obtain ⟨h1, o, ho, _⟩ := mem_ready.1 hi
      have hlt : i < ops.size := (Array.getElem?_eq_some_iff.1 ho).1
      rw [hL i hlt, hall hf i hlt] at h1
      cases h1
    | fuel + 1 =>
      refine ⟨fun hr => absurd hr (hnone (by omega)), fun i hi => ?_⟩
      obtain ⟨h1, o, ho, hedges⟩ := mem_ready.1 hi
      have hlt : i < ops.size := (Array.getElem?_eq_some_iff.1 ho).1
      have hLi : L i = false := (hL i hlt).symm.trans h1
      have hP : ∀ e ∈ o.after, Region.binds .any e = true → L e.on = true := fun e he hb => by
        have h2 := hedges e he hb
        have h3 := hback i o ho e he hb
        have h4 : e.on < listed.size := by omega
        rw [← hL e.on (by omega)]
        simpa [h4] using h2
      have key := hop i o ho L vs a w hJ hF hP hLi
      have go : ∀ v w', J (updB L i) (updV vs i v) w' → wpAnyIn F n P .any ops Q fuel (listed.setIfInBounds i true) (a.put o.dst v) w' := fun v w' hJ' =>
        wpAnyIn_inv hg hback hop hfin fuel _ (updB L i) (updV vs i v) _ w' (by simpa using hsz) (fun j hj => by
          by_cases e : j = i
          · subst e
            have : j < listed.size := by omega
            simp [updB, this]
          rw [getD_set_ne true (Ne.symm e), hL j hj]
          simp [updB, e]) (by have := left_upd hlt hLi; omega) (hF.step hg ho hLi v) hJ'
      unfold wpOpIn
      simp only [ho]
      split
      · rename_i hw
        rw [if_pos hw] at key
        exact Oper.wpIn_mono (fun a' w' ⟨v, e, hj⟩ => by subst e; exact go v w' hj) key
      rename_i hw
      rw [if_neg hw] at key
      exact ⟨key.1, go undef w key.2⟩
def putL : List Oper → (Nat → Value) → Nat → Act → Act
  | [], _, _, a => a
  | o :: l, vs, k, a => putL l vs (k + 1) (a.put o.dst (vs k))
theorem Fr.congr {ops : Array Oper} {a0 a : Act} {L L' : Nat → Bool} {vs vs' : Nat → Value} (h : Fr ops a0 L vs a) (hL : ∀ j, L j = L' j) (hv : ∀ j, vs j = vs' j) : Fr ops a0 L' vs' a := by
  rw [← show L = L' from funext hL, ← show vs = vs' from funext hv]
  exact h
theorem putL_fr {ops : Array Oper} {a0 : Act} {vs : Nat → Value} (hg : Good ops a0) : ∀ (l : List Oper) (k : Nat) (b : Act), ops.toList.drop k = l → Fr ops a0 (fun j => decide (j < k)) vs b → ∃ m, ops.size ≤ m ∧ Fr ops a0 (fun j => decide (j < m)) vs (putL l vs k b)
  | [], k, b, hl, h => ⟨k, by have := List.drop_eq_nil_iff.1 hl; simpa using this, h⟩
  | o :: l, k, b, hl, h => by
    have hk : ops[k]? = some o := by
      have : (ops.toList.drop k)[0]? = some o := by rw [hl]; rfl
      simpa using this
    have hl2 : ops.toList.drop (k + 1) = l := by
      have : (ops.toList.drop k).drop 1 = l := by rw [hl]; rfl
      simpa [List.drop_drop, Nat.add_comm] using this
    have h2 := (h.step hg hk (by simp) (vs k)).congr (L' := fun j => decide (j < k + 1)) (vs' := vs) (fun j => by unfold updB; by_cases e : j = k <;> simp [e] <;> omega) (fun j => by unfold updV; split <;> simp_all)
    exact putL_fr hg l (k + 1) _ hl2 h2
theorem Fr.start (ops : Array Oper) (a0 : Act) (vs : Nat → Value) : Fr ops a0 (fun _ => false) vs a0 := ⟨rfl, rfl, fun _ _ => rfl, fun _ _ _ _ h => by cases h⟩
theorem Fr.ext {ops : Array Oper} {a0 a b : Act} {L L' : Nat → Bool} {vs : Nat → Value} (h : Fr ops a0 L vs a) (k : Fr ops a0 L' vs b) (hL : ∀ i, i < ops.size → L i = true) (hL' : ∀ i, i < ops.size → L' i = true) : a = b := by
  have key : ∀ t, a.tmps.getD t undef = b.tmps.getD t undef := fun t => by
    rcases Classical.em (∃ (j : Nat) (o : Oper), ops[j]? = some o ∧ o.dst = some t) with ⟨j, o, hj, ht⟩ | hne
    · have hlt : j < ops.size := (Array.getElem?_eq_some_iff.1 hj).1
      rw [h.inn j o t hj (hL j hlt) ht, k.inn j o t hj (hL' j hlt) ht]
    rw [h.out t fun j o hj _ ht => hne ⟨j, o, hj, ht⟩, k.out t fun j o hj _ ht => hne ⟨j, o, hj, ht⟩]
  obtain ⟨at', ad⟩ := a
  obtain ⟨bt, bd⟩ := b
  have hs : at'.size = bt.size := h.size.trans k.size.symm
  have hd : ad = bd := h.defers.trans k.defers.symm
  have ht : at' = bt := Array.ext hs fun i h1 h2 => by
    have := key i
    simpa [h1, h2] using this
  rw [hd, ht]
theorem Fr.all {ops : Array Oper} {a0 a : Act} {L : Nat → Bool} {vs : Nat → Value} (hg : Good ops a0) (h : Fr ops a0 L vs a) (hL : ∀ i, i < ops.size → L i = true) : a = putL ops.toList vs 0 a0 := by
  obtain ⟨m, hm, hF⟩ := putL_fr (vs := vs) hg ops.toList 0 a0 rfl ((Fr.start ops a0 vs).congr (fun j => by simp) (fun _ => rfl))
  exact h.ext hF hL fun i hi => by simp; omega
def goodB (l : List Oper) (n : Nat) : Bool :=
  (l.filterMap (·.dst)).all (fun t => decide (t < n)) && ((List.range l.length).all fun i => (List.range l.length).all fun j => i == j || (match (l[i]?).bind (·.dst), (l[j]?).bind (·.dst) with | some t, some u => t != u | _, _ => true)) &&
  ((List.range l.length).all fun i => ((l[i]?).map fun o => o.after.toList.all fun e => !Region.binds .any e || decide (e.on < i)).getD true)
theorem good_of {ops : Array Oper} {a0 : Act} (h : goodB ops.toList a0.tmps.size = true) : Good ops a0 ∧ ∀ (i : Nat) o, ops[i]? = some o → ∀ e ∈ o.after, Region.binds .any e = true → e.on < i := by
  unfold goodB at h
  rw [Bool.and_eq_true, Bool.and_eq_true] at h
  obtain ⟨⟨h1, h2⟩, h3⟩ := h
  refine ⟨⟨fun i j oi oj t hi hj hti htj => ?_, fun i oi t hi ht => ?_⟩, fun i o hi e he hb => ?_⟩
  · have li : i < ops.toList.length := by have := (Array.getElem?_eq_some_iff.1 hi).1; simpa using this
    have lj : j < ops.toList.length := by have := (Array.getElem?_eq_some_iff.1 hj).1; simpa using this
    have := List.all_eq_true.1 (List.all_eq_true.1 h2 i (List.mem_range.2 li)) j (List.mem_range.2 lj)
    have ei : ops.toList[i]? = some oi := by simpa using hi
    have ej : ops.toList[j]? = some oj := by simpa using hj
    rw [ei, ej] at this
    simpa [hti, htj] using this
  · have := List.all_eq_true.1 h1 t (List.mem_filterMap.2 ⟨oi, by have := Array.mem_of_getElem? hi; simpa using this, ht⟩)
    simpa using this
  have li : i < ops.toList.length := by have := (Array.getElem?_eq_some_iff.1 hi).1; simpa using this
  have h4 := List.all_eq_true.1 h3 i (List.mem_range.2 li)
  have ei : ops.toList[i]? = some o := by simpa using hi
  rw [ei] at h4
  simp only [Option.map_some, Option.getD_some] at h4
  have := List.all_eq_true.1 h4 e (by simpa using he)
  simpa [hb] using this
theorem wpIn_region_inv {F : Fence} {nF : Nat} {P : Program} {id : Nat} {ops : Array Oper} {Q : Exit → Act → World → Prop} {a0 : Act} {w : World} (J : (Nat → Bool) → (Nat → Value) → World → Prop) (n : Nat) (hm : P.follows .mixedOrders = true) (hn : a0.tmps.size = n) (hg : goodB ops.toList n = true)
    (h0 : J (fun _ => false) (fun _ => undef) w.drew) (hop : goodB ops.toList n = true → a0.tmps.size = n → OwesAll (Owes F nF P ops Q a0 J) 0 ops.toList) (hfin : ∀ L vs w', (∀ i, i < ops.size → L i = true) → J L vs w' → Q .normal (putL ops.toList vs 0 a0) w') :
    (Code.region id ops true).wpIn F nF P Q a0 w := by
  subst hn
  obtain ⟨g1, g2⟩ := good_of hg
  refine wpIn_region_any hm (wpAnyIn_inv g1 g2 (fun i o hi => ?_) (fun L vs a w' hL hF hJ => ?_) ops.size _ (fun _ => false) (fun _ => undef) a0 _ (by simp) (fun i hi => by simp [hi]) ?_ (Fr.start _ _ _) h0)
  · have := (hop hg rfl).at i o (by simpa using hi)
    rw [Nat.zero_add] at this
    exact this
  · rw [hF.all g1 hL]
    exact hfin L vs w' hL hJ
  unfold left
  rw [List.filter_eq_self.2 (by simp)]
  simp
end Go.Proofs.Ytcndbmccediknaa
namespace Go.Proofs.Ytcndbmccediknaa
open Go.RowKit
set_option maxRecDepth 100000
set_option linter.unusedVariables false
theorem run_valF {P : Program} {l n : Nat} {ops : Array Oper} {Q : Exit → Act → World → Prop} {K : Act → World → Prop} {o : Oper} {a : Act} {w w' : World} {X : Prop} {v : Value} (hw : Region.wanted o (yielded ops a.tmps) = true) (hnd : ∀ c, o.op ≠ .defer c) (hr : (execOp a.eval o).run P w = .ok (.value v) w') (h : K (a.put o.dst v) w') : if Region.wanted o (yielded ops a.tmps) then o.wpIn (Fence.wide.inRound l) n P a w K Q else X := by
  rw [if_pos hw]
  refine ⟨fun _ _ => trivial, ?_⟩
  show o.uponIn _ n P a K Q ((Oper.semAt (some l) a.eval o).run P w)
  rw [Oper.semAt_some l _ _ hnd, hr]
  exact h
theorem Fr.slot {ops : Array Oper} {a0 a : Act} {L : Nat → Bool} {vs : Nat → Value} (h : Fr ops a0 L vs a) (j t : Nat) (hd : (ops[j]?).bind (·.dst) = some t) (hL : L j = true) : (a.tmps[t]?).getD undef = vs j := by
  cases ho : ops[j]? with
  | none => rw [ho] at hd; cases hd
  | some o =>
    rw [ho] at hd
    have := h.inn j o t ho hL hd
    simpa using this
theorem Fr.old {ops : Array Oper} {a0 a : Act} {L : Nat → Bool} {vs : Nat → Value} (h : Fr ops a0 L vs a) (t : Nat) (hd : ops.toList.all (fun o => o.dst != some t) = true) : (a.tmps[t]?).getD undef = a0.eval (.tmp t) := by
  have e : (a.tmps[t]?).getD undef = a.tmps.getD t undef := by simp
  rw [e]
  refine h.out t fun j o ho _ e => ?_
  have := List.all_eq_true.1 hd o (by have := Array.mem_of_getElem? ho; simpa using this)
  rw [e] at this
  simp at this
theorem updB_ne {L : Nat → Bool} {i j : Nat} (h : j ≠ i) : updB L i j = L j := by simp [updB, h]
theorem updB_eq {L : Nat → Bool} {i : Nat} : updB L i i = true := by simp [updB]
theorem updV_ne {vs : Nat → Value} {i j : Nat} {v : Value} (h : j ≠ i) : updV vs i v j = vs j := by simp [updV, h]
theorem updV_eq {vs : Nat → Value} {i : Nat} {v : Value} : updV vs i v i = v := by simp [updV]
section
variable {W : World} {cs : List Value} {m : Nat} {dps : List (Nat × Nat)} {D : Bool → World → Prop} {L : Nat → Bool} {vs : Nat → Value} {w' : World}
end
end Go.Proofs.Ytcndbmccediknaa
namespace Go.Proofs.Ytcndbmccediknaa
open Go.RowKit Go.Shelf
set_option maxRecDepth 100000
set_option linter.unusedVariables false
attribute [local go_sem] Oper.semAt_some
def hcsD (gs : List (Int × Int)) : List Value := gs.flatMap fun g => [.int .i64 g.1, .int .i64 g.2]
theorem hcsD_snoc (gs : List (Int × Int)) (g : Int × Int) : hcsD (gs ++ [g]) = hcsD gs ++ [.int .i64 g.1, .int .i64 g.2] := by simp [hcsD]
theorem hcsD_at : ∀ (gs : List (Int × Int)) (k : Nat), k < gs.length → (hcsD gs)[k * 2]? = some (.int .i64 (gs.getD k (0, 0)).1) ∧ (hcsD gs)[k * 2 + 1]? = some (.int .i64 (gs.getD k (0, 0)).2)
  | [], k, h => by cases h
  | g :: gs, 0, _ => ⟨rfl, rfl⟩
  | g :: gs, k + 1, h => by
    have ih := hcsD_at gs k (by simpa using h)
    rw [show (k + 1) * 2 = k * 2 + 1 + 1 by omega]
    exact ih
def Hw (base : Nat) (W : World) (v : Value) (gs : List (Int × Int)) : Prop := W.ownsRow base 41 2 v gs.length (hcsD gs)
theorem Hw.nil (base : Nat) (W : World) : Hw base W (.slice none 0 0) [] := ⟨rfl, .inl ⟨rfl, rfl⟩⟩
theorem Hw.own {base : Nat} {W : World} {v : Value} {L : List (Int × Int)} (h : Hw base W v L) {k : Nat} (hk : v.ownBlock = some k) : base ≤ k ∧ ∃ cs, W.heap[k]? = some (.cells cs 41) := by
  rcases h.2 with ⟨e, _⟩ | ⟨g, cap', cur, e, hb', hg, _⟩
  · rw [e] at hk
    cases hk
  rw [e] at hk
  cases hk
  exact ⟨hb', cur, hg⟩
theorem Hw.kept {base : Nat} {W W' : World} {v : Value} {L : List (Int × Int)} (h : Hw base W v L) (hk : ∀ k, v.ownBlock = some k → W'.heap[k]? = W.heap[k]?) : Hw base W' v L := by
  refine ⟨h.1, h.2.imp id ?_⟩
  rintro ⟨g, cap, cur, e, hb, hg, rest⟩
  exact ⟨g, cap, cur, e, hb, (hk g (by rw [e]; rfl)).trans hg, rest⟩
theorem Hw.at {base : Nat} {W : World} {v : Value} {gs : List (Int × Int)} (h : Hw base W v gs) : ∃ a cap, v = .slice a gs.length cap ∧ gs.length ≤ cap ∧ cap ≤ 9223372036854775807 ∧ (0 < gs.length → ∃ g, a = some ⟨g, 0, none⟩ ∧ g < W.heap.size ∧ ∀ i, i < gs.length → W.cell? ⟨g, i * 2, none⟩ = some (.int .i64 (gs.getD i (0, 0)).1) ∧ W.cell? ⟨g, i * 2 + 1, none⟩ = some (.int .i64 (gs.getD i (0, 0)).2)) := by
  rcases h.2 with ⟨e, e0⟩ | ⟨g, cap, cur, e, hb', hg, h1, h2, h3, h4⟩
  · exact ⟨none, 0, by rw [e]; congr 1; omega, by omega, by omega, fun h => by omega⟩
  refine ⟨some ⟨g, 0, none⟩, cap, e, h1, by simp only [maxLen] at h2; omega, fun _ => ⟨g, rfl, (Array.getElem?_eq_some_iff.1 hg).1, fun i hi => ?_⟩⟩
  obtain ⟨q0, q1⟩ := hcsD_at gs i hi
  have ee : ∀ q, q < gs.length * 2 → cur[q]? = (hcsD gs)[q]? := fun q hq => by
    have := congrArg (fun l => l[q]?) h4
    rw [← this, List.getElem?_take_of_lt hq, Array.getElem?_toList]
  simp only [World.cell?, hg]
  rw [← ee _ (by omega)] at q0 q1
  exact ⟨q0, q1⟩
theorem Try.infoHD : (Try.prog.info? 41).map (fun i => (i.zero, i.size, i.bytes)) = some (some (.agg #[.int .i64 0, .int .i64 0]), 2, 16) := by kernel_rfl
theorem app_runH (w : World) (ty : TypeId) (base : Nat) (v : Value) (gs : List (Int × Int)) (hown : Hw base w v gs) (g : Nat) (y : Int × Int) (h0 : w.cell? ⟨g, 0, none⟩ = some (.int .i64 y.1)) (h1 : w.cell? ⟨g, 1, none⟩ = some (.int .i64 y.2)) (hlim : gs.length ≤ 1000000) (hb : base ≤ w.heap.size) :
    ∃ v' w', (Builtin.append_ #[38, 38] ty #[v, .slice (some ⟨g, 0, none⟩) 1 1]).run Try.prog w = .ok v' w' ∧ Hw base w' v' (gs ++ [y]) ∧ w.grownBy w' v.ownBlock := by
  obtain ⟨i, hi, hz, hsz, hby⟩ := info_parts Try.infoHD
  obtain ⟨v', w', r1, r2, r3, _, _⟩ := run_append_own_at (P := Try.prog) w base 38 ty 41 i _ 2 16 Try.underlying38 hi hz hsz hby rfl (by omega) v _ _ hown ⟨g, 0, none⟩ 1 1 (hcsD [y]) rfl (fun j u hj => by
    rw [addr_add, Nat.zero_add]
    match j, hj with
    | 0, hj => cases hj; exact h0
    | 1, hj => cases hj; exact h1
    | j + 2, hj => simp [hcsD] at hj) (fun u' hu' => by
    simp [hcsD] at hu'
    rcases hu' with rfl | rfl <;> rfl) (by simp only [maxLen]; omega) (by omega) hb
  refine ⟨v', w', r1, ?_, r3⟩
  show World.ownsRow _ _ _ _ _ _ _
  rw [List.length_append, hcsD_snoc]
  exact r2
structure Lg (n0 : Nat) (w : World) (gs : List (Int × Int)) (k : Nat) (A : World) : Prop where
  ex : ∃ v, Boxed A n0 38 v ∧ Hw n0 A v (gs.take k)
  bel : Below n0 w A
theorem Hw.below {base : Nat} {W W' : World} {v : Value} {L : List (Int × Int)} (h : Hw base W v L) (hb : Below W.heap.size W W') : Hw base W' v L :=
  h.kept fun k hk => hb.block k (Array.getElem?_eq_some_iff.1 (h.own hk).2.choose_spec).1
theorem Lg.go {n0 : Nat} {w : World} {gs : List (Int × Int)} {k : Nat} {A B : World} (h : Lg n0 w gs k A) (hB : Below A.heap.size A B) : Lg n0 w gs k B := by
  obtain ⟨v, h1, h2⟩ := h.ex
  exact ⟨⟨v, (hB.block _ h1.lt).trans h1, h2.below hB⟩, h.bel.trans (hB.mono (by have := h1.lt; omega))⟩
theorem Lg.put {n0 : Nat} {w : World} {gs : List (Int × Int)} {k : Nat} {A : World} (h : Lg n0 w gs k A) {l : Nat} {o : Obj} (o' : Obj) (ho : A.heap[l]? = some o) (hc : o.isCells = false) (hl : n0 ≤ l) : Lg n0 w gs k (A.putObj l o') := by
  obtain ⟨v, h1, h2⟩ := h.ex
  refine ⟨⟨v, putC o' ho hc h1, h2.kept fun j hj => ?_⟩, ⟨h.bel.os, h.bel.tape, h.bel.output, by simpa using h.bel.size, fun i hi => (World.putObj_heap_other (by omega)).trans (h.bel.block i hi)⟩⟩
  obtain ⟨cs, e⟩ := (h2.own hj).2
  exact (putC o' ho hc e).trans e.symm
theorem run_unitD {P : Program} {l n : Nat} {ops : Array Oper} {Q : Exit → Act → World → Prop} {K : Act → World → Prop} {o : Oper} {a : Act} {w w' : World} {X : Prop} (hw : Region.wanted o (yielded ops a.tmps) = true) (hnd : ∀ c, o.op ≠ .defer c) (hr : (execOp a.eval o).run P w = .ok .skip w') (h : K (a.put o.dst undef) w') : if Region.wanted o (yielded ops a.tmps) then o.wpIn (Fence.wide.inRound l) n P a w K Q else X := by
  rw [if_pos hw]
  refine ⟨fun _ _ => trivial, ?_⟩
  show o.uponIn _ n P a K Q ((Oper.semAt (some l) a.eval o).run P w)
  rw [Oper.semAt_some l _ _ hnd, hr]
  exact h
structure JR (cs : List Value) (W5 W6 W7 W8 : World) (L : Nat → Bool) (vs : Nat → Value) (w' : World) : Prop where
  eq : w' = if L 7 = true then W8 else if L 6 = true then W7 else if L 5 = true then W6 else W5
  val : ∀ j, L j = true → vs j = cs.getD j undef
  c5 : L 5 = true → L 4 = true
  c6 : L 6 = true → L 0 = true ∧ L 5 = true
  c7 : L 7 = true → L 6 = true
section
variable {cs : List Value} {W5 W6 W7 W8 : World} {L : Nat → Bool} {vs : Nat → Value} {w' : World}
theorem JR.start (cs : List Value) (W5 W6 W7 W8 : World) : JR cs W5 W6 W7 W8 (fun _ => false) (fun _ => undef) W5 := ⟨rfl, (fun _ h => by cases h), (fun h => by cases h), (fun h => by cases h), (fun h => by cases h)⟩
theorem JR.vals (h : JR cs W5 W6 W7 W8 L vs w') {j : Nat} {v : Value} (hv : v = cs.getD j undef) : ∀ i, updB L j i = true → updV vs j v i = cs.getD i undef := fun i hi => by
  by_cases e : i = j
  · subst e
    rw [updV_eq]
    exact hv
  rw [updV_ne e]
  rw [updB_ne e] at hi
  exact h.val i hi
theorem JR.read (h : JR cs W5 W6 W7 W8 L vs w') {j : Nat} {v : Value} (hj : j < 5) (hv : v = cs.getD j undef) : JR cs W5 W6 W7 W8 (updB L j) (updV vs j v) w' := by
  have k5 : updB L j 5 = L 5 := updB_ne (by omega)
  have k6 : updB L j 6 = L 6 := updB_ne (by omega)
  have k7 : updB L j 7 = L 7 := updB_ne (by omega)
  have up : ∀ i, L i = true → updB L j i = true := fun i hi => by
    by_cases e : i = j
    · subst e; exact updB_eq
    rw [updB_ne e]; exact hi
  refine ⟨by rw [k5, k6, k7]; exact h.eq, h.vals hv, fun e => ?_, fun e => ?_, fun e => ?_⟩
  · rw [k5] at e; exact up _ (h.c5 e)
  · rw [k6] at e; exact ⟨up _ (h.c6 e).1, up _ (h.c6 e).2⟩
  rw [k7] at e; exact up _ (h.c7 e)
theorem JR.world (h : JR cs W5 W6 W7 W8 L vs w') (e : L 6 = false) : w' = if L 5 = true then W6 else W5 := by
  have e7 : L 7 = false := by
    cases e7 : L 7 with
    | false => rfl
    | true => rw [h.c7 e7] at e; cases e
  have := h.eq
  rw [e7, e] at this
  simpa using this
theorem JR.build (h : JR cs W5 W6 W7 W8 L vs w') (e5 : L 5 = false) (e4 : L 4 = true) {v : Value} (hv : v = cs.getD 5 undef) : w' = W5 ∧ JR cs W5 W6 W7 W8 (updB L 5) (updV vs 5 v) W6 := by
  have e6 : L 6 = false := by
    cases e6 : L 6 with
    | false => rfl
    | true => rw [(h.c6 e6).2] at e5; cases e5
  have e7 : L 7 = false := by
    cases e7 : L 7 with
    | false => rfl
    | true => rw [h.c7 e7] at e6; cases e6
  have hw := h.world e6
  rw [e5] at hw
  have k6 : updB L 5 6 = L 6 := updB_ne (by omega)
  have k7 : updB L 5 7 = L 7 := updB_ne (by omega)
  have k5 : updB L 5 5 = true := updB_eq
  refine ⟨by simpa using hw, by rw [k5, k6, k7, e6, e7]; rfl, h.vals hv, fun _ => ?_, fun e => ?_, fun e => ?_⟩
  · rw [updB_ne (by omega)]; exact e4
  · rw [k6, e6] at e; cases e
  rw [k7, e7] at e; cases e
theorem JR.app (h : JR cs W5 W6 W7 W8 L vs w') (e6 : L 6 = false) (e0 : L 0 = true) (e5 : L 5 = true) {v : Value} (hv : v = cs.getD 6 undef) : w' = W6 ∧ JR cs W5 W6 W7 W8 (updB L 6) (updV vs 6 v) W7 := by
  have e7 : L 7 = false := by
    cases e7 : L 7 with
    | false => rfl
    | true => rw [h.c7 e7] at e6; cases e6
  have hw := h.world e6
  rw [e5] at hw
  have k5 : updB L 6 5 = L 5 := updB_ne (by omega)
  have k7 : updB L 6 7 = L 7 := updB_ne (by omega)
  have k6 : updB L 6 6 = true := updB_eq
  refine ⟨by simpa using hw, by rw [k6, k7, e7]; rfl, h.vals hv, fun _ => ?_, fun _ => ⟨?_, ?_⟩, fun e => ?_⟩
  · rw [updB_ne (by omega)]; exact h.c5 e5
  · rw [updB_ne (by omega)]; exact e0
  · rw [k5]; exact e5
  rw [k7, e7] at e; cases e
theorem JR.store (h : JR cs W5 W6 W7 W8 L vs w') (e7 : L 7 = false) (e6 : L 6 = true) {v : Value} (hv : v = cs.getD 7 undef) : w' = W7 ∧ JR cs W5 W6 W7 W8 (updB L 7) (updV vs 7 v) W8 := by
  have hw := h.eq
  rw [e7, e6] at hw
  have k5 : updB L 7 5 = L 5 := updB_ne (by omega)
  have k6 : updB L 7 6 = L 6 := updB_ne (by omega)
  have k7 : updB L 7 7 = true := updB_eq
  refine ⟨by simpa using hw, by rw [k7]; rfl, h.vals hv, fun e => ?_, fun _ => ⟨?_, ?_⟩, fun _ => ?_⟩
  · rw [updB_ne (by omega)]; rw [k5] at e; exact h.c5 e
  · rw [updB_ne (by omega)]; exact (h.c6 e6).1
  · rw [k5]; exact (h.c6 e6).2
  rw [k6]; exact e6
end
set_option maxHeartbeats 4000000 in
theorem ringD_any (d : Nat) (s : Sd) (w : World) (h : DS w d s) (hlen : s.R.length ≤ 1000000) :
    Calls Try.prog 10 #[.pointer (some ⟨d, 0, none⟩)] w fun e w' => ∃ v, e = .returned v ∧ Hw w.heap.size w' v (s.R.map fun b => ((s.Y b).slot, (s.Y b).gen)) ∧ Below w.heap.size w w' := by
  obtain ⟨n0, en0⟩ : ∃ n0, n0 = w.heap.size := ⟨_, rfl⟩
  obtain ⟨rg, erg⟩ : ∃ rg, rg = s.x.ring := ⟨_, rfl⟩
  have c1 : (w.alloc (.cells #[.slice none 0 0] 38)).cell? ⟨d, 1, none⟩ = some (.pointer (some ⟨rg, 0, none⟩)) := by
    rw [erg]
    exact cell_later ((Below.refl _ _).alloc (Nat.le_refl _) _) (World.rowIs.cell h.dr (i := 1) (by omega))
  have HS : Hid (DS w d s ∧ s.R.length ≤ 1000000 ∧ n0 = w.heap.size ∧ rg = s.x.ring) := ⟨h, hlen, en0, erg⟩
  clear h hlen en0 erg
  refine (callsIn_wide (n := 9)).1 ?_
  refine callsIn_of_wp_marks Try.func10 rfl trivial ?_ rfl
  simp only [Try.ntmps10, List.size_toArray, List.length_cons, List.length_nil, Nat.reduceAdd, Nat.reduceSub, Array.replicate_succ, Array.replicate_zero, List.push_toArray, List.append_toArray, List.nil_append, List.cons_append]
  gi_wp2_with (refine ⟨trivial, ?_⟩; refine (callsIn_wide.2 (allF_any rg _)).mono ?_; rintro e w1 ⟨rfl, rfl⟩)
  obtain ⟨W0, hW0⟩ : ∃ W0, W0 = (w.alloc (.cells #[.slice none 0 0] 38)).alloc (.cells #[.pointer (some ⟨rg, 0, none⟩)] 67) := ⟨_, rfl⟩
  have en0 := HS.out.2.2.1
  have hsz : W0.heap.size = n0 + 2 := by rw [hW0, en0]; simp
  have B0 : Below w.heap.size w W0 := by rw [hW0]; exact ((Below.refl _ w).alloc (Nat.le_refl _) _).alloc (by simp) _
  have b1 : Boxed W0 n0 38 (.slice none 0 0) := by
    have := (Boxed.new w 38 (.slice none 0 0)).alloc (.cells #[.pointer (some ⟨rg, 0, none⟩)] 67)
    rw [hW0, en0]
    exact this
  have cBs : W0.cell? ⟨n0 + 1, 0, none⟩ = some (.pointer (some ⟨rg, 0, none⟩)) := by
    have : W0.cell? ⟨w.heap.size + 1, 0, none⟩ = some (.pointer (some ⟨rg, 0, none⟩)) := by rw [hW0]; simp [go_sem]
    rw [en0]
    exact this
  rw [← hW0, ← en0]
  obtain ⟨gs, egs⟩ : ∃ gs, gs = s.R.map (fun b => ((s.Y b).slot, (s.Y b).gen)) := ⟨_, rfl⟩
  obtain ⟨c, ec⟩ : ∃ c, c = s.R.length := ⟨_, rfl⟩
  have hgl : gs.length = c := by rw [egs, ec]; simp
  have L0 : Lg n0 w gs 0 W0 := ⟨⟨_, b1, Hw.nil _ _⟩, by rw [en0]; exact B0⟩
  have HSZ : Hid (W0.heap.size = n0 + 2 ∧ Below w.heap.size w W0) := ⟨hsz, B0⟩
  have hls : n0 ≤ W0.heap.size := by omega
  obtain ⟨N, f, hr⟩ := (HS.out.1.df.below B0).1.rg
  have hr' : RF W0 rg s.g N f (adrs s.R).length (adrs s.R) := by rw [HS.out.2.2.2]; exact hr
  have hal : (adrs s.R).length = c := by rw [adrs_len, ec]
  rw [hal] at hr'
  have SQ := allG_at 8 (by omega) (n0 + 1) (W0.heap.size + 2) rg s.g N f c (adrs s.R) hal W0 cBs hr'
  have HC : Hid (gs = s.R.map (fun b => ((s.Y b).slot, (s.Y b).gen)) ∧ c = s.R.length ∧ gs.length = c) := ⟨egs, ec, hgl⟩
  clear hW0 B0 en0 hsz b1 hr hr' hal hgl egs ec cBs c1
  refine range_atA (n := 9) (P := Try.prog) rfl (by omega) (gf := 39) (lb := #[.pointer (some ⟨n0 + 1, 0, none⟩)]) rfl trivial (enters_of Try.func39 (by kernel_rfl) rfl)
    SQ (fun h k => h.trans k) (fun A o o' h1 h2 => Kpx.putObj _ _ _ _ A _ o o' h1 h2) (Below.refl _ _) (fun _ => rfl)
    (fun k A => Lg n0 w gs k A) (fun _ _ => False)
    (fun k A B hA hB => hA.go hB)
    (fun k A l o o' hA hl ho hc hw => hA.put o' ho hc (by omega))
    (fun _ _ _ _ _ h _ _ _ _ => h.elim)
    L0
    (fun A B hB => Kpx.of_below hB)
    (fun k a' A => a' = { tmps := #[.pointer (some ⟨d, 0, none⟩), undef, .slice none 0 0, .pointer (some ⟨n0, 0, none⟩), undef, .pointer ((adrs s.R).getD k none), .pointer (some ⟨d, 0, none⟩), .pointer (some ⟨d, 0, none⟩), .pointer (some ⟨d, 1, none⟩), .pointer (some ⟨rg, 0, none⟩), .func (.func 39) #[] #[.pointer (some ⟨n0 + 1, 0, none⟩)], .int .i64 (k : Int), .pointer ((adrs s.R).getD k none), undef, undef, undef, undef, undef, undef, undef, undef], defers := [] })
    (fun k a' A l o o' h1 hl ho hc hw => h1) ?assign ?body ?done ?stop
  case assign =>
    intro l' k A K hk hi' hK
    have HK : Hid _ := hK _ A (Below.refl _ _) rfl
    clear hK hi'
    unfold encG
    gi_wp2_with fail
    exact HK.out
  case body =>
    rintro l' k a' A hk hl' hlr hi' rfl
    obtain ⟨v5, hb, ho⟩ := hi'.ex
    have hkl : k < s.R.length := by have := HC.out.2.1; omega
    obtain ⟨b, eb⟩ : ∃ b, b = s.nth k := ⟨_, rfl⟩
    have had : (adrs s.R).getD k none = some ⟨b, 0, none⟩ := by rw [eb]; exact adrs_getD hkl
    rw [had]
    obtain ⟨j, hF⟩ := HS.out.1.inr _ (nth_mem hkl)
    rw [← eb] at hF
    have hfl := HS.out.1.fl _ _ hF
    obtain ⟨sl, esl⟩ : ∃ x, x = (s.Y b).slot := ⟨_, rfl⟩
    obtain ⟨gn, egn⟩ : ∃ x, x = (s.Y b).gen := ⟨_, rfl⟩
    have BA : Below w.heap.size w A := by have := hi'.bel; rw [HS.out.2.2.1] at this; exact this
    obtain ⟨W5, eW5⟩ : ∃ W5, W5 = A.drew := ⟨_, rfl⟩
    have hh5 : W5.heap = A.heap := by rw [eW5]; rfl
    have x0 : W5.cell? ⟨b, 0, none⟩ = some (.int .i64 sl) := by rw [eW5, esl]; exact cell_later (bel_drew BA) (World.rowIs.cell hfl (i := 0) (by omega))
    have x1 : W5.cell? ⟨b, 1, none⟩ = some (.int .i64 gn) := by rw [eW5, egn]; exact cell_later (bel_drew BA) (World.rowIs.cell hfl (i := 1) (by omega))
    have y5 : W5.cell? ⟨n0, 0, none⟩ = some v5 := by rw [eW5]; exact hb.cell
    obtain ⟨W6, eW6⟩ : ∃ W6, W6 = W5.alloc (.cells #[.int .i64 sl, .int .i64 gn] 41) := ⟨_, rfl⟩
    obtain ⟨g, eg⟩ : ∃ g, g = W5.heap.size := ⟨_, rfl⟩
    have B6 : Below W5.heap.size W5 W6 := by rw [eW6]; exact (Below.refl _ _).alloc (Nat.le_refl _) _
    have hg6 : W6.heap[g]? = some (.cells #[.int .i64 sl, .int .i64 gn] 41) := by rw [eW6, eg]; exact (MapKept.heap_alloc _ _).1
    have x60 : W6.cell? ⟨b, 0, none⟩ = some (.int .i64 sl) := cell_later B6 x0
    have x61 : W6.cell? ⟨b, 1, none⟩ = some (.int .i64 gn) := cell_later B6 x1
    have y6 : W6.cell? ⟨n0, 0, none⟩ = some v5 := cell_later B6 y5
    have ho5 : Hw n0 W5 v5 (gs.take k) := ho.kept fun i _ => by rw [hh5]
    have hbl := hb.lt
    have hsz5 : W5.heap.size = A.heap.size := by rw [hh5]
    have hlim : (gs.take k).length ≤ 1000000 := by
      have := HC.out.2.2
      have := HC.out.2.1
      have := HS.out.2.1
      rw [List.length_take]
      omega
    obtain ⟨v7, W7, hr, ho7, hgr⟩ := app_runH W6 38 n0 v5 (gs.take k) (ho5.below B6) g (sl, gn) (by simp [World.cell?, hg6]) (by simp [World.cell?, hg6]) hlim (by have := B6.size; omega)
    obtain ⟨a7, c7, ev7, _, _, _⟩ := ho7.at
    have hnb : v5.ownBlock ≠ some n0 := fun e => by
      obtain ⟨cs, e2⟩ := (ho.own e).2
      have := hb
      unfold Boxed at this
      rw [e2] at this
      simp at this
    have hb6 : Boxed W6 n0 38 v5 := by
      have e5 : Boxed W5 n0 38 v5 := by unfold Boxed; rw [hh5]; exact hb
      exact (B6.block _ e5.lt).trans e5
    have hb7 : Boxed W7 n0 38 v5 := (hgr.block n0 hb6.lt (fun e => hnb e.symm)).trans hb6
    obtain ⟨n7, en7⟩ : ∃ n7, n7 = (gs.take k ++ [(sl, gn)]).length := ⟨_, rfl⟩
    rw [← en7] at ev7
    obtain ⟨W8, eW8⟩ : ∃ W8, W8 = W7.setCell ⟨n0, 0, none⟩ v7 := ⟨_, rfl⟩
    have z7 : W7.frozen? ⟨n0, 0, none⟩ = false := hb7.frozen
    have y7 : W7.cell? ⟨n0, 0, none⟩ = some v5 := hb7.cell
    have hkeep : ∀ i o, A.heap[i]? = some o → i ≠ n0 → v5.ownBlock ≠ some i → W8.heap[i]? = some o := fun i o e h1 h2 => by
      have hi : i < A.heap.size := (Array.getElem?_eq_some_iff.1 e).1
      rw [eW8, Below.heap_setCell _ _ _ i h1, hgr.block i (by have := B6.size; omega) (fun e => h2 e.symm), B6.block i (by omega), hh5]
      exact e
    have hs8 : A.heap.size ≤ W8.heap.size := by
      have := B6.size
      have := hgr.size
      have e8 : (W7.setCell ⟨n0, 0, none⟩ v7).heap.size = W7.heap.size := by simp
      rw [eW8]
      omega
    have hfin : KeepsL W0.heap.size A W8 ∧ Kpx (W0.heap.size + 2) 71 c (fun j => Value.pointer ((adrs s.R).getD j none)) A W8 ∧ Lg n0 w gs (k + 1) W8 := by
      refine ⟨⟨hs8, fun i o _ e h1 _ => hkeep i o e (fun h2 => ?_) (fun h2 => ?_)⟩, ⟨hs8, fun i _ hrow => ?_⟩, ⟨⟨v7, ?_, ?_⟩, ?_⟩⟩
      · subst h2
        have := hb
        unfold Boxed at this
        rw [this] at e
        cases e
        cases h1
      · obtain ⟨cs, e2⟩ := (ho.own h2).2
        rw [e2] at e
        cases e
        cases h1
      · obtain ⟨cs, e2, _⟩ := id hrow
        refine hrow.of_block ((hkeep i _ e2 (fun h2 => ?_) (fun h2 => ?_)).trans e2.symm)
        · subst h2
          have := hb
          unfold Boxed at this
          rw [this] at e2
          simp at e2
        obtain ⟨cs, e3⟩ := (ho.own h2).2
        rw [e3] at e2
        simp at e2
      · rw [eW8]
        exact hb7.set _
      · have e9 : gs.take (k + 1) = gs.take k ++ [(sl, gn)] := by
          have hk' : k < gs.length := by have := HC.out.2.2; omega
          rw [List.take_add_one, List.getElem?_eq_getElem hk']
          simp only [Option.toList_some]
          congr 2
          have : gs[k] = ((s.Y (s.nth k)).slot, (s.Y (s.nth k)).gen) := by
            simp only [HC.out.1, List.getElem_map, Sd.nth, List.getD_eq_getElem?_getD, List.getElem?_eq_getElem hkl, Option.getD_some]
          rw [this, ← eb, ← esl, ← egn]
        rw [e9, eW8]
        refine ho7.kept fun i hi => Below.heap_setCell _ _ _ i fun e => ?_
        subst e
        obtain ⟨cs, e2⟩ := (ho7.own hi).2
        have := hb7
        unfold Boxed at this
        rw [e2] at this
        simp at this
      refine ⟨?_, ?_, ?_, ?_, fun i hi => ?_⟩
      · rw [eW8]; exact hgr.os.trans (B6.os.trans (by rw [eW5]; exact hi'.bel.os))
      · rw [eW8]; exact hgr.tape.trans (B6.tape.trans (by rw [eW5]; exact hi'.bel.tape))
      · rw [eW8]; exact hgr.output.trans (B6.output.trans (by rw [eW5]; exact hi'.bel.output))
      · exact Nat.le_trans hi'.bel.size hs8
      have hi2 : i < A.heap.size := by omega
      rw [← hi'.bel.block i hi]
      rw [Array.getElem?_eq_getElem hi2]
      refine hkeep i _ (Array.getElem?_eq_getElem hi2) (by omega) fun e => ?_
      have := (ho.own e).1
      omega
    clear hkeep hs8 hnb hb hb6 hb7 ho ho5 ho7 hgr hfl hF had hi' BA hh5 hsz5 hbl hlim B6
    subst ev7
    gi_wp2_with fail
    refine wpIn_region_inv (JR [v5, .pointer (some ⟨b, 0, none⟩), .pointer (some ⟨b, 0, none⟩), .pointer (some ⟨b, 0, none⟩), .agg #[.int .i64 sl, .int .i64 gn], .slice (some ⟨g, 0, none⟩) 1 1, .slice a7 n7 c7, undef] W5 W6 W7 W8) 21 (by kernel_rfl) rfl (by kernel_rfl) (by rw [eW5]; exact JR.start _ _ _ _ _) (fun _ _ => ⟨?_, ?_, ?_, ?_, ?_, ?_, ?_, ?_, trivial⟩) ?_
    · intro L vs a9 w' hJ hF hP hL
      have q3 : (a9.tmps[3]?).getD undef = .pointer (some ⟨n0, 0, none⟩) := hF.old 3 rfl
      have e6 : L 6 = false := by
        cases e6 : L 6 with
        | false => rfl
        | true => rw [(hJ.c6 e6).1] at hL; cases hL
      have hc : w'.cell? ⟨n0, 0, none⟩ = some v5 := by
        rw [hJ.world e6]
        split
        · exact y6
        exact y5
      exact run_valF (v := v5) rfl (fun c h => by cases h) (by simp [execOp, go_sem, q3, hc]) ⟨_, rfl, hJ.read (by omega) rfl⟩
    · intro L vs a9 w' hJ hF hP hL
      have q5 : (a9.tmps[5]?).getD undef = .pointer (some ⟨b, 0, none⟩) := hF.old 5 rfl
      exact run_valF (v := .pointer (some ⟨b, 0, none⟩)) rfl (fun c h => by cases h) (by simp [execOp, go_sem, q5]) ⟨_, rfl, hJ.read (by omega) rfl⟩
    · intro L vs a9 w' hJ hF hP hL
      have p1 : L 1 = true := hP ⟨1, .data⟩ (by simp) rfl
      have s14 := hF.slot 1 14 rfl p1
      rw [hJ.val 1 p1] at s14
      simp only [List.getD_cons_zero, List.getD_cons_succ] at s14
      exact run_valF (v := .pointer (some ⟨b, 0, none⟩)) rfl (fun c h => by cases h) (by simp [execOp, go_sem, s14]) ⟨_, rfl, hJ.read (by omega) rfl⟩
    · intro L vs a9 w' hJ hF hP hL
      have p2 : L 2 = true := hP ⟨2, .data⟩ (by simp) rfl
      have s15 := hF.slot 2 15 rfl p2
      rw [hJ.val 2 p2] at s15
      simp only [List.getD_cons_zero, List.getD_cons_succ] at s15
      exact run_valF (v := .pointer (some ⟨b, 0, none⟩)) rfl (fun c h => by cases h) (by simp [execOp, go_sem, s15]) ⟨_, rfl, hJ.read (by omega) rfl⟩
    · intro L vs a9 w' hJ hF hP hL
      have p3 : L 3 = true := hP ⟨3, .data⟩ (by simp) rfl
      have s16 := hF.slot 3 16 rfl p3
      rw [hJ.val 3 p3] at s16
      simp only [List.getD_cons_zero, List.getD_cons_succ] at s16
      have e6 : L 6 = false := by
        cases e6 : L 6 with
        | false => rfl
        | true => rw [hJ.c5 (hJ.c6 e6).2] at hL; cases hL
      have hc : w'.cell? ⟨b, 0, none⟩ = some (.int .i64 sl) ∧ w'.cell? ⟨b, 1, none⟩ = some (.int .i64 gn) := by
        rw [hJ.world e6]
        split
        · exact ⟨x60, x61⟩
        exact ⟨x0, x1⟩
      obtain ⟨h0, h1⟩ := hc
      exact run_valF (v := .agg #[.int .i64 sl, .int .i64 gn]) rfl (fun c h => by cases h) (by simp [execOp, go_sem, s16, h0, h1]) ⟨_, rfl, hJ.read (by omega) rfl⟩
    · intro L vs a9 w' hJ hF hP hL
      have p4 : L 4 = true := hP ⟨4, .data⟩ (by simp) rfl
      have s17 := hF.slot 4 17 rfl p4
      rw [hJ.val 4 p4] at s17
      simp only [List.getD_cons_zero, List.getD_cons_succ] at s17
      obtain ⟨hw, hJ'⟩ := hJ.build hL p4 (v := .slice (some ⟨g, 0, none⟩) 1 1) rfl
      subst hw
      exact run_valF (v := .slice (some ⟨g, 0, none⟩) 1 1) (w' := W6) rfl (fun c h => by cases h) (by simp [execOp, go_sem, s17, eg, eW6]) ⟨_, rfl, hJ'⟩
    · intro L vs a9 w' hJ hF hP hL
      have p0 : L 0 = true := hP ⟨0, .data⟩ (by simp) rfl
      have p5 : L 5 = true := hP ⟨5, .data⟩ (by simp) rfl
      have s13 := hF.slot 0 13 rfl p0
      rw [hJ.val 0 p0] at s13
      have s18 := hF.slot 5 18 rfl p5
      rw [hJ.val 5 p5] at s18
      simp only [List.getD_cons_zero, List.getD_cons_succ] at s13 s18
      obtain ⟨hw, hJ'⟩ := hJ.app hL p0 p5 (v := .slice a7 n7 c7) rfl
      subst hw
      exact run_valF (v := .slice a7 n7 c7) (w' := W7) rfl (fun c h => by cases h) (by
        have h13 : a9.eval (.tmp 13) = v5 := by simpa [Act.eval] using s13
        have h18 : a9.eval (.tmp 18) = .slice (some ⟨g, 0, none⟩) 1 1 := by simpa [Act.eval] using s18
        simp [execOp, resolve, invoke, builtin, h13, h18, hr, Result.andThen]) ⟨_, rfl, hJ'⟩
    · intro L vs a9 w' hJ hF hP hL
      have p6 : L 6 = true := hP ⟨6, .data⟩ (by simp) rfl
      have s19 := hF.slot 6 19 rfl p6
      rw [hJ.val 6 p6] at s19
      simp only [List.getD_cons_zero, List.getD_cons_succ] at s19
      have q3 : (a9.tmps[3]?).getD undef = .pointer (some ⟨n0, 0, none⟩) := hF.old 3 rfl
      obtain ⟨hw, hJ'⟩ := hJ.store hL p6 (v := undef) rfl
      subst hw
      exact run_unitD (w' := W8) rfl (fun c h => by cases h) (by simp [execOp, go_sem, q3, s19, y7, z7, eW8]) ⟨_, rfl, hJ'⟩
    intro L vs w' hL hJ
    have h7 : L 7 = true := hL 7 (by decide)
    have hw := hJ.eq
    rw [if_pos h7] at hw
    rw [hw]
    exact hfin
  case done =>
    intro D W hD hI hK
    obtain ⟨v, hb, ho⟩ := hI.ex
    have hc := hb.cell
    have hI2 := hI.put (.deferred none) hK rfl (by omega)
    obtain ⟨v', hb', ho'⟩ := hI2.ex
    have ev : v' = v := by
      have := putC (.deferred none) hK rfl hb
      unfold Boxed at hb'
      rw [this] at hb'
      simpa using hb'.symm
    subst ev
    have hfin : Hw n0 (W.putObj D (.deferred none)) v' (s.R.map fun b => ((s.Y b).slot, (s.Y b).gen)) ∧ Below n0 w (W.putObj D (.deferred none)) := by
      refine ⟨?_, hI2.bel⟩
      rw [← HC.out.1, ← List.take_length (l := gs), HC.out.2.2]
      exact ho'
    have HD : Hid (Hw n0 (W.putObj D (.deferred none)) v' (s.R.map fun b => ((s.Y b).slot, (s.Y b).gen)) ∧ Below n0 w (W.putObj D (.deferred none))) := hfin
    clear hfin hb hb' ho ho' hI hI2
    gi_wp2_with fail
    refine ⟨by simp, .inl ⟨_, _, rfl, run_takeDeferred hK, ?_⟩⟩
    refine ⟨_, results_tmp rfl _ _ _, v', rfl, ?_, ?_⟩
    · rw [← HS.out.2.2.1]; exact HD.out.1
    rw [← HS.out.2.2.1]; exact HD.out.2
  case stop =>
    intro D c' W hD h _
    exact h.elim
end Go.Proofs.Ytcndbmccediknaa
namespace Go.Proofs.Ytcndbmccediknaa
set_option maxRecDepth 100000
set_option linter.unusedVariables false
theorem Iv.mono {m m' : Int} {n : Nat} {x : Wv} {s : Sd} {P : Nat → List Pk} {c : Nat → Nat} (h : Iv m n x s P c) (hm : m ≤ m') : Iv m' n x s P c :=
  { h with kp := h.kp.mono hm }
theorem mostOf_le (mo kd sz : Int) : mo ≤ mostOf mo kd sz := by
  unfold mostOf
  split
  · omega
  split <;> omega
theorem mostOf_max {mo kd sz : Int} (h : mo ≤ 1024) : mostOf mo kd sz ≤ 1024 := by
  have := szOf_le sz
  unfold mostOf
  split
  · omega
  split <;> omega
theorem mostOf_sz {mo kd sz : Int} (h1 : ¬ kd = 1) (h2 : ¬ kd = 2) (h3 : ¬ kd = 3) : szOf sz ≤ mostOf mo kd sz := by
  unfold mostOf
  rw [if_neg (by rintro (e | e | e) <;> contradiction)]
  split <;> omega
def Sd.holds (s : Sd) (b : Nat) : Prop := s.x.turn = true ∧ s.nth 0 = b
theorem Iv.deficit {m : Int} {n : Nat} {x : Wv} {s : Sd} {P : Nat → List Pk} {c : Nat → Nat} (I : Iv m n x s P c) (hm : 0 ≤ m) {f : Nat} (hf : f < 4) :
    0 ≤ s.deficit (c f) ∧ s.deficit (c f) < x.Q f + m + 1 ∧ (P f = [] → s.deficit (c f) = 0) ∧ (P f ≠ [] → ¬ s.holds (c f) → s.deficit (c f) < ((P f).headD Pk.zero).size) := by
  have hq := I.qn f hf
  by_cases hP : P f = []
  · have hni : c f ∉ s.R := fun e => (I.ri f hf).1 e hP
    have hd : s.deficit (c f) = 0 := by
      unfold Sd.deficit
      rw [if_neg]
      · exact I.ko f hf hP
      rintro ⟨e1, e2⟩
      have h0 := I.kp.tr e1
      exact hni (by rw [← e2]; exact getD_mem h0)
    rw [hd]
    exact ⟨by omega, by omega, fun _ => rfl, fun e => absurd hP e⟩
  have hi : c f ∈ s.R := (I.ri f hf).2 hP
  have h1 := I.kp.hi _ hi
  have h2 := I.kp.lo _ hi
  rw [hq.1] at h2
  unfold Sd.deficit Sd.holds
  by_cases hh : s.x.turn = true ∧ s.nth 0 = c f
  · rw [if_pos hh, hq.1]
    exact ⟨by omega, by omega, fun e => absurd e hP, fun _ e => absurd hh e⟩
  rw [if_neg hh]
  obtain ⟨i, hil, hic⟩ := at_mem hi
  have hic' : s.R.getD i 0 = c f := hic
  have ho := I.kp.own i hil (by
    rcases Nat.eq_zero_or_pos i with e | e
    · right
      cases e3 : s.x.turn with
      | false => rfl
      | true =>
        refine absurd ⟨e3, ?_⟩ hh
        subst e
        exact hic'
    exact .inl e)
  rw [hic', I.qe f hf] at ho
  have hs := I.kp.size hi
  rw [I.qe f hf] at hs
  exact ⟨ho.1, by omega, fun e => absurd e hP, fun _ _ => ho.2⟩
theorem Iv.cnt {m : Int} {n : Nat} {x : Wv} {s : Sd} {P : Nat → List Pk} {c : Nat → Nat} (I : Iv m n x s P c) {f : Nat} (hf : f < 4) : s.R.count (c f) = if P f = [] then 0 else 1 := by
  by_cases hP : P f = []
  · rw [if_pos hP]
    exact List.count_eq_zero.2 (fun e => (I.ri f hf).1 e hP)
  rw [if_neg hP]
  have h1 : 0 < s.R.count (c f) := List.count_pos_iff.2 ((I.ri f hf).2 hP)
  have h2 : s.R.count (c f) ≤ 1 := List.nodup_iff_count.1 I.kp.nd _
  omega
theorem count_sum (c : Nat → Nat) (hc : ∀ f g, f < 4 → g < 4 → c f = c g → f = g) : ∀ R : List Nat, (∀ b, b ∈ R → ∃ f, f < 4 ∧ b = c f) → R.count (c 0) + R.count (c 1) + R.count (c 2) + R.count (c 3) = R.length
  | [], _ => rfl
  | b :: R, h => by
    have ih := count_sum c hc R (fun b hb => h b (List.mem_cons_of_mem _ hb))
    obtain ⟨f, hf, e⟩ := h b (List.mem_cons_self ..)
    have ne : ∀ g, g < 4 → g ≠ f → ¬ (b == c g) = true := fun g hg hgf e2 => by
      rw [e] at e2
      exact hgf (hc _ _ hf hg (by simpa using e2)).symm
    have eq : (b == c f) = true := by rw [e]; simp
    simp only [List.count_cons, List.length_cons]
    have h4 : f = 0 ∨ f = 1 ∨ f = 2 ∨ f = 3 := by omega
    rcases h4 with rfl | rfl | rfl | rfl
    · rw [if_pos eq, if_neg (ne 1 (by omega) (by omega)), if_neg (ne 2 (by omega) (by omega)), if_neg (ne 3 (by omega) (by omega))]
      omega
    · rw [if_pos eq, if_neg (ne 0 (by omega) (by omega)), if_neg (ne 2 (by omega) (by omega)), if_neg (ne 3 (by omega) (by omega))]
      omega
    · rw [if_pos eq, if_neg (ne 0 (by omega) (by omega)), if_neg (ne 1 (by omega) (by omega)), if_neg (ne 3 (by omega) (by omega))]
      omega
    rw [if_pos eq, if_neg (ne 0 (by omega) (by omega)), if_neg (ne 1 (by omega) (by omega)), if_neg (ne 2 (by omega) (by omega))]
    omega
theorem count_take {R : List Nat} {k b : Nat} (hk : k < R.length) : (R.take (k + 1)).count b = (R.take k).count b + (if R.getD k 0 = b then 1 else 0) := by
  rw [List.take_add_one, List.getElem?_eq_getElem hk, List.count_append]
  congr 1
  rw [List.getD_eq_getElem?_getD, List.getElem?_eq_getElem hk]
  simp only [Option.toList_some, Option.getD_some, List.count_cons, List.count_nil]
  by_cases e : R[k] = b
  · rw [if_pos e, if_pos (by simpa using e)]
  rw [if_neg e, if_neg (by simpa using e)]
end Go.Proofs.Ytcndbmccediknaa
namespace Go.Proofs.Ytcndbmccediknaa
open Go.RowKit
set_option maxRecDepth 100000
set_option linter.unusedVariables false
structure Lx (w0 : World) (b : Nat) (x : Wv) (s : Sd) (P : Nat → List Pk) (wr : World) : Prop where
  ws : WS wr b x s P
  bel : Below w0.heap.size w0 wr
  mn : ∀ k, Mine x.d s k → w0.heap.size ≤ k
  bb : w0.heap.size ≤ b
section
variable {w0 : World} {b : Nat} {x : Wv} {s : Sd} {P : Nat → List Pk} {wr : World}
theorem Lx.mv (h : Lx w0 b x s P wr) {x' : Wv} {s' : Sd} {P' : Nat → List Pk} {w' : World} (k : WF b x.d s wr x' s' P' w') : Lx w0 b x' s' P' w' := by
  have hs := h.bel.size
  refine ⟨k.ws, ⟨k.fb.os.trans h.bel.os, k.fb.tape.trans h.bel.tape, k.fb.output.trans h.bel.output, Nat.le_trans hs k.fb.size, fun i hi => (k.fb.block i (by omega) (fun e => by have := h.bb; omega) (fun e => by have := h.mn i e; omega)).trans (h.bel.block i hi)⟩, fun j hj => ?_, h.bb⟩
  rw [k.dd] at hj
  rcases k.fb.mine j hj with e | e
  · exact h.mn j e
  omega
theorem Lx.below (h : Lx w0 b x s P wr) {w' : World} (k : Below wr.heap.size wr w') : Lx w0 b x s P w' := h.mv (h.ws.wf.below k)
end
def Sd.hld (s : Sd) : Int × Int := if s.x.turn = true then ((s.Y (s.nth 0)).slot, (s.Y (s.nth 0)).gen) else (0, 0)
theorem turnD_any (d : Nat) (s : Sd) (w : World) (h : DS w d s) (htr : s.x.turn = true → 0 < s.R.length) : Calls Try.prog 11 #[.pointer (some ⟨d, 0, none⟩)] w fun e w' => e = .returned (.tuple #[.agg #[.int .i64 s.hld.1, .int .i64 s.hld.2], .bool s.x.turn]) ∧ Below w.heap.size w w' := by
  unfold Sd.hld
  cases e : s.x.turn with
  | false =>
    rw [if_neg (by decide)]
    exact turnD_no d s.x w h.dr e
  | true =>
    rw [if_pos rfl]
    exact turnD_yes d s w h e (htr e)
theorem ring_handle {m : Int} {n : Nat} {x : Wv} {s : Sd} {P : Nat → List Pk} {c : Nat → Nat} {w : World} (I : Iv m n x s P c) (h : DS w x.d s) {g : Nat} (hg : g < 4) : (s.Y (c g)).slot = (g : Int) ∧ (s.Y (c g)).gen = x.Gen g :=
  ⟨h.sl _ _ (I.op g hg), I.ge g hg⟩
theorem ring_same {m : Int} {n : Nat} {x : Wv} {s : Sd} {P : Nat → List Pk} {c : Nat → Nat} {w : World} (I : Iv m n x s P c) (h : DS w x.d s) {b f : Nat} (hb : b ∈ s.R) (hf : f < 4) : (b = c f → (s.Y b).slot = (f : Int) ∧ (s.Y b).gen = x.Gen f) ∧ (¬ b = c f → ¬ (s.Y b).slot = (f : Int)) := by
  refine ⟨fun e => by rw [e]; exact ring_handle I h hf, fun e e2 => ?_⟩
  obtain ⟨g, hg, rfl⟩ := I.ir b hb
  rw [(ring_handle I h hg).1] at e2
  have : g = f := by omega
  rw [this] at e
  exact e rfl
theorem deficit_any {m : Int} {n : Nat} {x : Wv} {s : Sd} {P : Nat → List Pk} {c : Nat → Nat} {w : World} (I : Iv m n x s P c) (hm : m ≤ 1024) (h : DS w x.d s) {f : Nat} (hf : f < 4) :
    Calls Try.prog 13 #[.pointer (some ⟨x.d, 0, none⟩), .agg #[.int .i64 (f : Int), .int .i64 (x.Gen f)]] w fun e w' => e = .returned (.tuple #[.int .i64 (s.deficit (c f)), .int .i64 0]) ∧ Below w.heap.size w w' := by
  have hq := I.qn f hf
  have hk : -1000 ≤ (s.Y (c f)).kept ∧ (s.Y (c f)).kept ≤ 1024 := by
    by_cases hP : P f = []
    · rw [I.ko f hf hP]; omega
    have hi := (I.ri f hf).2 hP
    have h1 := I.kp.hi _ hi
    have h2 := I.kp.lo _ hi
    omega
  exact deficitD_any x.d s (f : Int) (x.Gen f) (c f) w h (by omega) (by omega) (I.op f hf) (I.ge f hf) I.kp.tr (by omega) (by omega) (by omega) (by omega)
def sg (R : List Nat) (c : Nat → Nat) : Nat → Nat
  | 0 => 0
  | f + 1 => sg R c f + R.count (c f)
theorem sg_all {m : Int} {n : Nat} {x : Wv} {s : Sd} {P : Nat → List Pk} {c : Nat → Nat} (I : Iv m n x s P c) : sg s.R c 4 = s.R.length := by
  have := count_sum c I.ij s.R I.ir
  show 0 + s.R.count (c 0) + s.R.count (c 1) + s.R.count (c 2) + s.R.count (c 3) = _
  omega
theorem sg_le (R : List Nat) (c : Nat → Nat) : ∀ f, sg R c f ≤ f * R.length
  | 0 => Nat.zero_le _
  | f + 1 => by
    have h1 := sg_le R c f
    have h2 : R.count (c f) ≤ R.length := List.count_le_length
    show sg R c f + R.count (c f) ≤ _
    rw [Nat.add_mul, Nat.one_mul]
    omega
end Go.Proofs.Ytcndbmccediknaa
