/- Contracts of the program's functions, part 31: own work, joined in build order. -/
import Derived.Test.YtmghkkaoblkmpaaJ30
import Derived.Laws.EntriesVeiled
namespace Go.Proofs.Ytmghkkaoblkmpaa
open Go.RowKit Go.Shelf
set_option maxRecDepth 100000
set_option linter.unusedVariables false
attribute [local go_sem] Oper.semAt_some
theorem fn_nil (cp : Array Value) (w : World) : (binOp .eql 30 (.func (.func 36) #[] cp) .nilFunc).run Try.prog w = .ok (.bool false) w := by kernel_rfl
theorem heap_alloc_if (w : World) (o : Obj) (k : Nat) : (w.alloc o).heap[k]? = if k = w.heap.size then some o else w.heap[k]? := by
  split
  · rename_i e
    subst e
    exact World.alloc_heap_new w o
  · rename_i e
    rcases Nat.lt_or_ge k w.heap.size with h | h
    · exact Below.heap_alloc _ _ _ h
    · rw [Array.getElem?_eq_none (by simp; omega), Array.getElem?_eq_none (by omega)]
theorem nine (w : World) (o0 o1 o2 o3 o4 o5 o6 o7 o8 : Obj) : (((((((((w.alloc o0).alloc o1).alloc o2).alloc o3).alloc o4).alloc o5).alloc o6).alloc o7).alloc o8).heap[w.heap.size + 0]? = some o0 ∧ (((((((((w.alloc o0).alloc o1).alloc o2).alloc o3).alloc o4).alloc o5).alloc o6).alloc o7).alloc o8).heap[w.heap.size + 1]? = some o1 ∧ (((((((((w.alloc o0).alloc o1).alloc o2).alloc o3).alloc o4).alloc o5).alloc o6).alloc o7).alloc o8).heap[w.heap.size + 2]? = some o2 ∧ (((((((((w.alloc o0).alloc o1).alloc o2).alloc o3).alloc o4).alloc o5).alloc o6).alloc o7).alloc o8).heap[w.heap.size + 3]? = some o3 ∧ (((((((((w.alloc o0).alloc o1).alloc o2).alloc o3).alloc o4).alloc o5).alloc o6).alloc o7).alloc o8).heap[w.heap.size + 4]? = some o4 ∧ (((((((((w.alloc o0).alloc o1).alloc o2).alloc o3).alloc o4).alloc o5).alloc o6).alloc o7).alloc o8).heap[w.heap.size + 5]? = some o5 ∧ (((((((((w.alloc o0).alloc o1).alloc o2).alloc o3).alloc o4).alloc o5).alloc o6).alloc o7).alloc o8).heap[w.heap.size + 6]? = some o6 ∧ (((((((((w.alloc o0).alloc o1).alloc o2).alloc o3).alloc o4).alloc o5).alloc o6).alloc o7).alloc o8).heap[w.heap.size + 7]? = some o7 ∧ (((((((((w.alloc o0).alloc o1).alloc o2).alloc o3).alloc o4).alloc o5).alloc o6).alloc o7).alloc o8).heap[w.heap.size + 8]? = some o8 := by
  refine ⟨?_, ?_, ?_, ?_, ?_, ?_, ?_, ?_, ?_⟩
  · rw [heap_alloc_if, if_neg (by simp <;> omega)]; rw [heap_alloc_if, if_neg (by simp <;> omega)]; rw [heap_alloc_if, if_neg (by simp <;> omega)]; rw [heap_alloc_if, if_neg (by simp <;> omega)]; rw [heap_alloc_if, if_neg (by simp <;> omega)]; rw [heap_alloc_if, if_neg (by simp <;> omega)]; rw [heap_alloc_if, if_neg (by simp <;> omega)]; rw [heap_alloc_if, if_neg (by simp <;> omega)]; rw [heap_alloc_if, if_pos (by simp <;> omega)]
  · rw [heap_alloc_if, if_neg (by simp <;> omega)]; rw [heap_alloc_if, if_neg (by simp <;> omega)]; rw [heap_alloc_if, if_neg (by simp <;> omega)]; rw [heap_alloc_if, if_neg (by simp <;> omega)]; rw [heap_alloc_if, if_neg (by simp <;> omega)]; rw [heap_alloc_if, if_neg (by simp <;> omega)]; rw [heap_alloc_if, if_neg (by simp <;> omega)]; rw [heap_alloc_if, if_pos (by simp <;> omega)]
  · rw [heap_alloc_if, if_neg (by simp <;> omega)]; rw [heap_alloc_if, if_neg (by simp <;> omega)]; rw [heap_alloc_if, if_neg (by simp <;> omega)]; rw [heap_alloc_if, if_neg (by simp <;> omega)]; rw [heap_alloc_if, if_neg (by simp <;> omega)]; rw [heap_alloc_if, if_neg (by simp <;> omega)]; rw [heap_alloc_if, if_pos (by simp <;> omega)]
  · rw [heap_alloc_if, if_neg (by simp <;> omega)]; rw [heap_alloc_if, if_neg (by simp <;> omega)]; rw [heap_alloc_if, if_neg (by simp <;> omega)]; rw [heap_alloc_if, if_neg (by simp <;> omega)]; rw [heap_alloc_if, if_neg (by simp <;> omega)]; rw [heap_alloc_if, if_pos (by simp <;> omega)]
  · rw [heap_alloc_if, if_neg (by simp <;> omega)]; rw [heap_alloc_if, if_neg (by simp <;> omega)]; rw [heap_alloc_if, if_neg (by simp <;> omega)]; rw [heap_alloc_if, if_neg (by simp <;> omega)]; rw [heap_alloc_if, if_pos (by simp <;> omega)]
  · rw [heap_alloc_if, if_neg (by simp <;> omega)]; rw [heap_alloc_if, if_neg (by simp <;> omega)]; rw [heap_alloc_if, if_neg (by simp <;> omega)]; rw [heap_alloc_if, if_pos (by simp <;> omega)]
  · rw [heap_alloc_if, if_neg (by simp <;> omega)]; rw [heap_alloc_if, if_neg (by simp <;> omega)]; rw [heap_alloc_if, if_pos (by simp <;> omega)]
  · rw [heap_alloc_if, if_neg (by simp <;> omega)]; rw [heap_alloc_if, if_pos (by simp <;> omega)]
  · rw [heap_alloc_if, if_pos (by simp <;> omega)]
/-- What stands between two rounds. -/
def RI9 (w W : World) (r g : Nat) (v0 : Value) (xs : List Int) (S : Nat → Value) (K N : Int) (m : Nat) : Prop := ∃ vl, Bs9 w.heap.size W r S vl v0 (m : Int) ∧ Rg3 w W r g v0 xs vl (decide (K = 9 ∧ N < (m : Int)))
/-- What stands where a round has left. -/
def RX9 (w W : World) (r g : Nat) (v0 : Value) (xs : List Int) : Prop := ∃ vl, Boxed W (w.heap.size + 3) 27 vl ∧ Boxed W (w.heap.size + 4) 4 (.bool true) ∧ Rg3 w W r g v0 xs vl true
def step4 (K O N V : Int) : Nat → Value
  | 0 => .int .i64 K
  | 1 => .int .i64 O
  | 2 => .int .i64 N
  | _ => .int .i64 V
theorem ways9 (K N m : Int) : (K = 8 ∧ N = m) ∨ (K = 9 ∧ N = m) ∨ (K = 10 ∧ N = m) ∨ ((K == 8) = false ∧ (K == 9) = false ∧ (K == 10) = false ∧ (K ≠ 9 ∨ N < m ∨ m < N)) ∨ (K = 8 ∧ (m == N) = false ∧ (K ≠ 9 ∨ N < m ∨ m < N)) ∨ (K = 9 ∧ (m == N) = false ∧ (K ≠ 9 ∨ N < m ∨ m < N)) ∨ (K = 10 ∧ (m == N) = false ∧ (K ≠ 9 ∨ N < m ∨ m < N)) := by
  simp only [beq_eq_false_iff_ne, ne_eq]
  omega
theorem and3_le (x : Int) : -9223372036854775808 ≤ bits .and .i64 x 3 ∧ bits .and .i64 x 3 ≤ 9223372036854775807 := by
  rw [i64_mask x 2 (by omega) 3 (by rfl)]
  have e : ((2 ^ 2 : Nat) : Int) = 4 := rfl
  rw [e]
  omega
theorem tb_same (K N : Int) (m : Nat) (h : K ≠ 9 ∨ N < (m : Int) ∨ (m : Int) < N) : decide (K = 9 ∧ N < ((m + 1 : Nat) : Int)) = decide (K = 9 ∧ N < (m : Int)) := by
  refine decide_eq_decide.2 ?_
  omega
set_option maxHeartbeats 4000000 in
theorem ranged_any (r g N0 f0 : Nat) (a : Option Addr) (c cap : Nat) (xs : List Int) (K O N V : Int) (w : World) (h : Doing w r g N0 f0 a c cap xs) (hlim : c ≤ 1048570) :
    Calls Try.prog 10 #[.pointer (some ⟨r, 0, none⟩), .slice a c cap, .agg #[.int .i64 K, .int .i64 O, .int .i64 N, .int .i64 V]] w fun e w' => ∃ v, e = .returned (.tuple #[v, .bool true]) ∧ Rg3 w w' r g (.slice a c cap) xs v true := by
  have HD : Hid (Doing w r g N0 f0 a c cap xs) := h
  have hnf := fn_nil
  have hlen := h.lst.sl.len
  have hle := h.lst.sl.le
  have hcap := h.lst.sl.lim
  have hrl := h.ring.rlt
  have hgl := h.ring.glt
  clear h
  refine (callsIn_wide (n := 9)).1 ?_
  refine callsIn_of_wp_marks Try.func10 rfl trivial ?_ rfl
  simp only [Try.ntmps10, List.size_toArray, List.length_cons, List.length_nil, Nat.reduceAdd, Nat.reduceSub, Array.replicate_succ, Array.replicate_zero, List.push_toArray, List.append_toArray, List.nil_append, List.cons_append]
  gi_wp2_with (refine ⟨trivial, ?_⟩; refine (callsIn_wide.2 (allI_any r _)).mono ?_; rintro e w5 ⟨rfl, rfl⟩)
  obtain ⟨W0, hW0⟩ : ∃ W0, W0 = ((((((((w.alloc (.cells #[.pointer (some ⟨r, 0, none⟩)] 24)).alloc (.cells #[.slice a c cap] 27)).alloc (.cells #[.int .i64 K, .int .i64 O, .int .i64 N, .int .i64 V] 34)).alloc (.cells #[.slice none 0 0] 27)).alloc (.cells #[.bool false] 4)).alloc (.cells #[.pointer (some ⟨r, 0, none⟩)] 24)).alloc (.cells #[.func (.func 36) #[] #[.pointer (some ⟨w.heap.size + 1 + 1 + 1 + 1 + 1, 0, none⟩)]] 30)).alloc (.cells #[.int .i64 0] 3)).alloc (.cells #[.slice a c cap] 27) := ⟨_, rfl⟩
  rw [← hW0]
  have hsz : W0.heap.size = w.heap.size + 9 := by rw [hW0]; simp
  have BS0 : Hid (Bs9 w.heap.size W0 r (step4 K O N V) (.slice a c cap) (.slice a c cap) 0) := by
    obtain ⟨q0, q1, q2, q3, q4, q5, q6, q7, q8⟩ := nine w (.cells #[.pointer (some ⟨r, 0, none⟩)] 24) (.cells #[.slice a c cap] 27) (.cells #[.int .i64 K, .int .i64 O, .int .i64 N, .int .i64 V] 34) (.cells #[.slice none 0 0] 27) (.cells #[.bool false] 4) (.cells #[.pointer (some ⟨r, 0, none⟩)] 24) (.cells #[.func (.func 36) #[] #[.pointer (some ⟨w.heap.size + 1 + 1 + 1 + 1 + 1, 0, none⟩)]] 30) (.cells #[.int .i64 0] 3) (.cells #[.slice a c cap] 27)
    rw [← hW0] at q0 q1 q2 q3 q4 q5 q6 q7 q8
    refine ⟨q0, q1, ⟨#[.int .i64 K, .int .i64 O, .int .i64 N, .int .i64 V], q2, rfl, fun i hi => ?_⟩, ⟨.slice none 0 0, q3⟩, ⟨.bool false, q4⟩, q5, q6, q7, q8⟩
    rcases i with _ | _ | _ | _ | i
    · rfl
    · rfl
    · rfl
    · rfl
    · omega
  have B0 : Below w.heap.size w W0 := by
    rw [hW0]
    refine (((((((((Below.refl _ _).alloc ?_ _).alloc ?_ _).alloc ?_ _).alloc ?_ _).alloc ?_ _).alloc ?_ _).alloc ?_ _).alloc ?_ _).alloc ?_ _ <;> simp <;> omega
  have R0 : Hid (Rg3 w W0 r g (.slice a c cap) xs (.slice a c cap) (decide (K = 9 ∧ N < ((0 : Nat) : Int)))) :=
    ⟨⟨xs, g, N0, f0, HD.out.ring.mono B0, .inl rfl, by omega, .inl ⟨rfl, rfl⟩, fun _ => ⟨rfl, rfl, rfl⟩⟩, Chg.of_below B0 r g⟩
  have HR : Hid (RI W0 r g N0 f0 c xs) := by
    have := HD.out.ring.mono B0
    rw [hlen] at this
    exact this
  clear hW0
  refine range_twoH 25 26 11 12 (gf := 36) (lb := #[.pointer (some ⟨w.heap.size + 5, 0, none⟩)]) rfl (enters_of Try.func36 (by kernel_rfl) rfl)
    (allI_stops 8 (by omega) (w.heap.size + 5) W0.heap.size r g N0 f0 c xs hlen W0 BS0.out.b5.cell HR.out (Nat.le_refl _)) (Kpx.refl _ _ _ _) (fun h k => h.trans k) (fun W l o o' _ h1 h2 _ => Kpx.putObj _ _ _ _ W l o o' h1 h2)
    (fun pre W => RI9 w W r g (.slice a c cap) xs (step4 K O N V) K N pre.length)
    (fun cd pre W => cd = .ret ∧ (pre ≠ pairsI xs pre.length ∨ RX9 w W r g (.slice a c cap) xs))
    (fun s A B row hs hg hr => by obtain ⟨vl, h1, h2⟩ := hs; exact ⟨vl, h1.own hg hr, h2.own (by omega) hg hr⟩)
    (fun cd s A B row hs hg hr => by
      obtain ⟨e, hs | ⟨vl, h1, h2, h3⟩⟩ := hs
      · exact ⟨e, .inl hs⟩
      · exact ⟨e, .inr ⟨vl, boxed_keep h1 hg hr, boxed_keep h2 hg hr, h3.own (by omega) hg hr⟩⟩)
    ⟨_, BS0.out, R0.out⟩ ?assign ?body ?done ?stop
  case assign =>
    intro l x W K hK
    simp only [a2, List.setIfInBounds_toArray, List.set_cons_zero, List.set_cons_succ] at hK
    gi_wp2_with fail
    exact hK
  case body =>
    rintro l pre ⟨xa, xb⟩ W hlB hlr ⟨vl, hB, hG⟩ hlt
    simp only [a2, List.setIfInBounds_toArray, List.set_cons_zero, List.set_cons_succ]
    obtain ⟨m, em⟩ : ∃ m, m = pre.length := ⟨_, rfl⟩
    rw [← em] at hB hG hlt
    have LV : Hid (¬ (xa = m ∧ xb = xs.getD m 0) → pre ++ [(xa, xb)] ≠ pairsI xs (pre ++ [(xa, xb)]).length) := by
      intro hne he
      rw [List.length_append, List.length_singleton, pairsI_succ] at he
      have h9 := List.append_inj_right' he rfl
      rw [← em] at h9
      simp only [List.cons.injEq, Prod.mk.injEq, and_true] at h9
      exact hne h9
    have HE : Hid (m = pre.length) := em
    obtain ⟨u3, h3⟩ := hB.b3
    obtain ⟨u4, h4⟩ := hB.b4
    have k1 : W.cell? ⟨w.heap.size + 1, 0, none⟩ = some vl := hB.b1.cell
    have k1f : W.frozen? ⟨w.heap.size + 1, 0, none⟩ = false := hB.b1.frozen
    have k20 : W.cell? ⟨w.heap.size + 1 + 1, 0, none⟩ = some (.int .i64 K) := hB.b2.cell (i := 0) (by omega)
    have k22 : W.cell? ⟨w.heap.size + 1 + 1, 2, none⟩ = some (.int .i64 N) := hB.b2.cell (i := 2) (by omega)
    have k23 : W.cell? ⟨w.heap.size + 1 + 1, 3, none⟩ = some (.int .i64 V) := hB.b2.cell (i := 3) (by omega)
    have k3 : W.cell? ⟨w.heap.size + 1 + 1 + 1, 0, none⟩ = some u3 := h3.cell
    have k3f : W.frozen? ⟨w.heap.size + 1 + 1 + 1, 0, none⟩ = false := h3.frozen
    have k4 : W.cell? ⟨w.heap.size + 1 + 1 + 1 + 1, 0, none⟩ = some u4 := h4.cell
    have k4f : W.frozen? ⟨w.heap.size + 1 + 1 + 1 + 1, 0, none⟩ = false := h4.frozen
    have k7 : W.cell? ⟨w.heap.size + 1 + 1 + 1 + 1 + 1 + 1 + 1, 0, none⟩ = some (.int .i64 (m : Int)) := hB.b7.cell
    have k7f : W.frozen? ⟨w.heap.size + 1 + 1 + 1 + 1 + 1 + 1 + 1, 0, none⟩ = false := hB.b7.frozen
    have k8 : W.cell? ⟨w.heap.size + 1 + 1 + 1 + 1 + 1 + 1 + 1 + 1, 0, none⟩ = some (.slice a c cap) := hB.b8.cell
    obtain ⟨b, o, ea, hcell⟩ := (HD.out.lst_at hG.chg).sl.at (by omega)
    have cm := hcell m hlt
    obtain ⟨x, ex⟩ : ∃ x, x = xs.getD m 0 := ⟨_, rfl⟩
    rw [← ex] at cm
    obtain ⟨al, nl, cl, evl⟩ : ∃ al nl cl, vl = .slice al nl cl := by
      exact hG.isSlice
    have HB : Hid (Bs9 w.heap.size W r (step4 K O N V) vl (.slice a c cap) (m : Int) ∧ Rg3 w W r g (.slice a c cap) xs vl (decide (K = 9 ∧ N < (m : Int)))) := ⟨hB, hG⟩
    have HX : Hid (x = xs.getD m 0) := ex
    have d1 : decide ((c : Int) ≤ (m : Int)) = false := decide_eq_false (by omega)
    have d2 : decide (c ≤ m) = false := decide_eq_false (by omega)
    clear hB hG em ex hcell h3 h4
    by_cases e1 : xa = m ∧ xb = x
    · obtain ⟨rfl, rfl⟩ := e1
      rcases ways9 K N (xa : Int) with ⟨rfl, rfl⟩ | ⟨rfl, rfl⟩ | ⟨rfl, rfl⟩ | ⟨t8, t9, t10, hne⟩ | ⟨rfl, tn, hne⟩ | ⟨rfl, tn, hne⟩ | ⟨rfl, tn, hne⟩
      · subst ea evl
        gi_wp2_with fail
        obtain ⟨hB, hG⟩ := HB.out
        obtain ⟨u3', h3⟩ := hB.b3
        obtain ⟨u4', h4⟩ := hB.b4
        refine ⟨((KeepsOthers.setCell _ _ _).trans (KeepsOthers.setCell _ _ _)).from _, rfl, .inr ⟨_, (h3.set _).other (by omega) _, (h4.other (by omega) _).set _, ((hG.set hrl hgl (by omega) (by omega) (Nat.le_refl _) _).set hrl hgl (by omega) (by omega) (Nat.le_refl _) _).weak (.inl rfl) (Nat.le_refl _) (Nat.le_refl _)⟩⟩
      · have HB0 := HB.out
        have hfl : decide ((9 : Int) = 9 ∧ (xa : Int) < (xa : Int)) = false := decide_eq_false (by omega)
        rw [hfl] at HB0
        obtain ⟨rfl, IN0⟩ := In9.start HB0.1 HB0.2
        have h9 : w.heap.size + 9 ≤ W.heap.size := by have := hlr; obtain ⟨rr, hrr⟩ := this; have := (Array.getElem?_eq_some_iff.1 hrr).1; omega
        have I0 : Hid (In9 w W W r g (.slice a c cap) xs (step4 9 O (xa : Int) V) (xa : Int) (.slice a c cap) 0) := IN0
        clear HB0 IN0 hfl HB
        have HA : Hid (a = some ⟨b, o, none⟩) := ea
        subst ea
        gi_wp2_with fail
        gi_loopw [13] (fun t wr => ∃ (i : Nat) (al : Option Addr) (nl cl : Nat), i ≤ 3 ∧ t = .int .i64 (i : Int) ∧ Hid (In9 w W wr r g (.slice (some ⟨b, o, none⟩) c cap) xs (step4 9 O (xa : Int) V) (xa : Int) (.slice al nl cl) i)) (fun t _ => 3 - (intOf t).toNat)
        case atStart => exact ⟨0, _, _, _, by omega, rfl, I0⟩
        case round =>
          clear I0 k1 k1f k20 k22 k23 k3 k3f k4 k4f k7 k7f k8 cm
          obtain ⟨i, al, nl, cl, hi, rfl, IN⟩ := hrel
          by_cases hi3 : i < 3
          · have c0 : wr.drew.cell? ⟨w.heap.size, 0, none⟩ = some (.pointer (some ⟨r, 0, none⟩)) := IN.out.bs.b0.cell
            have c1 : wr.drew.cell? ⟨w.heap.size + 1, 0, none⟩ = some (.slice al nl cl) := IN.out.bs.b1.cell
            have c23 : wr.drew.cell? ⟨w.heap.size + 1 + 1, 3, none⟩ = some (.int .i64 V) := IN.out.bs.b2.cell (i := 3) (by omega)
            have hw3 : IntKind.i64.wrap (3 * (i : Int)) = 3 * (i : Int) := by rw [IntKind.wrap_i64]; omega
            have HN3 : Hid (-9223372036854775808 ≤ (bits .and .i64 (V / 1024) 3) ∧ (bits .and .i64 (V / 1024) 3) ≤ 9223372036854775807) := and3_le _
            gi_wp2_with fail
            refine wpIn_region_inv (J18 wr.drew (Dd9 w W r g (.slice (some ⟨b, o, none⟩) c cap) xs (step4 9 O (xa : Int) V) (xa : Int) i) [.pointer (some ⟨r, 0, none⟩), .slice al nl cl, .pointer (some ⟨w.heap.size + 1 + 1, 3, none⟩), .int .i64 V, .int .i64 (i : Int), .int .i64 (3 * (i : Int)), .int .i64 (V / 2 ^ (3 * (i : Int)).toNat), .int .i64 (bits .and .i64 (V / 2 ^ (3 * (i : Int)).toNat) 7), .pointer (some ⟨w.heap.size + 1 + 1, 3, none⟩), .int .i64 V, .int .i64 (V / 1024), .int .i64 (bits .and .i64 (V / 1024) 3), .pointer (some ⟨w.heap.size + 1 + 1, 3, none⟩), .int .i64 V, .agg #[.int .i64 (bits .and .i64 (V / 2 ^ (3 * (i : Int)).toNat) 7), .int .i64 0, .int .i64 (bits .and .i64 (V / 1024) 3), .int .i64 V]] (w.heap.size + 1)) 134 (by kernel_rfl) rfl (by kernel_rfl) J18.start (fun HG HN => ⟨?_, ?_, ?_, ?_, ?_, ?_, ?_, ?_, ?_, ?_, ?_, ?_, ?_, ?_, ?_, ?_, ?_, ?_, ?_, ?_, ?_, trivial⟩) ?_
            · intro L vs a9 w' hJ hF hP hL
              obtain rfl := hJ.ahead (j := 0) (by omega) hL
              have q3 : (a9.tmps[3]?).getD undef = .pointer (some ⟨w.heap.size, 0, none⟩) := hF.old 3 rfl
              exact run_valF (v := .pointer (some ⟨r, 0, none⟩)) rfl (fun c h => by cases h) (by simp [execOp, go_sem, q3, c0]) ⟨_, rfl, hJ.early (by omega) rfl (by simp [dp18])⟩
            · intro L vs a9 w' hJ hF hP hL
              obtain rfl := hJ.ahead (j := 1) (by omega) hL
              have q4 : (a9.tmps[4]?).getD undef = .pointer (some ⟨w.heap.size + 1, 0, none⟩) := hF.old 4 rfl
              exact run_valF (v := .slice al nl cl) rfl (fun c h => by cases h) (by simp [execOp, go_sem, q4, c1]) ⟨_, rfl, hJ.early (by omega) rfl (by simp [dp18])⟩
            · intro L vs a9 w' hJ hF hP hL
              obtain rfl := hJ.ahead (j := 2) (by omega) hL
              have q5 : (a9.tmps[5]?).getD undef = .pointer (some ⟨w.heap.size + 1 + 1, 0, none⟩) := hF.old 5 rfl
              exact run_valF (v := .pointer (some ⟨w.heap.size + 1 + 1, 3, none⟩)) rfl (fun c h => by cases h) (by simp [execOp, go_sem, q5]) ⟨_, rfl, hJ.early (by omega) rfl (by simp [dp18])⟩
            · intro L vs a9 w' hJ hF hP hL
              obtain rfl := hJ.ahead (j := 3) (by omega) hL
              have p2 : L 2 = true := hP ⟨2, .data⟩ (by simp) rfl
              have s2 := hJ.pre 2 (by omega) p2
              simp only [List.getD_cons_zero, List.getD_cons_succ] at s2
              have q71 := hF.slot 2 71 rfl p2
              exact run_valF (v := .int .i64 V) rfl (fun c h => by cases h) (by simp [execOp, go_sem, q71, s2, c23]) ⟨_, rfl, hJ.early (by omega) rfl (by simp [dp18, p2])⟩
            · intro L vs a9 w' hJ hF hP hL
              obtain rfl := hJ.ahead (j := 4) (by omega) hL
              have q13 : (a9.tmps[13]?).getD undef = .int .i64 (i : Int) := hF.old 13 rfl
              exact run_valF (v := .int .i64 (i : Int)) rfl (fun c h => by cases h) (by simp [execOp, go_sem, q13]) ⟨_, rfl, hJ.early (by omega) rfl (by simp [dp18])⟩
            · intro L vs a9 w' hJ hF hP hL
              obtain rfl := hJ.ahead (j := 5) (by omega) hL
              have p4 : L 4 = true := hP ⟨4, .data⟩ (by simp) rfl
              have s4 := hJ.pre 4 (by omega) p4
              simp only [List.getD_cons_zero, List.getD_cons_succ] at s4
              have q73 := hF.slot 4 73 rfl p4
              exact run_valF (v := .int .i64 (3 * (i : Int))) rfl (fun c h => by cases h) (by simp [execOp, go_sem, q73, s4, hw3]) ⟨_, rfl, hJ.early (by omega) rfl (by simp [dp18, p4])⟩
            · intro L vs a9 w' hJ hF hP hL
              obtain rfl := hJ.ahead (j := 6) (by omega) hL
              have p3 : L 3 = true := hP ⟨3, .data⟩ (by simp) rfl
              have s3 := hJ.pre 3 (by omega) p3
              simp only [List.getD_cons_zero, List.getD_cons_succ] at s3
              have q72 := hF.slot 3 72 rfl p3
              have p5 : L 5 = true := hP ⟨5, .data⟩ (by simp) rfl
              have s5 := hJ.pre 5 (by omega) p5
              simp only [List.getD_cons_zero, List.getD_cons_succ] at s5
              have q74 := hF.slot 5 74 rfl p5
              exact run_valF (v := .int .i64 (V / 2 ^ (3 * (i : Int)).toNat)) rfl (fun c h => by cases h) (by simp [execOp, go_sem, q72, s3, q74, s5]) ⟨_, rfl, hJ.early (by omega) rfl (by simp [dp18, p3, p5])⟩
            · intro L vs a9 w' hJ hF hP hL
              obtain rfl := hJ.ahead (j := 7) (by omega) hL
              have p6 : L 6 = true := hP ⟨6, .data⟩ (by simp) rfl
              have s6 := hJ.pre 6 (by omega) p6
              simp only [List.getD_cons_zero, List.getD_cons_succ] at s6
              have q75 := hF.slot 6 75 rfl p6
              exact run_valF (v := .int .i64 (bits .and .i64 (V / 2 ^ (3 * (i : Int)).toNat) 7)) rfl (fun c h => by cases h) (by simp [execOp, go_sem, q75, s6]) ⟨_, rfl, hJ.early (by omega) rfl (by simp [dp18, p6])⟩
            · intro L vs a9 w' hJ hF hP hL
              obtain rfl := hJ.ahead (j := 8) (by omega) hL
              have q5 : (a9.tmps[5]?).getD undef = .pointer (some ⟨w.heap.size + 1 + 1, 0, none⟩) := hF.old 5 rfl
              exact run_valF (v := .pointer (some ⟨w.heap.size + 1 + 1, 3, none⟩)) rfl (fun c h => by cases h) (by simp [execOp, go_sem, q5]) ⟨_, rfl, hJ.early (by omega) rfl (by simp [dp18])⟩
            · intro L vs a9 w' hJ hF hP hL
              obtain rfl := hJ.ahead (j := 9) (by omega) hL
              have p8 : L 8 = true := hP ⟨8, .data⟩ (by simp) rfl
              have s8 := hJ.pre 8 (by omega) p8
              simp only [List.getD_cons_zero, List.getD_cons_succ] at s8
              have q77 := hF.slot 8 77 rfl p8
              exact run_valF (v := .int .i64 V) rfl (fun c h => by cases h) (by simp [execOp, go_sem, q77, s8, c23]) ⟨_, rfl, hJ.early (by omega) rfl (by simp [dp18, p8])⟩
            · intro L vs a9 w' hJ hF hP hL
              obtain rfl := hJ.ahead (j := 10) (by omega) hL
              have p9 : L 9 = true := hP ⟨9, .data⟩ (by simp) rfl
              have s9 := hJ.pre 9 (by omega) p9
              simp only [List.getD_cons_zero, List.getD_cons_succ] at s9
              have q78 := hF.slot 9 78 rfl p9
              exact run_valF (v := .int .i64 (V / 1024)) rfl (fun c h => by cases h) (by simp [execOp, go_sem, q78, s9]) ⟨_, rfl, hJ.early (by omega) rfl (by simp [dp18, p9])⟩
            · intro L vs a9 w' hJ hF hP hL
              obtain rfl := hJ.ahead (j := 11) (by omega) hL
              have p10 : L 10 = true := hP ⟨10, .data⟩ (by simp) rfl
              have s10 := hJ.pre 10 (by omega) p10
              simp only [List.getD_cons_zero, List.getD_cons_succ] at s10
              have q79 := hF.slot 10 79 rfl p10
              exact run_valF (v := .int .i64 (bits .and .i64 (V / 1024) 3)) rfl (fun c h => by cases h) (by simp [execOp, go_sem, q79, s10]) ⟨_, rfl, hJ.early (by omega) rfl (by simp [dp18, p10])⟩
            · intro L vs a9 w' hJ hF hP hL
              obtain rfl := hJ.ahead (j := 12) (by omega) hL
              have q5 : (a9.tmps[5]?).getD undef = .pointer (some ⟨w.heap.size + 1 + 1, 0, none⟩) := hF.old 5 rfl
              exact run_valF (v := .pointer (some ⟨w.heap.size + 1 + 1, 3, none⟩)) rfl (fun c h => by cases h) (by simp [execOp, go_sem, q5]) ⟨_, rfl, hJ.early (by omega) rfl (by simp [dp18])⟩
            · intro L vs a9 w' hJ hF hP hL
              obtain rfl := hJ.ahead (j := 13) (by omega) hL
              have p12 : L 12 = true := hP ⟨12, .data⟩ (by simp) rfl
              have s12 := hJ.pre 12 (by omega) p12
              simp only [List.getD_cons_zero, List.getD_cons_succ] at s12
              have q81 := hF.slot 12 81 rfl p12
              exact run_valF (v := .int .i64 V) rfl (fun c h => by cases h) (by simp [execOp, go_sem, q81, s12, c23]) ⟨_, rfl, hJ.early (by omega) rfl (by simp [dp18, p12])⟩
            · intro L vs a9 w' hJ hF hP hL
              obtain rfl := hJ.ahead (j := 14) (by omega) hL
              have p7 : L 7 = true := hP ⟨7, .data⟩ (by simp) rfl
              have s7 := hJ.pre 7 (by omega) p7
              simp only [List.getD_cons_zero, List.getD_cons_succ] at s7
              have q76 := hF.slot 7 76 rfl p7
              have p11 : L 11 = true := hP ⟨11, .data⟩ (by simp) rfl
              have s11 := hJ.pre 11 (by omega) p11
              simp only [List.getD_cons_zero, List.getD_cons_succ] at s11
              have q80 := hF.slot 11 80 rfl p11
              have p13 : L 13 = true := hP ⟨13, .data⟩ (by simp) rfl
              have s13 := hJ.pre 13 (by omega) p13
              simp only [List.getD_cons_zero, List.getD_cons_succ] at s13
              have q82 := hF.slot 13 82 rfl p13
              exact run_valF (v := .agg #[.int .i64 (bits .and .i64 (V / 2 ^ (3 * (i : Int)).toNat) 7), .int .i64 0, .int .i64 (bits .and .i64 (V / 1024) 3), .int .i64 V]) rfl (fun c h => by cases h) (by simp [execOp, go_sem, q76, s7, q80, s11, q82, s13]) ⟨_, rfl, hJ.early (by omega) rfl (by simp [dp18, p7, p11, p13])⟩
            · intro L vs a9 w' hJ hF hP hL
              have p0 : L 0 = true := hP ⟨0, .data⟩ (by simp) rfl
              have s0 := hJ.pre 0 (by omega) p0
              simp only [List.getD_cons_zero] at s0
              have q69 := hF.slot 0 69 rfl p0
              have p1 : L 1 = true := hP ⟨1, .data⟩ (by simp) rfl
              have s1 := hJ.pre 1 (by omega) p1
              simp only [List.getD_cons_zero, List.getD_cons_succ] at s1
              have q70 := hF.slot 1 70 rfl p1
              have p14 : L 14 = true := hP ⟨14, .data⟩ (by simp) rfl
              have s14 := hJ.pre 14 (by omega) p14
              simp only [List.getD_cons_zero, List.getD_cons_succ] at s14
              have q83 := hF.slot 14 83 rfl p14
              obtain rfl := (hJ.no hL).1
              refine run_callF (f := 14) (args := #[.pointer (some ⟨r, 0, none⟩), .slice al nl cl, .agg #[.int .i64 (bits .and .i64 (V / 2 ^ (3 * (i : Int)).toNat) 7), .int .i64 0, .int .i64 (bits .and .i64 (V / 1024) 3), .int .i64 V]]) rfl (fun c h => by cases h) (by simp [go_sem, q69, s0, q70, s1, q83, s14]) (IN.out.step HD.out h9 (by omega) (bits .and .i64 (V / 2 ^ (3 * (i : Int)).toNat) 7) (bits .and .i64 (V / 1024) 3) V HN3.out.1 HN3.out.2) ?_
              rintro e w2 ⟨v, rfl, hv⟩
              exact ⟨_, rfl, _, rfl, hJ.call hL (hJ.all15 p0 p1 p14) hv⟩
            · intro L vs a9 w' hJ hF hP hL
              have p15 : L 15 = true := hP ⟨15, .data⟩ (by simp) rfl
              have q84 := hF.slot 15 84 rfl p15
              obtain ⟨v, e, hJ'⟩ := hJ.m16 p15
              exact run_valF (v := .tuple #[v, .bool true]) rfl (fun c h => by cases h) (by simp [execOp, go_sem, q84, e]) ⟨_, rfl, hJ'⟩
            · intro L vs a9 w' hJ hF hP hL
              have p16 : L 16 = true := hP ⟨16, .data⟩ (by simp) rfl
              have q68 := hF.slot 16 68 rfl p16
              obtain ⟨v, e, hJ'⟩ := hJ.m17 p16
              exact run_valF (v := v) rfl (fun c h => by cases h) (by simp [execOp, go_sem, q68, e]) ⟨_, rfl, hJ'⟩
            · intro L vs a9 w' hJ hF hP hL
              have p16 : L 16 = true := hP ⟨16, .data⟩ (by simp) rfl
              have q68 := hF.slot 16 68 rfl p16
              obtain ⟨v, e, hJ'⟩ := hJ.m18 p16
              exact run_valF (v := .bool true) rfl (fun c h => by cases h) (by simp [execOp, go_sem, q68, e]) ⟨_, rfl, hJ'⟩
            · intro L vs a9 w' hJ hF hP hL
              have q4 : (a9.tmps[4]?).getD undef = .pointer (some ⟨w.heap.size + 1, 0, none⟩) := hF.old 4 rfl
              have p17 : L 17 = true := hP ⟨17, .data⟩ (by simp) rfl
              have q85 := hF.slot 17 85 rfl p17
              obtain ⟨v, w1, hD1, rfl, e, hJ'⟩ := hJ.m19 p17 hL
              obtain ⟨⟨u9, hu9⟩, hf9, al', nl', cl', rfl, _⟩ := hD1
              exact run_unitF rfl (fun c h => by cases h) (by simp [execOp, go_sem, q4, q85, e, hu9, hf9]) ⟨_, rfl, hJ' _⟩
            · intro L vs a9 w' hJ hF hP hL
              have p18 : L 18 = true := hP ⟨18, .data⟩ (by simp) rfl
              have q86 := hF.slot 18 86 rfl p18
              obtain ⟨e, hJ'⟩ := hJ.m20 p18
              exact run_valF (v := .bool true) rfl (fun c h => by cases h) (by simp [execOp, go_sem, q86, e]) ⟨_, rfl, hJ'⟩
            intro L vs w' hA hJ
            obtain ⟨v, w1, ⟨_, _, al', nl', cl', rfl, IN2⟩, rfl, e20⟩ := hJ.fin hA
            have IN3 : Hid _ := IN2
            simp only [putL, Act.put, List.setIfInBounds_toArray, List.set_cons_zero, List.set_cons_succ, Nat.reduceAdd]
            simp only [e20]
            obtain ⟨w5, hw5⟩ : ∃ w5, w5 = w1.setCell ⟨w.heap.size + 1, 0, none⟩ (.slice al' nl' cl') := ⟨_, rfl⟩
            rw [← hw5] at IN3 ⊢
            clear hw5 IN2 e20 hJ hA c0 c1 c23 IN
            generalize vs = vs0
            gi_wp2_with fail
            go_roundw
            case rel => exact ⟨i + 1, al', nl', cl', by omega, by go_num, IN3⟩
            case measure => simp [intOf]; omega
          · obtain rfl : i = 3 := by omega
            have k20 : wr.cell? ⟨w.heap.size + 1 + 1, 0, none⟩ = some (.int .i64 9) := IN.out.bs.b2.cell (i := 0) (by omega)
            have k7 : wr.cell? ⟨w.heap.size + 1 + 1 + 1 + 1 + 1 + 1 + 1, 0, none⟩ = some (.int .i64 (xa : Int)) := IN.out.bs.b7.cell
            have k7f : wr.frozen? ⟨w.heap.size + 1 + 1 + 1 + 1 + 1 + 1 + 1, 0, none⟩ = false := IN.out.bs.b7.frozen
            gi_wp2_with fail
            have I5 := IN.out.setN hrl hgl h9 ((xa : Int) + 1)
            refine ⟨I5.from (by omega), I5.kpx (by omega) _ _ _, _, ?_, I5.rg.weak (.inl (decide_eq_true ?_)) (Nat.le_refl _) h9⟩
            · rw [List.length_append, ← HE.out]
              exact I5.bs
            · rw [List.length_append, ← HE.out]
              refine ⟨rfl, ?_⟩
              show (xa : Int) < ((xa + 1 : Nat) : Int)
              omega
      · have HB0 := HB.out
        have hfl : decide ((10 : Int) = 9 ∧ (xa : Int) < (xa : Int)) = false := decide_eq_false (by omega)
        rw [hfl] at HB0
        have h9 : w.heap.size + 9 ≤ W.heap.size := by have := hlr; obtain ⟨rr, hrr⟩ := this; have := (Array.getElem?_eq_some_iff.1 hrr).1; omega
        obtain ⟨rfl, TW0, N2, f2, RI2⟩ := Tw9.start HB0.1 HB0.2 h9
        have T0 : Hid (Tw9 w W (W.alloc (.cells #[.int .i64 0] 3)) r g (.slice a c cap) xs (step4 10 O (xa : Int) V) (xa : Int) 0) := TW0
        have k6 : (W.alloc (.cells #[.int .i64 0] 3)).cell? ⟨w.heap.size + 1 + 1 + 1 + 1 + 1 + 1, 0, none⟩ = some (.func (.func 36) #[] #[.pointer (some ⟨w.heap.size + 1 + 1 + 1 + 1 + 1, 0, none⟩)]) := TW0.bs.b6.cell
        have k5 : (W.alloc (.cells #[.int .i64 0] 3)).cell? ⟨w.heap.size + 5, 0, none⟩ = some (.pointer (some ⟨r, 0, none⟩)) := TW0.bs.b5.cell
        have RI3 : Hid (RI (W.alloc (.cells #[.int .i64 0] 3)) r g N2 f2 c xs) := by rw [← hlen]; exact RI2
        have K5 : Hid ((W.alloc (.cells #[.int .i64 0] 3)).cell? ⟨w.heap.size + 5, 0, none⟩ = some (.pointer (some ⟨r, 0, none⟩))) := k5
        have HL1 : Hid (∃ rr, (W.alloc (.cells #[.int .i64 0] 3)).heap[l]? = some (.loop rr)) := by
          obtain ⟨rr, hrr⟩ := hlr
          exact ⟨rr, (Below.heap_alloc _ _ _ (Array.getElem?_eq_some_iff.1 hrr).1).trans hrr⟩
        have hsz1 : (W.alloc (.cells #[.int .i64 0] 3)).heap.size = W.heap.size + 1 := by simp
        have HSZ : Hid ((W.alloc (.cells #[.int .i64 0] 3)).heap.size = W.heap.size + 1) := hsz1
        clear hsz1
        clear HB0 TW0 hfl HB RI2 k5
        subst ea
        gi_wp2_with fail
        refine range_twoN 100 101 16 17 l HL1.out (gf := 36) (lb := #[.pointer (some ⟨w.heap.size + 5, 0, none⟩)]) rfl (enters_of Try.func36 (by kernel_rfl) rfl)
          (allI_stops 6 (by omega) (w.heap.size + 5) (W.alloc (.cells #[.int .i64 0] 3)).heap.size r g N2 f2 c xs hlen (W.alloc (.cells #[.int .i64 0] 3)) K5.out RI3.out (Nat.le_refl _)) (Kpx.refl _ _ _ _) (fun h k => h.trans k) (fun W l o o' _ h1 h2 _ => Kpx.putObj _ _ _ _ W l o o' h1 h2)
          (fun pre2 W2 => Tw9 w W W2 r g (.slice (some ⟨b, o, none⟩) c cap) xs (step4 10 O (xa : Int) V) (xa : Int) pre2.length)
          (fun cd pre2 W2 => cd = .ret ∧ pre2 ≠ pairsI xs pre2.length)
          (fun s A B row hs hg hr => hs.own (by omega) (by have := HSZ.out; omega) hg hr)
          (fun cd s A B row hs hg hr => hs)
          T0.out ?assign2 ?body2 ?done2 ?stop2
        case assign2 =>
          intro l x W K hK
          simp only [a2, List.setIfInBounds_toArray, List.set_cons_zero, List.set_cons_succ] at hK
          gi_wp2_with fail
          exact hK
        case body2 =>
          rintro l2 pre2 ⟨ya, yb⟩ W2 hT hlt2
          simp only [a2, List.setIfInBounds_toArray, List.set_cons_zero, List.set_cons_succ]
          obtain ⟨j, ej⟩ : ∃ j, j = pre2.length := ⟨_, rfl⟩
          rw [← ej] at hT hlt2
          have LV2 : Hid (¬ (ya = j ∧ yb = xs.getD j 0) → pre2 ++ [(ya, yb)] ≠ pairsI xs (pre2 ++ [(ya, yb)]).length) := by
            intro hne he
            rw [List.length_append, List.length_singleton, pairsI_succ] at he
            have h9 := List.append_inj_right' he rfl
            rw [← ej] at h9
            simp only [List.cons.injEq, Prod.mk.injEq, and_true] at h9
            exact hne h9
          have HE2 : Hid (j = pre2.length) := ej
          obtain ⟨u3', h3⟩ := hT.bs.b3
          obtain ⟨u4', h4⟩ := hT.bs.b4
          obtain ⟨b', o', e', hcell⟩ := (HD.out.lst_at hT.rg.chg).sl.at (by omega)
          cases e'
          have cm2 := hcell j hlt2
          obtain ⟨x, ex⟩ : ∃ x, x = xs.getD j 0 := ⟨_, rfl⟩
          rw [← ex] at cm2
          have HX2 : Hid (x = xs.getD j 0) := ex
          clear k1 k1f k20 k22 k23 k3 k3f k4 k4f k7 k7f k8 cm k6 hcell ex ej d1 d2
          have k1 : W2.cell? ⟨w.heap.size + 1, 0, none⟩ = some (.slice (some ⟨b, o, none⟩) c cap) := hT.bs.b1.cell
          have k3 : W2.cell? ⟨w.heap.size + 1 + 1 + 1, 0, none⟩ = some u3' := h3.cell
          have k3f : W2.frozen? ⟨w.heap.size + 1 + 1 + 1, 0, none⟩ = false := h3.frozen
          have k4 : W2.cell? ⟨w.heap.size + 1 + 1 + 1 + 1, 0, none⟩ = some u4' := h4.cell
          have k4f : W2.frozen? ⟨w.heap.size + 1 + 1 + 1 + 1, 0, none⟩ = false := h4.frozen
          have kb : W2.cell? ⟨W.heap.size, 0, none⟩ = some (.int .i64 (j : Int)) := hT.box.cell
          have kbf : W2.frozen? ⟨W.heap.size, 0, none⟩ = false := hT.box.frozen
          have HT : Hid (Tw9 w W W2 r g (.slice (some ⟨b, o, none⟩) c cap) xs (step4 10 O (xa : Int) V) (xa : Int) j) := hT
          have d1 : decide ((c : Int) ≤ (j : Int)) = false := decide_eq_false (by omega)
          have d2 : decide (c ≤ j) = false := decide_eq_false (by omega)
          clear hT h3 h4 T0 K5 RI3
          by_cases e1 : ya = j ∧ yb = x
          · obtain ⟨rfl, rfl⟩ := e1
            gi_wp2_with fail
            have T5 := HT.out.more hrl hgl h9 (ya + 1)
            refine ⟨(KeepsOthers.setCell _ _ _).from _, Kpx.grown (grownBy_setCell' W2 _ _) (fun k e => by have := HSZ.out; cases e; show W.heap.size < _; omega), ?_⟩
            show Tw9 w W _ r g _ xs _ _ (pre2 ++ [(ya, yb)]).length
            rw [List.length_append, ← HE2.out]
            exact T5
          · by_cases e2 : ya = j
            · subst e2
              have e3 : ¬ yb = x := fun e => e1 ⟨rfl, e⟩
              have t2 : (yb != x) = true := by simpa using e3
              gi_wp2_with fail
              exact ⟨((KeepsOthers.setCell _ _ _).trans (KeepsOthers.setCell _ _ _)).from _, rfl, LV2.out fun h => e3 (h.2.trans HX2.out.symm)⟩
            · have t1 : ((ya : Int) != (j : Int)) = true := by simp; omega
              gi_wp2_with fail
              exact ⟨((KeepsOthers.setCell _ _ _).trans (KeepsOthers.setCell _ _ _)).from _, rfl, LV2.out fun h => e2 h.1⟩
        case done2 =>
          rintro ys W2 rfl hT
          rw [pairsI_length] at hT
          rename_i hc
          refine hc _ _ ?_
          clear k1 k1f k20 k22 k23 k3 k3f k4 k4f k7 k7f k8 cm k6 hc d1 d2
          have k1 : W2.cell? ⟨w.heap.size + 1, 0, none⟩ = some (.slice (some ⟨b, o, none⟩) c cap) := hT.bs.b1.cell
          have kb : W2.cell? ⟨W.heap.size, 0, none⟩ = some (.int .i64 (c : Int)) := hT.box.cell
          have k7 : W2.cell? ⟨w.heap.size + 1 + 1 + 1 + 1 + 1 + 1 + 1, 0, none⟩ = some (.int .i64 (xa : Int)) := hT.bs.b7.cell
          have k7f : W2.frozen? ⟨w.heap.size + 1 + 1 + 1 + 1 + 1 + 1 + 1, 0, none⟩ = false := hT.bs.b7.frozen
          have HT : Hid (Tw9 w W W2 r g (.slice (some ⟨b, o, none⟩) c cap) xs (step4 10 O (xa : Int) V) (xa : Int) c) := hT
          clear hT T0 K5 RI3
          gi_wp2_with fail
          have I5 := HT.out.setN hrl hgl h9 ((xa : Int) + 1)
          refine ⟨I5.from (by omega), I5.kpx (by omega) _ _ _, _, ?_, I5.rg.weak (.inr (decide_eq_false ?_)) (Nat.le_refl _) (Nat.le_refl _)⟩
          · rw [List.length_append, ← HE.out]
            exact I5.bs
          · omega
        case stop2 =>
          rintro cd pre2 W2 ⟨k', hk', rfl⟩ ⟨rfl, h⟩
          exact (h (by rw [pairsI_length])).elim
      all_goals (
        subst ea evl
        gi_wp2_with fail
        obtain ⟨hB, hG⟩ := HB.out
        refine ⟨(KeepsOthers.setCell _ _ _).from _, Kpx.grown (grownBy_setCell' W _ _) (fun k e => by cases e; omega), _, ?_, (hG.set hrl hgl (by omega) (by omega) (Nat.le_refl _) _).weak (.inr ?_) (Nat.le_refl _) (Nat.le_refl _)⟩
        · rw [List.length_append, ← HE.out]
          exact hB.setN _
        · rw [List.length_append, ← HE.out]
          first | exact tb_same _ _ _ hne | exact (tb_same _ _ _ hne).trans (by simp))
    · by_cases e2 : xa = m
      · subst e2
        have e3 : ¬ xb = x := fun e => e1 ⟨rfl, e⟩
        have t2 : (xb != x) = true := by simpa using e3
        subst ea evl
        gi_wp2_with fail
        exact ⟨((KeepsOthers.setCell _ _ _).trans (KeepsOthers.setCell _ _ _)).from _, rfl, .inl (LV.out fun h => e3 (h.2.trans HX.out.symm))⟩
      · have t1 : ((xa : Int) != (m : Int)) = true := by simp; omega
        subst evl
        gi_wp2_with fail
        exact ⟨((KeepsOthers.setCell _ _ _).trans (KeepsOthers.setCell _ _ _)).from _, rfl, .inl (LV.out fun h => e2 h.1)⟩
  case done =>
    rintro D ys W hD rfl ⟨vl, hB, hG⟩ hK
    rw [pairsI_length] at hB hG
    rename_i hc
    refine hc _ _ (wpIn_wide.2 ?_)
    obtain ⟨al, nl, cl, evl⟩ : ∃ al nl cl, vl = .slice al nl cl := by
      exact hG.isSlice
    obtain ⟨u3, h3⟩ := hB.b3
    obtain ⟨u4, h4⟩ := hB.b4
    have k1 : W.cell? ⟨w.heap.size + 1, 0, none⟩ = some vl := hB.b1.cell
    have k3 : W.cell? ⟨w.heap.size + 1 + 1 + 1, 0, none⟩ = some u3 := h3.cell
    have k3f : W.frozen? ⟨w.heap.size + 1 + 1 + 1, 0, none⟩ = false := h3.frozen
    have k4 : W.cell? ⟨w.heap.size + 1 + 1 + 1 + 1, 0, none⟩ = some u4 := h4.cell
    have k4f : W.frozen? ⟨w.heap.size + 1 + 1 + 1 + 1, 0, none⟩ = false := h4.frozen
    have k7 : W.cell? ⟨w.heap.size + 1 + 1 + 1 + 1 + 1 + 1 + 1, 0, none⟩ = some (.int .i64 (c : Int)) := hB.b7.cell
    have k8 : W.cell? ⟨w.heap.size + 1 + 1 + 1 + 1 + 1 + 1 + 1 + 1, 0, none⟩ = some (.slice a c cap) := hB.b8.cell
    have HB : Hid (Bs9 w.heap.size W r (step4 K O N V) vl (.slice a c cap) (c : Int) ∧ Rg3 w W r g (.slice a c cap) xs vl (decide (K = 9 ∧ N < (c : Int)))) := ⟨hB, hG⟩
    have HK' : Hid (W.heap[D]? = some (.deferred (some []))) := hK
    clear hB hG h3 h4 hK hc BS0 R0 HR B0
    subst evl
    go_wp2_with fail
    go_region
    go_wp2_with fail
    obtain ⟨hB, hG⟩ := HB.out
    obtain ⟨u3', h3⟩ := hB.b3
    obtain ⟨u4', h4⟩ := hB.b4
    obtain ⟨W5, hW5⟩ : ∃ W5, W5 = ((W.setCell ⟨w.heap.size + 3, 0, none⟩ (.slice al nl cl)).setCell ⟨w.heap.size + 4, 0, none⟩ (.bool true)).drew := ⟨_, rfl⟩
    have c3 : W5.cell? ⟨w.heap.size + 1 + 1 + 1, 0, none⟩ = some (.slice al nl cl) := by rw [hW5]; exact ((h3.set (.slice al nl cl)).other (by omega) _).cell
    have c4 : W5.cell? ⟨w.heap.size + 1 + 1 + 1 + 1, 0, none⟩ = some (.bool true) := by rw [hW5]; exact ((h4.other (by omega) _).set (.bool true)).cell
    have G5 : Rg3 w W5 r g (.slice a c cap) xs (.slice al nl cl) true := by
      rw [hW5]
      exact (((hG.set hrl hgl (by omega) (by omega) (Nat.le_refl _) _).set hrl hgl (by omega) (by omega) (Nat.le_refl _) _).weak (.inl rfl) (Nat.le_refl _) (Nat.le_refl _)).drew
    have hK : W5.heap[D]? = some (.deferred (some [])) := by
      rw [hW5]
      exact (Below.heap_setCell _ _ _ _ (by show D ≠ w.heap.size + 4; omega)).trans ((Below.heap_setCell _ _ _ _ (by show D ≠ w.heap.size + 3; omega)).trans HK'.out)
    show _ ∧ _
    rw [← hW5]
    refine ⟨by simp, .inl ⟨_, _, rfl, run_takeDeferred hK, ?_⟩⟩
    have e3 := cell_kept c3 (grownBy_putObj' _ D (.deferred none)) (fun r e => by cases e; exact ⟨_, hK, rfl⟩)
    have e4 := cell_kept c4 (grownBy_putObj' _ D (.deferred none)) (fun r e => by cases e; exact ⟨_, hK, rfl⟩)
    refine ⟨.tuple #[.slice al nl cl, .bool true], ?_, _, rfl, G5.own (B' := w.heap.size) (Nat.le_refl _) (grownBy_putObj' _ D (.deferred none)) (fun r e => by cases e; exact ⟨by omega, _, hK, rfl⟩)⟩
    simp [results, Try.results10, go_sem, e3, e4]
  case stop =>
    rintro D cd pre W hD ⟨k', hk', rfl⟩ ⟨rfl, h | ⟨vl, h3, h4, hG⟩⟩ hK
    · exact (h (by rw [pairsI_length])).elim
    · obtain ⟨al, nl, cl, evl⟩ : ∃ al nl cl, vl = .slice al nl cl := by
        exact hG.isSlice
      subst evl
      have c3 : W.cell? ⟨w.heap.size + 1 + 1 + 1, 0, none⟩ = some (.slice al nl cl) := h3.cell
      have c4 : W.cell? ⟨w.heap.size + 1 + 1 + 1 + 1, 0, none⟩ = some (.bool true) := h4.cell
      have HG : Hid (Rg3 w W r g (.slice a c cap) xs (.slice al nl cl) true) := hG
      clear hG h3 h4
      gi_wp2_with fail
      refine ⟨by simp, .inl ⟨_, _, rfl, run_takeDeferred hK, ?_⟩⟩
      have e3 := cell_kept c3 (grownBy_putObj' _ D (.deferred none)) (fun r e => by cases e; exact ⟨_, hK, rfl⟩)
      have e4 := cell_kept c4 (grownBy_putObj' _ D (.deferred none)) (fun r e => by cases e; exact ⟨_, hK, rfl⟩)
      refine ⟨.tuple #[.slice al nl cl, .bool true], ?_, _, rfl, HG.out.own (B' := w.heap.size) (Nat.le_refl _) (grownBy_putObj' _ D (.deferred none)) (fun r e => by cases e; exact ⟨by omega, _, hK, rfl⟩)⟩
      simp [results, Try.results10, go_sem, e3, e4]
end Go.Proofs.Ytmghkkaoblkmpaa
