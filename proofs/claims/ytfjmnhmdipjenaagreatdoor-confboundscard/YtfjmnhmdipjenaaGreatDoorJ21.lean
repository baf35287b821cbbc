/- Contracts of the program's functions, part 21: own work, joined in build order. -/
import Derived.Test.YtfjmnhmdipjenaaGreatDoorJ20
import Derived.Deep.WholeRow
namespace Go.Proofs.YtfjmnhmdipjenaaGreatDoor
open Go.RowKit
set_option maxRecDepth 100000
set_option linter.unusedVariables false
/-- What a line tells of a flow. -/
def flV (p : List ByteArray × Bool) (i : Nat) : Int := match i with
  | 0 => nmI (arS ⟨#[119, 101, 105, 103, 104, 116, 32, 113, 117, 97, 110, 116, 117, 109, 32, 99, 108, 97, 115, 115, 32, 115, 112, 97, 110, 32, 98, 117, 114, 115, 116, 32, 114, 97, 116, 101, 32, 112, 101, 114, 32, 110, 111, 100, 101]⟩ p)
  | 1 => nmI (nmS (arS ⟨#[119, 101, 105, 103, 104, 116, 32, 113, 117, 97, 110, 116, 117, 109, 32, 99, 108, 97, 115, 115, 32, 115, 112, 97, 110, 32, 98, 117, 114, 115, 116, 32, 114, 97, 116, 101, 32, 112, 101, 114, 32, 110, 111, 100, 101]⟩ p))
  | 2 => nmI (nmS (nmS (arS ⟨#[119, 101, 105, 103, 104, 116, 32, 113, 117, 97, 110, 116, 117, 109, 32, 99, 108, 97, 115, 115, 32, 115, 112, 97, 110, 32, 98, 117, 114, 115, 116, 32, 114, 97, 116, 101, 32, 112, 101, 114, 32, 110, 111, 100, 101]⟩ p)))
  | 3 => nmI (nmS (nmS (nmS (arS ⟨#[119, 101, 105, 103, 104, 116, 32, 113, 117, 97, 110, 116, 117, 109, 32, 99, 108, 97, 115, 115, 32, 115, 112, 97, 110, 32, 98, 117, 114, 115, 116, 32, 114, 97, 116, 101, 32, 112, 101, 114, 32, 110, 111, 100, 101]⟩ p))))
  | 4 => nmI (nmS (nmS (nmS (nmS (arS ⟨#[119, 101, 105, 103, 104, 116, 32, 113, 117, 97, 110, 116, 117, 109, 32, 99, 108, 97, 115, 115, 32, 115, 112, 97, 110, 32, 98, 117, 114, 115, 116, 32, 114, 97, 116, 101, 32, 112, 101, 114, 32, 110, 111, 100, 101]⟩ p)))))
  | 5 => nmI (woS (nmS (nmS (nmS (nmS (nmS (arS ⟨#[119, 101, 105, 103, 104, 116, 32, 113, 117, 97, 110, 116, 117, 109, 32, 99, 108, 97, 115, 115, 32, 115, 112, 97, 110, 32, 98, 117, 114, 115, 116, 32, 114, 97, 116, 101, 32, 112, 101, 114, 32, 110, 111, 100, 101]⟩ p)))))))
  | 6 => nmI (nmS (woS (nmS (nmS (nmS (nmS (nmS (arS ⟨#[119, 101, 105, 103, 104, 116, 32, 113, 117, 97, 110, 116, 117, 109, 32, 99, 108, 97, 115, 115, 32, 115, 112, 97, 110, 32, 98, 117, 114, 115, 116, 32, 114, 97, 116, 101, 32, 112, 101, 114, 32, 110, 111, 100, 101]⟩ p))))))))
  | _ => 0
def flR (p : List ByteArray × Bool) : ByteArray := hdT (nmS (nmS (nmS (nmS (nmS (arS ⟨#[119, 101, 105, 103, 104, 116, 32, 113, 117, 97, 110, 116, 117, 109, 32, 99, 108, 97, 115, 115, 32, 115, 112, 97, 110, 32, 98, 117, 114, 115, 116, 32, 114, 97, 116, 101, 32, 112, 101, 114, 32, 110, 111, 100, 101]⟩ p)))))).1
def flS (p : List ByteArray × Bool) : List ByteArray × Bool := (nmS (nmS (woS (nmS (nmS (nmS (nmS (nmS (arS ⟨#[119, 101, 105, 103, 104, 116, 32, 113, 117, 97, 110, 116, 117, 109, 32, 99, 108, 97, 115, 115, 32, 115, 112, 97, 110, 32, 98, 117, 114, 115, 116, 32, 114, 97, 116, 101, 32, 112, 101, 114, 32, 110, 111, 100, 101]⟩ p)))))))))
theorem flow_any {lm : Nat} (rb : Nat) (p : List ByteArray × Bool) (w : World) (h : Rp lm w rb p) (hl : p.1.length ≤ 50000) :
    Calls Tryz.prog 29 #[.pointer (some ⟨rb, 0, none⟩)] w fun e w' => e = .returned (.tuple #[.agg #[.int .i64 (flV p 0), .int .i64 (flV p 1), .int .i64 (flV p 2), .int .i64 (flV p 3), .int .i64 (flV p 4), .float .f64 0, .int .i64 (flV p 5), .int .i64 (flV p 6)], .string (flR p)]) ∧ (∃ lm', Rp lm' w' rb (flS p)) ∧ Ob rb w w' :=
  flow_walk rb p _ _ _ _ _ _ _ _ _ _ _ _ _ _ _ _ _ rfl rfl rfl rfl rfl rfl rfl rfl rfl rfl rfl rfl rfl rfl rfl rfl rfl w h hl
set_option maxHeartbeats 1000000 in
theorem parseFlow_good (K R M C Fl A : Int) (a : Option Addr) (n cap : Nat) (G : Nat → Nat → Int) (s rt : ByteArray) (n0 n1 n2 n3 n4 n5 n6 : Int) (p q u : Nat) (w : World) (h : NSl w a n cap G) (hs : s.size ≤ 4096) (he : EV w) (hk : KN w) (hT : Tab w) (hz : checkE K R M C Fl A G n = 0)
    (k0 : flV (wordsL s, false) 0 = n0)
    (k1 : flV (wordsL s, false) 1 = n1)
    (k2 : flV (wordsL s, false) 2 = n2)
    (k3 : flV (wordsL s, false) 3 = n3)
    (k4 : flV (wordsL s, false) 4 = n4)
    (k5 : flV (wordsL s, false) 5 = n5)
    (k6 : flV (wordsL s, false) 6 = n6)
    (kr : flR (wordsL s, false) = rt) (hd : flS (wordsL s, false) = ([], false)) (hrt : rt.size ≤ 4096) (h1 : npE rt = 0) (h2 : npP rt = p) (h3 : npQ rt = q) (hp : RS p) (hq : RS q) (h4 : tfV p q = u) (h5 : tfOk p q = true) (hu : u < 18446744073709551616) (h6 : ffP u = p) (h7 : ffQ u = q)
    (hc : flowE K R M C Fl A G n n0 n1 n2 n3 n4 u n5 n6 = 0) :
    Calls Tryz.prog 13 #[.agg #[.int .i64 K, .int .i64 R, .int .i64 M, .int .i64 C, .int .i64 Fl, .int .i64 A, .slice a n cap], .string s] w fun e w' => e = .returned (.tuple #[.agg #[.int .i64 n0, .int .i64 n1, .int .i64 n2, .int .i64 n3, .int .i64 n4, .float .f64 u, .int .i64 n5, .int .i64 n6], .int .i64 0]) ∧ Below w.heap.size w w' := by
  have HN : Hid _ := h
  have HE : Hid _ := he
  have HK : Hid (KN w) := hk
  have HT : Hid (Tab w) := hT
  have HZ : Hid _ := hz
  have HD : Hid _ := hd
  have HC : Hid _ := hc
  have HX : Hid (∀ W, Tab W → Calls Tryz.prog 30 #[.string rt] W fun e w' => e = .returned (.tuple #[.float .f64 u, .int .i64 0]) ∧ Below W.heap.size W w') := fun W hW => exactly_good rt p q u W hrt hW h1 h2 h3 hp hq h4 h5 hu h6 h7
  have HV : Hid (∀ e : Ending, e = .returned (.tuple #[.agg #[.int .i64 (flV (wordsL s, false) 0), .int .i64 (flV (wordsL s, false) 1), .int .i64 (flV (wordsL s, false) 2), .int .i64 (flV (wordsL s, false) 3), .int .i64 (flV (wordsL s, false) 4), .float .f64 0, .int .i64 (flV (wordsL s, false) 5), .int .i64 (flV (wordsL s, false) 6)], .string (flR (wordsL s, false))]) → e = .returned (.tuple #[.agg #[.int .i64 n0, .int .i64 n1, .int .i64 n2, .int .i64 n3, .int .i64 n4, .float .f64 0, .int .i64 n5, .int .i64 n6], .string rt])) := by
    intro e q
    rw [q, k0, k1, k2, k3, k4, k5, k6, kr]
  have hl0 : n ≤ 9223372036854775807 := Nat.le_trans h.le h.lim
  clear h he hk hT hz hd hc k0 k1 k2 k3 k4 k5 k6 kr hrt h1 h2 h3 hp hq h4 h5 hu h6 h7
  have d0 : ¬ (4096 : Int) < (s.size : Int) := by omega
  go_enter Tryz.func13, Tryz.ntmps13
  go_wp2_with fail
  have S0 : Hid _ := ((ce_start w).box7 (.int .i64 K) (.int .i64 R) (.int .i64 M) (.int .i64 C) (.int .i64 Fl) (.int .i64 A) (.slice a n cap) 24 _ rfl).box8 (.int .i64 0) (.int .i64 0) (.int .i64 0) (.int .i64 0) (.int .i64 0) (.float .f64 0) (.int .i64 0) (.int .i64 0) 27 (w.heap.size + 1) (by rw [World.size_alloc])
  have Z0 : Hid (((w.alloc (.cells #[.int .i64 K, .int .i64 R, .int .i64 M, .int .i64 C, .int .i64 Fl, .int .i64 A, .slice a n cap] 24)).alloc (.cells #[.int .i64 0, .int .i64 0, .int .i64 0, .int .i64 0, .int .i64 0, .float .f64 0, .int .i64 0, .int .i64 0] 27)).heap[w.heap.size + 1]? = some (.cells #[.int .i64 0, .int .i64 0, .int .i64 0, .int .i64 0, .int .i64 0, .float .f64 0, .int .i64 0, .int .i64 0] 27)) := by
    have q := al_at (w.alloc (.cells #[.int .i64 K, .int .i64 R, .int .i64 M, .int .i64 C, .int .i64 Fl, .int .i64 A, .slice a n cap] 24)) (.cells #[.int .i64 0, .int .i64 0, .int .i64 0, .int .i64 0, .int .i64 0, .float .f64 0, .int .i64 0, .int .i64 0] 27)
    rw [World.size_alloc] at q
    exact q
  refine (check_any K R M C Fl A a n cap G _ (HN.out.go S0.out.bel)).mono ?_
  rintro e w1 ⟨rfl, hb⟩
  rw [HZ.out]
  obtain ⟨gA, egA⟩ : ∃ g, g = w.heap.size := ⟨_, rfl⟩
  obtain ⟨gR, egR⟩ : ∃ g, g = w.heap.size + 1 := ⟨_, rfl⟩
  have S1 : Hid _ := S0.out.go hb
  have Z1 : Hid (w1.heap[gR]? = some (.cells #[.int .i64 0, .int .i64 0, .int .i64 0, .int .i64 0, .int .i64 0, .float .f64 0, .int .i64 0, .int .i64 0] 27)) := by
    show _ = _
    rw [egR]
    exact (hb.block _ (by rw [World.size_alloc, World.size_alloc]; omega)).trans Z0.out
  rw [← egR, ← egA] at S1
  rw [← egR, ← egA]
  have HA : Hid (w.heap.size ≤ gA ∧ w.heap.size ≤ gR ∧ gA ≠ gR) := ⟨by omega, by omega, by omega⟩
  clear egA egR hb S0 Z0
  go_wp2_with fail
  refine (words_any s _ (by omega)).mono ?_
  rintro e w2 ⟨v2, rfl, hO, hb2⟩
  have S2 : Hid _ := S1.out.go hb2
  have Z2 : Hid (w2.heap[gR]? = some (.cells #[.int .i64 0, .int .i64 0, .int .i64 0, .int .i64 0, .int .i64 0, .float .f64 0, .int .i64 0, .int .i64 0] 27)) := (hb2.block _ (Array.getElem?_eq_some_iff.1 Z1.out).1).trans Z1.out
  have R2 : Hid _ := rp_start (W0 := w) hs hO (HE.out.go S2.out.bel) (HK.out.go S2.out.bel)
  have e1 : ∃ a n c, v2 = .slice a n c := by
    rcases hO with ⟨q, _⟩ | ⟨g, cap, f, q, _⟩
    · exact ⟨_, _, _, q⟩
    · exact ⟨_, _, _, q⟩
  obtain ⟨a2, m2, c2, rfl⟩ := e1
  have hlw : (wordsL s).length ≤ 50000 := by have := words_len s; omega
  have LW : Hid _ := hlw
  obtain ⟨rb, erb⟩ : ∃ g, g = w2.heap.size := ⟨_, rfl⟩
  have S2b : Hid _ := S2.out.go (bc_al (o := .cells #[.slice a2 m2 c2, .bool false] 72) (bel_refl w2))
  have Z2b : Hid ((w2.alloc (.cells #[.slice a2 m2 c2, .bool false] 72)).heap[gR]? = some (.cells #[.int .i64 0, .int .i64 0, .int .i64 0, .int .i64 0, .int .i64 0, .float .f64 0, .int .i64 0, .int .i64 0] 27)) := ((bc_al (bel_refl w2)).block _ (Array.getElem?_eq_some_iff.1 Z2.out).1).trans Z2.out
  have lA := S2.out.lt gA 0 (.int .i64 K)
  have lR : gR < w2.heap.size := (Array.getElem?_eq_some_iff.1 Z2.out).1
  have HNE : Hid (gA ≠ rb ∧ gR ≠ rb ∧ w.heap.size ≤ rb) := ⟨by omega, by omega, by rw [erb]; exact S2.out.bel.size⟩
  clear hO hb2 hlw lA lR
  go_wp2_with fail
  rw [← erb]
  rw [← erb] at R2
  refine (flow_any rb (wordsL s, false) _ R2.out LW.out).mono ?_
  rintro e w3 ⟨he3, ⟨lm3, hr3⟩, ho3⟩
  have he4 := HV.out e he3
  subst he4
  rw [HD.out] at hr3
  have R3 : Hid _ := hr3
  have S3 : Hid (Ce w w3 [(gA, 0, .int .i64 K), (gA, 1, .int .i64 R), (gA, 2, .int .i64 M), (gA, 3, .int .i64 C), (gA, 4, .int .i64 Fl), (gA, 5, .int .i64 A), (gA, 6, .slice a n cap)]) := by
    refine ⟨fun x hx => ?_, ?_⟩
    · have hb : x.1 = gA := by
        simp only [List.mem_cons, List.not_mem_nil, or_false] at hx
        rcases hx with rfl | rfl | rfl | rfl | rfl | rfl | rfl <;> rfl
      refine ho3.cell (S2b.out.cells x ?_) (by show x.1 ≠ rb; rw [hb]; exact HNE.out.1)
      exact List.mem_append_right [(gR, 0, .int .i64 0), (gR, 1, .int .i64 0), (gR, 2, .int .i64 0), (gR, 3, .int .i64 0), (gR, 4, .int .i64 0), (gR, 5, .float .f64 0), (gR, 6, .int .i64 0), (gR, 7, .int .i64 0)] hx
    · exact S2b.out.bel.trans (ho3.below S2b.out.bel.size HNE.out.2.2)
  have Z3 : Hid (w3.heap[gR]? = some (.cells #[.int .i64 0, .int .i64 0, .int .i64 0, .int .i64 0, .int .i64 0, .float .f64 0, .int .i64 0, .int .i64 0] 27)) := (ho3.block gR (Array.getElem?_eq_some_iff.1 Z2b.out).1 HNE.out.2.1).trans Z2b.out
  clear he3 hr3 ho3 R2 S2 S2b Z2 Z2b Z1 S1 erb
  have hAL := al_at w3 (.cells #[.int .i64 0, .int .i64 0, .int .i64 0, .int .i64 0, .int .i64 0, .float .f64 0, .int .i64 0, .int .i64 0] 27)
  have HAL : Hid _ := hAL
  clear hAL
  go_wp2_with (refine (id ?_ : wpList Tryz.prog _ _ (⟨none, .store 27 (.tmp 8) (.tmp 27), _, _, _, _⟩ :: _) _ _); refine wpList_store_row rfl 27 (.tmp 8) (.tmp 27) rfl w3.heap.size #[.int .i64 n0, .int .i64 n1, .int .i64 n2, .int .i64 n3, .int .i64 n4, .float .f64 0, .int .i64 n5, .int .i64 n6] rfl rfl 27 #[.int .i64 0, .int .i64 0, .int .i64 0, .int .i64 0, .int .i64 0, .float .f64 0, .int .i64 0, .int .i64 0] HAL.out (by kernel_rfl) (by kernel_rfl) (by kernel_rfl) ?_; rw [World.setRow_alloc_new])
  refine (done_any rb [] false _ (R3.out.rd.go (bc_al (bel_refl w3)))).mono ?_
  rintro e w4 ⟨rfl, rfl⟩
  go_wp2_with fail
  refine (HX.out _ (Tab.go HT.out (bc_al S3.out.bel))).mono ?_
  rintro e w5 ⟨rfl, hb5⟩
  obtain ⟨gP, egP⟩ : ∃ g, g = w3.heap.size := ⟨_, rfl⟩
  have B3 := bc_al (o := .cells #[.int .i64 n0, .int .i64 n1, .int .i64 n2, .int .i64 n3, .int .i64 n4, .float .f64 0, .int .i64 n5, .int .i64 n6] 27) (bel_refl w3)
  have S5 : Hid _ := (S3.out.go B3).go hb5
  have Z5 : Hid (w5.heap[gR]? = some (.cells #[.int .i64 0, .int .i64 0, .int .i64 0, .int .i64 0, .int .i64 0, .float .f64 0, .int .i64 0, .int .i64 0] 27)) := ((bc_go B3 hb5).block gR (Array.getElem?_eq_some_iff.1 Z3.out).1).trans Z3.out
  have P5 : Hid (w5.heap[gP]? = some (.cells #[.int .i64 n0, .int .i64 n1, .int .i64 n2, .int .i64 n3, .int .i64 n4, .float .f64 0, .int .i64 n5, .int .i64 n6] 27)) := by
    show _ = _
    rw [egP]
    exact (hb5.block _ (by rw [World.size_alloc]; omega)).trans (al_at _ _)
  rw [← egP]
  have lR : gR < w3.heap.size := (Array.getElem?_eq_some_iff.1 Z3.out).1
  have lA := S3.out.lt gA 0 (.int .i64 K)
  have HP : Hid (gA ≠ gP ∧ gR ≠ gP ∧ w.heap.size ≤ gP) := ⟨by omega, by omega, by rw [egP]; exact S3.out.bel.size⟩
  have hP := P5.out
  have y0 : w5.cell? ⟨gP, 0, none⟩ = some (.int .i64 n0) := by simp [World.cell?, hP]
  have y1 : w5.cell? ⟨gP, 1, none⟩ = some (.int .i64 n1) := by simp [World.cell?, hP]
  have y2 : w5.cell? ⟨gP, 2, none⟩ = some (.int .i64 n2) := by simp [World.cell?, hP]
  have y3 : w5.cell? ⟨gP, 3, none⟩ = some (.int .i64 n3) := by simp [World.cell?, hP]
  have y4 : w5.cell? ⟨gP, 4, none⟩ = some (.int .i64 n4) := by simp [World.cell?, hP]
  have y5 : w5.cell? ⟨gP, 5, none⟩ = some (.float .f64 0) := by simp [World.cell?, hP]
  have y6 : w5.cell? ⟨gP, 6, none⟩ = some (.int .i64 n5) := by simp [World.cell?, hP]
  have y7 : w5.cell? ⟨gP, 7, none⟩ = some (.int .i64 n6) := by simp [World.cell?, hP]
  have fy : w5.frozen? ⟨gP, 5, none⟩ = false := by simp [World.frozen?, hP]
  have B5 : Hid (Bx1 w5 w5 gP 27 #[.int .i64 n0, .int .i64 n1, .int .i64 n2, .int .i64 n3, .int .i64 n4, .float .f64 0, .int .i64 n5, .int .i64 n6]) := ⟨hP, fun _ _ => rfl, rfl, rfl, rfl, rfl⟩
  clear hP lR lA egP hb5 B3
  have sf := fun (w : World) (a : Addr) (x : Nat) => run_store Tryz.prog w a (.float .f64 x) .plain rfl
  go_wp2_with (refine (id ?_ : wpList Tryz.prog _ _ (⟨some 42, _, _, _, _, _⟩ :: _) _ _); refine wpList_as (fun W => Bx1 w5 W gP 27 #[.int .i64 n0, .int .i64 n1, .int .i64 n2, .int .i64 n3, .int .i64 n4, .float .f64 u, .int .i64 n5, .int .i64 n6]) (B5.out.set 5 (.float .f64 u)) ?_)
  intro w6 B6
  clear y0
  clear y1
  clear y2
  clear y3
  clear y4
  clear y5
  clear y6
  clear y7
  clear fy sf
  have hP := B6.hc
  have y0 : w6.cell? ⟨gP, 0, none⟩ = some (.int .i64 n0) := by simp [World.cell?, hP]
  have y1 : w6.cell? ⟨gP, 1, none⟩ = some (.int .i64 n1) := by simp [World.cell?, hP]
  have y2 : w6.cell? ⟨gP, 2, none⟩ = some (.int .i64 n2) := by simp [World.cell?, hP]
  have y3 : w6.cell? ⟨gP, 3, none⟩ = some (.int .i64 n3) := by simp [World.cell?, hP]
  have y4 : w6.cell? ⟨gP, 4, none⟩ = some (.int .i64 n4) := by simp [World.cell?, hP]
  have y5 : w6.cell? ⟨gP, 5, none⟩ = some (.float .f64 u) := by simp [World.cell?, hP]
  have y6 : w6.cell? ⟨gP, 6, none⟩ = some (.int .i64 n5) := by simp [World.cell?, hP]
  have y7 : w6.cell? ⟨gP, 7, none⟩ = some (.int .i64 n6) := by simp [World.cell?, hP]
  have S6 : Hid (Ce w w6 [(gA, 0, .int .i64 K), (gA, 1, .int .i64 R), (gA, 2, .int .i64 M), (gA, 3, .int .i64 C), (gA, 4, .int .i64 Fl), (gA, 5, .int .i64 A), (gA, 6, .slice a n cap)]) := by
    refine ⟨fun x hx => ?_, ?_⟩
    · have hb : x.1 = gA := by
        simp only [List.mem_cons, List.not_mem_nil, or_false] at hx
        rcases hx with rfl | rfl | rfl | rfl | rfl | rfl | rfl <;> rfl
      exact (World.cell?_of_block (w := w5) (B6.ot _ (by show x.1 ≠ gP; rw [hb]; exact HP.out.1))).trans (S5.out.cells x hx)
    · have q := S5.out.bel
      exact ⟨B6.os.trans q.os, B6.tape.trans q.tape, B6.output.trans q.output, by rw [B6.size]; exact q.size, fun k hk => (B6.ot k (by have := HP.out.2.2; omega)).trans (q.block k hk)⟩
  have Z6 : Hid (w6.heap[gR]? = some (.cells #[.int .i64 0, .int .i64 0, .int .i64 0, .int .i64 0, .int .i64 0, .float .f64 0, .int .i64 0, .int .i64 0] 27)) := (B6.ot gR HP.out.2.1).trans Z5.out
  have x0 := S6.out.cel gA 0 (.int .i64 K)
  have x1 := S6.out.cel gA 1 (.int .i64 R)
  have x2 := S6.out.cel gA 2 (.int .i64 M)
  have x3 := S6.out.cel gA 3 (.int .i64 C)
  have x4 := S6.out.cel gA 4 (.int .i64 Fl)
  have x5 := S6.out.cel gA 5 (.int .i64 A)
  have x6 := S6.out.cel gA 6 (.slice a n cap)
  clear hP B6
  go_wp2_with fail
  refine (checkFlow_any K R M C Fl A a n cap G n0 n1 n2 n3 n4 u n5 n6 _ (HN.out.go S6.out.bel)).mono ?_
  rintro e w7 ⟨rfl, hb7⟩
  rw [HC.out]
  have z0 := bc_cell hb7 y0
  have z1 := bc_cell hb7 y1
  have z2 := bc_cell hb7 y2
  have z3 := bc_cell hb7 y3
  have z4 := bc_cell hb7 y4
  have z5 := bc_cell hb7 y5
  have z6 := bc_cell hb7 y6
  have z7 := bc_cell hb7 y7
  have Z7 : Hid (w7.heap[gR]? = some (.cells #[.int .i64 0, .int .i64 0, .int .i64 0, .int .i64 0, .int .i64 0, .float .f64 0, .int .i64 0, .int .i64 0] 27)) := (hb7.block gR (Array.getElem?_eq_some_iff.1 Z6.out).1).trans Z6.out
  have W7 : Hid _ := bc_go S6.out.bel hb7
  clear y0
  clear y1
  clear y2
  clear y3
  clear y4
  clear y5
  clear y6
  clear y7
  clear x0
  clear x1
  clear x2
  clear x3
  clear x4
  clear x5
  clear x6
  clear hb7
  go_wp2_with (refine (id ?_ : wpList Tryz.prog _ _ (⟨none, .store 27 (.tmp 4) (.tmp 49), _, _, _, _⟩ :: _) _ _); refine wpList_store_row rfl 27 (.tmp 4) (.tmp 49) rfl gR #[.int .i64 n0, .int .i64 n1, .int .i64 n2, .int .i64 n3, .int .i64 n4, .float .f64 u, .int .i64 n5, .int .i64 n6] rfl rfl 27 #[.int .i64 0, .int .i64 0, .int .i64 0, .int .i64 0, .int .i64 0, .float .f64 0, .int .i64 0, .int .i64 0] Z7.out (by kernel_rfl) (by kernel_rfl) (by kernel_rfl) ?_; refine wpList_as (fun W => W.heap[gR]? = some (.cells #[.int .i64 n0, .int .i64 n1, .int .i64 n2, .int .i64 n3, .int .i64 n4, .float .f64 u, .int .i64 n5, .int .i64 n6] 27) ∧ Below w.heap.size w W) ⟨setRow_heap _ _ _ _ _ _ Z7.out, ?_⟩ ?_)
  · exact ⟨W7.out.os, W7.out.tape, W7.out.output, by rw [size_setRow]; exact W7.out.size, fun k hk => (setRow_other _ _ _ _ (by have := HA.out.2.1; omega)).trans (W7.out.block k hk)⟩
  intro w8 hR hB
  have W8 : Hid _ := hB
  have y0 : w8.cell? ⟨gR, 0, none⟩ = some (.int .i64 n0) := by simp [World.cell?, hR]
  have y1 : w8.cell? ⟨gR, 1, none⟩ = some (.int .i64 n1) := by simp [World.cell?, hR]
  have y2 : w8.cell? ⟨gR, 2, none⟩ = some (.int .i64 n2) := by simp [World.cell?, hR]
  have y3 : w8.cell? ⟨gR, 3, none⟩ = some (.int .i64 n3) := by simp [World.cell?, hR]
  have y4 : w8.cell? ⟨gR, 4, none⟩ = some (.int .i64 n4) := by simp [World.cell?, hR]
  have y5 : w8.cell? ⟨gR, 5, none⟩ = some (.float .f64 u) := by simp [World.cell?, hR]
  have y6 : w8.cell? ⟨gR, 6, none⟩ = some (.int .i64 n5) := by simp [World.cell?, hR]
  have y7 : w8.cell? ⟨gR, 7, none⟩ = some (.int .i64 n6) := by simp [World.cell?, hR]
  clear hB hR
  go_wp2_with fail
  exact bodyPost_ret (v := .tuple #[.agg #[.int .i64 n0, .int .i64 n1, .int .i64 n2, .int .i64 n3, .int .i64 n4, .float .f64 u, .int .i64 n5, .int .i64 n6], .int .i64 0]) (by simp [results, Tryz.results13, go_sem, y0, y1, y2, y3, y4, y5, y6, y7]) rfl ⟨rfl, W8.out⟩
end Go.Proofs.YtfjmnhmdipjenaaGreatDoor

namespace Go.Proofs.YtfjmnhmdipjenaaGreatDoor
open Go.RowKit
set_option maxRecDepth 100000
set_option linter.unusedVariables false
theorem st_one : (⟨(Lib.join ((headT 1 100 50 10 2 0).map (·.data.toList)) [32]).toArray⟩ : ByteArray) = ⟨#[107, 105, 110, 100, 32, 119, 102, 113, 32, 114, 111, 111, 109, 32, 49, 48, 48, 32, 109, 111, 115, 116, 32, 53, 48, 32, 99, 97, 112, 32, 49, 48, 32, 102, 108, 111, 119, 115, 32, 50, 32, 97, 103, 101, 32, 48]⟩ := by decide +kernel
theorem st_ck : checkE 1 100 50 10 2 0 (fun _ _ => 0) 0 = 0 := by decide +kernel
theorem st_fl : flowE 1 100 50 10 2 0 (fun _ _ => 0) 0 1 0 0 0 100 4602678819172646912 3 0 = 0 := by decide +kernel
theorem st_ff : ffP 4602678819172646912 = 1 ∧ ffQ 4602678819172646912 = 2 := by decide +kernel
theorem st_txt : (⟨(Lib.join ((flowT 1 0 0 0 100 3 0 (fmtT 1 2 1 1)).map (·.data.toList)) [32]).toArray⟩ : ByteArray) = ⟨#[119, 101, 105, 103, 104, 116, 32, 49, 32, 113, 117, 97, 110, 116, 117, 109, 32, 48, 32, 99, 108, 97, 115, 115, 32, 48, 32, 115, 112, 97, 110, 32, 48, 32, 98, 117, 114, 115, 116, 32, 49, 48, 48, 32, 114, 97, 116, 101, 32, 49, 47, 50, 32, 112, 101, 114, 32, 51, 32, 110, 111, 100, 101, 32, 48]⟩ := by decide +kernel
theorem st_fmt : (fmtT 1 2 1 1).size ≤ 4000 := by decide +kernel
theorem st_line : setV (wordsL ⟨#[107, 105, 110, 100, 32, 32, 119, 102, 113, 32, 109, 111, 115, 116, 32, 53, 48, 32, 114, 111, 111, 109, 32, 49, 48, 48, 32, 102, 108, 111, 119, 115, 32, 50, 32, 99, 97, 112, 32, 49, 48, 32, 97, 103, 101, 32, 48, 32]⟩, false) 0 = 1 ∧ setV (wordsL ⟨#[107, 105, 110, 100, 32, 32, 119, 102, 113, 32, 109, 111, 115, 116, 32, 53, 48, 32, 114, 111, 111, 109, 32, 49, 48, 48, 32, 102, 108, 111, 119, 115, 32, 50, 32, 99, 97, 112, 32, 49, 48, 32, 97, 103, 101, 32, 48, 32]⟩, false) 1 = 100 ∧ setV (wordsL ⟨#[107, 105, 110, 100, 32, 32, 119, 102, 113, 32, 109, 111, 115, 116, 32, 53, 48, 32, 114, 111, 111, 109, 32, 49, 48, 48, 32, 102, 108, 111, 119, 115, 32, 50, 32, 99, 97, 112, 32, 49, 48, 32, 97, 103, 101, 32, 48, 32]⟩, false) 2 = 50 ∧ setV (wordsL ⟨#[107, 105, 110, 100, 32, 32, 119, 102, 113, 32, 109, 111, 115, 116, 32, 53, 48, 32, 114, 111, 111, 109, 32, 49, 48, 48, 32, 102, 108, 111, 119, 115, 32, 50, 32, 99, 97, 112, 32, 49, 48, 32, 97, 103, 101, 32, 48, 32]⟩, false) 3 = 10 ∧ setV (wordsL ⟨#[107, 105, 110, 100, 32, 32, 119, 102, 113, 32, 109, 111, 115, 116, 32, 53, 48, 32, 114, 111, 111, 109, 32, 49, 48, 48, 32, 102, 108, 111, 119, 115, 32, 50, 32, 99, 97, 112, 32, 49, 48, 32, 97, 103, 101, 32, 48, 32]⟩, false) 4 = 2 ∧ setV (wordsL ⟨#[107, 105, 110, 100, 32, 32, 119, 102, 113, 32, 109, 111, 115, 116, 32, 53, 48, 32, 114, 111, 111, 109, 32, 49, 48, 48, 32, 102, 108, 111, 119, 115, 32, 50, 32, 99, 97, 112, 32, 49, 48, 32, 97, 103, 101, 32, 48, 32]⟩, false) 5 = 0 ∧ setS (wordsL ⟨#[107, 105, 110, 100, 32, 32, 119, 102, 113, 32, 109, 111, 115, 116, 32, 53, 48, 32, 114, 111, 111, 109, 32, 49, 48, 48, 32, 102, 108, 111, 119, 115, 32, 50, 32, 99, 97, 112, 32, 49, 48, 32, 97, 103, 101, 32, 48, 32]⟩, false) = ([], false) := by decide +kernel
theorem st_flow : flV (wordsL ⟨#[119, 101, 105, 103, 104, 116, 32, 49, 32, 113, 117, 97, 110, 116, 117, 109, 32, 48, 32, 99, 108, 97, 115, 115, 32, 48, 32, 115, 112, 97, 110, 32, 48, 32, 98, 117, 114, 115, 116, 32, 49, 48, 48, 32, 114, 97, 116, 101, 32, 49, 47, 50, 32, 112, 101, 114, 32, 51, 32, 110, 111, 100, 101, 32, 48]⟩, false) 0 = 1 ∧ flV (wordsL ⟨#[119, 101, 105, 103, 104, 116, 32, 49, 32, 113, 117, 97, 110, 116, 117, 109, 32, 48, 32, 99, 108, 97, 115, 115, 32, 48, 32, 115, 112, 97, 110, 32, 48, 32, 98, 117, 114, 115, 116, 32, 49, 48, 48, 32, 114, 97, 116, 101, 32, 49, 47, 50, 32, 112, 101, 114, 32, 51, 32, 110, 111, 100, 101, 32, 48]⟩, false) 1 = 0 ∧ flV (wordsL ⟨#[119, 101, 105, 103, 104, 116, 32, 49, 32, 113, 117, 97, 110, 116, 117, 109, 32, 48, 32, 99, 108, 97, 115, 115, 32, 48, 32, 115, 112, 97, 110, 32, 48, 32, 98, 117, 114, 115, 116, 32, 49, 48, 48, 32, 114, 97, 116, 101, 32, 49, 47, 50, 32, 112, 101, 114, 32, 51, 32, 110, 111, 100, 101, 32, 48]⟩, false) 2 = 0 ∧ flV (wordsL ⟨#[119, 101, 105, 103, 104, 116, 32, 49, 32, 113, 117, 97, 110, 116, 117, 109, 32, 48, 32, 99, 108, 97, 115, 115, 32, 48, 32, 115, 112, 97, 110, 32, 48, 32, 98, 117, 114, 115, 116, 32, 49, 48, 48, 32, 114, 97, 116, 101, 32, 49, 47, 50, 32, 112, 101, 114, 32, 51, 32, 110, 111, 100, 101, 32, 48]⟩, false) 3 = 0 ∧ flV (wordsL ⟨#[119, 101, 105, 103, 104, 116, 32, 49, 32, 113, 117, 97, 110, 116, 117, 109, 32, 48, 32, 99, 108, 97, 115, 115, 32, 48, 32, 115, 112, 97, 110, 32, 48, 32, 98, 117, 114, 115, 116, 32, 49, 48, 48, 32, 114, 97, 116, 101, 32, 49, 47, 50, 32, 112, 101, 114, 32, 51, 32, 110, 111, 100, 101, 32, 48]⟩, false) 4 = 100 ∧ flV (wordsL ⟨#[119, 101, 105, 103, 104, 116, 32, 49, 32, 113, 117, 97, 110, 116, 117, 109, 32, 48, 32, 99, 108, 97, 115, 115, 32, 48, 32, 115, 112, 97, 110, 32, 48, 32, 98, 117, 114, 115, 116, 32, 49, 48, 48, 32, 114, 97, 116, 101, 32, 49, 47, 50, 32, 112, 101, 114, 32, 51, 32, 110, 111, 100, 101, 32, 48]⟩, false) 5 = 3 ∧ flV (wordsL ⟨#[119, 101, 105, 103, 104, 116, 32, 49, 32, 113, 117, 97, 110, 116, 117, 109, 32, 48, 32, 99, 108, 97, 115, 115, 32, 48, 32, 115, 112, 97, 110, 32, 48, 32, 98, 117, 114, 115, 116, 32, 49, 48, 48, 32, 114, 97, 116, 101, 32, 49, 47, 50, 32, 112, 101, 114, 32, 51, 32, 110, 111, 100, 101, 32, 48]⟩, false) 6 = 0 ∧ flR (wordsL ⟨#[119, 101, 105, 103, 104, 116, 32, 49, 32, 113, 117, 97, 110, 116, 117, 109, 32, 48, 32, 99, 108, 97, 115, 115, 32, 48, 32, 115, 112, 97, 110, 32, 48, 32, 98, 117, 114, 115, 116, 32, 49, 48, 48, 32, 114, 97, 116, 101, 32, 49, 47, 50, 32, 112, 101, 114, 32, 51, 32, 110, 111, 100, 101, 32, 48]⟩, false) = ⟨#[49, 47, 50]⟩ ∧ flS (wordsL ⟨#[119, 101, 105, 103, 104, 116, 32, 49, 32, 113, 117, 97, 110, 116, 117, 109, 32, 48, 32, 99, 108, 97, 115, 115, 32, 48, 32, 115, 112, 97, 110, 32, 48, 32, 98, 117, 114, 115, 116, 32, 49, 48, 48, 32, 114, 97, 116, 101, 32, 49, 47, 50, 32, 112, 101, 114, 32, 51, 32, 110, 111, 100, 101, 32, 48]⟩, false) = ([], false) := by decide +kernel
theorem st_np : npE ⟨#[49, 47, 50]⟩ = 0 ∧ npP ⟨#[49, 47, 50]⟩ = 1 ∧ npQ ⟨#[49, 47, 50]⟩ = 2 := by decide +kernel
theorem st_tf : tfV 1 2 = 4602678819172646912 ∧ tfOk 1 2 = true := by decide +kernel
/-- The tree's nodes. -/
def stG (i j : Nat) : Int := (([[6, 0, 0, 0], [4, 0, 5, 7], [6, 0, 9, 0], [2, 2, 1, 0]] : List (List Int)).getD i []).getD j 0
theorem st_tck : checkE 6 100 50 10 2 0 stG 4 = 0 := by decide +kernel
theorem st_tree : (⟨(Lib.join ((headT 6 100 50 10 2 0 ++ nodesT stG 3).map (·.data.toList)) [32]).toArray⟩ : ByteArray) = ⟨#[107, 105, 110, 100, 32, 116, 114, 101, 101, 32, 114, 111, 111, 109, 32, 49, 48, 48, 32, 109, 111, 115, 116, 32, 53, 48, 32, 99, 97, 112, 32, 49, 48, 32, 102, 108, 111, 119, 115, 32, 50, 32, 97, 103, 101, 32, 48, 32, 110, 111, 100, 101, 32, 97, 103, 101, 32, 48, 32, 53, 32, 55, 32, 110, 111, 100, 101, 32, 116, 114, 101, 101, 32, 48, 32, 57, 32, 48, 32, 110, 111, 100, 101, 32, 100, 114, 114, 32, 50, 32, 49, 32, 48]⟩ := by decide +kernel
theorem st_zero : checkE 0 0 0 0 0 0 (fun _ _ => 0) 0 = 90 := by decide +kernel
theorem st_none : flowE 1 100 50 10 2 0 (fun _ _ => 0) 0 0 0 0 0 0 0 0 0 = 93 := by decide +kernel
theorem num9_any (n : Int) (w : World) : Calls Tryz.prog 6 #[.int .i64 n] w fun e w' => e = .returned (.int .i64 n) ∧ w' = w := by
  go_enter Tryz.func6, Tryz.ntmps6
  go_wp2_with fail
  go_ret
  exact ⟨rfl, rfl⟩
set_option maxHeartbeats 1000000 in
theorem same_flat (w : World) : Calls Tryz.prog 14 #[.agg #[.int .i64 1, .int .i64 100, .int .i64 50, .int .i64 10, .int .i64 2, .int .i64 0, .slice none 0 0], .agg #[.int .i64 1, .int .i64 100, .int .i64 50, .int .i64 10, .int .i64 2, .int .i64 0, .slice none 0 0]] w fun e w' => e = .returned (.bool true) ∧ Below w.heap.size w w' := by
  go_enter Tryz.func14, Tryz.ntmps14
  go_wp2_with fail
  go_loopw [5] (fun t wr => t = .int .i64 0 ∧ wr = (w.alloc (.cells #[.int .i64 1, .int .i64 100, .int .i64 50, .int .i64 10, .int .i64 2, .int .i64 0, .slice none 0 0] 24)).alloc (.cells #[.int .i64 1, .int .i64 100, .int .i64 50, .int .i64 10, .int .i64 2, .int .i64 0, .slice none 0 0] 24)) (fun _ _ => 0)
  case atStart => exact ⟨rfl, rfl⟩
  case round =>
    obtain ⟨rfl, rfl⟩ := hrel
    go_wp2_with fail
    go_ret
    exact ⟨rfl, bc_al (bc_al (bel_refl w))⟩
end Go.Proofs.YtfjmnhmdipjenaaGreatDoor

namespace Go.Proofs.YtfjmnhmdipjenaaGreatDoor
open Go.RowKit
set_option maxRecDepth 100000
set_option linter.unusedVariables false
/-- What lies in the package's variables. -/
structure Vs9 (w : World) : Prop where
  kn : KN w
  ev : EV w
  tab : Tab w
  pow : Lib.TabIs Tryz.prog w "internal/strconv.uint64pow10" .u64 Lib.pow10Tab
theorem Vs9.go {w W : World} (h : Vs9 w) (hB : Below w.heap.size w W) : Vs9 W := ⟨h.kn.go hB, h.ev.go hB, Tab.go h.tab hB, Lib.tabBelow_of_tabIs h.pow W hB⟩
theorem st_print (w : World) (h : Vs9 w) : Calls Tryz.prog 10 #[.agg #[.int .i64 1, .int .i64 100, .int .i64 50, .int .i64 10, .int .i64 2, .int .i64 0, .slice none 0 0]] w fun e w' => e = .returned (.tuple #[.string ⟨#[107, 105, 110, 100, 32, 119, 102, 113, 32, 114, 111, 111, 109, 32, 49, 48, 48, 32, 109, 111, 115, 116, 32, 53, 48, 32, 99, 97, 112, 32, 49, 48, 32, 102, 108, 111, 119, 115, 32, 50, 32, 97, 103, 101, 32, 48]⟩, .int .i64 0]) ∧ Below w.heap.size w w' := by
  refine (print_flat 1 100 50 10 2 0 none 0 0 (fun _ _ => 0) w (nsl_nil w) h.kn h.pow (by decide)).mono ?_
  rintro e w' ⟨s, rfl, hb, hs⟩
  rw [hs st_ck, st_ck, st_one]
  exact ⟨rfl, hb⟩
theorem st_five (i : Nat) (h : i < 5) : -9223372036854775808 ≤ setI 1 0 0 0 100 i ∧ setI 1 0 0 0 100 i ≤ 9223372036854775807 := by
  match i, h with
  | 0, _ => decide
  | 1, _ => decide
  | 2, _ => decide
  | 3, _ => decide
  | 4, _ => decide
theorem st_two (i : Nat) (h : i < 2) : -9223372036854775808 ≤ pair2 3 0 i ∧ pair2 3 0 i ≤ 9223372036854775807 := by
  match i, h with
  | 0, _ => decide
  | 1, _ => decide
theorem st_printF (w : World) (h : Vs9 w) : Calls Tryz.prog 11 #[.agg #[.int .i64 1, .int .i64 100, .int .i64 50, .int .i64 10, .int .i64 2, .int .i64 0, .slice none 0 0], .agg #[.int .i64 1, .int .i64 0, .int .i64 0, .int .i64 0, .int .i64 100, .float .f64 4602678819172646912, .int .i64 3, .int .i64 0]] w fun e w' => e = .returned (.tuple #[.string ⟨#[119, 101, 105, 103, 104, 116, 32, 49, 32, 113, 117, 97, 110, 116, 117, 109, 32, 48, 32, 99, 108, 97, 115, 115, 32, 48, 32, 115, 112, 97, 110, 32, 48, 32, 98, 117, 114, 115, 116, 32, 49, 48, 48, 32, 114, 97, 116, 101, 32, 49, 47, 50, 32, 112, 101, 114, 32, 51, 32, 110, 111, 100, 101, 32, 48]⟩, .int .i64 0]) ∧ Below w.heap.size w w' := by
  refine (printFlow_good 1 100 50 10 2 0 none 0 0 (fun _ _ => 0) 1 0 0 0 100 4602678819172646912 3 0 1 2 1 1 w (nsl_nil w) st_fl h.tab h.pow (by decide) st_ff.1 st_ff.2 (rs_word (by omega)) (rs_word (by omega)) ⟨by decide, by decide, .inl rfl⟩ ⟨by decide, by decide, .inl rfl⟩ st_fmt st_five st_two).mono ?_
  rintro e w' ⟨rfl, hb⟩
  rw [st_txt]
  exact ⟨rfl, hb⟩
theorem st_parse (w : World) (h : Vs9 w) : Calls Tryz.prog 12 #[.string ⟨#[107, 105, 110, 100, 32, 32, 119, 102, 113, 32, 109, 111, 115, 116, 32, 53, 48, 32, 114, 111, 111, 109, 32, 49, 48, 48, 32, 102, 108, 111, 119, 115, 32, 50, 32, 99, 97, 112, 32, 49, 48, 32, 97, 103, 101, 32, 48, 32]⟩] w fun e w' => e = .returned (.tuple #[.agg #[.int .i64 1, .int .i64 100, .int .i64 50, .int .i64 10, .int .i64 2, .int .i64 0, .slice none 0 0], .int .i64 0]) ∧ Below w.heap.size w w' := by
  obtain ⟨k0, k1, k2, k3, k4, k5, k6⟩ := st_line
  exact parse_good ⟨#[107, 105, 110, 100, 32, 32, 119, 102, 113, 32, 109, 111, 115, 116, 32, 53, 48, 32, 114, 111, 111, 109, 32, 49, 48, 48, 32, 102, 108, 111, 119, 115, 32, 50, 32, 99, 97, 112, 32, 49, 48, 32, 97, 103, 101, 32, 48, 32]⟩ 1 100 50 10 2 0 w (by decide) h.ev h.kn (by decide) k0 k1 k2 k3 k4 k5 k6 st_ck
theorem st_parseF (w : World) (h : Vs9 w) : Calls Tryz.prog 13 #[.agg #[.int .i64 1, .int .i64 100, .int .i64 50, .int .i64 10, .int .i64 2, .int .i64 0, .slice none 0 0], .string ⟨#[119, 101, 105, 103, 104, 116, 32, 49, 32, 113, 117, 97, 110, 116, 117, 109, 32, 48, 32, 99, 108, 97, 115, 115, 32, 48, 32, 115, 112, 97, 110, 32, 48, 32, 98, 117, 114, 115, 116, 32, 49, 48, 48, 32, 114, 97, 116, 101, 32, 49, 47, 50, 32, 112, 101, 114, 32, 51, 32, 110, 111, 100, 101, 32, 48]⟩] w fun e w' => e = .returned (.tuple #[.agg #[.int .i64 1, .int .i64 0, .int .i64 0, .int .i64 0, .int .i64 100, .float .f64 4602678819172646912, .int .i64 3, .int .i64 0], .int .i64 0]) ∧ Below w.heap.size w w' := by
  obtain ⟨k0, k1, k2, k3, k4, k5, k6, k7, k8⟩ := st_flow
  exact parseFlow_good 1 100 50 10 2 0 none 0 0 (fun _ _ => 0) ⟨#[119, 101, 105, 103, 104, 116, 32, 49, 32, 113, 117, 97, 110, 116, 117, 109, 32, 48, 32, 99, 108, 97, 115, 115, 32, 48, 32, 115, 112, 97, 110, 32, 48, 32, 98, 117, 114, 115, 116, 32, 49, 48, 48, 32, 114, 97, 116, 101, 32, 49, 47, 50, 32, 112, 101, 114, 32, 51, 32, 110, 111, 100, 101, 32, 48]⟩ ⟨#[49, 47, 50]⟩ 1 0 0 0 100 3 0 1 2 4602678819172646912 w (nsl_nil w) (by decide) h.ev h.kn h.tab st_ck k0 k1 k2 k3 k4 k5 k6 k7 k8 (by decide) st_np.1 st_np.2.1 st_np.2.2 (rs_word (by omega)) (rs_word (by omega)) st_tf.1 st_tf.2 (by decide) st_ff.1 st_ff.2 st_fl
theorem st_printT (w : World) (b : Nat) (h : Vs9 w) (hn : NSl w (some ⟨b, 0, none⟩) 4 4 stG) : Calls Tryz.prog 10 #[.agg #[.int .i64 6, .int .i64 100, .int .i64 50, .int .i64 10, .int .i64 2, .int .i64 0, .slice (some ⟨b, 0, none⟩) 4 4]] w fun e w' => e = .returned (.tuple #[.string ⟨#[107, 105, 110, 100, 32, 116, 114, 101, 101, 32, 114, 111, 111, 109, 32, 49, 48, 48, 32, 109, 111, 115, 116, 32, 53, 48, 32, 99, 97, 112, 32, 49, 48, 32, 102, 108, 111, 119, 115, 32, 50, 32, 97, 103, 101, 32, 48, 32, 110, 111, 100, 101, 32, 97, 103, 101, 32, 48, 32, 53, 32, 55, 32, 110, 111, 100, 101, 32, 116, 114, 101, 101, 32, 48, 32, 57, 32, 48, 32, 110, 111, 100, 101, 32, 100, 114, 114, 32, 50, 32, 49, 32, 48]⟩, .int .i64 0]) ∧ Below w.heap.size w w' := by
  refine (print_tree 100 50 10 2 0 b 0 3 3 stG w hn h.kn h.pow).mono ?_
  rintro e w' ⟨s, rfl, hb, hs⟩
  rw [hs st_tck, st_tck, st_tree]
  exact ⟨rfl, hb⟩
theorem st_nsl (w : World) (gn : Nat) (hg : gn = w.heap.size) : NSl (w.alloc (.cells #[.int .i64 6, .int .i64 0, .int .i64 0, .int .i64 0, .int .i64 4, .int .i64 0, .int .i64 5, .int .i64 7, .int .i64 6, .int .i64 0, .int .i64 9, .int .i64 0, .int .i64 2, .int .i64 2, .int .i64 1, .int .i64 0] 33)) (some ⟨gn, 0, none⟩) 4 4 stG := by
  subst hg
  refine ⟨Nat.le_refl _, by omega, fun i j hi hj => ?_, .inr ⟨_, _, rfl, fun i j hi hj => ?_⟩⟩
  · match i, j, hi, hj with
    | 0, 0, _, _ => decide
    | 0, 1, _, _ => decide
    | 0, 2, _, _ => decide
    | 0, 3, _, _ => decide
    | 1, 0, _, _ => decide
    | 1, 1, _, _ => decide
    | 1, 2, _, _ => decide
    | 1, 3, _, _ => decide
    | 2, 0, _, _ => decide
    | 2, 1, _, _ => decide
    | 2, 2, _, _ => decide
    | 2, 3, _, _ => decide
    | 3, 0, _, _ => decide
    | 3, 1, _, _ => decide
    | 3, 2, _, _ => decide
    | 3, 3, _, _ => decide
  · match i, j, hi, hj with
    | 0, 0, _, _ => simp [stG]
    | 0, 1, _, _ => simp [stG]
    | 0, 2, _, _ => simp [stG]
    | 0, 3, _, _ => simp [stG]
    | 1, 0, _, _ => simp [stG]
    | 1, 1, _, _ => simp [stG]
    | 1, 2, _, _ => simp [stG]
    | 1, 3, _, _ => simp [stG]
    | 2, 0, _, _ => simp [stG]
    | 2, 1, _, _ => simp [stG]
    | 2, 2, _, _ => simp [stG]
    | 2, 3, _, _ => simp [stG]
    | 3, 0, _, _ => simp [stG]
    | 3, 1, _, _ => simp [stG]
    | 3, 2, _, _ => simp [stG]
    | 3, 3, _, _ => simp [stG]

set_option maxHeartbeats 2000000 in
theorem started9_any (w : World) (h : Vs9 w) : Calls Tryz.prog 5 #[] w fun e w' => e = .returned (.bool true) ∧ Below w.heap.size w w' := by
  have HV : Hid _ := h
  clear h
  have sf := fun (w : World) (a : Addr) (x : Nat) => run_store Tryz.prog w a (.float .f64 x) .plain rfl
  go_enter Tryz.func5, Tryz.ntmps5
  go_wp2_with fail
  have S0 : Hid _ := ((ce_start w).box7 (.int .i64 1) (.int .i64 100) (.int .i64 50) (.int .i64 10) (.int .i64 2) (.int .i64 0) (.slice none 0 0) 24 _ rfl).box8 (.int .i64 1) (.int .i64 0) (.int .i64 0) (.int .i64 0) (.int .i64 100) (.float .f64 4602678819172646912) (.int .i64 3) (.int .i64 0) 27 (w.heap.size + 1) (by rw [World.size_alloc])
  refine (st_print _ (HV.out.go S0.out.bel)).mono ?_
  rintro e w1 ⟨rfl, hb1⟩
  obtain ⟨gp, egp⟩ : ∃ g, g = w.heap.size + 1 := ⟨_, rfl⟩
  obtain ⟨gc, egc⟩ : ∃ g, g = w.heap.size := ⟨_, rfl⟩
  rw [← egp, ← egc] at S0
  rw [← egp, ← egc]
  have S1 : Hid _ := S0.out.go hb1
  clear hb1 S0 egp egc
  have x0 := S1.out.cel gc 0 (.int .i64 1)
  have x1 := S1.out.cel gc 1 (.int .i64 100)
  have x2 := S1.out.cel gc 2 (.int .i64 50)
  have x3 := S1.out.cel gc 3 (.int .i64 10)
  have x4 := S1.out.cel gc 4 (.int .i64 2)
  have x5 := S1.out.cel gc 5 (.int .i64 0)
  have x6 := S1.out.cel gc 6 (.slice none 0 0)
  have y0 := S1.out.cel gp 0 (.int .i64 1)
  have y1 := S1.out.cel gp 1 (.int .i64 0)
  have y2 := S1.out.cel gp 2 (.int .i64 0)
  have y3 := S1.out.cel gp 3 (.int .i64 0)
  have y4 := S1.out.cel gp 4 (.int .i64 100)
  have y5 := S1.out.cel gp 5 (.float .f64 4602678819172646912)
  have y6 := S1.out.cel gp 6 (.int .i64 3)
  have y7 := S1.out.cel gp 7 (.int .i64 0)
  go_wp2_with fail
  refine (st_printF _ (HV.out.go S1.out.bel)).mono ?_
  rintro e w2 ⟨rfl, hb2⟩
  have S2 : Hid _ := S1.out.go hb2
  replace x0 := bc_cell hb2 x0
  replace x1 := bc_cell hb2 x1
  replace x2 := bc_cell hb2 x2
  replace x3 := bc_cell hb2 x3
  replace x4 := bc_cell hb2 x4
  replace x5 := bc_cell hb2 x5
  replace x6 := bc_cell hb2 x6
  replace y0 := bc_cell hb2 y0
  replace y1 := bc_cell hb2 y1
  replace y2 := bc_cell hb2 y2
  replace y3 := bc_cell hb2 y3
  replace y4 := bc_cell hb2 y4
  replace y5 := bc_cell hb2 y5
  replace y6 := bc_cell hb2 y6
  replace y7 := bc_cell hb2 y7
  clear hb2 S1
  go_wp2_with fail
  refine (st_parse _ (HV.out.go S2.out.bel)).mono ?_
  rintro e w3 ⟨rfl, hb3⟩
  have S3 : Hid _ := (S2.out.go hb3).box7 (.int .i64 1) (.int .i64 100) (.int .i64 50) (.int .i64 10) (.int .i64 2) (.int .i64 0) (.slice none 0 0) 24 _ rfl
  replace x0 := bc_cell hb3 x0
  replace x1 := bc_cell hb3 x1
  replace x2 := bc_cell hb3 x2
  replace x3 := bc_cell hb3 x3
  replace x4 := bc_cell hb3 x4
  replace x5 := bc_cell hb3 x5
  replace x6 := bc_cell hb3 x6
  have lc := World.block_lt_of_cell? _ _ x0
  clear hb3 S2
  clear y0
  clear y1
  clear y2
  clear y3
  clear y4
  clear y5
  clear y6
  clear y7
  go_wp2_with fail
  refine (st_parseF _ (HV.out.go S3.out.bel)).mono ?_
  rintro e w4 ⟨rfl, hb4⟩
  have S4 : Hid _ := S3.out.go hb4
  obtain ⟨gd, egd⟩ : ∃ g, g = w3.heap.size := ⟨_, rfl⟩
  rw [← egd] at S4
  rw [← egd]
  clear x0
  clear x1
  clear x2
  clear x3
  clear x4
  clear x5
  clear x6
  clear hb4 S3 egd
  have x0 := S4.out.cel gc 0 (.int .i64 1)
  have x1 := S4.out.cel gc 1 (.int .i64 100)
  have x2 := S4.out.cel gc 2 (.int .i64 50)
  have x3 := S4.out.cel gc 3 (.int .i64 10)
  have x4 := S4.out.cel gc 4 (.int .i64 2)
  have x5 := S4.out.cel gc 5 (.int .i64 0)
  have x6 := S4.out.cel gc 6 (.slice none 0 0)
  have lc4 := World.block_lt_of_cell? _ _ x0
  clear lc
  go_wp2_with fail
  have S5 : Hid _ := ((S4.out.box8 (.int .i64 1) (.int .i64 0) (.int .i64 0) (.int .i64 0) (.int .i64 100) (.float .f64 4602678819172646912) (.int .i64 3) (.int .i64 0) 27 _ rfl).go (bc_al (o := .cells #[.int .i64 6, .int .i64 100, .int .i64 50, .int .i64 10, .int .i64 2, .int .i64 0, .slice (some ⟨w4.heap.size + 1 + 1, 0, none⟩) 4 4] 24) (bel_refl _))).go (bc_al (o := .cells #[.int .i64 6, .int .i64 0, .int .i64 0, .int .i64 0, .int .i64 4, .int .i64 0, .int .i64 5, .int .i64 7, .int .i64 6, .int .i64 0, .int .i64 9, .int .i64 0, .int .i64 2, .int .i64 2, .int .i64 1, .int .i64 0] 33) (bel_refl _))
  refine (st_printT _ (w4.heap.size + 1 + 1) (HV.out.go S5.out.bel) (st_nsl _ _ (by rw [World.size_alloc, World.size_alloc]))).mono ?_
  rintro e w6 ⟨rfl, hb6⟩
  have S6 : Hid _ := S5.out.go hb6
  obtain ⟨gq, egq⟩ : ∃ g, g = w4.heap.size := ⟨_, rfl⟩
  rw [← egq] at S6
  rw [← egq]
  clear x0
  clear x1
  clear x2
  clear x3
  clear x4
  clear x5
  clear x6
  clear hb6 S5 S4 egq lc4
  go_wp2_with fail
  refine (check_any 0 0 0 0 0 0 none 0 0 (fun _ _ => 0) _ (nsl_nil _)).mono ?_
  rintro e w7 ⟨rfl, hb7⟩
  rw [st_zero]
  have S7 : Hid _ := S6.out.go hb7
  clear hb7 S6
  go_wp2_with fail
  refine (num9_any 90 _).mono ?_
  rintro e w8 ⟨rfl, rfl⟩
  have x0 := S7.out.cel gc 0 (.int .i64 1)
  have x1 := S7.out.cel gc 1 (.int .i64 100)
  have x2 := S7.out.cel gc 2 (.int .i64 50)
  have x3 := S7.out.cel gc 3 (.int .i64 10)
  have x4 := S7.out.cel gc 4 (.int .i64 2)
  have x5 := S7.out.cel gc 5 (.int .i64 0)
  have x6 := S7.out.cel gc 6 (.slice none 0 0)
  go_wp2_with fail
  refine (checkFlow_any 1 100 50 10 2 0 none 0 0 (fun _ _ => 0) 0 0 0 0 0 0 0 0 _ (nsl_nil _)).mono ?_
  rintro e w9 ⟨rfl, hb9⟩
  rw [st_none]
  have S9 : Hid _ := S7.out.go hb9
  clear x0
  clear x1
  clear x2
  clear x3
  clear x4
  clear x5
  clear x6
  clear hb9 S7
  go_wp2_with fail
  refine (num9_any 93 _).mono ?_
  rintro e w10 ⟨rfl, rfl⟩
  go_wp2_with fail
  refine (num9_any 0 _).mono ?_
  rintro e w11 ⟨rfl, rfl⟩
  go_wp2_with fail
  refine (num9_any 0 _).mono ?_
  rintro e w12 ⟨rfl, rfl⟩
  go_wp2_with fail
  refine (num9_any 0 _).mono ?_
  rintro e w13 ⟨rfl, rfl⟩
  go_wp2_with fail
  refine (num9_any 0 _).mono ?_
  rintro e w14 ⟨rfl, rfl⟩
  go_wp2_with fail
  refine (num9_any 0 _).mono ?_
  rintro e w15 ⟨rfl, rfl⟩
  have x0 := S9.out.cel gc 0 (.int .i64 1)
  have x1 := S9.out.cel gc 1 (.int .i64 100)
  have x2 := S9.out.cel gc 2 (.int .i64 50)
  have x3 := S9.out.cel gc 3 (.int .i64 10)
  have x4 := S9.out.cel gc 4 (.int .i64 2)
  have x5 := S9.out.cel gc 5 (.int .i64 0)
  have x6 := S9.out.cel gc 6 (.slice none 0 0)
  have y0 := S9.out.cel gd 0 (.int .i64 1)
  have y1 := S9.out.cel gd 1 (.int .i64 100)
  have y2 := S9.out.cel gd 2 (.int .i64 50)
  have y3 := S9.out.cel gd 3 (.int .i64 10)
  have y4 := S9.out.cel gd 4 (.int .i64 2)
  have y5 := S9.out.cel gd 5 (.int .i64 0)
  have y6 := S9.out.cel gd 6 (.slice none 0 0)
  go_wp2_with fail
  refine (same_flat _).mono ?_
  rintro e w20 ⟨rfl, hb20⟩
  have S20 : Hid _ := S9.out.go hb20
  clear x0 y0
  clear x1 y1
  clear x2 y2
  clear x3 y3
  clear x4 y4
  clear x5 y5
  clear x6 y6
  clear hb20 S9
  have x0 := S20.out.cel gq 0 (.int .i64 1)
  have x1 := S20.out.cel gq 1 (.int .i64 0)
  have x2 := S20.out.cel gq 2 (.int .i64 0)
  have x3 := S20.out.cel gq 3 (.int .i64 0)
  have x4 := S20.out.cel gq 4 (.int .i64 100)
  have x5 := S20.out.cel gq 5 (.float .f64 4602678819172646912)
  have x6 := S20.out.cel gq 6 (.int .i64 3)
  have x7 := S20.out.cel gq 7 (.int .i64 0)
  have y0 := S20.out.cel gp 0 (.int .i64 1)
  have y1 := S20.out.cel gp 1 (.int .i64 0)
  have y2 := S20.out.cel gp 2 (.int .i64 0)
  have y3 := S20.out.cel gp 3 (.int .i64 0)
  have y4 := S20.out.cel gp 4 (.int .i64 100)
  have y5 := S20.out.cel gp 5 (.float .f64 4602678819172646912)
  have y6 := S20.out.cel gp 6 (.int .i64 3)
  have y7 := S20.out.cel gp 7 (.int .i64 0)
  have eqp : ∀ w, (binOp .eql 27 (.agg #[.int .i64 1, .int .i64 0, .int .i64 0, .int .i64 0, .int .i64 100, .float .f64 4602678819172646912, .int .i64 3, .int .i64 0]) (.agg #[.int .i64 1, .int .i64 0, .int .i64 0, .int .i64 0, .int .i64 100, .float .f64 4602678819172646912, .int .i64 3, .int .i64 0])).run Tryz.prog w = .ok (.bool true) w := fun _ => by kernel_rfl
  go_wp2_with fail
  go_ret
  exact ⟨rfl, S20.out.bel⟩
end Go.Proofs.YtfjmnhmdipjenaaGreatDoor

