/- Contracts of the program's functions, part 25: own work, joined in build order. -/
import Derived.Test.YtbikpmmpgbggaaaGreatDoorJ24
import Derived.Deep.RegionHeld3
namespace Go.Proofs.YtbikpmmpgbggaaaGreatDoor
open Go.RowKit
set_option maxRecDepth 100000
set_option linter.unusedVariables false
set_option maxHeartbeats 16000000
theorem Ut:4503599627370496*2^1042=1048576*2^1074:=by decide+kernel
theorem WX{u:Nat}(h:u<9218868437227405312):fN u≤1048576*fD u↔u≤4697254411347427328:=by
 have h1:=Pr h;rw[Ps h,Ut]at h1;have h2:4697254411347427328<u↔1048576*2^1074<fm u*2^fe u:=by
  constructor
  ·intro q;rw[decide_eq_true q]at h1;exact of_decide_eq_true h1.symm
  intro q;rw[decide_eq_true q]at h1;exact of_decide_eq_true h1
 have key:fN u≤1048576*fD u↔fm u*2^fe u≤1048576*2^1074:=by
  unfold fN fD;generalize fm u=m;generalize fe u=e;have kz: ∀N:Nat,m*2^(e-N)≤1048576*2^(N-e)↔m*2^e≤1048576*2^N:=by
   intro N;rcases Nat.le_total e N with q|q
   ·obtain⟨d,rfl⟩: ∃d,N=e+d:=⟨N-e,by omega⟩;rw[show e- (e+d)=0 by omega,show e+d-e=d by omega,Nat.pow_zero,Nat.mul_one,Nat.pow_add,show 1048576*(2^e*2^d)=1048576*2^d*2^e by rw[Nat.mul_comm (2^e),Nat.mul_assoc]];exact(Nat.mul_le_mul_right_iff (Nat.two_pow_pos e)).symm
   obtain⟨d,rfl⟩: ∃d,e=N+d:=⟨e-N,by omega⟩;rw[show N+d-N=d by omega,show N- (N+d)=0 by omega,Nat.pow_zero,Nat.mul_one,Nat.pow_add,show m*(2^N*2^d)=m*2^d*2^N by rw[Nat.mul_comm (2^N),Nat.mul_assoc]];exact(Nat.mul_le_mul_right_iff (Nat.two_pow_pos N)).symm
  exact kz 1074
 rw[key];generalize fm u*2^fe u=X at*;generalize 1048576*2^1074=Y at*;omega
theorem Sy{u:Nat}(h:u<9218868437227405312):ffP u≤1048576*ffQ u↔u≤4697254411347427328:=by
 rw[←WX h,(EH h).1,(EH h).2];have hg:0<Nat.gcd (fN u) (fD u):=Nat.gcd_pos_of_pos_right _ (RI u);have e1:fN u/Nat.gcd (fN u) (fD u)*Nat.gcd (fN u) (fD u)=fN u:=Nat.div_mul_cancel (Nat.gcd_dvd_left _ _);have e2:fD u/Nat.gcd (fN u) (fD u)*Nat.gcd (fN u) (fD u)=fD u:=Nat.div_mul_cancel (Nat.gcd_dvd_right _ _);generalize Nat.gcd (fN u) (fD u)=g at*;generalize fN u/g=a at*;generalize fD u/g=b at*;rw[←e1,←e2,←Nat.mul_assoc];exact(Nat.mul_le_mul_right_iff hg).symm
theorem Pt{x y:Nat}(hx:x<9218868437227405312)(hy:y<9218868437227405312):fle x y= !(FloatKind.f64.format.order x y==some .gt):=by
 unfold fle;have e: ∃o,FloatKind.f64.format.order x y=some o:=by
  show∃o,(Ieee.double.read x).order (Ieee.double.read y)=some o;rw[FQ hx,FQ hy];exact⟨_,rfl⟩
 obtain⟨o,ho⟩:=e;rw[ho];cases o<;>rfl
theorem Uu{u:Nat}(hu:u<18446744073709551616):Da 0 4697254411347427328 u=(Cm u&&decide (AW (ffP u*1) (1048576*ffQ u)≤0)):=by
 have hc: ∀a b:Nat,AW a b≤0↔a≤b:=fun a b=>by
  unfold AW;split
  ·constructor<;>intro h<;>omega
  split
  ·constructor<;>intro h<;>omega
  constructor<;>intro h<;>omega
 by_cases c:u<9218868437227405312
 ·have h1:Cm u=true:=by unfold Cm;simp;omega
  have h2:fle u 4697254411347427328=decide (u≤4697254411347427328):=by
   rw[Pt c (by decide)];have q:=Ps c;unfold gtM at q;rw[q];by_cases z:u≤4697254411347427328
   ·rw[decide_eq_true z,decide_eq_false (by omega)];rfl
   rw[decide_eq_false z,decide_eq_true (by omega)];rfl
  have h3:fle 0 u=true:=by
   rw[Pt (by decide) c];have q:((Ieee.double.read 0).order (Ieee.double.read u)==some .gt)=false:=by
    rw[FQ (u:=0) (by decide),FQ c,Ny];refine decide_eq_false ?_;have:fm 0=0:=by decide
    rw[this,Nat.zero_mul];omega
   rw[show(FloatKind.f64.format.order 0 u==some .gt)=false from q];rfl
  unfold Da;rw[h3,h2,h1,Bool.true_and,Bool.true_and];by_cases z:u≤4697254411347427328
  ·rw[decide_eq_true z,decide_eq_true ((hc _ _).2 (by rw[Nat.mul_one];exact(Sy c).2 z))]
  rw[decide_eq_false z,decide_eq_false (fun q=>z ((Sy c).1 (by have:=(hc _ _).1 q;rwa[Nat.mul_one]at this)))]
 by_cases c2:u=9223372036854775808
 ·subst c2;rw[EZ.1,EZ.2];decide+kernel
 have h1:Cm u=false:=by unfold Cm;simp;omega
 rw[h1,Bool.false_and];cases hb:Da 0 4697254411347427328 u with
 |false=>rfl
 |true=>
  exfalso;have:=Sw hu hb;omega
theorem Nz{w W:World}(h:Below w.drew.heap.size w.drew W):Below w.heap.size w W:=⟨h.os,h.tape,h.output,h.size,h.block⟩
theorem NA{n:Nat}(h:n<18446744073709551616):RS n:=⟨Nat.lt_of_lt_of_le h (by decide+kernel)⟩
theorem Qu(u:Nat)(w:World)(hu:u<18446744073709551616):Calls Tryz.prog 73 #[.int .u64 (u:Int)] w fun e w'=>e=.returned (.bool (Da 0 4697254411347427328 u))∧Below w.heap.size w w':=by
 have HV:=Uu hu;have hrs:=Lw u hu;have HU:Hid _:=hu;obtain⟨R,hR⟩:=nmd (Da 0 4697254411347427328 u);rw[hR]at HV;rw[hR];clear hR hu;go_enter Tryz.func73,Tryz.ntmps73
 go_wp2_with fail
 refine(Ij u _ HU.out).mono ?_;rintro e w1 ⟨v,rfl,hv,hb1⟩;have hv':=hv;obtain⟨a1,n1,c1,a2,n2,c2,e0,_,_⟩:=hv';subst e0;have S1:Hid _:=((CG w).go hb1).box2 (.slice a1 n1 c1) (.slice a2 n2 c2) 66 _ rfl;obtain⟨g3,eg3⟩:=nme w1.heap.size;have HR1:Hid (RRt (w1.alloc (.cells #[.slice a1 n1 c1,.slice a2 n2 c2] 66)) (.agg #[.slice a1 n1 c1,.slice a2 n2 c2]) (ffP u) (ffQ u)):=hv.mono (Af (Aa w1));rw[←eg3]at S1;obtain⟨w2,hw2⟩:=nme (w1.alloc (.cells #[.slice a1 n1 c1,.slice a2 n2 c2] 66));rw[←hw2]at S1 HR1;clear hv hb1;go_upto_region 2 with fail
 rw[←hw2,←eg3];clear hw2 eg3;cases hf:Cm u with
 |false=>
  rw[hf,Bool.false_and]at HV;subst HV;go_quiet (fail)
  go_wp2_with fail
  go_ret
  exact⟨rfl,C8 S1.out.bel _⟩
 |true=>
  rw[hf,Bool.true_and]at HV;obtain⟨z,hz⟩:=nmd (AW (ffP u*1) (1048576*ffQ u));have HZ:Hid _:=hz;rw[hz]at HV;obtain⟨B,hB⟩:=nmd (decide (z≤0));rw[hB]at HV;subst HV;have HRS:Hid (RS (ffP u)∧RS (ffQ u)∧RS 1048576∧RS 1):=⟨hrs.1,hrs.2,NA (by omega),NA (by omega)⟩;have S2:Hid _:=S1.out;have HR:Hid (RRt w2 (.agg #[.slice a1 n1 c1,.slice a2 n2 c2]) (ffP u) (ffQ u)):=HR1.out;clear hz hrs hf S1 HR1;refine wp_region_held_drew (S:=fun w9=>w9.cell? ⟨g3,0,none⟩=some (.slice a1 n1 c1)∧w9.cell? ⟨g3,1,none⟩=some (.slice a2 n2 c2)) (by kernel_rfl) ⟨S2.out.cel g3 0 (.slice a1 n1 c1),S2.out.cel g3 1 (.slice a2 n2 c2)⟩ (fun hHeld=> ?_);refine wpAnyH_take (i:=0) (v:=.bool true) rfl (by kernel_rfl) (by kernel_rfl) (by kernel_rfl) (fun _ _ _ h=>h) (Or.inl ⟨by rfl,?_⟩) (by assumption) ?_
  ·intro w hSw;obtain⟨g0,g1⟩:=hSw;go_simp
  refine wpAnyH_take (i:=1) (v:=.bool true) rfl (by kernel_rfl) (by kernel_rfl) (by kernel_rfl) (fun _ _ _ h=>h) (Or.inl ⟨by rfl,?_⟩) (by assumption) ?_
  ·intro w hSw;obtain⟨g0,g1⟩:=hSw;go_simp
  refine wpAnyH_take (i:=2) (v:=.agg #[.slice a1 n1 c1,.slice a2 n2 c2]) rfl (by kernel_rfl) (by kernel_rfl) (by kernel_rfl) (fun _ _ _ h=>h) (Or.inl ⟨by rfl,?_⟩) (by assumption) ?_
  ·intro w hSw;obtain⟨g0,g1⟩:=hSw;go_simp
  refine wpAnyH_ready (rs:=[3]) (by kernel_rfl) (by simp) ?_;refine AllReadyH.cons rfl (fun K9 hK9=> ?_) AllReadyH.nil;go_simp
  refine Calls.mono (Qs 1048576 _ (by omega)) ?_;rintro e w5 ⟨v5,rfl,hv5,hb5⟩;have S3:Hid _:=S2.out.go (Nz hb5);have HV5:Hid (RRt w5 v5 1048576 1):=hv5;have B5:Hid (Below w2.heap.size w2 w5):=Nz hb5;clear hv5 hb5;refine hK9.out _ _ ⟨S3.out.cel g3 0 (.slice a1 n1 c1),S3.out.cel g3 1 (.slice a2 n2 c2)⟩ (fun hHeld=> ?_);clear hK9 K9;refine wpAnyH_ready (rs:=[4]) (by kernel_rfl) (by simp) ?_;refine AllReadyH.cons rfl (fun K9 hK9=> ?_) AllReadyH.nil;go_simp
  refine Calls.mono (L7 _ _ (ffP u) (ffQ u) 1048576 1 _ (RRt.mono (w:=w2) HR.out B5.out) HV5.out HRS.out.1 HRS.out.2.1 HRS.out.2.2.1 HRS.out.2.2.2 z HZ.out) ?_;rintro e w6 ⟨rfl,hb6⟩;have S4:Hid _:=S3.out.go hb6;clear hb6;refine hK9.out _ _ ⟨S4.out.cel g3 0 (.slice a1 n1 c1),S4.out.cel g3 1 (.slice a2 n2 c2)⟩ (fun hHeld=> ?_);clear hK9 K9;refine wpAnyH_take (i:=5) (v:=.bool R) rfl (by kernel_rfl) (by kernel_rfl) (by kernel_rfl) (fun _ _ _ h=>h) (Or.inl ⟨by rfl,?_⟩) (by assumption) ?_
  ·intro w hSw;obtain⟨g0,g1⟩:=hSw;go_simp
  refine wpAnyH_take (i:=6) (v:=.bool R) rfl (by kernel_rfl) (by kernel_rfl) (by kernel_rfl) (fun _ _ _ h=>h) (Or.inl ⟨by rfl,?_⟩) (by assumption) ?_
  ·intro w hSw;obtain⟨g0,g1⟩:=hSw;go_simp
  refine wpAnyH_take (i:=7) (v:=.bool R) rfl (by kernel_rfl) (by kernel_rfl) (by kernel_rfl) (fun _ _ _ h=>h) (Or.inl ⟨by rfl,?_⟩) (by assumption) ?_
  ·intro w hSw;obtain⟨g0,g1⟩:=hSw;go_simp
  refine wpAnyH_done (by kernel_rfl) ?_ _;go_wp2_with fail
  go_ret
  exact⟨rfl,S4.out.bel⟩
def F8(has:Bool)(lo hi n:Int):Bool:=if has then hld lo hi n else hld 0 0 n
theorem Jn(has:Bool)(n lo hi:Int)(w:World):Calls Tryz.prog 72 #[.bool has,.int .i64 n,.int .i64 lo,.int .i64 hi] w fun e w'=>e=.returned (.bool (F8 has lo hi n))∧w'=w:=by
 cases has
 ·have HV:Hid (F8 false lo hi n=(n==0)):=by show _=_;unfold F8;rw[if_neg (by decide),Kd]
  rw[HV.out];go_enter Tryz.func72,Tryz.ntmps72
  go_wp2_with fail
  go_ret
  exact⟨rfl,rfl⟩
 have HV:Hid (F8 true lo hi n=hld lo hi n):=rfl;rw[HV.out];go_enter Tryz.func72,Tryz.ntmps72
 go_wp2_with fail
 refine(AL n lo hi _).mono ?_;rintro e w1 ⟨rfl,hw⟩;rw[hw];clear hw w1;obtain⟨B,hB⟩:=nmd (hld lo hi n);rw[hB];cases B
 ·go_wp2_with fail
  go_ret
  exact⟨by rw[hB];rfl,rfl⟩
 go_wp2_with fail
 go_ret
 exact⟨by rw[hB];rfl,rfl⟩
def Eb(K:Int)(G:Nat→Nat→Int)(n:Nat)(pn:Int):Int:=if FL K G n pn then kAt K G n pn else 0
theorem Sz(K R M C Fl A:Int)(a:Option Addr)(n cap:Nat)(G:Nat→Nat→Int)(pn:Int)(w:World)(h:NSl w a n cap G):
  Calls Tryz.prog 71 #[.agg #[.int .i64 K,.int .i64 R,.int .i64 M,.int .i64 C,.int .i64 Fl,.int .i64 A,.slice a n cap],.int .i64 pn] w fun e w'=>e=.returned (.int .i64 (Eb K G n pn))∧Below w.heap.size w w':=by
 have hl0:n≤9223372036854775807:=Nat.le_trans h.le h.lim;by_cases k6:K=6
 ·subst k6;by_cases c0:pn<0
  ·have r0:decide (pn<0)=true:=decide_eq_true c0;have HV:Hid (Eb 6 G n pn=0):=by
    show _=_;have z:kO G n pn=0:=by unfold kO;rw[if_neg (by omega)]
    unfold Eb FL;rw[if_pos rfl,z];rfl
   clear c0 h;go_enter Tryz.func71,Tryz.ntmps71
   go_wp2_with fail
   go_ret
   exact⟨by rw[HV.out];rfl,Af (Aa w)⟩
  have r0:decide (pn<0)=false:=decide_eq_false c0;by_cases c1:(n:Int)≤pn
  ·have r1:decide ((n:Int)≤pn)=true:=decide_eq_true c1;have HV:Hid (Eb 6 G n pn=0):=by
    show _=_;have z:kO G n pn=0:=by unfold kO;rw[if_neg (by omega)]
    unfold Eb FL;rw[if_pos rfl,z];rfl
   clear c0 c1 h;go_enter Tryz.func71,Tryz.ntmps71
   go_wp2_with fail
   go_ret
   exact⟨by rw[HV.out];rfl,Af (Aa w)⟩
  obtain⟨k,rfl⟩: ∃k:Nat,pn=(k:Int):=⟨pn.toNat,by omega⟩;have lk:k<n:=by omega
  have r1: ¬n≤k:=by omega
  obtain⟨b,o,rfl,hc⟩:=h.at (by omega);have x0:w.cell? ⟨b,o+k*4,none⟩=some (.int .i64 (G k 0)):=by simpa using hc k 0 lk (by omega)
  have lb:=World.block_lt_of_cell? _ _ x0;have e1:kO G n (k:Int)=G k 0:=by unfold kO;rw[if_pos ⟨by omega,by omega⟩];rfl
  obtain⟨KP,hKP⟩:=nmd (G k 0);have hv:Eb 6 G n (k:Int)=if(KP != 0&&KP != 6)=true then KP else 0:=by unfold Eb FL kAt;rw[if_pos rfl,if_pos rfl,e1,hKP]
  rw[hKP]at x0;clear e1 hKP hc h c0 c1;by_cases q6:KP=6
  ·subst q6;have HV:Hid (Eb 6 G n (k:Int)=0):=by show _=_;rw[hv];rfl
   clear hv;go_enter Tryz.func71,Tryz.ntmps71
   go_wp2_with fail
   go_ret
   exact⟨by rw[HV.out];rfl,Af (Aa w)⟩
  have d6:(KP==6)=false:=by simpa using q6
  have HV:Hid (Eb 6 G n (k:Int)=KP):=by
   show _=_;rw[hv];by_cases z:KP=0
   ·subst z;rfl
   rw[if_pos (by simp;exact⟨z,q6⟩)]
  clear hv q6;go_enter Tryz.func71,Tryz.ntmps71
  go_wp2_with fail
  go_ret
  exact⟨by rw[HV.out];rfl,Af (Aa w)⟩
 have d6:(K==6)=false:=by simpa using k6
 have d7:(K != 6)=true:=by simpa using k6
 by_cases c0:pn=0
 ·subst c0;have HV:Hid (Eb K G n 0=K):=by show _=_;unfold Eb FL kAt;rw[if_neg k6,if_neg k6];rfl
  clear k6 h;go_enter Tryz.func71,Tryz.ntmps71
  go_wp2_with fail
  go_ret
  exact⟨by rw[HV.out];rfl,Af (Aa w)⟩
 have e0:(pn==0)=false:=by simpa using c0
 have HV:Hid (Eb K G n pn=0):=by show _=_;unfold Eb FL;rw[if_neg k6,e0];rfl
 clear k6 c0 h;go_enter Tryz.func71,Tryz.ntmps71
 go_wp2_with fail
 go_ret
 exact⟨by rw[HV.out];rfl,Af (Aa w)⟩
theorem Lz(K R M C Fl A:Int)(a:Option Addr)(n cap:Nat)(G:Nat→Nat→Int)(pw pq pc ps pb:Int)(pr:Nat)(pp pn:Int)(w:World)(h:NSl w a n cap G)(hp:pr<18446744073709551616):
  Calls Tryz.prog 30 #[.agg #[.int .i64 K,.int .i64 R,.int .i64 M,.int .i64 C,.int .i64 Fl,.int .i64 A,.slice a n cap],.agg #[.int .i64 pw,.int .i64 pq,.int .i64 pc,.int .i64 ps,.int .i64 pb,.float .f64 pr,.int .i64 pp,.int .i64 pn]] w fun e w'=>e=.returned (.int .i64 (CO K R M C Fl A G n pw pq pc ps pb pr pp pn))∧Below w.heap.size w w':=by
 obtain⟨E,hE⟩:=nmd (CO K R M C Fl A G n pw pq pc ps pb pr pp pn);rw[hE];have HE0:Hid _:=hE;have HN:Hid _:=h;have HP:Hid _:=hp;have hl:n≤9223372036854775807:=Nat.le_trans h.le h.lim;clear h hp hE;obtain⟨ce,hce⟩:=nmd (A4 K R M C Fl A G n);have HCE:Hid _:=hce;clear hce;go_enter Tryz.func30,Tryz.ntmps30
 go_wp2_with fail
 have S0:Hid _:=((CG w).box7 (.int .i64 K) (.int .i64 R) (.int .i64 M) (.int .i64 C) (.int .i64 Fl) (.int .i64 A) (.slice a n cap) 24 _ rfl).box8 (.int .i64 pw) (.int .i64 pq) (.int .i64 pc) (.int .i64 ps) (.int .i64 pb) (.float .f64 pr) (.int .i64 pp) (.int .i64 pn) 32 (w.heap.size+1) (by rw[World.size_alloc]);refine(Fu K R M C Fl A a n cap G _ (HN.out.go S0.out.bel)).mono ?_;rintro e w1 ⟨rfl,hb1⟩;rw[HCE.out];obtain⟨gp,egp⟩:=nme (w.heap.size+1);obtain⟨gc,egc⟩:=nme w.heap.size;have S1:Hid _:=S0.out.go hb1;rw[←egp,←egc]at S1;rw[←egp,←egc];clear hb1 S0 egp egc;by_cases c0:ce=0
 ·subst c0;obtain⟨kd,hkd⟩:=nmd (kAt K G n pn);obtain⟨ok,hok⟩:=nmd (FL K G n pn);have hlf:Eb K G n pn=if ok=true then kd else 0:=by unfold Eb;rw[hok,hkd]
  have hk0:ok=true→kd≠0:=fun q=>by
   obtain⟨b1,_⟩:=Hz HCE.out;rw[←hkd];rw[←hok]at q;unfold FL at q;unfold kAt;split
   ·rename_i e;rw[if_pos e]at q;simp at q;exact q.1
   omega
  have HE1:Hid (E=Il K C G n pw pq pc ps pb pr pp pn):=by show _=_;rw[←HE0.out];unfold CO;rw[if_neg (by rw[HCE.out];simp)]
  have HE2:=HE1.out;unfold Il at HE2;rw[hok,hkd]at HE2;have HLF:Hid _:=hlf;have HK0:Hid _:=hk0;clear hkd hok hlf hk0 HE0 HE1;obtain⟨BW1,hBW1⟩:=nmd (hld 1 C pw);have BW1H:Hid (hld 1 C pw=BW1):=hBW1;rw[hBW1]at HE2;clear hBW1;obtain⟨BQ,hBQ⟩:=nmd (hld (fQ0 kd) (fQ1 kd) pq);have BQH:Hid (F8 (kd==2) 1 1073741824 pq=BQ):=by
   show _=_;rw[←hBQ];unfold F8 fQ0 fQ1;by_cases q:kd=2
   ·subst q;rfl
   rw[show(kd==2)=false by simpa using q,if_neg q,if_neg q];rfl
  rw[hBQ]at HE2;clear hBQ;obtain⟨BC,hBC⟩:=nmd (hld 0 (fC1 kd) pc);have BCH:Hid (F8 (kd==4) 0 15 pc=BC):=by
   show _=_;rw[←hBC];unfold F8 fC1;by_cases q:kd=4
   ·subst q;rfl
   rw[show(kd==4)=false by simpa using q,if_neg q];rfl
  rw[hBC]at HE2;clear hBC;obtain⟨BS,hBS⟩:=nmd (hld 0 (fS1 kd) ps);have BSH:Hid (F8 (kd==3) 0 1099511627776 ps=BS):=by
   show _=_;rw[←hBS];unfold F8 fS1;by_cases q:kd=3
   ·subst q;rfl
   rw[show(kd==3)=false by simpa using q,if_neg q];rfl
  rw[hBS]at HE2;clear hBS;obtain⟨BB,hBB⟩:=nmd (hld 1 1099511627776 pb);have BBH:Hid (hld 1 1099511627776 pb=BB):=hBB;rw[hBB]at HE2;clear hBB;obtain⟨BR,hBR⟩:=nmd (Da 0 4697254411347427328 pr);have BRH:Hid (Da 0 4697254411347427328 pr=BR):=hBR;rw[hBR]at HE2;clear hBR;obtain⟨BP,hBP⟩:=nmd (hld 1 1073741824 pp);have BPH:Hid (hld 1 1073741824 pp=BP):=hBP;rw[hBP]at HE2;clear hBP;have HE:Hid _:=HE2;clear HE2;have x0:=S1.out.cel gc 0 (.int .i64 K);have x1:=S1.out.cel gc 1 (.int .i64 R);have x2:=S1.out.cel gc 2 (.int .i64 M);have x3:=S1.out.cel gc 3 (.int .i64 C);have x4:=S1.out.cel gc 4 (.int .i64 Fl);have x5:=S1.out.cel gc 5 (.int .i64 A);have x6:=S1.out.cel gc 6 (.slice a n cap);have y0:=S1.out.cel gp 0 (.int .i64 pw);have y1:=S1.out.cel gp 1 (.int .i64 pq);have y2:=S1.out.cel gp 2 (.int .i64 pc);have y3:=S1.out.cel gp 3 (.int .i64 ps);have y4:=S1.out.cel gp 4 (.int .i64 pb);have y5:=S1.out.cel gp 5 (.float .f64 pr);have y6:=S1.out.cel gp 6 (.int .i64 pp);have y7:=S1.out.cel gp 7 (.int .i64 pn);go_wp2_with fail
  refine(Sz K R M C Fl A a n cap G pn _ (HN.out.go S1.out.bel)).mono ?_;rintro e w3 ⟨rfl,hb3⟩;have S3:Hid _:=S1.out.go hb3;rw[HLF.out];replace x0:=Ae hb3 x0;replace x1:=Ae hb3 x1;replace x2:=Ae hb3 x2;replace x3:=Ae hb3 x3;replace x4:=Ae hb3 x4;replace x5:=Ae hb3 x5;replace x6:=Ae hb3 x6;replace y0:=Ae hb3 y0;replace y1:=Ae hb3 y1;replace y2:=Ae hb3 y2;replace y3:=Ae hb3 y3;replace y4:=Ae hb3 y4;replace y5:=Ae hb3 y5;replace y6:=Ae hb3 y6;replace y7:=Ae hb3 y7;clear hb3 S1;cases ok
  ·rw[if_neg (by decide)];have HV:Hid (E=1):=by have q:=HE.out;show E=1;rw[q];rfl
   clear HE;go_wp2_with fail
   go_ret
   exact⟨by rw[HV.out];rfl,S3.out.bel⟩
  rw[if_pos rfl];have dk:(kd==0)=false:=by simpa using HK0.out rfl
  go_wp2_with fail
  refine(AL pw 1 C _).mono ?_;rintro e w4 ⟨rfl,hw⟩;rw[hw,BW1H.out];clear hw w4;cases BW1
  ·have HV:Hid (E=93):=by have q:=HE.out;show E=93;rw[q];rfl
   clear HE;go_wp2_with fail
   go_ret
   exact⟨by rw[HV.out];rfl,S3.out.bel⟩
  go_wp2_with fail
  refine(Jn (kd==2) pq 1 1073741824 _).mono ?_;rintro e w4 ⟨rfl,hw⟩;rw[hw,BQH.out];clear hw w4;cases BQ
  ·have HV:Hid (E=94):=by have q:=HE.out;show E=94;rw[q];rfl
   clear HE;go_wp2_with fail
   go_ret
   exact⟨by rw[HV.out];rfl,S3.out.bel⟩
  go_wp2_with fail
  refine(Jn (kd==4) pc 0 15 _).mono ?_;rintro e w4 ⟨rfl,hw⟩;rw[hw,BCH.out];clear hw w4;cases BC
  ·have HV:Hid (E=95):=by have q:=HE.out;show E=95;rw[q];rfl
   clear HE;go_wp2_with fail
   go_ret
   exact⟨by rw[HV.out];rfl,S3.out.bel⟩
  go_wp2_with fail
  refine(Jn (kd==3) ps 0 1099511627776 _).mono ?_;rintro e w4 ⟨rfl,hw⟩;rw[hw,BSH.out];clear hw w4;cases BS
  ·have HV:Hid (E=96):=by have q:=HE.out;show E=96;rw[q];rfl
   clear HE;go_wp2_with fail
   go_ret
   exact⟨by rw[HV.out];rfl,S3.out.bel⟩
  go_wp2_with fail
  refine(AL pb 1 1099511627776 _).mono ?_;rintro e w4 ⟨rfl,hw⟩;rw[hw,BBH.out];clear hw w4;cases BB
  ·have HV:Hid (E=97):=by have q:=HE.out;show E=97;rw[q];rfl
   clear HE;go_wp2_with fail
   go_ret
   exact⟨by rw[HV.out];rfl,S3.out.bel⟩
  go_wp2_with fail
  refine(GY pr _).mono ?_;rintro e w4 ⟨rfl,hw⟩;rw[hw];clear hw w4;go_wp2_with fail
  refine(Qu pr _ HP.out).mono ?_;rintro e w4 ⟨rfl,hb4⟩;rw[BRH.out];have S4:Hid _:=S3.out.go hb4;replace x0:=Ae hb4 x0;replace x1:=Ae hb4 x1;replace x2:=Ae hb4 x2;replace x3:=Ae hb4 x3;replace x4:=Ae hb4 x4;replace x5:=Ae hb4 x5;replace x6:=Ae hb4 x6;replace y0:=Ae hb4 y0;replace y1:=Ae hb4 y1;replace y2:=Ae hb4 y2;replace y3:=Ae hb4 y3;replace y4:=Ae hb4 y4;replace y5:=Ae hb4 y5;replace y6:=Ae hb4 y6;replace y7:=Ae hb4 y7;clear hb4 S3;have S3:Hid _:=S4.out;clear S4;cases BR
  ·have HV:Hid (E=98):=by have q:=HE.out;show E=98;rw[q];rfl
   clear HE;go_wp2_with fail
   go_ret
   exact⟨by rw[HV.out];rfl,S3.out.bel⟩
  go_wp2_with fail
  refine(AL pp 1 1073741824 _).mono ?_;rintro e w4 ⟨rfl,hw⟩;rw[hw,BPH.out];clear hw w4;cases BP
  ·have HV:Hid (E=98):=by have q:=HE.out;show E=98;rw[q];rfl
   clear HE;go_wp2_with fail
   go_ret
   exact⟨by rw[HV.out];rfl,S3.out.bel⟩
  have HV:Hid (E=0):=by have q:=HE.out;show E=0;rw[q];rfl
  clear HE;go_wp2_with fail
  go_ret
  exact⟨by rw[HV.out];rfl,S3.out.bel⟩
 have d0:(ce != 0)=true:=by simpa using c0
 have HV:Hid (E=ce):=by show _=_;rw[←HE0.out];unfold CO;rw[HCE.out,if_pos c0]
 clear c0 HE0;go_wp2_with fail
 go_ret
 exact⟨by rw[HV.out];rfl,S1.out.bel⟩
theorem CX(s:ByteArray)(i:Nat)(w:World)(hi:i≤s.size)(hs:s.size≤9223372036854775807):
  Calls Tryz.prog 56 #[.string s,.int .i64 (i:Int)] w fun e w'=>e=.returned (.int .i64 ((Al s i:Nat):Int))∧w'=w:=by
 go_enter Tryz.func56,Tryz.ntmps56
 go_wp2_with fail
 go_loop [1] (fun t=> ∃j:Nat,j≤s.size∧t=.int .i64 (j:Int)∧Hid (Al s j=Al s i)) (fun t=>s.size- (intOf t).toNat)
 case atStart=>exact⟨i,hi,rfl,(rfl:Al s i=Al s i)⟩
 case round=>
  obtain⟨j,hj,rfl,HR⟩:=hrel;by_cases h:j<s.size
  ·have hc:=BI h;have hc2:=IB s j;by_cases h1:48≤sb s j
   ·have t1:decide (48≤((sb s j:Nat):Int))=true:=decide_eq_true (by omega);by_cases h2:sb s j≤57
    ·have t2:decide (((sb s j:Nat):Int)≤57)=true:=decide_eq_true (by omega);have HD:Hid (isD s j=true):=by show _=_;unfold isD;simp;omega
     have HN:Hid (Al s (j+1)=Al s i):=by show _=_;rw[←FK HD.out];exact HR.out
     go_wp2_with fail
     go_round
     case rel=>exact⟨j+1,by omega,by go_num,HN⟩
     case measure=>simp[intOf];omega
    have t2:decide (((sb s j:Nat):Int)≤57)=false:=decide_eq_false (by omega);have HD:Hid (Al s i=j):=by show _=_;rw[←HR.out];exact Cj (by unfold isD;simp;omega)
    go_wp2_with fail
    go_ret
    rw[HD.out];exact⟨rfl,rfl⟩
   have t1:decide (48≤((sb s j:Nat):Int))=false:=decide_eq_false (by omega);have HD:Hid (Al s i=j):=by show _=_;rw[←HR.out];exact Cj (by unfold isD;simp;omega)
   go_wp2_with fail
   go_ret
   rw[HD.out];exact⟨rfl,rfl⟩
  have HD:Hid (Al s i=j):=by show _=_;rw[←HR.out];exact Cj (by unfold isD;simp;omega)
  go_wp2_with fail
  go_ret
  rw[HD.out];exact⟨rfl,rfl⟩
def Uv(w:World)(b g:Nat)(wr:World)(x:Nat)(a1:Option Addr)(n1 c1:Nat):Prop:=
 SY w wr [] [(.agg #[.slice a1 n1 c1],x)] [] [] [(g,0,.slice a1 n1 c1),(b,0,.slice none 0 0)] [g,b]∧b<g
theorem SY.rret1{w0 w:World}{N M:List (Value×Nat)}{F G:List (Value×Nat×Nat)}{C:List (Nat×Nat×Value)}{Z:List Nat}(h:SY w0 w N M F G C Z){r:Nat}{v:Value}{x:Nat}(hc:w.cell? ⟨r,0,none⟩=some (.slice none 0 0))(hz:r∈Z)(hv:Ai w v x)(u:Value):Ai (w.setCell ⟨r,0,none⟩ u) v x∧Below w0.heap.size w0 (w.setCell ⟨r,0,none⟩ u):=
 ⟨hv.setCell (Ad hc) u,h.bel.setCell (p:=⟨r,0,none⟩) (h.lo r hz) u⟩
theorem Uw(n:Nat)(w:World)(hn:n≤1500):
  Calls Tryz.prog 61 #[.int .i64 (n:Int)] w (Dm w (10^n)):=by
 have S0:Hid _:=(Bp w).box1 (.slice none 0 0) 64 _ rfl;go_enter Tryz.func61,Tryz.ntmps61
 go_wp2_with fail
 refine(CA 1 _ (by omega)).mono ?_;rintro e w1 ⟨v1,rfl,hv1,hb1⟩;obtain⟨a1,n1,c1,rfl⟩:=hv1.isAgg;have HB:Hid (w.heap.size<w1.heap.size):=(S0.out.go hb1).lt w.heap.size;have S1:Hid _:=((S0.out.go hb1).addM hv1).box1 (.slice a1 n1 c1) 64 _ rfl;clear hv1 hb1 S0;go_wp2_with fail
 obtain⟨w3,hw3⟩:=nme (w1.alloc (.cells #[.slice a1 n1 c1] 64));obtain⟨g,hg⟩:=nme w1.heap.size;obtain⟨b,hb⟩:=nme w.heap.size;rw[←hw3,←hg,←hb]at S1;rw[←hw3,←hg,←hb];have hbg:b<g:=by rw[hg,hb];exact HB.out
 clear hw3 hg hb;have A0:Hid (Uv w b g w3 1 a1 n1 c1):=⟨S1.out.sub _ _ _ _ _ _ (by simp) (by simp) (by simp) (by simp) (by simp) (by simp),hbg⟩;clear S1 hbg HB;go_loopw [4] (fun t wr=> ∃(m:Nat) (a1:Option Addr) (n1 c1:Nat),t=.int .i64 (m:Int)∧m≤n∧Uv w b g wr (10^m) a1 n1 c1) (fun t _=>n- (intOf t).toNat)
 case atStart=>exact⟨0,_,_,_,rfl,by omega,A0.out⟩
 case round=>
  clear A0;obtain⟨m,a1,n1,c1,rfl,hm,hT⟩:=hrel;have I:Hid _:=hT;clear hT;have k1:=I.out.1.cel g 0 (.slice a1 n1 c1);have k3:=I.out.1.cel b 0 (.slice none 0 0);have f1:=I.out.1.fz g 0;have f3:=I.out.1.fz b 0;by_cases h0:m<n
  ·have SI:Hid _:=I.out.1;have SF:Hid (AG (10^m)):=BL (Bx (show m≤1500 by omega)) (by omega);go_wp2_with fail
   refine Bg (JD wr [sR (10^m),sR (10),sR (10^m*10),sAny] [[],[],[0,1],[2]] 3 2 [0,1,2] (IG (g))) 15 (by kernel_rfl) rfl (by kernel_rfl) (JD.start _ _ _ _ _ _ _) (fun HG HN=>⟨?_,?_,?_,?_,trivial⟩) ?_
   ·intro L vs a w' hJ hF hP hL;have hK:=hJ;have hJ:=hK.open hL (by decide);have q3:(a.tmps[3]?).getD undef=.pointer (some ⟨g,0,none⟩):=hF.old 3 rfl;have cb:=cell_later hJ.bel (SI.out.cell (g) (.slice a1 n1 c1));exact Av (v:=.agg #[.slice a1 n1 c1]) rfl (by simp[execOp,go_sem,q3,cb]) ⟨_,rfl,hK.step hL (by decide) (by decide) rfl (Ay) <| hJ.step hL rfl (Below.refl _ _) (by exact((SI.out.rat (.agg #[.slice a1 n1 c1]) (10^m)).mono hJ.bel))⟩
   ·intro L vs a w' hJ hF hP hL;have hK:=hJ;have hJ:=hK.open hL (by decide);refine AO (f:=67) (args:= #[.int .u64 10]) rfl (by simp[go_sem]) (CA 10 _ (by omega)) ?_;rintro e w2 ⟨v,rfl,hv,hb⟩;exact⟨_,rfl,_,rfl,hK.step hL (by decide) (by decide) rfl (Ay) <| hJ.step hL rfl hb (by exact hv)⟩
   ·intro L vs a w' hJ hF hP hL;have hK:=hJ;have hJ:=hK.open hL (by decide);have p0:L 0=true:=hP ⟨0,.data⟩ (by simp) rfl;have s0:Ai w' (vs 0) (10^m):=hJ.sp 0 p0;have q11:=hF.slot 0 11 rfl p0;have p1:L 1=true:=hP ⟨1,.data⟩ (by simp) rfl;have s1:Ai w' (vs 1) (10):=hJ.sp 1 p1;have q12:=hF.slot 1 12 rfl p1;refine AO (f:=62) (args:= #[vs 0,vs 1]) rfl (by simp[go_sem,q11,q12]) (CK _ _ (10^m) 10 _ s0 s1 SF.out (CR (by omega)).rfits) ?_;rintro e w2 ⟨v,rfl,hv,hb⟩;exact⟨_,rfl,_,rfl,hK.step hL (by decide) (by decide) rfl (Ak p0 (Ak p1 (Ay))) <| hJ.step hL rfl hb (by exact hv)⟩
   ·intro L vs a w' hJ hF hP hL;have hK:=hJ;have hJ:=hK.core hL;have q3:(a.tmps[3]?).getD undef=.pointer (some ⟨g,0,none⟩):=hF.old 3 rfl;have p2:L 2=true:=hP ⟨2,.data⟩ (by simp) rfl;have s2:Ai w' (vs 2) (10^m*10):=hJ.sp 2 p2;have q13:=hF.slot 2 13 rfl p2;have p0:L 0=true:=hK.cl 2 p2 0 (by simp);have p1:L 1=true:=hK.cl 2 p2 1 (by simp);have x0:=cell_later hJ.bel (SI.out.cel g 0 (.slice a1 n1 c1));have y0:=(hJ.bel.frozen (World.block_lt_of_cell? _ _ (SI.out.cel g 0 (.slice a1 n1 c1)))).trans (SI.out.fz g 0);obtain⟨aa,nn,cc,e8⟩:=s2.isAgg;exact Dw (w':=(w'.setCell ⟨g,0,none⟩ (.slice aa nn cc))) rfl (by simp[execOp,go_sem,q3,q13,e8,x0,y0]) ⟨undef,rfl,hK.put hL (by decide) rfl (Ak p2 (Ay)) (Ak p0 (Ak p1 (Ak p2 (Ay)))) p2 ⟨_,e8,rfl⟩⟩
   intro L vs w' hA hK;obtain⟨_,w1,hb1,sv,u1,ev,ew⟩:=hK.fin (hA 3 (by simp));replace sv:Ai w1 (vs 2) (10^m*10):=sv;simp only[DU,Act.put,List.setIfInBounds_toArray,List.set_cons_zero,List.set_cons_succ,Nat.reduceAdd];obtain⟨aa,nn,cc,e9⟩:=sv.isAgg;have S9:Hid _:=(SI.out.go hb1).addM sv;have j1:=S9.out.cel g 0 (.slice a1 n1 c1);obtain rfl:u1=.slice aa nn cc:=by rw[e9]at ev;simpa using ev.symm
   rw[e9]at S9;have S8:Hid _:=(S9.out.set (b:=g) (i:=0) j1 (S9.out.lo g) [(b,0,.slice none 0 0)] (by have:=I.out.2;simp;omega) (.slice aa nn cc)).addC (b:=g) (i:=0) (v:=.slice aa nn cc) (by simp[go_sem,j1]);rw[←ew]at S8;have I2:Hid (Uv w b g w' (10^(m+1)) aa nn cc):=⟨by rw[Nat.pow_succ];exact S8.out.sub _ _ _ _ _ _ (by simp) (by simp) (by simp) (by simp) (by simp) (by simp),I.out.2⟩;clear S8 S9 SI sv e9 ev ew hb1 j1 k1 k3 f1 f3 I hK hA;go_wp2_with fail
   go_roundw
   case rel=>exact⟨m+1,_,_,_,by go_num,by omega,I2.out⟩
   case measure=>simp[intOf];omega
  obtain rfl:m=n:=by omega
  have Z:Hid _:=I.out.1.rret1 (r:=b) k3 (by simp) (I.out.1.rat (.agg #[.slice a1 n1 c1]) (10^m)) (.slice a1 n1 c1);go_wp2_with fail
  exact bodyPost_ret (v:=.agg #[.slice a1 n1 c1]) (by simp[results,Tryz.results61,go_sem,k3]) rfl ⟨_,rfl,Z.out.1,Z.out.2⟩
def pzI(r:PtS):Int:=if r.minus then -((decVal r.power r.power.size:Nat):Int) else((decVal r.power r.power.size:Nat):Int)
def RPw(z:Int)(ok:Bool)(w:World)(e:Ending)(w':World):Prop:=e=.returned (.tuple #[.int .i64 z,.bool ok])∧w'=w
theorem Qv(s:ByteArray)(w:World)(hs:s.size≤400):Calls Tryz.prog 60 #[.string s,.int .i64 (s.size:Int)] w (RPw 0 true w):=by
 go_enter Tryz.func60,Tryz.ntmps60
 go_wp2_with fail
 exact bodyPost_ret (v:=.tuple #[.int .i64 0,.bool true]) (by simp[results,Tryz.results60,go_sem]) rfl ⟨rfl,rfl⟩
theorem JQ(s:ByteArray)(i:Nat)(w:World)(hs:s.size≤400)(hi:i<s.size)(he: ¬sb s i=101):Calls Tryz.prog 60 #[.string s,.int .i64 (i:Int)] w (RPw 0 false w):=by
 have hc:=BI hi;have n0: ¬i=s.size:=by omega
 obtain⟨t2,t3⟩:=Ck n0;obtain⟨x1,x2⟩:=Dr (x:=sb s i) (y:=101) (by omega);go_enter Tryz.func60,Tryz.ntmps60
 go_wp2_with fail
 exact bodyPost_ret (v:=.tuple #[.int .i64 0,.bool false]) (by simp[results,Tryz.results60,go_sem]) rfl ⟨rfl,rfl⟩
theorem K7{s:ByteArray}{j e:Nat}(hj:j≤s.size)(he:e=Al s j){k:Nat}(h1:j≤k)(h2:k<e):48≤sb s k∧sb s k≤57:=OS (M9 (i:=j) h1 (by omega))
def PwQ(w:World)(s:ByteArray)(i:Nat)(P:PtS)(e:Ending)(w':World):Prop:=
 w'=w∧(Cc s (i+1) P=none→e=.returned (.tuple #[.int .i64 0,.bool false]))∧ ∀r,Cc s (i+1) P=some r→e=.returned (.tuple #[.int .i64 (pzI r),.bool true])
theorem VU{s:ByteArray}{j e:Nat}{P:PtS}(he:e=Al s j)(h: ¬(j<e∧e=s.size∧e-j≤3)):AH s j j P=none:=by
 unfold AH;rw[←he];split
 ·rfl
 unfold AR;rw[if_neg];rintro⟨h1,h2⟩;exact h ⟨h1,h2,by omega⟩
theorem VV{s:ByteArray}{j e:Nat}{P:PtS}(he:e=Al s j)(h1:j<e)(h2:e=s.size)(h3:e-j≤3):AH s j j P=some {P with power:=s.extract j e}:=by
 unfold AH;rw[←he,if_neg (by omega)];unfold AR;rw[if_pos ⟨h1,h2⟩]
theorem NB{w:World}{s:ByteArray}{i j e:Nat}{P Q:PtS}(hq:Cc s (i+1) P=AH s j j Q)(he:e=Al s j)(h: ¬(j<e∧e=s.size∧e-j≤3)):PwQ w s i P (.returned (.tuple #[.int .i64 0,.bool false])) w:=by
 have h0:=VU (P:=Q) he h;refine⟨rfl,fun _=>rfl,fun r hr=> ?_⟩;rw[hq,h0]at hr;cases hr
theorem NC{w:World}{s:ByteArray}{i j e x:Nat}{P Q:PtS}{z:Int}(hq:Cc s (i+1) P=AH s j j Q)(he:e=Al s j)(h1:j<e)(h2:e=s.size)(h3:e-j≤3)(hx:decVal (s.extract j e) (e-j)=x)(hz:(s.extract j e).size=e-j)(hm:z=if Q.minus then -(x:Int) else(x:Int)):PwQ w s i P (.returned (.tuple #[.int .i64 z,.bool true])) w:=by
 have h0:=VV (P:=Q) he h1 h2 h3;refine⟨rfl,fun hn=> ?_,fun r hr=> ?_⟩
 ·rw[hq,h0]at hn;cases hn
 rw[hq,h0]at hr;obtain rfl:=Option.some.inj hr;have:pzI {Q with power:=s.extract j e}=z:=by
  unfold pzI;simp only;rw[hz,hx,hm]
 rw[this]
theorem NF(s:ByteArray)(i:Nat)(P:PtS)(w:World)(hs:s.size≤400)(hi:i<s.size)(he:sb s i=101)(hP:P.minus=false):Calls Tryz.prog 60 #[.string s,.int .i64 (i:Int)] w (PwQ w s i P):=by
 have hc:=BI hi;rw[he]at hc;have n0: ¬i=s.size:=by omega
 obtain⟨t2,t3⟩:=Ck n0;have i400:i≤400:=by omega
 have HS:Hid (s.size≤400):=hs;have HP:Hid (P.minus=false):=hP;clear he hP;by_cases g0:i+1<s.size∧(sb s (i+1)=43∨sb s (i+1)=45)
 ·obtain⟨g1,g2⟩:=g0;have hc1:=BI g1;obtain⟨j,hj⟩:=nme (i+1+1);have HR2:Hid ((i:Int)+1+1=(j:Int)):=by show _=_;omega
  have LE:Hid (j≤s.size∧s.size≤400):=⟨by omega,hs⟩;rcases g2 with g2|g2
  ·have HQ:Hid (Cc s (i+1) P=AH s j j {P with minus:=false}):=by
    show _=_;unfold Cc Fj;rw[hj,g2];simp[g1]
   have HN0:Hid (∀ee,ee=Al s j→ ¬(j<ee∧ee=s.size∧ee-j≤3)→PwQ w s i P (.returned (.tuple #[.int .i64 0,.bool false])) w):=fun ee h1 h2=>NB HQ.out h1 h2;have HY:Hid (∀ee x,j<ee→ee=s.size→ee-j≤3→ee=Al s j→decVal (s.extract j ee) (ee-j)=x→(s.extract j ee).size=ee-j→PwQ w s i P (.returned (.tuple #[.int .i64 ((x:Int)),.bool true])) w):=fun ee x h1 h2 h3 h4 h5 h6=>NC HQ.out h4 h1 h2 h3 h5 h6 rfl;rw[g2]at hc1;clear g2 hj;go_enter Tryz.func60,Tryz.ntmps60
   go_wp2_with fail
   rw[HR2.out];clear g1 hc1 hc i400 t2 t3 n0;refine(CX s j _ (by have:=LE.out;omega) (by have:=LE.out;omega)).mono ?_;rintro e wx ⟨rfl,hwx⟩;rw[hwx];clear hwx wx;obtain⟨ee,hee⟩:=nme (Al s j);have hge:=EB s j;have hle:=CD (s:=s) (i:=j) (by have:=LE.out;omega);rw[←hee]at hge hle;rw[←hee];have HEE:Hid (ee=Al s j):=hee;have l4:s.size≤400:=LE.out.2;have HN:Hid (¬(j<ee∧ee=s.size∧ee-j≤3)→PwQ w s i P (.returned (.tuple #[.int .i64 0,.bool false])) w):=fun hh=>HN0.out ee HEE.out hh;by_cases c1:ee=s.size
   ·subst c1;by_cases c2:s.size-j<1
    ·have u0:(s.size:Int)- (j:Int)<1:=by omega
     have u1:decide ((s.size:Int)- (j:Int)<1)=true:=decide_eq_true u0;have HW:Hid (¬(j<s.size∧s.size=s.size∧s.size-j≤3)):=fun hh=>by omega
     clear c2 hee u0;go_wp2_with fail
     exact bodyPost_ret (v:=.tuple #[.int .i64 0,.bool false]) (by simp[results,Tryz.results60,go_sem]) rfl (HN.out (HW.out))
    have u0: ¬(s.size:Int)- (j:Int)<1:=by omega
    have u1:decide ((s.size:Int)- (j:Int)<1)=false:=decide_eq_false u0;by_cases c3:3<s.size-j
    ·have u2:(3:Int)<(s.size:Int)- (j:Int):=by omega
     have u3:decide ((3:Int)<(s.size:Int)- (j:Int))=true:=decide_eq_true u2;have HW:Hid (¬(j<s.size∧s.size=s.size∧s.size-j≤3)):=fun hh=>by omega
     clear c2 c3 hee;go_wp2_with fail
     exact bodyPost_ret (v:=.tuple #[.int .i64 0,.bool false]) (by simp[results,Tryz.results60,go_sem]) rfl (HN.out (HW.out))
    have u2: ¬(3:Int)<(s.size:Int)- (j:Int):=by omega
    have u3:decide ((3:Int)<(s.size:Int)- (j:Int))=false:=decide_eq_false u2;have HW:Hid ((j<s.size∧s.size=s.size∧s.size-j≤3)):=⟨by omega,rfl,by omega⟩;have HDG:Hid (∀k,j≤k→k<s.size→48≤sb s k∧sb s k≤57):=fun k h1 h2=>K7 (by have:=LE.out;omega) HEE.out h1 h2;have HX:Hid (AF (s.extract j s.size) (s.size-j)∧(s.extract j s.size).size=s.size-j):=⟨fun k hk=>by rw[CN (by omega) (by omega)];exact HDG.out (j+k) (by omega) (by omega),Bj (by omega)⟩;clear c2 c3 hee;go_wp2_with fail
    go_loop [8,9] (fun v t=> ∃k:Nat,j≤k∧k≤s.size∧t=.int .i64 (k:Int)∧v=.int .i64 ((decVal (s.extract j s.size) (k-j):Nat):Int)) (fun _ t=>s.size- (intOf t).toNat)
    case atStart=>exact⟨j,by omega,by omega,rfl,by rw[Nat.sub_self];rfl⟩
    case round=>
     obtain⟨k,hk1,hk2,rfl,rfl⟩:=hrel;by_cases h:k<s.size
     ·have hks:k<s.size:=by omega
      have hc:=BI hks;have hd:=HDG.out k hk1 h;obtain⟨d,ed⟩: ∃d,sb s k=d+48:=⟨sb s k-48,by omega⟩;obtain⟨x,ex⟩:=nmd (decVal (s.extract j s.size) (k-j));obtain⟨y,ey⟩:=nmd (decVal (s.extract j s.size) (k+1-j));have hy:y=x*10+d:=by rw[←ey,show k+1-j=k-j+1 by omega,decVal,ex,CN (by omega) (by omega),show j+(k-j)=k by omega,ed];omega
      have hx:x≤999:=by rw[←ex];exact CU (fun q hq=>HX.out.1 q (by omega)) (by have:=HW.out;omega)
      rw[ex];rw[ed]at hc;have hd9:d<10:=by omega
      obtain⟨e2,e3,e4,e5,e7⟩:=Ik hx hd9 hy;have HE2:Hid (decVal (s.extract j s.size) (k+1-j)=y):=ey;have E3:Hid _:=e3;clear ex ey hy hx ed hd hd9 u0 u1 u2 u3;go_wp2_with fail
      go_round
      case rel=>exact⟨k+1,by omega,by omega,by go_num,by rw[HE2.out,e3]⟩
      case measure=>simp[intOf];omega
     obtain hks:k=s.size:=by omega
     subst hks;obtain⟨x,ex⟩:=nmd (decVal (s.extract j s.size) (s.size-j));have hx:x≤999:=by rw[←ex];exact CU HX.out.1 (by have:=HW.out;omega)
     have HXE:Hid (decVal (s.extract j s.size) (s.size-j)=x):=ex;rw[ex];have m1:wrap64 ((x:Int))=(x:Int):=IntWalk.wrap64_in _ ⟨by omega,by omega⟩;clear ex hx u0 u1 u2 u3;go_wp2_with fail
     exact bodyPost_ret (v:=.tuple #[.int .i64 ((x:Int)),.bool true]) (by simp[results,Tryz.results60,go_sem]) rfl (HY.out s.size x HW.out.1 rfl HW.out.2.2 HEE.out HXE.out HX.out.2)
   obtain⟨t1,t2⟩:=Ck c1;have HW:Hid (¬(j<ee∧ee=s.size∧ee-j≤3)):=fun hh=>c1 hh.2.1;go_wp2_with fail
   exact bodyPost_ret (v:=.tuple #[.int .i64 0,.bool false]) (by simp[results,Tryz.results60,go_sem]) rfl (HN.out (HW.out))
  have HQ:Hid (Cc s (i+1) P=AH s j j {P with minus:=true}):=by
   show _=_;unfold Cc Fj;rw[hj,g2];simp[g1]
  have HN0:Hid (∀ee,ee=Al s j→ ¬(j<ee∧ee=s.size∧ee-j≤3)→PwQ w s i P (.returned (.tuple #[.int .i64 0,.bool false])) w):=fun ee h1 h2=>NB HQ.out h1 h2;have HY:Hid (∀ee x,j<ee→ee=s.size→ee-j≤3→ee=Al s j→decVal (s.extract j ee) (ee-j)=x→(s.extract j ee).size=ee-j→PwQ w s i P (.returned (.tuple #[.int .i64 (-(x:Int)),.bool true])) w):=fun ee x h1 h2 h3 h4 h5 h6=>NC HQ.out h4 h1 h2 h3 h5 h6 rfl;rw[g2]at hc1;clear g2 hj;go_enter Tryz.func60,Tryz.ntmps60
  go_wp2_with fail
  rw[HR2.out];clear g1 hc1 hc i400 t2 t3 n0;refine(CX s j _ (by have:=LE.out;omega) (by have:=LE.out;omega)).mono ?_;rintro e wx ⟨rfl,hwx⟩;rw[hwx];clear hwx wx;obtain⟨ee,hee⟩:=nme (Al s j);have hge:=EB s j;have hle:=CD (s:=s) (i:=j) (by have:=LE.out;omega);rw[←hee]at hge hle;rw[←hee];have HEE:Hid (ee=Al s j):=hee;have l4:s.size≤400:=LE.out.2;have HN:Hid (¬(j<ee∧ee=s.size∧ee-j≤3)→PwQ w s i P (.returned (.tuple #[.int .i64 0,.bool false])) w):=fun hh=>HN0.out ee HEE.out hh;by_cases c1:ee=s.size
  ·subst c1;by_cases c2:s.size-j<1
   ·have u0:(s.size:Int)- (j:Int)<1:=by omega
    have u1:decide ((s.size:Int)- (j:Int)<1)=true:=decide_eq_true u0;have HW:Hid (¬(j<s.size∧s.size=s.size∧s.size-j≤3)):=fun hh=>by omega
    clear c2 hee u0;go_wp2_with fail
    exact bodyPost_ret (v:=.tuple #[.int .i64 0,.bool false]) (by simp[results,Tryz.results60,go_sem]) rfl (HN.out (HW.out))
   have u0: ¬(s.size:Int)- (j:Int)<1:=by omega
   have u1:decide ((s.size:Int)- (j:Int)<1)=false:=decide_eq_false u0;by_cases c3:3<s.size-j
   ·have u2:(3:Int)<(s.size:Int)- (j:Int):=by omega
    have u3:decide ((3:Int)<(s.size:Int)- (j:Int))=true:=decide_eq_true u2;have HW:Hid (¬(j<s.size∧s.size=s.size∧s.size-j≤3)):=fun hh=>by omega
    clear c2 c3 hee;go_wp2_with fail
    exact bodyPost_ret (v:=.tuple #[.int .i64 0,.bool false]) (by simp[results,Tryz.results60,go_sem]) rfl (HN.out (HW.out))
   have u2: ¬(3:Int)<(s.size:Int)- (j:Int):=by omega
   have u3:decide ((3:Int)<(s.size:Int)- (j:Int))=false:=decide_eq_false u2;have HW:Hid ((j<s.size∧s.size=s.size∧s.size-j≤3)):=⟨by omega,rfl,by omega⟩;have HDG:Hid (∀k,j≤k→k<s.size→48≤sb s k∧sb s k≤57):=fun k h1 h2=>K7 (by have:=LE.out;omega) HEE.out h1 h2;have HX:Hid (AF (s.extract j s.size) (s.size-j)∧(s.extract j s.size).size=s.size-j):=⟨fun k hk=>by rw[CN (by omega) (by omega)];exact HDG.out (j+k) (by omega) (by omega),Bj (by omega)⟩;clear c2 c3 hee;go_wp2_with fail
   go_loop [8,9] (fun v t=> ∃k:Nat,j≤k∧k≤s.size∧t=.int .i64 (k:Int)∧v=.int .i64 ((decVal (s.extract j s.size) (k-j):Nat):Int)) (fun _ t=>s.size- (intOf t).toNat)
   case atStart=>exact⟨j,by omega,by omega,rfl,by rw[Nat.sub_self];rfl⟩
   case round=>
    obtain⟨k,hk1,hk2,rfl,rfl⟩:=hrel;by_cases h:k<s.size
    ·have hks:k<s.size:=by omega
     have hc:=BI hks;have hd:=HDG.out k hk1 h;obtain⟨d,ed⟩: ∃d,sb s k=d+48:=⟨sb s k-48,by omega⟩;obtain⟨x,ex⟩:=nmd (decVal (s.extract j s.size) (k-j));obtain⟨y,ey⟩:=nmd (decVal (s.extract j s.size) (k+1-j));have hy:y=x*10+d:=by rw[←ey,show k+1-j=k-j+1 by omega,decVal,ex,CN (by omega) (by omega),show j+(k-j)=k by omega,ed];omega
     have hx:x≤999:=by rw[←ex];exact CU (fun q hq=>HX.out.1 q (by omega)) (by have:=HW.out;omega)
     rw[ex];rw[ed]at hc;have hd9:d<10:=by omega
     obtain⟨e2,e3,e4,e5,e7⟩:=Ik hx hd9 hy;have HE2:Hid (decVal (s.extract j s.size) (k+1-j)=y):=ey;have E3:Hid _:=e3;clear ex ey hy hx ed hd hd9 u0 u1 u2 u3;go_wp2_with fail
     go_round
     case rel=>exact⟨k+1,by omega,by omega,by go_num,by rw[HE2.out,e3]⟩
     case measure=>simp[intOf];omega
    obtain hks:k=s.size:=by omega
    subst hks;obtain⟨x,ex⟩:=nmd (decVal (s.extract j s.size) (s.size-j));have hx:x≤999:=by rw[←ex];exact CU HX.out.1 (by have:=HW.out;omega)
    have HXE:Hid (decVal (s.extract j s.size) (s.size-j)=x):=ex;rw[ex];have m1:wrap64 (-(x:Int))= -(x:Int):=IntWalk.wrap64_in _ ⟨by omega,by omega⟩;clear ex hx u0 u1 u2 u3;go_wp2_with fail
    exact bodyPost_ret (v:=.tuple #[.int .i64 (-(x:Int)),.bool true]) (by simp[results,Tryz.results60,go_sem]) rfl (HY.out s.size x HW.out.1 rfl HW.out.2.2 HEE.out HXE.out HX.out.2)
  obtain⟨t1,t2⟩:=Ck c1;have HW:Hid (¬(j<ee∧ee=s.size∧ee-j≤3)):=fun hh=>c1 hh.2.1;go_wp2_with fail
  exact bodyPost_ret (v:=.tuple #[.int .i64 0,.bool false]) (by simp[results,Tryz.results60,go_sem]) rfl (HN.out (HW.out))
 obtain⟨i1,hi1⟩:=nme (i+1);have HR1:Hid ((i:Int)+1=(i1:Int)):=by show _=_;omega
 have LE:Hid (i1≤s.size∧s.size≤400):=⟨by omega,hs⟩;have HQ:Hid (Cc s (i+1) P=AH s i1 i1 P):=by
  show _=_;unfold Cc Fj;rw[if_neg (by simp;intro h1;have h2: ¬(sb s (i+1)=43∨sb s (i+1)=45):=fun h2=>g0 ⟨h1,h2⟩;omega),hi1]
 have HN0:Hid (∀ee,ee=Al s i1→ ¬(i1<ee∧ee=s.size∧ee-i1≤3)→PwQ w s i P (.returned (.tuple #[.int .i64 0,.bool false])) w):=fun ee h1 h2=>NB HQ.out h1 h2;have HY:Hid (∀ee x,i1<ee→ee=s.size→ee-i1≤3→ee=Al s i1→decVal (s.extract i1 ee) (ee-i1)=x→(s.extract i1 ee).size=ee-i1→PwQ w s i P (.returned (.tuple #[.int .i64 ((x:Int)),.bool true])) w):=fun ee x h1 h2 h3 h4 h5 h6=>NC HQ.out h4 h1 h2 h3 h5 h6 (by rw[HP.out];rfl);clear hi1;by_cases g1:i+1<s.size
 ·have hc1:=BI g1;have m43: ¬sb s (i+1)=43:=fun e=>g0 ⟨g1,.inl e⟩;have m45: ¬sb s (i+1)=45:=fun e=>g0 ⟨g1,.inr e⟩;obtain⟨x1,x2⟩:=Dr (x:=sb s (i+1)) (y:=43) (by omega);obtain⟨x3,x4⟩:=Dr (x:=sb s (i+1)) (y:=45) (by omega);clear g0;go_enter Tryz.func60,Tryz.ntmps60
  go_wp2_with fail
  rw[HR1.out];clear g1 hc1 hc i400 t2 t3 n0 m43 m45 x1 x2 x3 x4;refine(CX s i1 _ (by have:=LE.out;omega) (by have:=LE.out;omega)).mono ?_;rintro e wx ⟨rfl,hwx⟩;rw[hwx];clear hwx wx;obtain⟨ee,hee⟩:=nme (Al s i1);have hge:=EB s i1;have hle:=CD (s:=s) (i:=i1) (by have:=LE.out;omega);rw[←hee]at hge hle;rw[←hee];have HEE:Hid (ee=Al s i1):=hee;have l4:s.size≤400:=LE.out.2;have HN:Hid (¬(i1<ee∧ee=s.size∧ee-i1≤3)→PwQ w s i P (.returned (.tuple #[.int .i64 0,.bool false])) w):=fun hh=>HN0.out ee HEE.out hh;by_cases c1:ee=s.size
  ·subst c1;by_cases c2:s.size-i1<1
   ·have u0:(s.size:Int)- (i1:Int)<1:=by omega
    have u1:decide ((s.size:Int)- (i1:Int)<1)=true:=decide_eq_true u0;have HW:Hid (¬(i1<s.size∧s.size=s.size∧s.size-i1≤3)):=fun hh=>by omega
    clear c2 hee u0;go_wp2_with fail
    exact bodyPost_ret (v:=.tuple #[.int .i64 0,.bool false]) (by simp[results,Tryz.results60,go_sem]) rfl (HN.out (HW.out))
   have u0: ¬(s.size:Int)- (i1:Int)<1:=by omega
   have u1:decide ((s.size:Int)- (i1:Int)<1)=false:=decide_eq_false u0;by_cases c3:3<s.size-i1
   ·have u2:(3:Int)<(s.size:Int)- (i1:Int):=by omega
    have u3:decide ((3:Int)<(s.size:Int)- (i1:Int))=true:=decide_eq_true u2;have HW:Hid (¬(i1<s.size∧s.size=s.size∧s.size-i1≤3)):=fun hh=>by omega
    clear c2 c3 hee;go_wp2_with fail
    exact bodyPost_ret (v:=.tuple #[.int .i64 0,.bool false]) (by simp[results,Tryz.results60,go_sem]) rfl (HN.out (HW.out))
   have u2: ¬(3:Int)<(s.size:Int)- (i1:Int):=by omega
   have u3:decide ((3:Int)<(s.size:Int)- (i1:Int))=false:=decide_eq_false u2;have HW:Hid ((i1<s.size∧s.size=s.size∧s.size-i1≤3)):=⟨by omega,rfl,by omega⟩;have HDG:Hid (∀k,i1≤k→k<s.size→48≤sb s k∧sb s k≤57):=fun k h1 h2=>K7 (by have:=LE.out;omega) HEE.out h1 h2;have HX:Hid (AF (s.extract i1 s.size) (s.size-i1)∧(s.extract i1 s.size).size=s.size-i1):=⟨fun k hk=>by rw[CN (by omega) (by omega)];exact HDG.out (i1+k) (by omega) (by omega),Bj (by omega)⟩;clear c2 c3 hee;go_wp2_with fail
   go_loop [8,9] (fun v t=> ∃k:Nat,i1≤k∧k≤s.size∧t=.int .i64 (k:Int)∧v=.int .i64 ((decVal (s.extract i1 s.size) (k-i1):Nat):Int)) (fun _ t=>s.size- (intOf t).toNat)
   case atStart=>exact⟨i1,by omega,by omega,rfl,by rw[Nat.sub_self];rfl⟩
   case round=>
    obtain⟨k,hk1,hk2,rfl,rfl⟩:=hrel;by_cases h:k<s.size
    ·have hks:k<s.size:=by omega
     have hc:=BI hks;have hd:=HDG.out k hk1 h;obtain⟨d,ed⟩: ∃d,sb s k=d+48:=⟨sb s k-48,by omega⟩;obtain⟨x,ex⟩:=nmd (decVal (s.extract i1 s.size) (k-i1));obtain⟨y,ey⟩:=nmd (decVal (s.extract i1 s.size) (k+1-i1));have hy:y=x*10+d:=by rw[←ey,show k+1-i1=k-i1+1 by omega,decVal,ex,CN (by omega) (by omega),show i1+(k-i1)=k by omega,ed];omega
     have hx:x≤999:=by rw[←ex];exact CU (fun q hq=>HX.out.1 q (by omega)) (by have:=HW.out;omega)
     rw[ex];rw[ed]at hc;have hd9:d<10:=by omega
     obtain⟨e2,e3,e4,e5,e7⟩:=Ik hx hd9 hy;have HE2:Hid (decVal (s.extract i1 s.size) (k+1-i1)=y):=ey;have E3:Hid _:=e3;clear ex ey hy hx ed hd hd9 u0 u1 u2 u3;go_wp2_with fail
     go_round
     case rel=>exact⟨k+1,by omega,by omega,by go_num,by rw[HE2.out,e3]⟩
     case measure=>simp[intOf];omega
    obtain hks:k=s.size:=by omega
    subst hks;obtain⟨x,ex⟩:=nmd (decVal (s.extract i1 s.size) (s.size-i1));have hx:x≤999:=by rw[←ex];exact CU HX.out.1 (by have:=HW.out;omega)
    have HXE:Hid (decVal (s.extract i1 s.size) (s.size-i1)=x):=ex;rw[ex];have m1:wrap64 ((x:Int))=(x:Int):=IntWalk.wrap64_in _ ⟨by omega,by omega⟩;clear ex hx u0 u1 u2 u3;go_wp2_with fail
    exact bodyPost_ret (v:=.tuple #[.int .i64 ((x:Int)),.bool true]) (by simp[results,Tryz.results60,go_sem]) rfl (HY.out s.size x HW.out.1 rfl HW.out.2.2 HEE.out HXE.out HX.out.2)
  obtain⟨t1,t2⟩:=Ck c1;have HW:Hid (¬(i1<ee∧ee=s.size∧ee-i1≤3)):=fun hh=>c1 hh.2.1;go_wp2_with fail
  exact bodyPost_ret (v:=.tuple #[.int .i64 0,.bool false]) (by simp[results,Tryz.results60,go_sem]) rfl (HN.out (HW.out))
 clear g0;go_enter Tryz.func60,Tryz.ntmps60
 go_wp2_with fail
 rw[HR1.out];clear g1 hc i400 t2 t3 n0;refine(CX s i1 _ (by have:=LE.out;omega) (by have:=LE.out;omega)).mono ?_;rintro e wx ⟨rfl,hwx⟩;rw[hwx];clear hwx wx;obtain⟨ee,hee⟩:=nme (Al s i1);have hge:=EB s i1;have hle:=CD (s:=s) (i:=i1) (by have:=LE.out;omega);rw[←hee]at hge hle;rw[←hee];have HEE:Hid (ee=Al s i1):=hee;have l4:s.size≤400:=LE.out.2;have HN:Hid (¬(i1<ee∧ee=s.size∧ee-i1≤3)→PwQ w s i P (.returned (.tuple #[.int .i64 0,.bool false])) w):=fun hh=>HN0.out ee HEE.out hh;by_cases c1:ee=s.size
 ·subst c1;by_cases c2:s.size-i1<1
  ·have u0:(s.size:Int)- (i1:Int)<1:=by omega
   have u1:decide ((s.size:Int)- (i1:Int)<1)=true:=decide_eq_true u0;have HW:Hid (¬(i1<s.size∧s.size=s.size∧s.size-i1≤3)):=fun hh=>by omega
   clear c2 hee u0;go_wp2_with fail
   exact bodyPost_ret (v:=.tuple #[.int .i64 0,.bool false]) (by simp[results,Tryz.results60,go_sem]) rfl (HN.out (HW.out))
  have u0: ¬(s.size:Int)- (i1:Int)<1:=by omega
  have u1:decide ((s.size:Int)- (i1:Int)<1)=false:=decide_eq_false u0;by_cases c3:3<s.size-i1
  ·have u2:(3:Int)<(s.size:Int)- (i1:Int):=by omega
   have u3:decide ((3:Int)<(s.size:Int)- (i1:Int))=true:=decide_eq_true u2;have HW:Hid (¬(i1<s.size∧s.size=s.size∧s.size-i1≤3)):=fun hh=>by omega
   clear c2 c3 hee;go_wp2_with fail
   exact bodyPost_ret (v:=.tuple #[.int .i64 0,.bool false]) (by simp[results,Tryz.results60,go_sem]) rfl (HN.out (HW.out))
  have u2: ¬(3:Int)<(s.size:Int)- (i1:Int):=by omega
  have u3:decide ((3:Int)<(s.size:Int)- (i1:Int))=false:=decide_eq_false u2;have HW:Hid ((i1<s.size∧s.size=s.size∧s.size-i1≤3)):=⟨by omega,rfl,by omega⟩;have HDG:Hid (∀k,i1≤k→k<s.size→48≤sb s k∧sb s k≤57):=fun k h1 h2=>K7 (by have:=LE.out;omega) HEE.out h1 h2;have HX:Hid (AF (s.extract i1 s.size) (s.size-i1)∧(s.extract i1 s.size).size=s.size-i1):=⟨fun k hk=>by rw[CN (by omega) (by omega)];exact HDG.out (i1+k) (by omega) (by omega),Bj (by omega)⟩;clear c2 c3 hee;go_wp2_with fail
  go_loop [8,9] (fun v t=> ∃k:Nat,i1≤k∧k≤s.size∧t=.int .i64 (k:Int)∧v=.int .i64 ((decVal (s.extract i1 s.size) (k-i1):Nat):Int)) (fun _ t=>s.size- (intOf t).toNat)
  case atStart=>exact⟨i1,by omega,by omega,rfl,by rw[Nat.sub_self];rfl⟩
  case round=>
   obtain⟨k,hk1,hk2,rfl,rfl⟩:=hrel;by_cases h:k<s.size
   ·have hks:k<s.size:=by omega
    have hc:=BI hks;have hd:=HDG.out k hk1 h;obtain⟨d,ed⟩: ∃d,sb s k=d+48:=⟨sb s k-48,by omega⟩;obtain⟨x,ex⟩:=nmd (decVal (s.extract i1 s.size) (k-i1));obtain⟨y,ey⟩:=nmd (decVal (s.extract i1 s.size) (k+1-i1));have hy:y=x*10+d:=by rw[←ey,show k+1-i1=k-i1+1 by omega,decVal,ex,CN (by omega) (by omega),show i1+(k-i1)=k by omega,ed];omega
    have hx:x≤999:=by rw[←ex];exact CU (fun q hq=>HX.out.1 q (by omega)) (by have:=HW.out;omega)
    rw[ex];rw[ed]at hc;have hd9:d<10:=by omega
    obtain⟨e2,e3,e4,e5,e7⟩:=Ik hx hd9 hy;have HE2:Hid (decVal (s.extract i1 s.size) (k+1-i1)=y):=ey;have E3:Hid _:=e3;clear ex ey hy hx ed hd hd9 u0 u1 u2 u3;go_wp2_with fail
    go_round
    case rel=>exact⟨k+1,by omega,by omega,by go_num,by rw[HE2.out,e3]⟩
    case measure=>simp[intOf];omega
   obtain hks:k=s.size:=by omega
   subst hks;obtain⟨x,ex⟩:=nmd (decVal (s.extract i1 s.size) (s.size-i1));have hx:x≤999:=by rw[←ex];exact CU HX.out.1 (by have:=HW.out;omega)
   have HXE:Hid (decVal (s.extract i1 s.size) (s.size-i1)=x):=ex;rw[ex];have m1:wrap64 ((x:Int))=(x:Int):=IntWalk.wrap64_in _ ⟨by omega,by omega⟩;clear ex hx u0 u1 u2 u3;go_wp2_with fail
   exact bodyPost_ret (v:=.tuple #[.int .i64 ((x:Int)),.bool true]) (by simp[results,Tryz.results60,go_sem]) rfl (HY.out s.size x HW.out.1 rfl HW.out.2.2 HEE.out HXE.out HX.out.2)
 obtain⟨t1,t2⟩:=Ck c1;have HW:Hid (¬(i1<ee∧ee=s.size∧ee-i1≤3)):=fun hh=>c1 hh.2.1;go_wp2_with fail
 exact bodyPost_ret (v:=.tuple #[.int .i64 0,.bool false]) (by simp[results,Tryz.results60,go_sem]) rfl (HN.out (HW.out))
end Go.Proofs.YtbikpmmpgbggaaaGreatDoor
