/- Contracts of the program's functions, part 26: own work, joined in build order. -/
import Derived.Test.YtbikpmmpgbggaaaGreatDoorJ25
namespace Go.Proofs.YtbikpmmpgbggaaaGreatDoor
open Go.RowKit
set_option maxRecDepth 100000
set_option linter.unusedVariables false
set_option maxHeartbeats 16000000
theorem SB(w:World):Calls Tryz.prog 57 #[.string ⟨#[]⟩] w (Lf w 0 false):=by
 go_enter Tryz.func57,Tryz.ntmps57
 go_wp2_with fail
 refine bodyPost_ret (v:=.tuple #[.agg #[.slice none 0 0],.bool false]) (by simp[results,Tryz.results57,go_sem]) rfl ⟨_,rfl,Gc _,Ah (Aa w)⟩
theorem Fb(s:ByteArray)(x:Nat)(w:World)(h0:0<s.size)(h1:s.size≤400)(hd:AF s s.size)(hx:decVal s s.size=x):Calls Tryz.prog 57 #[.string s] w (Lf w x true):=by
 subst hx;exact(KF s w h0 h1).mono fun e w' h=>h.1 hd
theorem SC(s:ByteArray)(w:World)(h1:s.size≤400)(hd: ¬(0<s.size∧AF s s.size)):Calls Tryz.prog 57 #[.string s] w (Lf w 0 false):=by
 by_cases h0:0<s.size
 ·exact(KF s w h0 h1).mono fun e w' h=>by
   obtain⟨rfl,hb⟩:=h.2 (fun hh=>hd ⟨h0,hh⟩);exact⟨_,rfl,Gc _,hb⟩
 obtain rfl:s=⟨#[]⟩:=OX (by omega);exact SB w
theorem Pu(A:ByteArray):A++em=A:=by
 refine ByteArray.ext ?_;rw[ByteArray.data_append];show A.data++ #[]=A.data;simp
theorem NH{a b c d:Nat}(hb:0<b)(hd:0<d)(h:a*d=c*b):a/Nat.gcd a b=c/Nat.gcd c d∧b/Nat.gcd a b=d/Nat.gcd c d:=by
 obtain⟨n,hn⟩: ∃n,a<P n∧b<P n∧c<P n∧d<P n:=by
  refine⟨a+b+c+d,?_⟩;have key: ∀x,x<P x:=fun x=>by
   unfold P;exact Nat.lt_pow_self (by omega)
  exact⟨Nat.lt_of_lt_of_le (key a) (Dt (by omega)),Nat.lt_of_lt_of_le (key b) (Dt (by omega)),Nat.lt_of_lt_of_le (key c) (Dt (by omega)),Nat.lt_of_lt_of_le (key d) (Dt (by omega))⟩
 have f1:=RJ hb hn.1 hn.2.1;have f2:=RJ hd hn.2.2.1 hn.2.2.2;have f3:Fc (c/Nat.gcd c d) (d/Nat.gcd c d) a b n:=⟨f2.low,f2.pos,hb,by
  have v:=f2.val;refine Nat.eq_of_mul_eq_mul_right hd ?_
  calc c/Nat.gcd c d*b*d=c/Nat.gcd c d*d*b:=by grind
   _=c*(d/Nat.gcd c d)*b:=by rw[v]
   _=c*b*(d/Nat.gcd c d):=by grind
   _=a*d*(d/Nat.gcd c d):=by rw[h]
   _=a*(d/Nat.gcd c d)*d:=by grind,f2.s1,f2.s2⟩
 exact Fc.one f1 f3
def BE(w:World)(s:ByteArray)(e:Ending)(w':World):Prop:= ∃v,e=.returned (.tuple #[v,.int .i64 (npE s)])∧RRt w' v (npP s) (npQ s)∧Below w.heap.size w w'
theorem Hc{s:ByteArray}(h:Ap s=none):CV s=false:=by unfold CV;rw[h];simp
theorem WY{s:ByteArray}{r:PtS}{z:Int}{A k:Nat}(hs:s.size≤400)(hc:Ap s=some r)(hb:r.below.size=0)(hz:pzI r=z)(hA:G7 r=A)(hk:r.places.size=k):
  npE s=0∧(0<z→npP s=A*10^z.toNat/Nat.gcd (A*10^z.toNat) (10^k)∧npQ s=10^k/Nat.gcd (A*10^z.toNat) (10^k))∧(¬ 0<z→npP s=A/Nat.gcd A (10^k*10^(-z).toNat)∧npQ s=10^k*10^(-z).toNat/Nat.gcd A (10^k*10^(-z).toNat)):=by
 have hpw:pwI r=z- (k:Int):=by
  have:pwI r=pzI r- (r.places.size:Int):=rfl;rw[this,hz,hk]
 have eN:vN r=A*10^(z- (k:Int)).toNat:=by unfold vN;rw[if_pos hb,hA,hpw]
 have eD:vD r=10^(-(z- (k:Int))).toNat:=by unfold vD;rw[if_pos hb,hpw]
 have hD0:0<vD r:=by rw[eD];exact Nat.pow_pos (by omega)
 obtain⟨e1,e2,e3⟩:=KK hs hc (by omega);refine⟨e3,fun h0=> ?_,fun h0=> ?_⟩
 ·rw[e1,e2];refine NH hD0 (Nat.pow_pos (by omega)) ?_;rw[eN,eD,Nat.mul_assoc,Nat.mul_assoc,←Nat.pow_add,←Nat.pow_add];congr 2
  omega
 rw[e1,e2];refine NH hD0 (Nat.mul_pos (Nat.pow_pos (by omega)) (Nat.pow_pos (by omega))) ?_;rw[eN,eD,Nat.mul_assoc,←Nat.pow_add,←Nat.pow_add];congr 2
 omega
theorem VW{s:ByteArray}{i:Nat}(hi:i≤s.size):AF (s.extract i s.size) (s.extract i s.size).size↔Al s i=s.size:=by
 constructor
 ·intro h;have h1:=CD hi;rcases Nat.lt_or_ge (Al s i) s.size with hh|hh
  ·exfalso;have h2:=T0 hi;have h3:=EB s i;have h4:=h (Al s i-i) (by rw[Bj (Nat.le_refl _)];omega);rw[CN (Nat.le_refl _) (by omega),show i+(Al s i-i)=Al s i by omega]at h4;unfold isD at h2;simp at h2;have:=h2 hh;omega
  omega
 intro h;have:=Ii (s:=s) hi;rw[h]at this;exact this
theorem NI(s:ByteArray)(w:World)(hs:s.size≤9223372036854775807)(h4:400<s.size):Calls Tryz.prog 25 #[.string s] w (BE w s):=by
 have HS0:Hid (s.size≤9223372036854775807):=hs;have HW:Hid (CV s=false):=by show _=_;unfold CV;simp;omega
 have t1:decide (400<(s.size:Int))=true:=decide_eq_true (by omega);have S0:Hid _:=(Bp w).box (.slice none 0 0) (.slice none 0 0) 66 _ rfl;go_enter Tryz.func25,Tryz.ntmps25
 go_wp2_with fail
 refine(CL _).mono ?_;rintro e w1 ⟨v1,rfl,hv1,hb1⟩;have hv1':=hv1;obtain⟨a1,n1,c1,d1,m1,g1,ev1,_,_⟩:=hv1';subst ev1;have HLT:Hid (w.heap.size<w1.heap.size):=(S0.out.go hb1).lt w.heap.size;have S1:Hid _:=((S0.out.go hb1).addG hv1).box (.slice a1 n1 c1) (.slice d1 m1 g1) 66 _ rfl;clear hv1 hb1 S0;go_wp2_with fail
 obtain⟨b,hb⟩:=nme w.heap.size;obtain⟨c,hc⟩:=nme w1.heap.size;obtain⟨w2,hw2⟩:=nme (w1.alloc (.cells #[.slice a1 n1 c1,.slice d1 m1 g1] 66));rw[←hw2,←hc,←hb]at S1;rw[←hw2,←hc,←hb];have nbc: ¬b=c:=by rw[hb,hc];have:=HLT.out;omega
 have ncb: ¬c=b:=fun e=>nbc e.symm;have HBC:Hid (b<c):=by show b<c;rw[hb,hc];exact HLT.out
 clear hw2 hb hc;refine(CX s 0 _ (Nat.zero_le _) HS0.out).mono ?_;rintro e wx ⟨rfl,hwx⟩;rw[hwx];clear hwx wx;have HV:Hid (npP s=0∧npQ s=1∧npE s=30):=Ek (HW.out);have x0:=S1.out.cel b 0 (.slice none 0 0);have x1:=S1.out.cel b 1 (.slice none 0 0);have f0:=S1.out.fz b 0;have f1:=S1.out.fz b 1;have y0:=S1.out.cel c 0 (.slice a1 n1 c1);have y1:=S1.out.cel c 1 (.slice d1 m1 g1);have Z:Hid _:=Be (w0:=w) (v:=.slice a1 n1 c1) (u:=.slice d1 m1 g1) x0 x1 (S1.out.rfr (.agg #[.slice a1 n1 c1,.slice d1 m1 g1]) 0 1) S1.out.bel (S1.out.lo b);go_wp2_with fail
 refine bodyPost_ret (v:=.tuple #[.agg #[.slice a1 n1 c1,.slice d1 m1 g1],.int .i64 30]) (by simp[results,Tryz.results25,go_sem,x0,x1]) rfl ?_;unfold BE;rw[HV.out.1,HV.out.2.1,HV.out.2.2];exact⟨_,rfl,Z.out.1,Z.out.2⟩
theorem Ux{s:ByteArray}(h:Al s 0=0):Ap s=none:=by
 unfold Ap DY;rw[h,if_pos (.inl rfl)];unfold AR;rw[if_neg (by omega)]
theorem NJ(s:ByteArray)(w:World)(hs:s.size≤400)(h0:Al s 0=0):Calls Tryz.prog 25 #[.string s] w (BE w s):=by
 have HS0:Hid (s.size≤9223372036854775807):=by show _≤_;omega
 have n4: ¬ 400<s.size:=by omega
 have t4:decide (400<(s.size:Int))=false:=decide_eq_false (by omega);have HW:Hid (CV s=false):=Hc (Ux h0);have H0:Hid (Al s 0=0):=h0;clear h0;have S0:Hid _:=(Bp w).box (.slice none 0 0) (.slice none 0 0) 66 _ rfl;go_enter Tryz.func25,Tryz.ntmps25
 go_wp2_with fail
 refine(CL _).mono ?_;rintro e w1 ⟨v1,rfl,hv1,hb1⟩;have hv1':=hv1;obtain⟨a1,n1,c1,d1,m1,g1,ev1,_,_⟩:=hv1';subst ev1;have HLT:Hid (w.heap.size<w1.heap.size):=(S0.out.go hb1).lt w.heap.size;have S1:Hid _:=((S0.out.go hb1).addG hv1).box (.slice a1 n1 c1) (.slice d1 m1 g1) 66 _ rfl;clear hv1 hb1 S0;go_wp2_with fail
 obtain⟨b,hb⟩:=nme w.heap.size;obtain⟨c,hc⟩:=nme w1.heap.size;obtain⟨w2,hw2⟩:=nme (w1.alloc (.cells #[.slice a1 n1 c1,.slice d1 m1 g1] 66));rw[←hw2,←hc,←hb]at S1;rw[←hw2,←hc,←hb];have nbc: ¬b=c:=by rw[hb,hc];have:=HLT.out;omega
 have ncb: ¬c=b:=fun e=>nbc e.symm;have HBC:Hid (b<c):=by show b<c;rw[hb,hc];exact HLT.out
 clear hw2 hb hc;refine(CX s 0 _ (Nat.zero_le _) HS0.out).mono ?_;rintro e wx ⟨rfl,hwx⟩;rw[hwx];clear hwx wx;rw[H0.out];have HV:Hid (npP s=0∧npQ s=1∧npE s=30):=Ek (HW.out);have x0:=S1.out.cel b 0 (.slice none 0 0);have x1:=S1.out.cel b 1 (.slice none 0 0);have f0:=S1.out.fz b 0;have f1:=S1.out.fz b 1;have y0:=S1.out.cel c 0 (.slice a1 n1 c1);have y1:=S1.out.cel c 1 (.slice d1 m1 g1);have Z:Hid _:=Be (w0:=w) (v:=.slice a1 n1 c1) (u:=.slice d1 m1 g1) x0 x1 (S1.out.rfr (.agg #[.slice a1 n1 c1,.slice d1 m1 g1]) 0 1) S1.out.bel (S1.out.lo b);go_wp2_with fail
 refine bodyPost_ret (v:=.tuple #[.agg #[.slice a1 n1 c1,.slice d1 m1 g1],.int .i64 30]) (by simp[results,Tryz.results25,go_sem,x0,x1]) rfl ?_;unfold BE;rw[HV.out.1,HV.out.2.1,HV.out.2.2];exact⟨_,rfl,Z.out.1,Z.out.2⟩
theorem Uy{s:ByteArray}{i0:Nat}(hi:i0=Al s 0)(h0: ¬i0=0)(h1:i0<s.size)(h2:sb s i0=47):Ap s=if i0+1<s.size∧Al s (i0+1)=s.size then some ⟨s.extract 0 i0,s.extract (i0+1) s.size,em,em,false⟩ else none:=by
 unfold Ap DY;rw[←hi,if_neg (by omega),if_pos h2];unfold Fk AR;have hl:=CD (s:=s) (i:=i0+1) (by omega);have hg:=EB s (i0+1);by_cases h:Al s (i0+1)=s.size
 ·rw[h];by_cases h3:i0+1<s.size
  ·rw[if_pos ⟨h3,rfl⟩,if_pos ⟨h3,rfl⟩];rfl
  rw[if_neg (fun hh=>h3 hh.1),if_neg (fun hh=>h3 hh.1)]
 rw[if_neg (fun hh=>h hh.2),if_neg (fun hh=>h hh.2)]
theorem NK(s:ByteArray)(i:Nat)(h2:i≤s.size)(w:World):(Instr.slice 9 (.string s) none (some (.int .i64 (i:Int))) none).run Tryz.prog w=.ok (.string (s.extract 0 i)) w:=by
 rw[run_slice_string_to_if _ _ _ _ _ (by kernel_rfl),if_pos ⟨by omega,by omega⟩];rfl
theorem Uz(s:ByteArray)(i:Nat)(h2:i≤s.size)(w:World):(Instr.slice 9 (.string s) (some (.int .i64 (i:Int))) none none).run Tryz.prog w=.ok (.string (s.extract i s.size)) w:=by
 rw[run_slice_string_from_if _ _ _ _ _ (by kernel_rfl),if_pos ⟨by omega,by omega⟩];rfl
theorem Oq(s:ByteArray)(w:World)(hs:s.size≤400)(h0: ¬Al s 0=0)(h1:Al s 0<s.size)(h2:sb s (Al s 0)=47):Calls Tryz.prog 25 #[.string s] w (BE w s):=by
 have HS0:Hid (s.size≤9223372036854775807):=by show _≤_;omega
 have HS:Hid (s.size≤400):=hs;have n4: ¬ 400<s.size:=by omega
 have t4:decide (400<(s.size:Int))=false:=decide_eq_false (by omega);have l0:=CD (s:=s) (i:=0) (Nat.zero_le _);obtain⟨i0,hi0⟩:=nme (Al s 0);rw[←hi0]at l0;have HI:Hid (i0=Al s 0∧i0≤s.size):=⟨hi0,l0⟩;rw[←hi0]at h0 h1 h2;obtain⟨o1,o2⟩:=Dr (x:=i0) (y:=0) (by omega);have hc:=BI h1;rw[h2]at hc;have sl:=NK s i0 l0;have sf:=Uz s (i0+1) (by omega);rw[show((i0+1:Nat):Int)=(i0:Int)+1 by omega]at sf;have HCP:Hid _:=Uy hi0 h0 h1 h2;have HDA:Hid (AF (s.extract 0 i0) (s.extract 0 i0).size∧(s.extract 0 i0).size=i0∧0<i0):=by
  have d:=Ii (s:=s) (i:=0) (Nat.zero_le _);rw[←hi0]at d;exact⟨d,by rw[Bj l0];omega,by omega⟩
 obtain⟨A,hA⟩:=nme (s.extract 0 i0);obtain⟨C,hC⟩:=nme (s.extract (i0+1) s.size);rw[←hA]at sl HCP HDA;rw[←hC]at sf HCP;have hCz:C.size=s.size- (i0+1):=by rw[hC,Bj (Nat.le_refl _)]
 have hdr:=VW (s:=s) (i:=i0+1) (by omega);rw[←hC]at hdr;have HCC:Hid ((i0+1<s.size↔0<C.size)∧(AF C C.size↔Al s (i0+1)=s.size)∧C.size≤400∧i0≤400):=⟨by omega,hdr,by omega,by omega⟩;have i400:i0≤400:=by omega
 obtain⟨x,hx⟩:=nme (decVal A A.size);have HX:Hid (decVal A A.size=x∧x<P 21):=⟨hx.symm,by rw[hx];exact KH (DP HDA.out.1) (by have:=HDA.out;omega)⟩;clear hA hC hCz hdr hi0 h2 hx;have S0:Hid _:=(Bp w).box (.slice none 0 0) (.slice none 0 0) 66 _ rfl;go_enter Tryz.func25,Tryz.ntmps25
 go_wp2_with fail
 refine(CL _).mono ?_;rintro e w1 ⟨v1,rfl,hv1,hb1⟩;have hv1':=hv1;obtain⟨a1,n1,c1,d1,m1,g1,ev1,_,_⟩:=hv1';subst ev1;have HLT:Hid (w.heap.size<w1.heap.size):=(S0.out.go hb1).lt w.heap.size;have S1:Hid _:=((S0.out.go hb1).addG hv1).box (.slice a1 n1 c1) (.slice d1 m1 g1) 66 _ rfl;clear hv1 hb1 S0;go_wp2_with fail
 obtain⟨b,hb⟩:=nme w.heap.size;obtain⟨c,hc⟩:=nme w1.heap.size;obtain⟨w2,hw2⟩:=nme (w1.alloc (.cells #[.slice a1 n1 c1,.slice d1 m1 g1] 66));rw[←hw2,←hc,←hb]at S1;rw[←hw2,←hc,←hb];have nbc: ¬b=c:=by rw[hb,hc];have:=HLT.out;omega
 have ncb: ¬c=b:=fun e=>nbc e.symm;have HBC:Hid (b<c):=by show b<c;rw[hb,hc];exact HLT.out
 clear hw2 hb hc;refine(CX s 0 _ (Nat.zero_le _) HS0.out).mono ?_;rintro e wx ⟨rfl,hwx⟩;rw[hwx];clear hwx wx;rw[←HI.out.1];go_wp2_with fail
 refine(Fb A x _ (by have:=HDA.out;omega) (by have:=HDA.out;have:=HCC.out;omega) HDA.out.1 HX.out.1).mono ?_;rintro e w3 ⟨v3,rfl,hv3,hb3⟩;obtain⟨a3,n3,c3,rfl⟩:=hv3.isAgg;have HL3:Hid (c<w3.heap.size):=(S1.out.go hb3).lt c;have S3:Hid _:=((S1.out.go hb3).addM hv3).box1 (.slice a3 n3 c3) 64 _ rfl;clear hv3 hb3 S1;go_wp2_with fail
 obtain⟨g,hg⟩:=nme w3.heap.size;obtain⟨w4,hw4⟩:=nme (w3.alloc (.cells #[.slice a3 n3 c3] 64));rw[←hw4,←hg]at S3;rw[←hw4,←hg];clear hw4 hg;by_cases hok:0<C.size∧AF C C.size
 ·obtain⟨y,hy⟩: ∃y,y=decVal C C.size:=⟨_,rfl⟩;have HY:Hid (decVal C C.size=y∧y<P 21∧0<C.size∧AF C C.size):=⟨hy.symm,by rw[hy];exact KH (DP hok.2) (by have:=HCC.out;omega),hok⟩;have HCS:Hid (Ap s=some ⟨A,C,em,em,false⟩):=by show _=_;rw[HCP.out,if_pos ⟨HCC.out.1.2 hok.1,HCC.out.2.1.1 hok.2⟩]
  clear hok hy;refine(Fb C y _ HY.out.2.2.1 HCC.out.2.2.1 HY.out.2.2.2 HY.out.1).mono ?_;rintro e w5 ⟨v5,rfl,hv5,hb5⟩;obtain⟨a5,n5,c5,rfl⟩:=hv5.isAgg;have S5:Hid _:=((S3.out.go hb5).addM hv5).box1 (.slice a5 n5 c5) 64 _ rfl;clear hv5 hb5 S3;go_wp2_with fail
  obtain⟨h,hh⟩:=nme w5.heap.size;obtain⟨w6,hw6⟩:=nme (w5.alloc (.cells #[.slice a5 n5 c5] 64));rw[←hw6,←hh]at S5;rw[←hw6,←hh];clear hw6 hh;refine(EW _ y _ (S5.out.rat (.agg #[.slice a5 n5 c5]) y) (BL HY.out.2.1 (by omega))).mono ?_;rintro e w7 ⟨rfl,hb7⟩;have S7:Hid _:=S5.out.go hb7;clear hb7 S5;have HVD:Hid (vD ⟨A,C,em,em,false⟩=y∧vN ⟨A,C,em,em,false⟩=x):=by
   have nz: ¬C.size=0:=by have:=HY.out.2.2.1;omega
   refine⟨by unfold vD;simp only;rw[if_neg nz];exact HY.out.1,?_⟩;unfold vN G7;simp only;rw[if_neg nz,Pu];exact HX.out.1
  by_cases hy0:y=0
  ·have u1:decide (y=0)=true:=decide_eq_true hy0;have HW:Hid (CV s=false):=by show _=_;unfold CV;rw[HCS.out];simp only;rw[HVD.out.1,hy0];simp
   clear hy0;have HV:Hid (npP s=0∧npQ s=1∧npE s=30):=Ek (HW.out);have x0:=S7.out.cel b 0 (.slice none 0 0);have x1:=S7.out.cel b 1 (.slice none 0 0);have f0:=S7.out.fz b 0;have f1:=S7.out.fz b 1;have y0:=S7.out.cel c 0 (.slice a1 n1 c1);have y1:=S7.out.cel c 1 (.slice d1 m1 g1);have Z:Hid _:=Be (w0:=w) (v:=.slice a1 n1 c1) (u:=.slice d1 m1 g1) x0 x1 (S7.out.rfr (.agg #[.slice a1 n1 c1,.slice d1 m1 g1]) 0 1) S7.out.bel (S7.out.lo b);go_wp2_with fail
   refine bodyPost_ret (v:=.tuple #[.agg #[.slice a1 n1 c1,.slice d1 m1 g1],.int .i64 30]) (by simp[results,Tryz.results25,go_sem,x0,x1]) rfl ?_;unfold BE;rw[HV.out.1,HV.out.2.1,HV.out.2.2];exact⟨_,rfl,Z.out.1,Z.out.2⟩
  have u1:decide (y=0)=false:=decide_eq_false hy0;have HVV:Hid (npP s=x/Nat.gcd x y∧npQ s=y/Nat.gcd x y∧npE s=0):=by
   obtain⟨e1,e2,e3⟩:=KK HS.out HCS.out (by rw[HVD.out.1];exact hy0);rw[HVD.out.1,HVD.out.2]at e1 e2;exact⟨e1,e2,e3⟩
  have HY0:Hid (0<y):=by show _<_;omega
  have z1:=S7.out.cel g 0 (.slice a3 n3 c3);have z2:=S7.out.cel h 0 (.slice a5 n5 c5);clear hy0;go_wp2_with fail
  refine(CM _ _ x y _ (S7.out.rat (.agg #[.slice a3 n3 c3]) x) (S7.out.rat (.agg #[.slice a5 n5 c5]) y) (RS.rsome ⟨Cb HX.out.2 (by omega)⟩) (RS.rsome ⟨Cb HY.out.2.1 (by omega)⟩) HY0.out).mono ?_;clear z1 z2;rintro e w8 ⟨v8,rfl,hv8,hb8⟩;have hv8':=hv8;obtain⟨a6,n6,c6,a7,n7,c7,ev,_,_⟩:=hv8';subst ev;have S6:Hid _:=((S7.out.go hb8).addG hv8).go (w':=w8.alloc (.cells #[.slice a6 n6 c6,.slice a7 n7 c7] 66)) (Ah (Aa _));have q0:(w8.alloc (.cells #[.slice a6 n6 c6,.slice a7 n7 c7] 66)).cell? ⟨w8.heap.size,0,none⟩=some (.slice a6 n6 c6):=by simp[go_sem]
  have q1:(w8.alloc (.cells #[.slice a6 n6 c6,.slice a7 n7 c7] 66)).cell? ⟨w8.heap.size,1,none⟩=some (.slice a7 n7 c7):=by simp[go_sem]
  clear hv8 hb8 S7;have x0:=S6.out.cel b 0 (.slice none 0 0);have x1:=S6.out.cel b 1 (.slice none 0 0);have f0:=S6.out.fz b 0;have f1:=S6.out.fz b 1;have Z:Hid _:=Be (w0:=w) (v:=.slice a6 n6 c6) (u:=.slice a7 n7 c7) x0 x1 (S6.out.rfr (.agg #[.slice a6 n6 c6,.slice a7 n7 c7]) ((x)/Nat.gcd (x) (y)) ((y)/Nat.gcd (x) (y))) S6.out.bel (S6.out.lo b);go_wp2_with fail
  refine bodyPost_ret (v:=.tuple #[.agg #[.slice a6 n6 c6,.slice a7 n7 c7],.int .i64 0]) (by simp[results,Tryz.results25,go_sem,x0,x1]) rfl ?_;unfold BE;rw[HVV.out.1,HVV.out.2.1,HVV.out.2.2];exact⟨_,rfl,Z.out.1,Z.out.2⟩
 have HW:Hid (CV s=false):=Hc (by rw[HCP.out,if_neg (fun hh=>hok ⟨HCC.out.1.1 hh.1,HCC.out.2.1.2 hh.2⟩)]);refine(SC C _ HCC.out.2.2.1 hok).mono ?_;clear hok;rintro e w5 ⟨v5,rfl,hv5,hb5⟩;obtain⟨a5,n5,c5,rfl⟩:=hv5.isAgg;have S5:Hid _:=(S3.out.go hb5).box1 (.slice a5 n5 c5) 64 _ rfl;clear hv5 hb5 S3;have HV:Hid (npP s=0∧npQ s=1∧npE s=30):=Ek (HW.out);have x0:=S5.out.cel b 0 (.slice none 0 0);have x1:=S5.out.cel b 1 (.slice none 0 0);have f0:=S5.out.fz b 0;have f1:=S5.out.fz b 1;have y0:=S5.out.cel c 0 (.slice a1 n1 c1);have y1:=S5.out.cel c 1 (.slice d1 m1 g1);have Z:Hid _:=Be (w0:=w) (v:=.slice a1 n1 c1) (u:=.slice d1 m1 g1) x0 x1 (S5.out.rfr (.agg #[.slice a1 n1 c1,.slice d1 m1 g1]) 0 1) S5.out.bel (S5.out.lo b);go_wp2_with fail
 refine bodyPost_ret (v:=.tuple #[.agg #[.slice a1 n1 c1,.slice d1 m1 g1],.int .i64 30]) (by simp[results,Tryz.results25,go_sem,x0,x1]) rfl ?_;unfold BE;rw[HV.out.1,HV.out.2.1,HV.out.2.2];exact⟨_,rfl,Z.out.1,Z.out.2⟩
theorem EJ(z:Int)(k:Nat)(w:World)(hz:z=(k:Int))(hk:k≤1500):Calls Tryz.prog 61 #[.int .i64 z] w (Dm w (10^k)):=by
 rw[hz];exact Uw k w hk
theorem JR(s:ByteArray)(i:Nat)(z:Int)(w:World)(hs:s.size≤400)(h:i=s.size)(hz:z=0):Calls Tryz.prog 60 #[.string s,.int .i64 (i:Int)] w (RPw z true w):=by
 rw[h,hz];exact Qv s w hs
theorem Ma{s:ByteArray}{i:Nat}{P r:PtS}(h:AH s i i P=some r):r.whole=P.whole∧r.places=P.places∧r.below=P.below:=by
 unfold AH at h;split at h
 ·cases h
 obtain⟨rfl,_,_⟩:=Gg h;exact⟨rfl,rfl,rfl⟩
theorem Mb{s:ByteArray}{i:Nat}{P r:PtS}(h:Cc s i P=some r):r.whole=P.whole∧r.places=P.places∧r.below=P.below:=by
 unfold Cc at h;split at h
 ·exact Ma (P:={P with minus:=sb s i==45}) h
 exact Ma h
theorem Xv{r:PtS}(h:D7 r): -999≤pzI r∧pzI r≤999:=by
 have:=CU h.dx h.sx;unfold pzI;split<;>omega
structure Tl (s:ByteArray) (X:ByteArray) (A k:Nat) (z:Int):Prop where
 x0:0<X.size
 x1:X.size≤400
 xd:AF X X.size
 xa:decVal X X.size=A
 al:A<P 21
 k4:k≤400
 z1: -999≤z
 z2:z≤999
 ne:npE s=0
 up:0<z→npP s=A*10^z.toNat/Nat.gcd (A*10^z.toNat) (10^k)∧npQ s=10^k/Nat.gcd (A*10^z.toNat) (10^k)
 dn: ¬ 0<z→npP s=A/Nat.gcd A (10^k*10^(-z).toNat)∧npQ s=10^k*10^(-z).toNat/Nat.gcd A (10^k*10^(-z).toNat)
structure PQs (P:PtS) (X:ByteArray) (A k:Nat):Prop where
 x:X=P.whole++P.places
 a:decVal X X.size=A
 k:P.places.size=k
 b:P.below.size=0
 m:P.minus=false
 z:pzI P=0
theorem Mu{s X:ByteArray}{A k:Nat}{z:Int}{P r:PtS}(hs:s.size≤400)(hc:Ap s=some r)(hw:r.whole=P.whole∧r.places=P.places∧r.below=P.below)(hX:X=P.whole++P.places)(hA:decVal X X.size=A)(hk:P.places.size=k)(hb:P.below.size=0)(hz:pzI r=z):Tl s X A k z:=by
 have g:=Jh hs hc;have e:G7 r=A:=by unfold G7;rw[hw.1,hw.2.1,←hX];exact hA
 obtain⟨h1,h2,h3⟩:=WY (k:=k) hs hc (by rw[hw.2.2];exact hb) hz e (by rw[hw.2.1];exact hk);have p:=Xv g;rw[hz]at p;have sz:=g.sz;have w0:=g.w0;have dd:=Jv g.dw g.dp;have al:=g.a;rw[e]at al;rw[hw.1,hw.2.1]at sz dd;rw[hw.1]at w0;exact⟨by rw[hX,ByteArray.size_append];omega,by rw[hX,ByteArray.size_append];exact sz,by rw[hX];exact dd,hA,al,by omega,p.1,p.2,h1,h2,h3⟩
theorem VZ{s:ByteArray}{i0:Nat}(hi:i0=Al s 0)(h0: ¬i0=0)(h1:i0<s.size→ ¬sb s i0=47∧ ¬sb s i0=46):
  (i0=s.size→Ap s=some ⟨s.extract 0 i0,em,em,em,false⟩)∧(i0<s.size→ ¬sb s i0=101→Ap s=none)∧(i0<s.size→sb s i0=101→Ap s=Cc s (i0+1) ⟨s.extract 0 i0,em,em,em,false⟩):=by
 unfold Ap DY;rw[←hi];refine⟨fun h=> ?_,fun h h2=> ?_,fun h h2=> ?_⟩
 ·rw[if_pos (.inr h)];unfold AR;rw[if_pos ⟨by omega,h⟩];rfl
 ·rw[if_neg (by omega),if_neg (h1 h).1,if_neg (h1 h).2,if_neg h2]
 rw[if_neg (by omega),if_neg (h1 h).1,if_neg (h1 h).2,if_pos h2];rfl
theorem Ot(s:ByteArray)(w:World)(hs:s.size≤400)(h0: ¬Al s 0=0)(h1:Al s 0<s.size→ ¬sb s (Al s 0)=47∧ ¬sb s (Al s 0)=46):Calls Tryz.prog 25 #[.string s] w (BE w s):=by
 have HS0:Hid (s.size≤9223372036854775807):=by show _≤_;omega
 have HS:Hid (s.size≤400):=hs;have n4: ¬ 400<s.size:=by omega
 have t4:decide (400<(s.size:Int))=false:=decide_eq_false (by omega);have l0:=CD (s:=s) (i:=0) (Nat.zero_le _);obtain⟨i0,hi0⟩:=nme (Al s 0);rw[←hi0]at l0;have HI:Hid (i0=Al s 0∧i0≤s.size):=⟨hi0,l0⟩;rw[←hi0]at h0 h1;obtain⟨o1,o2⟩:=Dr (x:=i0) (y:=0) (by omega);have HD3:Hid _:=VZ hi0 h0 h1;have sl:=NK s i0 l0;obtain⟨X,hX⟩:=nme (s.extract 0 i0);obtain⟨k,hk⟩: ∃k:Nat,k=0:=⟨_,rfl⟩;obtain⟨A,hA⟩:=nme (decVal X X.size);rw[←hX]at sl HD3;have HQ:Hid (PQs ⟨X,em,em,em,false⟩ X A k):=⟨(Pu X).symm,hA.symm,hk.symm,rfl,rfl,rfl⟩;have KZ:Hid ((0:Int)=(k:Int)):=by show _=_;omega
 have HIS:Hid (i0≤s.size):=l0;have i400:i0≤400:=by omega
 clear hX hk hA hi0;by_cases hlt:i0<s.size
 ·have hc:=BI hlt;obtain⟨n47,n46⟩:=h1 hlt;obtain⟨x1,x2⟩:=Dr (x:=sb s i0) (y:=47) (by omega);obtain⟨x3,x4⟩:=Dr (x:=sb s i0) (y:=46) (by omega);clear h1;have S0:Hid _:=(Bp w).box (.slice none 0 0) (.slice none 0 0) 66 _ rfl;go_enter Tryz.func25,Tryz.ntmps25
  go_wp2_with fail
  refine(CL _).mono ?_;rintro e w1 ⟨v1,rfl,hv1,hb1⟩;have hv1':=hv1;obtain⟨a1,n1,c1,d1,m1,g1,ev1,_,_⟩:=hv1';subst ev1;have HLT:Hid (w.heap.size<w1.heap.size):=(S0.out.go hb1).lt w.heap.size;have S1:Hid _:=((S0.out.go hb1).addG hv1).box (.slice a1 n1 c1) (.slice d1 m1 g1) 66 _ rfl;clear hv1 hb1 S0;go_wp2_with fail
  obtain⟨b,hb⟩:=nme w.heap.size;obtain⟨c,hc⟩:=nme w1.heap.size;obtain⟨w2,hw2⟩:=nme (w1.alloc (.cells #[.slice a1 n1 c1,.slice d1 m1 g1] 66));rw[←hw2,←hc,←hb]at S1;rw[←hw2,←hc,←hb];have nbc: ¬b=c:=by rw[hb,hc];have:=HLT.out;omega
  have ncb: ¬c=b:=fun e=>nbc e.symm;have HBC:Hid (b<c):=by show b<c;rw[hb,hc];exact HLT.out
  clear hw2 hb hc;refine(CX s 0 _ (Nat.zero_le _) HS0.out).mono ?_;rintro e wx ⟨rfl,hwx⟩;rw[hwx];clear hwx wx;rw[←HI.out.1];go_wp2_with fail
  clear hc n47 n46 x1 x2 x3 x4;have ce: ¬i0=s.size:=by omega
  have ci:i0<s.size:=by have:=HIS.out;omega
  by_cases cf:sb s i0=101
  ·refine(NF s i0 (⟨X,em,em,em,false⟩) _ HS.out ci cf HQ.out.m).mono ?_;rintro e wx ⟨hwx,hn,hr⟩;rw[hwx];clear hwx wx;cases hsg:Cc s (i0+1) (⟨X,em,em,em,false⟩)with
   |none=>
    rw[hn hsg];have HW:Hid (CV s=false):=Hc (by rw[HD3.out.2.2 ci cf];exact hsg);clear hn hr hsg ci cf ce;have HV:Hid (npP s=0∧npQ s=1∧npE s=30):=Ek (HW.out);have x0:=S1.out.cel b 0 (.slice none 0 0);have x1:=S1.out.cel b 1 (.slice none 0 0);have f0:=S1.out.fz b 0;have f1:=S1.out.fz b 1;have y0:=S1.out.cel c 0 (.slice a1 n1 c1);have y1:=S1.out.cel c 1 (.slice d1 m1 g1);have Z:Hid _:=Be (w0:=w) (v:=.slice a1 n1 c1) (u:=.slice d1 m1 g1) x0 x1 (S1.out.rfr (.agg #[.slice a1 n1 c1,.slice d1 m1 g1]) 0 1) S1.out.bel (S1.out.lo b);go_wp2_with fail
    refine bodyPost_ret (v:=.tuple #[.agg #[.slice a1 n1 c1,.slice d1 m1 g1],.int .i64 30]) (by simp[results,Tryz.results25,go_sem,x0,x1]) rfl ?_;unfold BE;rw[HV.out.1,HV.out.2.1,HV.out.2.2];exact⟨_,rfl,Z.out.1,Z.out.2⟩
   |some r=>
    rw[hr r hsg];obtain⟨z,hz⟩:=nme (pzI r:Int);have T:Hid (Tl s X A k z):=Mu HS.out (by rw[HD3.out.2.2 ci cf];exact hsg) (Mb hsg) HQ.out.x HQ.out.a HQ.out.k HQ.out.b (hz.symm);rw[←hz];clear hn hr hsg ci cf ce hz;go_wp2_with fail
    refine(Fb X A _ T.out.x0 T.out.x1 T.out.xd T.out.xa).mono ?_;rintro e w3 ⟨v3,rfl,hv3,hb3⟩;obtain⟨a3,n3,c3,rfl⟩:=hv3.isAgg;have HL3:Hid (b<w3.heap.size∧c<w3.heap.size):=⟨(S1.out.go hb3).lt b,(S1.out.go hb3).lt c⟩;have S3:Hid _:=((S1.out.go hb3).addM hv3).box1 (.slice a3 n3 c3) 64 _ rfl;clear hv3 hb3 S1;go_wp2_with fail
    obtain⟨g,hg⟩:=nme w3.heap.size;obtain⟨w4,hw4⟩:=nme (w3.alloc (.cells #[.slice a3 n3 c3] 64));rw[←hw4,←hg]at S3;rw[←hw4,←hg];have HG3:Hid (b<g∧c<g):=by rw[hg];exact HL3
    clear hw4 hg HL3;refine(EJ _ k _ KZ.out (by have:=T.out.k4;omega)).mono ?_;rintro e w5 ⟨v5,rfl,hv5,hb5⟩;obtain⟨a5,n5,c5,rfl⟩:=hv5.isAgg;have HL5:Hid (g<w5.heap.size):=(S3.out.go hb5).lt g;have S5:Hid _:=((S3.out.go hb5).addM hv5).box1 (.slice a5 n5 c5) 64 _ rfl;clear hv5 hb5 S3;by_cases hz0:0<z
    ·obtain⟨t,ht⟩: ∃t:Nat,t=(z).toNat:=⟨_,rfl⟩;have HT:Hid (t≤999∧z=(t:Int)):=⟨by have:=T.out.z1;have:=T.out.z2;omega,by omega⟩;have HE:Hid (npP s=A*10^t/Nat.gcd (A*10^t) (10^k)∧npQ s=10^k/Nat.gcd (A*10^t) (10^k)∧npE s=0):=by rw[ht];exact⟨(T.out.up hz0).1,(T.out.up hz0).2,T.out.ne⟩
     have FX:Hid (AG (A)∧AG (10^t)):=⟨BL T.out.al (by omega),BL (Bx (by have:=HT.out;omega)) (by omega)⟩;clear ht;go_wp2_with fail
     obtain⟨h,hh⟩:=nme w5.heap.size;obtain⟨w6,hw6⟩:=nme (w5.alloc (.cells #[.slice a5 n5 c5] 64));rw[←hw6,←hh]at S5;rw[←hw6,←hh];have HH3:Hid (g<h):=by rw[hh];exact HL5
     clear hw6 hh HL5;refine Bg (JD w6 [sR (A),sEq (.int .i64 z),sR (10^t),sR (A*10^t),sAny] [[],[],[1],[0,2],[3]] 4 3 [0,1,2,3] (IG (g))) 138 (by kernel_rfl) rfl (by kernel_rfl) (JD.start _ _ _ _ _ _ _) (fun HG HN=>⟨?_,?_,?_,?_,?_,trivial⟩) ?_
     ·intro L vs a w' hJ hF hP hL;have hK:=hJ;have hJ:=hK.open hL (by decide);have q17:(a.tmps[17]?).getD undef=.pointer (some ⟨g,0,none⟩):=hF.old 17 rfl;have cb:=cell_later hJ.bel (S5.out.cell (g) (.slice a3 n3 c3));exact Av (v:=.agg #[.slice a3 n3 c3]) rfl (by simp[execOp,go_sem,q17,cb]) ⟨_,rfl,hK.step hL (by decide) (by decide) rfl (Ay) <| hJ.step hL rfl (Below.refl _ _) (by exact((S5.out.rat (.agg #[.slice a3 n3 c3]) (A)).mono hJ.bel))⟩
     ·intro L vs a w' hJ hF hP hL;have hK:=hJ;have hJ:=hK.open hL (by decide);have q15:(a.tmps[15]?).getD undef=.int .i64 z:=hF.old 15 rfl;exact Av (v:=.int .i64 z) rfl (by simp[execOp,go_sem,q15]) ⟨_,rfl,hK.step hL (by decide) (by decide) rfl (Ay) <| hJ.step hL rfl (Below.refl _ _) (by exact rfl)⟩
     ·intro L vs a w' hJ hF hP hL;have hK:=hJ;have hJ:=hK.open hL (by decide);have p1:L 1=true:=hP ⟨1,.data⟩ (by simp) rfl;have s1:vs 1=.int .i64 z:=hJ.sp 1 p1;have q123:=hF.slot 1 123 rfl p1;refine AO (f:=61) (args:= #[.int .i64 z]) rfl (by simp[go_sem,q123,s1]) (EJ _ t _ HT.out.2 (by have:=HT.out;omega)) ?_;rintro e w2 ⟨v,rfl,hv,hb⟩;exact⟨_,rfl,_,rfl,hK.step hL (by decide) (by decide) rfl (Ak p1 (Ay)) <| hJ.step hL rfl hb (by exact hv)⟩
     ·intro L vs a w' hJ hF hP hL;have hK:=hJ;have hJ:=hK.open hL (by decide);have p0:L 0=true:=hP ⟨0,.data⟩ (by simp) rfl;have s0:Ai w' (vs 0) (A):=hJ.sp 0 p0;have q122:=hF.slot 0 122 rfl p0;have p2:L 2=true:=hP ⟨2,.data⟩ (by simp) rfl;have s2:Ai w' (vs 2) (10^t):=hJ.sp 2 p2;have q124:=hF.slot 2 124 rfl p2;refine AO (f:=62) (args:= #[vs 0,vs 2]) rfl (by simp[go_sem,q122,q124]) (CK _ _ (A) (10^t) _ s0 s2 FX.out.1 FX.out.2) ?_;rintro e w2 ⟨v,rfl,hv,hb⟩;exact⟨_,rfl,_,rfl,hK.step hL (by decide) (by decide) rfl (Ak p0 (Ak p2 (Ay))) <| hJ.step hL rfl hb (by exact hv)⟩
     ·intro L vs a w' hJ hF hP hL;have hK:=hJ;have hJ:=hK.core hL;have q17:(a.tmps[17]?).getD undef=.pointer (some ⟨g,0,none⟩):=hF.old 17 rfl;have p3:L 3=true:=hP ⟨3,.data⟩ (by simp) rfl;have s3:Ai w' (vs 3) (A*10^t):=hJ.sp 3 p3;have q125:=hF.slot 3 125 rfl p3;have p0:L 0=true:=hK.cl 3 p3 0 (by simp);have p2:L 2=true:=hK.cl 3 p3 2 (by simp);have p1:L 1=true:=hK.cl 2 p2 1 (by simp);have x0:=cell_later hJ.bel (S5.out.cel g 0 (.slice a3 n3 c3));have y0:=(hJ.bel.frozen (World.block_lt_of_cell? _ _ (S5.out.cel g 0 (.slice a3 n3 c3)))).trans (S5.out.fz g 0);obtain⟨aa,nn,cc,e8⟩:=s3.isAgg;exact Dw (w':=(w'.setCell ⟨g,0,none⟩ (.slice aa nn cc))) rfl (by simp[execOp,go_sem,q17,q125,e8,x0,y0]) ⟨undef,rfl,hK.put hL (by decide) rfl (Ak p3 (Ay)) (Ak p0 (Ak p1 (Ak p2 (Ak p3 (Ay))))) p3 ⟨_,e8,rfl⟩⟩
     intro L vs w' hA hK;obtain⟨_,w1,hb1,sv,u1,ev,ew⟩:=hK.fin (hA 4 (by simp));replace sv:Ai w1 (vs 3) (A*10^t):=sv;simp only[DU,Act.put,List.setIfInBounds_toArray,List.set_cons_zero,List.set_cons_succ,Nat.reduceAdd];obtain⟨aa,nn,cc,e9⟩:=sv.isAgg;have S9:Hid _:=(S5.out.go hb1).addM sv;have j1:=S9.out.cel g 0 (.slice a3 n3 c3);obtain rfl:u1=.slice aa nn cc:=by rw[e9]at ev;simpa using ev.symm
     rw[e9]at S9;have S8:Hid _:=(S9.out.set (b:=g) (i:=0) j1 (S9.out.lo g) [(h,0,.slice a5 n5 c5),(b,0,.slice none 0 0),(b,1,.slice none 0 0)] (by have:=HG3.out;have:=HH3.out;simp;omega) (.slice aa nn cc)).addC (b:=g) (i:=0) (v:=.slice aa nn cc) (by simp[go_sem,j1]);rw[←ew]at S8;have k1:=S8.out.cel g 0 (.slice aa nn cc);have k2:=S8.out.cel h 0 (.slice a5 n5 c5);have HSS:Hid (AM (A*10^t)∧AM (10^k)∧0<10^k):=⟨RS.rsome ⟨Cb (Ju T.out.al (Nat.lt_of_le_of_lt (Nat.pow_le_pow_right (by omega) HT.out.1) KI)) (by omega)⟩,RS.rsome ⟨Bx (by have:=T.out.k4;omega)⟩,Nat.pow_pos (by omega)⟩;clear S9 S5 sv e9 ev ew hb1 j1 hK hA;go_wp2_with fail
     refine(CM _ _ (A*10^t) (10^k) _ (S8.out.rat (.agg #[.slice aa nn cc]) (A*10^t)) (S8.out.rat (.agg #[.slice a5 n5 c5]) (10^k)) HSS.out.1 HSS.out.2.1 HSS.out.2.2).mono ?_;clear k1 k2;rintro e w8 ⟨v8,rfl,hv8,hb8⟩;have hv8':=hv8;obtain⟨a6,n6,c6,a7,n7,c7,ev,_,_⟩:=hv8';subst ev;have S6:Hid _:=((S8.out.go hb8).addG hv8).go (w':=w8.alloc (.cells #[.slice a6 n6 c6,.slice a7 n7 c7] 66)) (Ah (Aa _));have q0:(w8.alloc (.cells #[.slice a6 n6 c6,.slice a7 n7 c7] 66)).cell? ⟨w8.heap.size,0,none⟩=some (.slice a6 n6 c6):=by simp[go_sem]
     have q1:(w8.alloc (.cells #[.slice a6 n6 c6,.slice a7 n7 c7] 66)).cell? ⟨w8.heap.size,1,none⟩=some (.slice a7 n7 c7):=by simp[go_sem]
     clear hv8 hb8 S8;have x0:=S6.out.cel b 0 (.slice none 0 0);have x1:=S6.out.cel b 1 (.slice none 0 0);have f0:=S6.out.fz b 0;have f1:=S6.out.fz b 1;have Z:Hid _:=Be (w0:=w) (v:=.slice a6 n6 c6) (u:=.slice a7 n7 c7) x0 x1 (S6.out.rfr (.agg #[.slice a6 n6 c6,.slice a7 n7 c7]) ((A*10^t)/Nat.gcd (A*10^t) (10^k)) ((10^k)/Nat.gcd (A*10^t) (10^k))) S6.out.bel (S6.out.lo b);go_wp2_with fail
     refine bodyPost_ret (v:=.tuple #[.agg #[.slice a6 n6 c6,.slice a7 n7 c7],.int .i64 0]) (by simp[results,Tryz.results25,go_sem,x0,x1]) rfl ?_;unfold BE;rw[HE.out.1,HE.out.2.1,HE.out.2.2];exact⟨_,rfl,Z.out.1,Z.out.2⟩
    obtain⟨t,ht⟩:=nme ((-z).toNat:Nat);have HT:Hid (t≤999∧ -z=(t:Int)):=⟨by have:=T.out.z1;have:=T.out.z2;omega,by omega⟩;have HE:Hid (npP s=A/Nat.gcd A (10^k*10^t)∧npQ s=10^k*10^t/Nat.gcd A (10^k*10^t)∧npE s=0):=by rw[ht];exact⟨(T.out.dn hz0).1,(T.out.dn hz0).2,T.out.ne⟩
    have wn:IntKind.i64.wrap (-z)=(t:Int):=by rw[IntKind.wrap_i64];have:=T.out.z1;have:=T.out.z2;omega
    have FX:Hid (AG (10^k)∧AG (10^t)):=⟨BL (Bx (by have:=T.out.k4;omega)) (by omega),BL (Bx (by have:=HT.out;omega)) (by omega)⟩;clear ht;go_wp2_with fail
    obtain⟨h,hh⟩:=nme w5.heap.size;obtain⟨w6,hw6⟩:=nme (w5.alloc (.cells #[.slice a5 n5 c5] 64));rw[←hw6,←hh]at S5;rw[←hw6,←hh];have HH3:Hid (g<h):=by rw[hh];exact HL5
    clear hw6 hh HL5;refine Bg (JD w6 [sR (10^k),sEq (.int .i64 z),sEq (.int .i64 (t:Int)),sR (10^t),sR (10^k*10^t),sAny] [[],[],[1],[2],[0,3],[4]] 5 4 [0,1,2,3,4] (IG (h))) 138 (by kernel_rfl) rfl (by kernel_rfl) (JD.start _ _ _ _ _ _ _) (fun HG HN=>⟨?_,?_,?_,?_,?_,?_,trivial⟩) ?_
    ·intro L vs a w' hJ hF hP hL;have hK:=hJ;have hJ:=hK.open hL (by decide);have q19:(a.tmps[19]?).getD undef=.pointer (some ⟨h,0,none⟩):=hF.old 19 rfl;have cb:=cell_later hJ.bel (S5.out.cell (h) (.slice a5 n5 c5));exact Av (v:=.agg #[.slice a5 n5 c5]) rfl (by simp[execOp,go_sem,q19,cb]) ⟨_,rfl,hK.step hL (by decide) (by decide) rfl (Ay) <| hJ.step hL rfl (Below.refl _ _) (by exact((S5.out.rat (.agg #[.slice a5 n5 c5]) (10^k)).mono hJ.bel))⟩
    ·intro L vs a w' hJ hF hP hL;have hK:=hJ;have hJ:=hK.open hL (by decide);have q15:(a.tmps[15]?).getD undef=.int .i64 z:=hF.old 15 rfl;exact Av (v:=.int .i64 z) rfl (by simp[execOp,go_sem,q15]) ⟨_,rfl,hK.step hL (by decide) (by decide) rfl (Ay) <| hJ.step hL rfl (Below.refl _ _) (by exact rfl)⟩
    ·intro L vs a w' hJ hF hP hL;have hK:=hJ;have hJ:=hK.open hL (by decide);have p1:L 1=true:=hP ⟨1,.data⟩ (by simp) rfl;have s1:vs 1=.int .i64 z:=hJ.sp 1 p1;have q127:=hF.slot 1 127 rfl p1;exact Av (v:=.int .i64 (t:Int)) rfl (by simp[execOp,go_sem,q127,s1,wn]) ⟨_,rfl,hK.step hL (by decide) (by decide) rfl (Ak p1 (Ay)) <| hJ.step hL rfl (Below.refl _ _) (by exact rfl)⟩
    ·intro L vs a w' hJ hF hP hL;have hK:=hJ;have hJ:=hK.open hL (by decide);have p2:L 2=true:=hP ⟨2,.data⟩ (by simp) rfl;have s2:vs 2=.int .i64 (t:Int):=hJ.sp 2 p2;have q128:=hF.slot 2 128 rfl p2;refine AO (f:=61) (args:= #[.int .i64 (t:Int)]) rfl (by simp[go_sem,q128,s2]) (EJ _ t _ rfl (by have:=HT.out;omega)) ?_;rintro e w2 ⟨v,rfl,hv,hb⟩;exact⟨_,rfl,_,rfl,hK.step hL (by decide) (by decide) rfl (Ak p2 (Ay)) <| hJ.step hL rfl hb (by exact hv)⟩
    ·intro L vs a w' hJ hF hP hL;have hK:=hJ;have hJ:=hK.open hL (by decide);have p0:L 0=true:=hP ⟨0,.data⟩ (by simp) rfl;have s0:Ai w' (vs 0) (10^k):=hJ.sp 0 p0;have q126:=hF.slot 0 126 rfl p0;have p3:L 3=true:=hP ⟨3,.data⟩ (by simp) rfl;have s3:Ai w' (vs 3) (10^t):=hJ.sp 3 p3;have q129:=hF.slot 3 129 rfl p3;refine AO (f:=62) (args:= #[vs 0,vs 3]) rfl (by simp[go_sem,q126,q129]) (CK _ _ (10^k) (10^t) _ s0 s3 FX.out.1 FX.out.2) ?_;rintro e w2 ⟨v,rfl,hv,hb⟩;exact⟨_,rfl,_,rfl,hK.step hL (by decide) (by decide) rfl (Ak p0 (Ak p3 (Ay))) <| hJ.step hL rfl hb (by exact hv)⟩
    ·intro L vs a w' hJ hF hP hL;have hK:=hJ;have hJ:=hK.core hL;have q19:(a.tmps[19]?).getD undef=.pointer (some ⟨h,0,none⟩):=hF.old 19 rfl;have p4:L 4=true:=hP ⟨4,.data⟩ (by simp) rfl;have s4:Ai w' (vs 4) (10^k*10^t):=hJ.sp 4 p4;have q130:=hF.slot 4 130 rfl p4;have p0:L 0=true:=hK.cl 4 p4 0 (by simp);have p3:L 3=true:=hK.cl 4 p4 3 (by simp);have p2:L 2=true:=hK.cl 3 p3 2 (by simp);have p1:L 1=true:=hK.cl 2 p2 1 (by simp);have x0:=cell_later hJ.bel (S5.out.cel h 0 (.slice a5 n5 c5));have y0:=(hJ.bel.frozen (World.block_lt_of_cell? _ _ (S5.out.cel h 0 (.slice a5 n5 c5)))).trans (S5.out.fz h 0);obtain⟨aa,nn,cc,e8⟩:=s4.isAgg;exact Dw (w':=(w'.setCell ⟨h,0,none⟩ (.slice aa nn cc))) rfl (by simp[execOp,go_sem,q19,q130,e8,x0,y0]) ⟨undef,rfl,hK.put hL (by decide) rfl (Ak p4 (Ay)) (Ak p0 (Ak p1 (Ak p2 (Ak p3 (Ak p4 (Ay)))))) p4 ⟨_,e8,rfl⟩⟩
    intro L vs w' hA hK;obtain⟨_,w1,hb1,sv,u1,ev,ew⟩:=hK.fin (hA 5 (by simp));replace sv:Ai w1 (vs 4) (10^k*10^t):=sv;simp only[DU,Act.put,List.setIfInBounds_toArray,List.set_cons_zero,List.set_cons_succ,Nat.reduceAdd];obtain⟨aa,nn,cc,e9⟩:=sv.isAgg;have S9:Hid _:=(S5.out.go hb1).addM sv;have j1:=S9.out.cel h 0 (.slice a5 n5 c5);obtain rfl:u1=.slice aa nn cc:=by rw[e9]at ev;simpa using ev.symm
    rw[e9]at S9;have S8:Hid _:=(S9.out.set (b:=h) (i:=0) j1 (S9.out.lo h) [(g,0,.slice a3 n3 c3),(b,0,.slice none 0 0),(b,1,.slice none 0 0)] (by have:=HG3.out;have:=HH3.out;simp;omega) (.slice aa nn cc)).addC (b:=h) (i:=0) (v:=.slice aa nn cc) (by simp[go_sem,j1]);rw[←ew]at S8;have k1:=S8.out.cel h 0 (.slice aa nn cc);have k2:=S8.out.cel g 0 (.slice a3 n3 c3);have HSS:Hid (AM (A)∧AM (10^k*10^t)∧0<10^k*10^t):=⟨RS.rsome ⟨Cb T.out.al (by omega)⟩,RS.rsome ⟨by rw[←Nat.pow_add];exact Bx (by have:=T.out.k4;have:=HT.out;omega)⟩,Nat.mul_pos (Nat.pow_pos (by omega)) (Nat.pow_pos (by omega))⟩;clear S9 S5 sv e9 ev ew hb1 j1 hK hA;go_wp2_with fail
    refine(CM _ _ (A) (10^k*10^t) _ (S8.out.rat (.agg #[.slice a3 n3 c3]) (A)) (S8.out.rat (.agg #[.slice aa nn cc]) (10^k*10^t)) HSS.out.1 HSS.out.2.1 HSS.out.2.2).mono ?_;clear k1 k2;rintro e w8 ⟨v8,rfl,hv8,hb8⟩;have hv8':=hv8;obtain⟨a6,n6,c6,a7,n7,c7,ev,_,_⟩:=hv8';subst ev;have S6:Hid _:=((S8.out.go hb8).addG hv8).go (w':=w8.alloc (.cells #[.slice a6 n6 c6,.slice a7 n7 c7] 66)) (Ah (Aa _));have q0:(w8.alloc (.cells #[.slice a6 n6 c6,.slice a7 n7 c7] 66)).cell? ⟨w8.heap.size,0,none⟩=some (.slice a6 n6 c6):=by simp[go_sem]
    have q1:(w8.alloc (.cells #[.slice a6 n6 c6,.slice a7 n7 c7] 66)).cell? ⟨w8.heap.size,1,none⟩=some (.slice a7 n7 c7):=by simp[go_sem]
    clear hv8 hb8 S8;have x0:=S6.out.cel b 0 (.slice none 0 0);have x1:=S6.out.cel b 1 (.slice none 0 0);have f0:=S6.out.fz b 0;have f1:=S6.out.fz b 1;have Z:Hid _:=Be (w0:=w) (v:=.slice a6 n6 c6) (u:=.slice a7 n7 c7) x0 x1 (S6.out.rfr (.agg #[.slice a6 n6 c6,.slice a7 n7 c7]) ((A)/Nat.gcd (A) (10^k*10^t)) ((10^k*10^t)/Nat.gcd (A) (10^k*10^t))) S6.out.bel (S6.out.lo b);go_wp2_with fail
    refine bodyPost_ret (v:=.tuple #[.agg #[.slice a6 n6 c6,.slice a7 n7 c7],.int .i64 0]) (by simp[results,Tryz.results25,go_sem,x0,x1]) rfl ?_;unfold BE;rw[HE.out.1,HE.out.2.1,HE.out.2.2];exact⟨_,rfl,Z.out.1,Z.out.2⟩
  have HW:Hid (CV s=false):=Hc (HD3.out.2.1 ci cf);refine(JQ s i0 _ HS.out ci cf).mono ?_;rintro e wx ⟨rfl,hwx⟩;rw[hwx];clear hwx wx ci cf ce;have HV:Hid (npP s=0∧npQ s=1∧npE s=30):=Ek (HW.out);have x0:=S1.out.cel b 0 (.slice none 0 0);have x1:=S1.out.cel b 1 (.slice none 0 0);have f0:=S1.out.fz b 0;have f1:=S1.out.fz b 1;have y0:=S1.out.cel c 0 (.slice a1 n1 c1);have y1:=S1.out.cel c 1 (.slice d1 m1 g1);have Z:Hid _:=Be (w0:=w) (v:=.slice a1 n1 c1) (u:=.slice d1 m1 g1) x0 x1 (S1.out.rfr (.agg #[.slice a1 n1 c1,.slice d1 m1 g1]) 0 1) S1.out.bel (S1.out.lo b);go_wp2_with fail
  refine bodyPost_ret (v:=.tuple #[.agg #[.slice a1 n1 c1,.slice d1 m1 g1],.int .i64 30]) (by simp[results,Tryz.results25,go_sem,x0,x1]) rfl ?_;unfold BE;rw[HV.out.1,HV.out.2.1,HV.out.2.2];exact⟨_,rfl,Z.out.1,Z.out.2⟩
 clear h1;have S0:Hid _:=(Bp w).box (.slice none 0 0) (.slice none 0 0) 66 _ rfl;go_enter Tryz.func25,Tryz.ntmps25
 go_wp2_with fail
 refine(CL _).mono ?_;rintro e w1 ⟨v1,rfl,hv1,hb1⟩;have hv1':=hv1;obtain⟨a1,n1,c1,d1,m1,g1,ev1,_,_⟩:=hv1';subst ev1;have HLT:Hid (w.heap.size<w1.heap.size):=(S0.out.go hb1).lt w.heap.size;have S1:Hid _:=((S0.out.go hb1).addG hv1).box (.slice a1 n1 c1) (.slice d1 m1 g1) 66 _ rfl;clear hv1 hb1 S0;go_wp2_with fail
 obtain⟨b,hb⟩:=nme w.heap.size;obtain⟨c,hc⟩:=nme w1.heap.size;obtain⟨w2,hw2⟩:=nme (w1.alloc (.cells #[.slice a1 n1 c1,.slice d1 m1 g1] 66));rw[←hw2,←hc,←hb]at S1;rw[←hw2,←hc,←hb];have nbc: ¬b=c:=by rw[hb,hc];have:=HLT.out;omega
 have ncb: ¬c=b:=fun e=>nbc e.symm;have HBC:Hid (b<c):=by show b<c;rw[hb,hc];exact HLT.out
 clear hw2 hb hc;refine(CX s 0 _ (Nat.zero_le _) HS0.out).mono ?_;rintro e wx ⟨rfl,hwx⟩;rw[hwx];clear hwx wx;rw[←HI.out.1];go_wp2_with fail
 have ce:i0=s.size:=by have:=HIS.out;omega
 obtain⟨z,hz⟩: ∃z:Int,z=0:=⟨_,rfl⟩;have T:Hid (Tl s X A k z):=Mu HS.out (HD3.out.1 ce) (⟨rfl,rfl,rfl⟩) HQ.out.x HQ.out.a HQ.out.k HQ.out.b (by rw[hz];exact HQ.out.z);refine(JR s i0 z _ HS.out ce hz).mono ?_;clear ce;rintro e wx ⟨rfl,hwx⟩;rw[hwx];have HZ0:Hid (z=0):=hz;clear hwx wx hz;go_wp2_with fail
 refine(Fb X A _ T.out.x0 T.out.x1 T.out.xd T.out.xa).mono ?_;rintro e w3 ⟨v3,rfl,hv3,hb3⟩;obtain⟨a3,n3,c3,rfl⟩:=hv3.isAgg;have HL3:Hid (b<w3.heap.size∧c<w3.heap.size):=⟨(S1.out.go hb3).lt b,(S1.out.go hb3).lt c⟩;have S3:Hid _:=((S1.out.go hb3).addM hv3).box1 (.slice a3 n3 c3) 64 _ rfl;clear hv3 hb3 S1;go_wp2_with fail
 obtain⟨g,hg⟩:=nme w3.heap.size;obtain⟨w4,hw4⟩:=nme (w3.alloc (.cells #[.slice a3 n3 c3] 64));rw[←hw4,←hg]at S3;rw[←hw4,←hg];have HG3:Hid (b<g∧c<g):=by rw[hg];exact HL3
 clear hw4 hg HL3;refine(EJ _ k _ KZ.out (by have:=T.out.k4;omega)).mono ?_;rintro e w5 ⟨v5,rfl,hv5,hb5⟩;obtain⟨a5,n5,c5,rfl⟩:=hv5.isAgg;have HL5:Hid (g<w5.heap.size):=(S3.out.go hb5).lt g;have S5:Hid _:=((S3.out.go hb5).addM hv5).box1 (.slice a5 n5 c5) 64 _ rfl;clear hv5 hb5 S3;by_cases hz0:0<z
 ·exact absurd hz0 (by rw[HZ0.out];decide)
 obtain⟨t,ht⟩:=nme ((-z).toNat:Nat);have HT:Hid (t≤999∧ -z=(t:Int)):=⟨by have:=T.out.z1;have:=T.out.z2;omega,by omega⟩;have HE:Hid (npP s=A/Nat.gcd A (10^k*10^t)∧npQ s=10^k*10^t/Nat.gcd A (10^k*10^t)∧npE s=0):=by rw[ht];exact⟨(T.out.dn hz0).1,(T.out.dn hz0).2,T.out.ne⟩
 have wn:IntKind.i64.wrap (-z)=(t:Int):=by rw[IntKind.wrap_i64];have:=T.out.z1;have:=T.out.z2;omega
 have FX:Hid (AG (10^k)∧AG (10^t)):=⟨BL (Bx (by have:=T.out.k4;omega)) (by omega),BL (Bx (by have:=HT.out;omega)) (by omega)⟩;clear ht;go_wp2_with fail
 obtain⟨h,hh⟩:=nme w5.heap.size;obtain⟨w6,hw6⟩:=nme (w5.alloc (.cells #[.slice a5 n5 c5] 64));rw[←hw6,←hh]at S5;rw[←hw6,←hh];have HH3:Hid (g<h):=by rw[hh];exact HL5
 clear hw6 hh HL5;refine Bg (JD w6 [sR (10^k),sEq (.int .i64 z),sEq (.int .i64 (t:Int)),sR (10^t),sR (10^k*10^t),sAny] [[],[],[1],[2],[0,3],[4]] 5 4 [0,1,2,3,4] (IG (h))) 138 (by kernel_rfl) rfl (by kernel_rfl) (JD.start _ _ _ _ _ _ _) (fun HG HN=>⟨?_,?_,?_,?_,?_,?_,trivial⟩) ?_
 ·intro L vs a w' hJ hF hP hL;have hK:=hJ;have hJ:=hK.open hL (by decide);have q19:(a.tmps[19]?).getD undef=.pointer (some ⟨h,0,none⟩):=hF.old 19 rfl;have cb:=cell_later hJ.bel (S5.out.cell (h) (.slice a5 n5 c5));exact Av (v:=.agg #[.slice a5 n5 c5]) rfl (by simp[execOp,go_sem,q19,cb]) ⟨_,rfl,hK.step hL (by decide) (by decide) rfl (Ay) <| hJ.step hL rfl (Below.refl _ _) (by exact((S5.out.rat (.agg #[.slice a5 n5 c5]) (10^k)).mono hJ.bel))⟩
 ·intro L vs a w' hJ hF hP hL;have hK:=hJ;have hJ:=hK.open hL (by decide);have q15:(a.tmps[15]?).getD undef=.int .i64 z:=hF.old 15 rfl;exact Av (v:=.int .i64 z) rfl (by simp[execOp,go_sem,q15]) ⟨_,rfl,hK.step hL (by decide) (by decide) rfl (Ay) <| hJ.step hL rfl (Below.refl _ _) (by exact rfl)⟩
 ·intro L vs a w' hJ hF hP hL;have hK:=hJ;have hJ:=hK.open hL (by decide);have p1:L 1=true:=hP ⟨1,.data⟩ (by simp) rfl;have s1:vs 1=.int .i64 z:=hJ.sp 1 p1;have q127:=hF.slot 1 127 rfl p1;exact Av (v:=.int .i64 (t:Int)) rfl (by simp[execOp,go_sem,q127,s1,wn]) ⟨_,rfl,hK.step hL (by decide) (by decide) rfl (Ak p1 (Ay)) <| hJ.step hL rfl (Below.refl _ _) (by exact rfl)⟩
 ·intro L vs a w' hJ hF hP hL;have hK:=hJ;have hJ:=hK.open hL (by decide);have p2:L 2=true:=hP ⟨2,.data⟩ (by simp) rfl;have s2:vs 2=.int .i64 (t:Int):=hJ.sp 2 p2;have q128:=hF.slot 2 128 rfl p2;refine AO (f:=61) (args:= #[.int .i64 (t:Int)]) rfl (by simp[go_sem,q128,s2]) (EJ _ t _ rfl (by have:=HT.out;omega)) ?_;rintro e w2 ⟨v,rfl,hv,hb⟩;exact⟨_,rfl,_,rfl,hK.step hL (by decide) (by decide) rfl (Ak p2 (Ay)) <| hJ.step hL rfl hb (by exact hv)⟩
 ·intro L vs a w' hJ hF hP hL;have hK:=hJ;have hJ:=hK.open hL (by decide);have p0:L 0=true:=hP ⟨0,.data⟩ (by simp) rfl;have s0:Ai w' (vs 0) (10^k):=hJ.sp 0 p0;have q126:=hF.slot 0 126 rfl p0;have p3:L 3=true:=hP ⟨3,.data⟩ (by simp) rfl;have s3:Ai w' (vs 3) (10^t):=hJ.sp 3 p3;have q129:=hF.slot 3 129 rfl p3;refine AO (f:=62) (args:= #[vs 0,vs 3]) rfl (by simp[go_sem,q126,q129]) (CK _ _ (10^k) (10^t) _ s0 s3 FX.out.1 FX.out.2) ?_;rintro e w2 ⟨v,rfl,hv,hb⟩;exact⟨_,rfl,_,rfl,hK.step hL (by decide) (by decide) rfl (Ak p0 (Ak p3 (Ay))) <| hJ.step hL rfl hb (by exact hv)⟩
 ·intro L vs a w' hJ hF hP hL;have hK:=hJ;have hJ:=hK.core hL;have q19:(a.tmps[19]?).getD undef=.pointer (some ⟨h,0,none⟩):=hF.old 19 rfl;have p4:L 4=true:=hP ⟨4,.data⟩ (by simp) rfl;have s4:Ai w' (vs 4) (10^k*10^t):=hJ.sp 4 p4;have q130:=hF.slot 4 130 rfl p4;have p0:L 0=true:=hK.cl 4 p4 0 (by simp);have p3:L 3=true:=hK.cl 4 p4 3 (by simp);have p2:L 2=true:=hK.cl 3 p3 2 (by simp);have p1:L 1=true:=hK.cl 2 p2 1 (by simp);have x0:=cell_later hJ.bel (S5.out.cel h 0 (.slice a5 n5 c5));have y0:=(hJ.bel.frozen (World.block_lt_of_cell? _ _ (S5.out.cel h 0 (.slice a5 n5 c5)))).trans (S5.out.fz h 0);obtain⟨aa,nn,cc,e8⟩:=s4.isAgg;exact Dw (w':=(w'.setCell ⟨h,0,none⟩ (.slice aa nn cc))) rfl (by simp[execOp,go_sem,q19,q130,e8,x0,y0]) ⟨undef,rfl,hK.put hL (by decide) rfl (Ak p4 (Ay)) (Ak p0 (Ak p1 (Ak p2 (Ak p3 (Ak p4 (Ay)))))) p4 ⟨_,e8,rfl⟩⟩
 intro L vs w' hA hK;obtain⟨_,w1,hb1,sv,u1,ev,ew⟩:=hK.fin (hA 5 (by simp));replace sv:Ai w1 (vs 4) (10^k*10^t):=sv;simp only[DU,Act.put,List.setIfInBounds_toArray,List.set_cons_zero,List.set_cons_succ,Nat.reduceAdd];obtain⟨aa,nn,cc,e9⟩:=sv.isAgg;have S9:Hid _:=(S5.out.go hb1).addM sv;have j1:=S9.out.cel h 0 (.slice a5 n5 c5);obtain rfl:u1=.slice aa nn cc:=by rw[e9]at ev;simpa using ev.symm
 rw[e9]at S9;have S8:Hid _:=(S9.out.set (b:=h) (i:=0) j1 (S9.out.lo h) [(g,0,.slice a3 n3 c3),(b,0,.slice none 0 0),(b,1,.slice none 0 0)] (by have:=HG3.out;have:=HH3.out;simp;omega) (.slice aa nn cc)).addC (b:=h) (i:=0) (v:=.slice aa nn cc) (by simp[go_sem,j1]);rw[←ew]at S8;have k1:=S8.out.cel h 0 (.slice aa nn cc);have k2:=S8.out.cel g 0 (.slice a3 n3 c3);have HSS:Hid (AM (A)∧AM (10^k*10^t)∧0<10^k*10^t):=⟨RS.rsome ⟨Cb T.out.al (by omega)⟩,RS.rsome ⟨by rw[←Nat.pow_add];exact Bx (by have:=T.out.k4;have:=HT.out;omega)⟩,Nat.mul_pos (Nat.pow_pos (by omega)) (Nat.pow_pos (by omega))⟩;clear S9 S5 sv e9 ev ew hb1 j1 hK hA;go_wp2_with fail
 refine(CM _ _ (A) (10^k*10^t) _ (S8.out.rat (.agg #[.slice a3 n3 c3]) (A)) (S8.out.rat (.agg #[.slice aa nn cc]) (10^k*10^t)) HSS.out.1 HSS.out.2.1 HSS.out.2.2).mono ?_;clear k1 k2;rintro e w8 ⟨v8,rfl,hv8,hb8⟩;have hv8':=hv8;obtain⟨a6,n6,c6,a7,n7,c7,ev,_,_⟩:=hv8';subst ev;have S6:Hid _:=((S8.out.go hb8).addG hv8).go (w':=w8.alloc (.cells #[.slice a6 n6 c6,.slice a7 n7 c7] 66)) (Ah (Aa _));have q0:(w8.alloc (.cells #[.slice a6 n6 c6,.slice a7 n7 c7] 66)).cell? ⟨w8.heap.size,0,none⟩=some (.slice a6 n6 c6):=by simp[go_sem]
 have q1:(w8.alloc (.cells #[.slice a6 n6 c6,.slice a7 n7 c7] 66)).cell? ⟨w8.heap.size,1,none⟩=some (.slice a7 n7 c7):=by simp[go_sem]
 clear hv8 hb8 S8;have x0:=S6.out.cel b 0 (.slice none 0 0);have x1:=S6.out.cel b 1 (.slice none 0 0);have f0:=S6.out.fz b 0;have f1:=S6.out.fz b 1;have Z:Hid _:=Be (w0:=w) (v:=.slice a6 n6 c6) (u:=.slice a7 n7 c7) x0 x1 (S6.out.rfr (.agg #[.slice a6 n6 c6,.slice a7 n7 c7]) ((A)/Nat.gcd (A) (10^k*10^t)) ((10^k*10^t)/Nat.gcd (A) (10^k*10^t))) S6.out.bel (S6.out.lo b);go_wp2_with fail
 refine bodyPost_ret (v:=.tuple #[.agg #[.slice a6 n6 c6,.slice a7 n7 c7],.int .i64 0]) (by simp[results,Tryz.results25,go_sem,x0,x1]) rfl ?_;unfold BE;rw[HE.out.1,HE.out.2.1,HE.out.2.2];exact⟨_,rfl,Z.out.1,Z.out.2⟩
end Go.Proofs.YtbikpmmpgbggaaaGreatDoor
