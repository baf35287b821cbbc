/- Contracts of the program's functions, part 14: own work, joined in build order. -/
import Derived.Test.YtbikpmmpgbggaaaGreatDoorJ13
import Derived.Laws.Bits64b
import Derived.Test.YtbikpmmpgbggaaaGreatDoorRows
import Derived.WalkKit
import Derived.WalkMore
import Derived.ScopeJumps
namespace Go.Proofs.YtbikpmmpgbggaaaGreatDoor
open Go.RowKit
set_option maxRecDepth 100000
set_option linter.unusedVariables false
set_option maxHeartbeats 16000000
theorem RK(x:Nat)(h:x<18446744073709551616):bits .and .u64 (x:Int) 2047=((x%2048:Nat):Int):=by
 have:=bits_and_u64_nat x 2047 h (by omega);rw[show(2047:Nat)=2^11-1 from rfl,Nat.and_two_pow_sub_one_eq_mod]at this;exact this
theorem P8(x:Nat)(h:x<18446744073709551616):bits .and .u64 (x:Int) 4503599627370495=((x%4503599627370496:Nat):Int):=by
 have:=bits_and_u64_nat x 4503599627370495 h (by omega);rw[show(4503599627370495:Nat)=2^52-1 from rfl,Nat.and_two_pow_sub_one_eq_mod]at this;exact this
structure Flk (u x0 E m t s:Nat):Prop where
 lt:u<18446744073709551616
 x:x0=u/4503599627370496
 e:E=x0%2048
 m:m=u%4503599627370496
 t:t=u/9223372036854775808
 s:s=u*2%18446744073709551616
theorem Xp(u:Nat)(h:u<18446744073709551616): ∃x0 E m t s,Flk u x0 E m t s:=⟨_,_,_,_,_,h,rfl,rfl,rfl,rfl,rfl⟩
structure Frl (u x0 E m t s:Nat):Prop where
 r2:(u:Int)/4503599627370496=(x0:Int)
 r3:bits .and .u64 (x0:Int) 2047=(E:Int)
 r5:bits .and .u64 (u:Int) 4503599627370495=(m:Int)
 r6:(u:Int)/9223372036854775808=(t:Int)
 r7:IntKind.u64.wrap ((u:Int)*2)=(s:Int)
 r8:wrap64 (E:Int)=(E:Int)
 r9:IntKind.i64.wrap (E:Int)=(E:Int)
theorem Flk.rules{u x0 E m t s:Nat}(h:Flk u x0 E m t s):Frl u x0 E m t s:=by
 obtain⟨h0,h1,h2,h3,h4,h5⟩:=h;have hE:E<2048:=by rw[h2];exact Nat.mod_lt _ (by omega)
 refine⟨by omega,?_,?_,by omega,by rw[IntKind.wrap_u64];omega,IntWalk.wrap64_in _ ⟨by omega,by omega⟩,by rw[IntKind.wrap_i64];omega⟩
 ·rw[h2];exact RK x0 (by omega)
 rw[h3];exact P8 u h0
theorem N9(u x0 E m t s:Nat)(w:World)(h:Flk u x0 E m t s)(h0:s=0):Calls Tryz.prog 27 #[.int .u64 (u:Int)] w (Er w 0 1 true):=by
 have RR:Hid (Frl u x0 E m t s):=h.rules;have d3:decide (s=0)=true:=decide_eq_true h0;have d3':((s:Int)==0)=true:=by simp;omega
 clear h0 h;obtain⟨r2,r3,r5,r6,r7,r8,r9⟩:=RR.out;go_enter Tryz.func27,Tryz.ntmps27
 go_wp2_with fail
 refine(CL _).mono ?_;rintro e w1 ⟨v1,rfl,hv1,hb1⟩;have hv':=hv1;obtain⟨a6,n6,c6,a7,n7,c7,ev,_,_⟩:=hv';subst ev;have z0:w1.cell? ⟨w.heap.size,0,none⟩=some (.slice none 0 0):=cell_later hb1 (by simp[go_sem]);have z1:w1.cell? ⟨w.heap.size,1,none⟩=some (.slice none 0 0):=cell_later hb1 (by simp[go_sem]);have y0:w1.frozen? ⟨w.heap.size,0,none⟩=false:=(hb1.frozen (by simp)).trans (by simp[go_sem]);have y1:w1.frozen? ⟨w.heap.size,1,none⟩=false:=(hb1.frozen (by simp)).trans (by simp[go_sem]);have Z:Hid _:=Be (v:=.slice a6 n6 c6) (u:=.slice a7 n7 c7) z0 z1 hv1 (Aj (Ah (Aa w)) hb1) (Nat.le_refl _);clear hv1 hb1;go_wp2_with fail
 exact bodyPost_ret (v:=.tuple #[.agg #[.slice a6 n6 c6,.slice a7 n7 c7],.bool true]) (by simp[results,Tryz.results27,go_sem,z0,z1]) rfl ⟨_,rfl,Z.out.1,Z.out.2⟩
theorem Oa(u x0 E m t s:Nat)(w:World)(h:Flk u x0 E m t s)(h0:s≠0)(h1:E=2047):Calls Tryz.prog 27 #[.int .u64 (u:Int)] w (Er w 0 1 false):=by
 have RR:Hid (Frl u x0 E m t s):=h.rules;have d3:decide (s=0)=false:=decide_eq_false (by omega);have d3':((s:Int)==0)=false:=by simp;omega
 have d32: ¬s=0:=by omega
 have d1:decide (E=2047)=true:=decide_eq_true h1;have d1':((E:Int)==2047)=true:=by simp;omega
 clear h1 h;obtain⟨r2,r3,r5,r6,r7,r8,r9⟩:=RR.out;go_enter Tryz.func27,Tryz.ntmps27
 go_wp2_with fail
 refine(CL _).mono ?_;rintro e w1 ⟨v1,rfl,hv1,hb1⟩;have hv':=hv1;obtain⟨a6,n6,c6,a7,n7,c7,ev,_,_⟩:=hv';subst ev;have z0:w1.cell? ⟨w.heap.size,0,none⟩=some (.slice none 0 0):=cell_later hb1 (by simp[go_sem]);have z1:w1.cell? ⟨w.heap.size,1,none⟩=some (.slice none 0 0):=cell_later hb1 (by simp[go_sem]);have y0:w1.frozen? ⟨w.heap.size,0,none⟩=false:=(hb1.frozen (by simp)).trans (by simp[go_sem]);have y1:w1.frozen? ⟨w.heap.size,1,none⟩=false:=(hb1.frozen (by simp)).trans (by simp[go_sem]);have Z:Hid _:=Be (v:=.slice a6 n6 c6) (u:=.slice a7 n7 c7) z0 z1 hv1 (Aj (Ah (Aa w)) hb1) (Nat.le_refl _);clear hv1 hb1;go_wp2_with fail
 exact bodyPost_ret (v:=.tuple #[.agg #[.slice a6 n6 c6,.slice a7 n7 c7],.bool false]) (by simp[results,Tryz.results27,go_sem,z0,z1]) rfl ⟨_,rfl,Z.out.1,Z.out.2⟩
theorem Oc(u x0 E m t s:Nat)(w:World)(h:Flk u x0 E m t s)(h0:s≠0)(h1:E≠2047)(h2:t=1):Calls Tryz.prog 27 #[.int .u64 (u:Int)] w (Er w 0 1 false):=by
 have RR:Hid (Frl u x0 E m t s):=h.rules;have d3:decide (s=0)=false:=decide_eq_false (by omega);have d3':((s:Int)==0)=false:=by simp;omega
 have d32: ¬s=0:=by omega
 have d1:decide (E=2047)=false:=decide_eq_false (by omega);have d1':((E:Int)==2047)=false:=by simp;omega
 have d12: ¬E=2047:=by omega
 have d2:decide (t=1)=true:=decide_eq_true h2;have d2':((t:Int)==1)=true:=by simp;omega
 clear h2 h;obtain⟨r2,r3,r5,r6,r7,r8,r9⟩:=RR.out;go_enter Tryz.func27,Tryz.ntmps27
 go_wp2_with fail
 refine(CL _).mono ?_;rintro e w1 ⟨v1,rfl,hv1,hb1⟩;have hv':=hv1;obtain⟨a6,n6,c6,a7,n7,c7,ev,_,_⟩:=hv';subst ev;have z0:w1.cell? ⟨w.heap.size,0,none⟩=some (.slice none 0 0):=cell_later hb1 (by simp[go_sem]);have z1:w1.cell? ⟨w.heap.size,1,none⟩=some (.slice none 0 0):=cell_later hb1 (by simp[go_sem]);have y0:w1.frozen? ⟨w.heap.size,0,none⟩=false:=(hb1.frozen (by simp)).trans (by simp[go_sem]);have y1:w1.frozen? ⟨w.heap.size,1,none⟩=false:=(hb1.frozen (by simp)).trans (by simp[go_sem]);have Z:Hid _:=Be (v:=.slice a6 n6 c6) (u:=.slice a7 n7 c7) z0 z1 hv1 (Aj (Ah (Aa w)) hb1) (Nat.le_refl _);clear hv1 hb1;go_wp2_with fail
 exact bodyPost_ret (v:=.tuple #[.agg #[.slice a6 n6 c6,.slice a7 n7 c7],.bool false]) (by simp[results,Tryz.results27,go_sem,z0,z1]) rfl ⟨_,rfl,Z.out.1,Z.out.2⟩
structure Fg (u mm:Nat) (z:Int):Prop where
 mlt:mm<9007199254740992
 lo: -1074≤z
 hi:z≤971
 eN:fN u=mm*2^z.toNat
 eD:fD u=2^(-z).toNat
theorem Xq{u E m:Nat}(hE:E=u/4503599627370496)(hm:m=u%4503599627370496)(h:E<2047):Fg u (if E=0 then m else m+4503599627370496) ((if E=0 then 0 else(E:Int)-1)-1074):=by
 refine⟨by split<;>omega,by split<;>omega,by split<;>omega,?_,?_⟩
 ·unfold fN fm fe;rw[←hE,←hm];congr 2
  split<;>omega
 unfold fD fe;rw[←hE];congr 1
 split<;>omega
theorem Fg.sN{u mm:Nat}{z:Int}(h:Fg u mm z):RS (mm*2^z.toNat):=⟨Cb (RH (n:=17) (Nat.lt_of_lt_of_eq h.mlt (by decide)) (by have:=h.hi;omega)) (by omega)⟩
theorem Fg.sD{u mm:Nat}{z:Int}(h:Fg u mm z):RS (2^(-z).toNat):=⟨Cb (UW (n:=17) (by have:=h.lo;omega)) (by omega)⟩
theorem Nb{x y:Int}(h1: -9223372036854775808≤x)(h2:x≤9223372036854775807)(h:x=y):wrap64 x=y:=by rw[IntWalk.wrap64_in _ ⟨h1,h2⟩,h]
theorem Nc{E f:Nat}{z:Int}(hf:f=E-1)(hz:z=(E:Int)-1-1074)(h3:0<E)(h1: -1074≤z)(h2:z≤971):wrap64 ((E:Int)-1)=(f:Int)∧wrap64 ((f:Int)+ -1074)=z∧wrap64 ((f:Int)-1074)=z:=
 ⟨Nb (by omega) (by omega) (by omega),Nb (by omega) (by omega) (by omega),Nb (by omega) (by omega) (by omega)⟩
theorem P9(u x0 E m t s:Nat)(z:Int)(w:World)(h:Flk u x0 E m t s)(h0:s≠0)(h1:E≠2047)(h2:t≠1)(h3:E=0)(hg:Fg u m z)(hz:z= -1074):Calls Tryz.prog 27 #[.int .u64 (u:Int)] w (Er w (fN u/Nat.gcd (fN u) (fD u)) (fD u/Nat.gcd (fN u) (fD u)) true):=by
 have RR:Hid (Frl u x0 E m t s):=h.rules;have HG:Hid (Fg u m z):=hg;obtain⟨d,hd⟩:=nme ((-z).toNat);have d3:decide (s=0)=false:=decide_eq_false (by omega);have d3':((s:Int)==0)=false:=by simp;omega
 have d32: ¬s=0:=by omega
 have d1:decide (E=2047)=false:=decide_eq_false (by omega);have d1':((E:Int)==2047)=false:=by simp;omega
 have d12: ¬E=2047:=by omega
 have d2:decide (t=1)=false:=decide_eq_false (by omega);have d2':((t:Int)==1)=false:=by simp;omega
 have d22: ¬t=1:=by omega
 have HN:Hid (fN u=m∧fD u=2^d∧AM (m)∧AM (2^d)∧0<2^d):=by
  have a1:=hg.sN.rsome;have a2:=hg.sD.rsome;have e1:=hg.eN;have e2:=hg.eD;rw[show z.toNat=0 by omega,Nat.pow_zero,Nat.mul_one]at a1 e1;rw[←hd]at a2 e2;exact⟨e1,e2,a1,a2,Nat.two_pow_pos _⟩
 have e0:(E:Int)=0:=by omega
 have e74:(d:Int)=1074:=by omega
 have LF:Hid (∀v w,Ai w v 1→Calls Tryz.prog 68 #[v,.int .i64 1074] w (Dm w (2^d))):=fun v w h=>by
  have:=Do v 1 d w h (CR (by omega)).rfits (by have:=hg.lo;omega);rw[Nat.one_mul,e74]at this;exact this
 rw[HN.out.1,HN.out.2.1];clear h hg hd h0 h1 h2 h3 hz e74;obtain⟨r2,r3,r5,r6,r7,r8,r9⟩:=RR.out;have S1:Hid _:=(Bp w).box (.slice none 0 0) (.slice none 0 0) 66 _ rfl;go_enter Tryz.func27,Tryz.ntmps27
 go_wp2_with fail
 refine(CA m _ (by have:=HG.out.mlt;omega)).mono ?_;rintro e w2 ⟨v2,rfl,hv2,hb2⟩;obtain⟨a1,n1,c1,rfl⟩:=hv2.isAgg;have S2:Hid _:=((S1.out.go hb2).addM hv2).box1 (.slice a1 n1 c1) 64 _ rfl;have BG:w.heap.size<w2.heap.size:=(S1.out.go hb2).lt w.heap.size;clear hv2 hb2 S1;go_wp2_with fail
 obtain⟨g,hg⟩:=nme w2.heap.size;obtain⟨w3,hw3⟩:=nme (w2.alloc (.cells #[.slice a1 n1 c1] 64));obtain⟨b,hb⟩:=nme w.heap.size;have HBG:Hid (b<g):=by
  show b<g;rw[hg,hb];exact BG
 rw[←hw3,←hg,←hb]at S2;rw[←hw3,←hg,←hb];clear hw3 hg hb BG;refine(CA 1 _ (by omega)).mono ?_;rintro e w4 ⟨v4,rfl,hv4,hb4⟩;obtain⟨a2,n2,c2,rfl⟩:=hv4.isAgg;have GH:g<w4.heap.size:=(S2.out.go hb4).lt g;have S3:Hid _:=((S2.out.go hb4).addM hv4).box1 (.slice a2 n2 c2) 64 _ rfl;clear hv4 hb4 S2;have k1:=S3.out.cel g 0 (.slice a1 n1 c1);have k2:(w4.alloc (.cells #[.slice a2 n2 c2] 64)).cell? ⟨w4.heap.size,0,none⟩=some (.slice a2 n2 c2):=S3.out.cel w4.heap.size 0 (.slice a2 n2 c2);go_wp2_with fail
 obtain⟨h,hh⟩:=nme w4.heap.size;obtain⟨w5,hw5⟩:=nme (w4.alloc (.cells #[.slice a2 n2 c2] 64));rw[←hw5,←hh]at S3;rw[←hw5,←hh];have HGH:Hid (g<h):=by show g<h;rw[hh];exact GH
 clear hw5 hh GH k1 k2;refine(LF.out _ _ (S3.out.rat (.agg #[.slice a2 n2 c2]) 1)).mono ?_;rintro e w6 ⟨v6,rfl,hv6,hb6⟩;obtain⟨a3,n3,c3,rfl⟩:=hv6.isAgg;have S4:Hid _:=(S3.out.go hb6).addM hv6;clear hv6 hb6 S3;have k1:=S4.out.cel h 0 (.slice a2 n2 c2);have k0:=S4.out.cel g 0 (.slice a1 n1 c1);have f1:=S4.out.fz h 0;have S5:Hid _:=(S4.out.set (b:=h) (i:=0) k1 (S4.out.lo h) [(g,0,.slice a1 n1 c1),(b,0,.slice none 0 0),(b,1,.slice none 0 0)] (by have:=HBG.out;have:=HGH.out;simp;omega) (.slice a3 n3 c3)).addC (b:=h) (i:=0) (v:=.slice a3 n3 c3) (by simp[go_sem,k1]);have k3:(w6.setCell ⟨h,0,none⟩ (.slice a3 n3 c3)).cell? ⟨g,0,none⟩=some (.slice a1 n1 c1):=S5.out.cel g 0 (.slice a1 n1 c1);have k4:(w6.setCell ⟨h,0,none⟩ (.slice a3 n3 c3)).cell? ⟨h,0,none⟩=some (.slice a3 n3 c3):=S5.out.cel h 0 (.slice a3 n3 c3);go_wp2_with fail
 obtain⟨w7,hw7⟩:=nme (w6.setCell ⟨h,0,none⟩ (.slice a3 n3 c3));rw[←hw7]at S5;rw[←hw7];clear hw7 k0 k1 k3 k4 f1 S4;refine(CM _ _ (m) (2^d) _ (S5.out.rat (.agg #[.slice a1 n1 c1]) (m)) (S5.out.rat (.agg #[.slice a3 n3 c3]) (2^d)) HN.out.2.2.1 HN.out.2.2.2.1 HN.out.2.2.2.2).mono ?_;rintro e w8 ⟨v8,rfl,hv8,hb8⟩;have hv':=hv8;obtain⟨a6,n6,c6,a7,n7,c7,ev,_,_⟩:=hv';subst ev;have S6:Hid _:=(S5.out.go hb8).addG hv8;clear hv8 hb8 S5;have z0:=S6.out.cel b 0 (.slice none 0 0);have z1:=S6.out.cel b 1 (.slice none 0 0);have y0:=S6.out.fz b 0;have y1:=S6.out.fz b 1;have Z:Hid _:=Be (w0:=w) (v:=.slice a6 n6 c6) (u:=.slice a7 n7 c7) z0 z1 (S6.out.rfr (.agg #[.slice a6 n6 c6,.slice a7 n7 c7]) ((m)/Nat.gcd (m) (2^d)) ((2^d)/Nat.gcd (m) (2^d))) S6.out.bel (S6.out.lo b);go_wp2_with fail
 exact bodyPost_ret (v:=.tuple #[.agg #[.slice a6 n6 c6,.slice a7 n7 c7],.bool true]) (by simp[results,Tryz.results27,go_sem,z0,z1]) rfl ⟨_,rfl,Z.out.1,Z.out.2⟩
theorem Qa(u x0 E m t s:Nat)(mm:Nat)(z:Int)(w:World)(h:Flk u x0 E m t s)(h0:s≠0)(h1:E≠2047)(h2:t≠1)(h3:0<E)(h4: ¬ 0<z)(hg:Fg u mm z)(hm:m+4503599627370496=mm)(hz:z=(E:Int)-1-1074):Calls Tryz.prog 27 #[.int .u64 (u:Int)] w (Er w (fN u/Nat.gcd (fN u) (fD u)) (fD u/Nat.gcd (fN u) (fD u)) true):=by
 have RR:Hid (Frl u x0 E m t s):=h.rules;have HG:Hid (Fg u mm z):=hg;obtain⟨d,hd⟩:=nme ((-z).toNat);have d3:decide (s=0)=false:=decide_eq_false (by omega);have d3':((s:Int)==0)=false:=by simp;omega
 have d32: ¬s=0:=by omega
 have d1:decide (E=2047)=false:=decide_eq_false (by omega);have d1':((E:Int)==2047)=false:=by simp;omega
 have d12: ¬E=2047:=by omega
 have d2:decide (t=1)=false:=decide_eq_false (by omega);have d2':((t:Int)==1)=false:=by simp;omega
 have d22: ¬t=1:=by omega
 have HN:Hid (fN u=mm∧fD u=2^d∧AM (mm)∧AM (2^d)∧0<2^d):=by
  have a1:=hg.sN.rsome;have a2:=hg.sD.rsome;have e1:=hg.eN;have e2:=hg.eD;rw[show z.toNat=0 by omega,Nat.pow_zero,Nat.mul_one]at a1 e1;rw[←hd]at a2 e2;exact⟨e1,e2,a1,a2,Nat.two_pow_pos _⟩
 have hzl:=hg.lo;have hzh:=hg.hi;obtain⟨f,hf⟩:=nme (E-1);have p4:0<E:=h3;have q4:IntKind.u64.wrap ((m:Int)+4503599627370496)=(mm:Int):=by rw[IntKind.wrap_u64];have:=hg.mlt;omega
 obtain⟨q1,q2,q3⟩:=Nc (E:=E) hf hz h3 hzl hzh;have n5: ¬ 0<z:=h4;have q5:IntKind.i64.wrap (-z)=(d:Int):=by rw[IntKind.wrap_i64];clear q1 q2 q3;omega
 have LF:Hid (∀v w,Ai w v 1→Calls Tryz.prog 68 #[v,.int .i64 (d:Int)] w (Dm w (2^d))):=fun v w h=>by
  have:=Do v 1 d w h (CR (by omega)).rfits (by have:=hg.lo;clear q1 q2 q3;omega);rw[Nat.one_mul]at this;exact this
 rw[HN.out.1,HN.out.2.1];clear h hg hd h0 h1 h2 h3 h4 hm hz hf hzl hzh;obtain⟨r2,r3,r5,r6,r7,r8,r9⟩:=RR.out;have S1:Hid _:=(Bp w).box (.slice none 0 0) (.slice none 0 0) 66 _ rfl;go_enter Tryz.func27,Tryz.ntmps27
 go_wp2_with fail
 refine(CA mm _ (by have:=HG.out.mlt;omega)).mono ?_;rintro e w2 ⟨v2,rfl,hv2,hb2⟩;obtain⟨a1,n1,c1,rfl⟩:=hv2.isAgg;have S2:Hid _:=((S1.out.go hb2).addM hv2).box1 (.slice a1 n1 c1) 64 _ rfl;have BG:w.heap.size<w2.heap.size:=(S1.out.go hb2).lt w.heap.size;clear hv2 hb2 S1;go_wp2_with fail
 obtain⟨g,hg⟩:=nme w2.heap.size;obtain⟨w3,hw3⟩:=nme (w2.alloc (.cells #[.slice a1 n1 c1] 64));obtain⟨b,hb⟩:=nme w.heap.size;have HBG:Hid (b<g):=by
  show b<g;rw[hg,hb];exact BG
 rw[←hw3,←hg,←hb]at S2;rw[←hw3,←hg,←hb];clear hw3 hg hb BG;refine(CA 1 _ (by omega)).mono ?_;rintro e w4 ⟨v4,rfl,hv4,hb4⟩;obtain⟨a2,n2,c2,rfl⟩:=hv4.isAgg;have GH:g<w4.heap.size:=(S2.out.go hb4).lt g;have S3:Hid _:=((S2.out.go hb4).addM hv4).box1 (.slice a2 n2 c2) 64 _ rfl;clear hv4 hb4 S2;have k1:=S3.out.cel g 0 (.slice a1 n1 c1);have k2:(w4.alloc (.cells #[.slice a2 n2 c2] 64)).cell? ⟨w4.heap.size,0,none⟩=some (.slice a2 n2 c2):=S3.out.cel w4.heap.size 0 (.slice a2 n2 c2);go_wp2_with fail
 obtain⟨h,hh⟩:=nme w4.heap.size;obtain⟨w5,hw5⟩:=nme (w4.alloc (.cells #[.slice a2 n2 c2] 64));rw[←hw5,←hh]at S3;rw[←hw5,←hh];have HGH:Hid (g<h):=by show g<h;rw[hh];exact GH
 clear hw5 hh GH k1 k2;refine(LF.out _ _ (S3.out.rat (.agg #[.slice a2 n2 c2]) 1)).mono ?_;rintro e w6 ⟨v6,rfl,hv6,hb6⟩;obtain⟨a3,n3,c3,rfl⟩:=hv6.isAgg;have S4:Hid _:=(S3.out.go hb6).addM hv6;clear hv6 hb6 S3;have k1:=S4.out.cel h 0 (.slice a2 n2 c2);have k0:=S4.out.cel g 0 (.slice a1 n1 c1);have f1:=S4.out.fz h 0;have S5:Hid _:=(S4.out.set (b:=h) (i:=0) k1 (S4.out.lo h) [(g,0,.slice a1 n1 c1),(b,0,.slice none 0 0),(b,1,.slice none 0 0)] (by have:=HBG.out;have:=HGH.out;simp;omega) (.slice a3 n3 c3)).addC (b:=h) (i:=0) (v:=.slice a3 n3 c3) (by simp[go_sem,k1]);have k3:(w6.setCell ⟨h,0,none⟩ (.slice a3 n3 c3)).cell? ⟨g,0,none⟩=some (.slice a1 n1 c1):=S5.out.cel g 0 (.slice a1 n1 c1);have k4:(w6.setCell ⟨h,0,none⟩ (.slice a3 n3 c3)).cell? ⟨h,0,none⟩=some (.slice a3 n3 c3):=S5.out.cel h 0 (.slice a3 n3 c3);go_wp2_with fail
 obtain⟨w7,hw7⟩:=nme (w6.setCell ⟨h,0,none⟩ (.slice a3 n3 c3));rw[←hw7]at S5;rw[←hw7];clear hw7 k0 k1 k3 k4 f1 S4;refine(CM _ _ (mm) (2^d) _ (S5.out.rat (.agg #[.slice a1 n1 c1]) (mm)) (S5.out.rat (.agg #[.slice a3 n3 c3]) (2^d)) HN.out.2.2.1 HN.out.2.2.2.1 HN.out.2.2.2.2).mono ?_;rintro e w8 ⟨v8,rfl,hv8,hb8⟩;have hv':=hv8;obtain⟨a6,n6,c6,a7,n7,c7,ev,_,_⟩:=hv';subst ev;have S6:Hid _:=(S5.out.go hb8).addG hv8;clear hv8 hb8 S5;have z0:=S6.out.cel b 0 (.slice none 0 0);have z1:=S6.out.cel b 1 (.slice none 0 0);have y0:=S6.out.fz b 0;have y1:=S6.out.fz b 1;have Z:Hid _:=Be (w0:=w) (v:=.slice a6 n6 c6) (u:=.slice a7 n7 c7) z0 z1 (S6.out.rfr (.agg #[.slice a6 n6 c6,.slice a7 n7 c7]) ((mm)/Nat.gcd (mm) (2^d)) ((2^d)/Nat.gcd (mm) (2^d))) S6.out.bel (S6.out.lo b);go_wp2_with fail
 exact bodyPost_ret (v:=.tuple #[.agg #[.slice a6 n6 c6,.slice a7 n7 c7],.bool true]) (by simp[results,Tryz.results27,go_sem,z0,z1]) rfl ⟨_,rfl,Z.out.1,Z.out.2⟩
theorem Od(u x0 E m t s:Nat)(mm:Nat)(z:Int)(w:World)(h:Flk u x0 E m t s)(h0:s≠0)(h1:E≠2047)(h2:t≠1)(h3:0<E)(h4:0<z)(hg:Fg u mm z)(hm:m+4503599627370496=mm)(hz:z=(E:Int)-1-1074):Calls Tryz.prog 27 #[.int .u64 (u:Int)] w (Er w (fN u/Nat.gcd (fN u) (fD u)) (fD u/Nat.gcd (fN u) (fD u)) true):=by
 have RR:Hid (Frl u x0 E m t s):=h.rules;have HG:Hid (Fg u mm z):=hg;obtain⟨d,hd⟩:=nme z.toNat
 have d3:decide (s=0)=false:=decide_eq_false (by omega);have d3':((s:Int)==0)=false:=by simp;omega
 have d32: ¬s=0:=by omega
 have d1:decide (E=2047)=false:=decide_eq_false (by omega);have d1':((E:Int)==2047)=false:=by simp;omega
 have d12: ¬E=2047:=by omega
 have d2:decide (t=1)=false:=decide_eq_false (by omega);have d2':((t:Int)==1)=false:=by simp;omega
 have d22: ¬t=1:=by omega
 have HN:Hid (fN u=mm*2^d∧fD u=1∧AM (mm*2^d)∧AM (1)∧0<1):=by
  have a1:=hg.sN.rsome;have a2:=hg.sD.rsome;have e1:=hg.eN;have e2:=hg.eD;rw[show(-z).toNat=0 by omega,Nat.pow_zero]at a2 e2;rw[←hd]at a1 e1;exact⟨e1,e2,a1,a2,by omega⟩
 have hzl:=hg.lo;have hzh:=hg.hi;obtain⟨f,hf⟩:=nme (E-1);have p4:0<E:=h3;have q4:IntKind.u64.wrap ((m:Int)+4503599627370496)=(mm:Int):=by rw[IntKind.wrap_u64];have:=hg.mlt;omega
 obtain⟨q1,q2,q3⟩:=Nc (E:=E) hf hz h3 hzl hzh;have p5:0<z:=h4;have ez:z=(d:Int):=by clear q1 q2 q3;omega
 have LF:Hid (∀v w,Ai w v mm→Calls Tryz.prog 68 #[v,.int .i64 z] w (Dm w (mm*2^d))):=fun v w h=>by
  rw[ez];exact Do v mm d w h (CR (by have:=hg.mlt;clear q1 q2 q3;omega)).rfits (by have:=hg.hi;clear q1 q2 q3;omega)
 rw[HN.out.1,HN.out.2.1];clear h hg hd h0 h1 h2 h3 h4 hm hz hf ez hzl hzh;obtain⟨r2,r3,r5,r6,r7,r8,r9⟩:=RR.out;have S1:Hid _:=(Bp w).box (.slice none 0 0) (.slice none 0 0) 66 _ rfl;go_enter Tryz.func27,Tryz.ntmps27
 go_wp2_with fail
 refine(CA mm _ (by have:=HG.out.mlt;omega)).mono ?_;rintro e w2 ⟨v2,rfl,hv2,hb2⟩;obtain⟨a1,n1,c1,rfl⟩:=hv2.isAgg;have S2:Hid _:=((S1.out.go hb2).addM hv2).box1 (.slice a1 n1 c1) 64 _ rfl;have BG:w.heap.size<w2.heap.size:=(S1.out.go hb2).lt w.heap.size;clear hv2 hb2 S1;go_wp2_with fail
 obtain⟨g,hg⟩:=nme w2.heap.size;obtain⟨w3,hw3⟩:=nme (w2.alloc (.cells #[.slice a1 n1 c1] 64));obtain⟨b,hb⟩:=nme w.heap.size;have HBG:Hid (b<g):=by
  show b<g;rw[hg,hb];exact BG
 rw[←hw3,←hg,←hb]at S2;rw[←hw3,←hg,←hb];clear hw3 hg hb BG;refine(CA 1 _ (by omega)).mono ?_;rintro e w4 ⟨v4,rfl,hv4,hb4⟩;obtain⟨a2,n2,c2,rfl⟩:=hv4.isAgg;have GH:g<w4.heap.size:=(S2.out.go hb4).lt g;have S3:Hid _:=((S2.out.go hb4).addM hv4).box1 (.slice a2 n2 c2) 64 _ rfl;clear hv4 hb4 S2;have k1:=S3.out.cel g 0 (.slice a1 n1 c1);have k2:(w4.alloc (.cells #[.slice a2 n2 c2] 64)).cell? ⟨w4.heap.size,0,none⟩=some (.slice a2 n2 c2):=S3.out.cel w4.heap.size 0 (.slice a2 n2 c2);go_wp2_with fail
 obtain⟨h,hh⟩:=nme w4.heap.size;obtain⟨w5,hw5⟩:=nme (w4.alloc (.cells #[.slice a2 n2 c2] 64));rw[←hw5,←hh]at S3;rw[←hw5,←hh];have HGH:Hid (g<h):=by show g<h;rw[hh];exact GH
 clear hw5 hh GH k1 k2;refine(LF.out _ _ (S3.out.rat (.agg #[.slice a1 n1 c1]) mm)).mono ?_;rintro e w6 ⟨v6,rfl,hv6,hb6⟩;obtain⟨a3,n3,c3,rfl⟩:=hv6.isAgg;have S4:Hid _:=(S3.out.go hb6).addM hv6;clear hv6 hb6 S3;have k1:=S4.out.cel g 0 (.slice a1 n1 c1);have k0:=S4.out.cel h 0 (.slice a2 n2 c2);have f1:=S4.out.fz g 0;have S5:Hid _:=(S4.out.set (b:=g) (i:=0) k1 (S4.out.lo g) [(h,0,.slice a2 n2 c2),(b,0,.slice none 0 0),(b,1,.slice none 0 0)] (by have:=HBG.out;have:=HGH.out;simp;omega) (.slice a3 n3 c3)).addC (b:=g) (i:=0) (v:=.slice a3 n3 c3) (by simp[go_sem,k1]);have k3:(w6.setCell ⟨g,0,none⟩ (.slice a3 n3 c3)).cell? ⟨h,0,none⟩=some (.slice a2 n2 c2):=S5.out.cel h 0 (.slice a2 n2 c2);have k4:(w6.setCell ⟨g,0,none⟩ (.slice a3 n3 c3)).cell? ⟨g,0,none⟩=some (.slice a3 n3 c3):=S5.out.cel g 0 (.slice a3 n3 c3);go_wp2_with fail
 obtain⟨w7,hw7⟩:=nme (w6.setCell ⟨g,0,none⟩ (.slice a3 n3 c3));rw[←hw7]at S5;rw[←hw7];clear hw7 k0 k1 k3 k4 f1 S4;refine(CM _ _ (mm*2^d) (1) _ (S5.out.rat (.agg #[.slice a3 n3 c3]) (mm*2^d)) (S5.out.rat (.agg #[.slice a2 n2 c2]) (1)) HN.out.2.2.1 HN.out.2.2.2.1 HN.out.2.2.2.2).mono ?_;rintro e w8 ⟨v8,rfl,hv8,hb8⟩;have hv':=hv8;obtain⟨a6,n6,c6,a7,n7,c7,ev,_,_⟩:=hv';subst ev;have S6:Hid _:=(S5.out.go hb8).addG hv8;clear hv8 hb8 S5;have z0:=S6.out.cel b 0 (.slice none 0 0);have z1:=S6.out.cel b 1 (.slice none 0 0);have y0:=S6.out.fz b 0;have y1:=S6.out.fz b 1;have Z:Hid _:=Be (w0:=w) (v:=.slice a6 n6 c6) (u:=.slice a7 n7 c7) z0 z1 (S6.out.rfr (.agg #[.slice a6 n6 c6,.slice a7 n7 c7]) ((mm*2^d)/Nat.gcd (mm*2^d) (1)) ((1)/Nat.gcd (mm*2^d) (1))) S6.out.bel (S6.out.lo b);go_wp2_with fail
 exact bodyPost_ret (v:=.tuple #[.agg #[.slice a6 n6 c6,.slice a7 n7 c7],.bool true]) (by simp[results,Tryz.results27,go_sem,z0,z1]) rfl ⟨_,rfl,Z.out.1,Z.out.2⟩
def Cm(u:Nat):Bool:=decide (u=9223372036854775808)||decide (u<9218868437227405312)
def ffP(u:Nat):Nat:=if Cm u then fN (nz u)/Nat.gcd (fN (nz u)) (fD (nz u)) else 0
def ffQ(u:Nat):Nat:=if Cm u then fD (nz u)/Nat.gcd (fN (nz u)) (fD (nz u)) else 1
theorem Ll:fN 0=0:=by unfold fN fm;simp
theorem Nf(u:Nat)(h:fN u=0):fN u/Nat.gcd (fN u) (fD u)=0∧fD u/Nat.gcd (fN u) (fD u)=1:=by
 rw[h,Nat.gcd_zero_left,Nat.zero_div,Nat.div_self (RI u)];exact⟨rfl,rfl⟩
theorem Hn{u:Nat}(h:Cm u=false):ffP u=0∧ffQ u=1:=by unfold ffP ffQ;rw[h];exact⟨rfl,rfl⟩
theorem EZ:ffP 9223372036854775808=0∧ffQ 9223372036854775808=1:=by
 have h:Cm 9223372036854775808=true:=by decide
 unfold ffP ffQ;rw[h,if_pos rfl,if_pos rfl];have:nz 9223372036854775808=0:=by unfold nz;simp
 rw[this];exact Nf 0 Ll
theorem EH{u:Nat}(h:u<9218868437227405312):ffP u=fN u/Nat.gcd (fN u) (fD u)∧ffQ u=fD u/Nat.gcd (fN u) (fD u):=by
 have h1:Cm u=true:=by unfold Cm;simp;omega
 have h2:nz u=u:=by unfold nz;rw[if_neg (by omega)]
 unfold ffP ffQ;rw[h1,h2];exact⟨rfl,rfl⟩
theorem IV(u:Nat)(w:World)(hu:u<18446744073709551616)(hT:Tab w):Calls Tryz.prog 51 #[.float .f64 u] w (EY w (ffP u) (ffQ u) (Cm u)):=by
 by_cases h1:u=9223372036854775808
 ·subst h1;have h:Cm 9223372036854775808=true:=by decide
  rw[EZ.1,EZ.2,h];exact Lh w
 by_cases h2:u<9218868437227405312
 ·have h:Cm u=true:=by unfold Cm;simp;omega
  rw[(EH h2).1,(EH h2).2,h];exact Mi u w h2 hT
 have h:Cm u=false:=by unfold Cm;simp;omega
 rw[(Hn h).1,(Hn h).2,h];exact M7 u w (fun hh=>by rcases hh with e|e<;>omega) hu
theorem Ij(u:Nat)(w:World)(hu:u<18446744073709551616):Calls Tryz.prog 27 #[.int .u64 (u:Int)] w (Er w (ffP u) (ffQ u) (Cm u)):=by
 obtain⟨x0,E,m,t,s,h⟩:=Xp u hu;have h':=h;obtain⟨h0,hx,hE,hm,ht,hs⟩:=h';by_cases c0:s=0
 ·have:=N9 u x0 E m t s w h c0;have e:u=0∨u=9223372036854775808:=by omega
  rcases e with e|e
  ·subst e;have h9:Cm 0=true:=by decide
   rw[(EH (u:=0) (by omega)).1,(EH (u:=0) (by omega)).2,(Nf 0 Ll).1,(Nf 0 Ll).2,h9];exact this
  subst e;have h9:Cm 9223372036854775808=true:=by decide
  rw[EZ.1,EZ.2,h9];exact this
 by_cases c1:E=2047
 ·have h9:Cm u=false:=by unfold Cm;simp;omega
  rw[(Hn h9).1,(Hn h9).2,h9];exact Oa u x0 E m t s w h c0 c1
 by_cases c2:t=1
 ·have h9:Cm u=false:=by unfold Cm;simp;omega
  rw[(Hn h9).1,(Hn h9).2,h9];exact Oc u x0 E m t s w h c0 c1 c2
 have hl:u<9218868437227405312:=by omega
 have h9:Cm u=true:=by unfold Cm;simp;omega
 have hE2:E=u/4503599627370496:=by omega
 have hg:=Xq hE2 hm (by omega);rw[(EH hl).1,(EH hl).2,h9];by_cases c3:E=0
 ·rw[if_pos c3,if_pos c3]at hg;exact P9 u x0 E m t s _ w h c0 c1 c2 c3 hg (by omega)
 rw[if_neg c3,if_neg c3]at hg;by_cases c4:0<(E:Int)-1-1074
 ·exact Od u x0 E m t s _ _ w h c0 c1 c2 (by omega) c4 hg rfl rfl
 exact Qa u x0 E m t s _ _ w h c0 c1 c2 (by omega) c4 hg rfl rfl
def Jg(J:Nat→Act→World→Prop)(Q:Exit→Act→World→Prop):Exit→Act→World→Prop
 | .goto l,a,w=>J l a w
 |e,a,w=>Q e a w
theorem Au{J:Nat→Act→World→Prop}{Q:Exit→Act→World→Prop}{a:Act}{w:World}:Jg J Q .ret a w=Q .ret a w:=rfl
theorem KG{P:Program}{c:Code}{a:Act}{w:World}{Q:Exit→Act→World→Prop}(J:Nat→Act→World→Prop)(m:Nat→Act→World→Nat)
  (first:c.wp P (Jg J Q) a w)
  (pass: ∀l a w,J l a w→ ∃rest,findLabel c l=some rest∧rest.wp P (Jg (fun l' a' w'=>J l' a' w'∧m l' a' w'<m l a w) Q) a w):(Code.scope c).wp P Q a w:=by
 intro b k cs;have key: ∀n l a w,m l a w=n→J l a w→ ∃k0,gotoIn l (.inScope c::k)=some k0∧ ∃e a' w',Q e a' w'∧Arrives P (lone (b.at a k0) cs w) b k cs e a' w':=by
  intro n;induction n using Nat.strongRecOn with
  |_ n ih=>
   intro l a w hn hJ;obtain⟨rest,hf,hp⟩:=pass l a w hJ;have hg:gotoIn l (.inScope c::k)=some (.code rest:: .inScope c::k):=by simp[gotoIn,hf]
   refine⟨_,hg,?_⟩;obtain⟨e,a₁,w₁,hq,harr⟩:=hp b (.inScope c::k) cs;cases e with
   |normal=>exact⟨.normal,a₁,w₁,hq,Steps.trans harr (.one step_inScope)⟩
   |exit id=>exact⟨.exit id,a₁,w₁,hq,fun k' hk=>harr k' (by simp[exitTo,hk])⟩
   |goto l'=>
    obtain⟨hJ',hlt⟩:=hq;obtain⟨k0,hg0,e₂,a₂,w₂,hq₂,harr₂⟩:=ih _ (by omega) l' a₁ w₁ rfl hJ';exact⟨e₂,a₂,w₂,hq₂,.of_steps (harr _ hg0) harr₂⟩
   |ret=>exact⟨_,a₁,w₁,hq,harr⟩
   |panic ch=>exact⟨_,a₁,w₁,hq,harr⟩
   |outgrown=>exact⟨_,a₁,w₁,hq,harr⟩
 obtain⟨e,a₁,w₁,hq,harr⟩:=first b (.inScope c::k) cs;cases e with
 |normal=>exact⟨.normal,a₁,w₁,hq,.head step_scope (Steps.trans harr (.one step_inScope))⟩
 |exit id=>exact⟨.exit id,a₁,w₁,hq,fun k' hk=>.head step_scope (harr k' (by simp[exitTo,hk]))⟩
 |goto l'=>
  obtain⟨k0,hg0,e₂,a₂,w₂,hq₂,harr₂⟩:=key _ l' a₁ w₁ rfl hq;exact⟨e₂,a₂,w₂,hq₂,.of_steps (.head step_scope (harr _ hg0)) harr₂⟩
 |ret=>exact⟨_,a₁,w₁,hq,.of_steps (.one step_scope) harr⟩
 |panic ch=>exact⟨_,a₁,w₁,hq,.of_steps (.one step_scope) harr⟩
 |outgrown=>exact⟨_,a₁,w₁,hq,.of_steps (.one step_scope) harr⟩
theorem Lm{P:Program}{pre body:Code}{a:Act}{w:World}{Q:Exit→Act→World→Prop}(l0:Nat)(J:Nat→Act→World→Prop)(m:Nat→Act→World→Nat)
  (h0:findLabel (pre.seq ((Code.label l0).seq body)) l0=some (Code.skip.seq body))
  (first:pre.wp P (fun e a w=>e=.normal∧J l0 a w) a w)
  (pass0: ∀a w,J l0 a w→body.wp P (Jg (fun l' a' w'=>J l' a' w'∧m l' a' w'<m l0 a w) Q) a w)
  (pass: ∀l a w,l≠l0→J l a w→ ∃rest,findLabel (pre.seq ((Code.label l0).seq body)) l=some rest∧rest.wp P (Jg (fun l' a' w'=>J l' a' w'∧m l' a' w'<m l a w) Q) a w):(Code.scope (pre.seq ((Code.label l0).seq body))).wp P Q a w:=by
 refine KG J m (wp_seq (wp_mono first fun e a w he=> ?_)) fun l a w hj=> ?_
 ·obtain⟨rfl,hj⟩:=he;refine wp_seq (wp_label ?_);refine wp_mono (pass0 a w hj) fun e a w he=> ?_;cases e<;>first|exact he|exact he.1
 by_cases e:l=l0
 ·subst e;exact⟨_,h0,wp_seq (wp_skip (pass0 a w hj))⟩
 exact pass l a w e hj
end Go.Proofs.YtbikpmmpgbggaaaGreatDoor
