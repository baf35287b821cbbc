/- Contracts of the program's functions, part 17: own work, joined in build order. -/
import Derived.Test.YtcbjkgphpnihiaaGreatDoorJ16
namespace Go.Proofs.YtcbjkgphpnihiaaGreatDoor
open Go.RowKit
set_option maxRecDepth 100000
set_option linter.unusedVariables false
set_option maxHeartbeats 16000000
theorem J0{p q:Nat}(hp:RS p):Av p q<P 91:=by
 have h3:Av p q≤p/q+1:=by unfold Av;split<;>omega
 have h4:p/q<P 90:=Nat.lt_of_le_of_lt (Nat.div_le_self _ _) hp.lt;have h5:P 90<P 91:=CQ (by omega);omega
theorem DC(v u:Value)(p q x y:Nat)(w:World)(h:Rt w v p q)(k:Rt w u x y)(hp:RS p)(hq:RS q)(hx:RS x)(hy:RS y):
  Calls Tryz.prog 63 #[v,u] w (Bg w (Min.min (Av p q) (Av x y)) 1):=by
 obtain⟨p1,m1,d1,p2,m2,d2,e0,_,_⟩:=h.raw;subst e0;obtain⟨p3,m3,d3,p4,m4,d4,e1,_,_⟩:=k.raw;subst e1;have S0:Hid _:=((((A8 w).addF h).addF k).box (.slice p1 m1 d1) (.slice p2 m2 d2) 29 _ rfl).box (.slice p3 m3 d3) (.slice p4 m4 d4) 29 _ rfl;simp only[World.size_alloc]at S0;have S1:Hid _:=S0.out.box (.slice none 0 0) (.slice none 0 0) 29 _ rfl;simp only[World.size_alloc]at S1;obtain⟨w0,hw0⟩:=nme (((w.alloc (.cells #[.slice p1 m1 d1,.slice p2 m2 d2] 29)).alloc (.cells #[.slice p3 m3 d3,.slice p4 m4 d4] 29)).alloc (.cells #[.slice none 0 0,.slice none 0 0] 29));have f6:w0.frozen? ⟨w.heap.size+1+1,0,none⟩=false:=by rw[hw0];simp[go_sem]
 have f7:w0.frozen? ⟨w.heap.size+1+1,1,none⟩=false:=by rw[hw0];simp[go_sem]
 have C1:Hid (∀v w,Rt w v p q→Calls Tryz.prog 89 #[v] w (BO w (Av p q))):=fun v w h=>IG v p q w h hp hq;have C2:Hid (∀v w,Rt w v x y→Calls Tryz.prog 89 #[v] w (BO w (Av x y))):=fun v w h=>IG v x y w h hx hy;have HF:Hid (Ar (Av p q)∧Ar (Av x y)):=⟨Bf (J0 hp) (by omega),Bf (J0 hx) (by omega)⟩;clear h k hp hq hx hy S0;generalize Av p q=N1 at C1 HF;generalize Av x y=N2 at C2 HF;go_enter Tryz.func63,Tryz.ntmps63
 go_wp2_with fail
 rw[←hw0]at S1;rw[←hw0];obtain⟨b2,hb2⟩:=nme w.heap.size;have HB:Hid (w.heap.size≤b2+1+1):=by show _≤_;omega
 rw[←hb2]at S1 f6 f7;rw[←hb2];clear hw0 hb2;have FZ:Hid (w0.frozen? ⟨b2+1+1,0,none⟩=false∧w0.frozen? ⟨b2+1+1,1,none⟩=false):=⟨f6,f7⟩;clear f6 f7;refine Aj (JB w0 [sRt (p) (q),AF (N1),sRt (x) (y),AF (N2),sAny,sAny,sAny,sAny] [(4,6,1),(5,7,3)]) 19 (by kernel_rfl) rfl (by kernel_rfl) (JB.start _ _ _) (fun HG HN=>⟨?_,?_,?_,?_,?_,?_,?_,?_,trivial⟩) ?_
 ·intro L vs a w' hJ hF hP hL;have q2:(a.tmps[2]?).getD undef=.pointer (some ⟨b2,0,none⟩):=hF.old 2 rfl;have cb:=cell_later hJ.bel (S1.out.cel (b2) 0 (.slice p1 m1 d1));have cc:=cell_later hJ.bel (S1.out.cel (b2) 1 (.slice p2 m2 d2));exact Aa (v:=.agg #[.slice p1 m1 d1,.slice p2 m2 d2]) rfl (by simp[execOp,go_sem,q2,cb,cc]) ⟨_,rfl,hJ.step hL rfl (Below.refl _ _) (by exact((S1.out.fr (.agg #[.slice p1 m1 d1,.slice p2 m2 d2]) (p) (q)).mono hJ.bel))⟩
 ·intro L vs a w' hJ hF hP hL;have p0:L 0=true:=hP ⟨0,.data⟩ (by simp) rfl;have s0:Rt w' (vs 0) (p) (q):=hJ.sp 0 p0;have q7:=hF.slot 0 7 rfl p0;refine Ai (f:=89) (args:= #[vs 0]) rfl (by simp[go_sem,q7]) (C1.out _ _ s0) ?_;rintro e w2 ⟨v,rfl,hv,hb⟩;exact⟨_,rfl,_,rfl,hJ.step hL rfl hb (by exact hv)⟩
 ·intro L vs a w' hJ hF hP hL;have q3:(a.tmps[3]?).getD undef=.pointer (some ⟨b2+1,0,none⟩):=hF.old 3 rfl;have cb:=cell_later hJ.bel (S1.out.cel (b2+1) 0 (.slice p3 m3 d3));have cc:=cell_later hJ.bel (S1.out.cel (b2+1) 1 (.slice p4 m4 d4));exact Aa (v:=.agg #[.slice p3 m3 d3,.slice p4 m4 d4]) rfl (by simp[execOp,go_sem,q3,cb,cc]) ⟨_,rfl,hJ.step hL rfl (Below.refl _ _) (by exact((S1.out.fr (.agg #[.slice p3 m3 d3,.slice p4 m4 d4]) (x) (y)).mono hJ.bel))⟩
 ·intro L vs a w' hJ hF hP hL;have p2:L 2=true:=hP ⟨2,.data⟩ (by simp) rfl;have s2:Rt w' (vs 2) (x) (y):=hJ.sp 2 p2;have q9:=hF.slot 2 9 rfl p2;refine Ai (f:=89) (args:= #[vs 2]) rfl (by simp[go_sem,q9]) (C2.out _ _ s2) ?_;rintro e w2 ⟨v,rfl,hv,hb⟩;exact⟨_,rfl,_,rfl,hJ.step hL rfl hb (by exact hv)⟩
 ·intro L vs a w' hJ hF hP hL;exact Aa (v:=.pointer (some ⟨w'.heap.size,0,none⟩)) (w':=w'.alloc (.cells #[.slice none 0 0] 27)) rfl (by simp[execOp,go_sem]) ⟨_,rfl,hJ.alloc hL rfl rfl _⟩
 ·intro L vs a w' hJ hF hP hL;exact Aa (v:=.pointer (some ⟨w'.heap.size,0,none⟩)) (w':=w'.alloc (.cells #[.slice none 0 0] 27)) rfl (by simp[execOp,go_sem]) ⟨_,rfl,hJ.alloc hL rfl rfl _⟩
 ·intro L vs a w' hJ hF hP hL;have p4:L 4=true:=hP ⟨4,.data⟩ (by simp) rfl;have q5:=hF.slot 4 5 rfl p4;have p1:L 1=true:=hP ⟨1,.data⟩ (by simp) rfl;have s1:Ac w' (vs 1) (N1):=hJ.sp 1 p1;have q8:=hF.slot 1 8 rfl p1;obtain⟨bk,e1,e2,e3,e4,e5,e6⟩:=hJ.bx (4,6,1) (by simp) p4;have e7:=e5 hL;obtain⟨aa,nn,cc,e8⟩:=s1.isAgg;exact Al (w':=w'.setCell ⟨bk,0,none⟩ (.slice aa nn cc)) rfl (by simp[execOp,go_sem,q5,q8,e1,e8,e7,e4]) ⟨undef,rfl,hJ.store (b:=(4,6,1)) (by simp) hL p4 p1 (by decide) rfl e1 e8⟩
 ·intro L vs a w' hJ hF hP hL;have p5:L 5=true:=hP ⟨5,.data⟩ (by simp) rfl;have q6:=hF.slot 5 6 rfl p5;have p3:L 3=true:=hP ⟨3,.data⟩ (by simp) rfl;have s3:Ac w' (vs 3) (N2):=hJ.sp 3 p3;have q10:=hF.slot 3 10 rfl p3;obtain⟨bk,e1,e2,e3,e4,e5,e6⟩:=hJ.bx (5,7,3) (by simp) p5;have e7:=e5 hL;obtain⟨aa,nn,cc,e8⟩:=s3.isAgg;exact Al (w':=w'.setCell ⟨bk,0,none⟩ (.slice aa nn cc)) rfl (by simp[execOp,go_sem,q6,q10,e1,e8,e7,e4]) ⟨undef,rfl,hJ.store (b:=(5,7,3)) (by simp) hL p5 p3 (by decide) rfl e1 e8⟩
 intro L vs w' hA hJ;have s1:Ac w' (vs 1) (N1):=hJ.sp 1 (hA 1 (by simp));have s3:Ac w' (vs 3) (N2):=hJ.sp 3 (hA 3 (by simp));obtain⟨bk4,eb4,ge4,lt4,fz4,_,e6⟩:=hJ.bx (4,6,1) (by simp) (hA 4 (by simp));obtain⟨_,u4,eu4,ce4⟩:=e6 (hA 6 (by simp));clear e6;obtain⟨bk5,eb5,ge5,lt5,fz5,_,e6⟩:=hJ.bx (5,7,3) (by simp) (hA 5 (by simp));obtain⟨_,u5,eu5,ce5⟩:=e6 (hA 7 (by simp));clear e6;simp only[AC,Act.put,List.setIfInBounds_toArray,List.set_cons_zero,List.set_cons_succ,Nat.reduceAdd];obtain⟨a5,n5,c5,q1⟩:=s1.isAgg;obtain⟨a6,n6,c6,q2⟩:=s3.isAgg;rw[q1]at s1 eu4;rw[q2]at s3 eu5;obtain rfl:u4=.slice a5 n5 c5:=by simpa using eu4.symm
 obtain rfl:u5=.slice a6 n6 c6:=by simpa using eu5.symm
 simp only[eb4,eb5];obtain⟨w5,ew⟩:=nme w';obtain⟨b5,e1⟩:=nme bk4;obtain⟨b6,e2⟩:=nme bk5;have FZ:Hid (w'.frozen? ⟨b2+1+1,0,none⟩=false∧w'.frozen? ⟨b2+1+1,1,none⟩=false):=⟨(hJ.bel.frozen (World.block_lt_of_cell? _ _ (S1.out.cel (b2+1+1) 0 (.slice none 0 0)))).trans FZ.out.1,(hJ.bel.frozen (World.block_lt_of_cell? _ _ (S1.out.cel (b2+1+1) 1 (.slice none 0 0)))).trans FZ.out.2⟩;have ND:Hid (b2+1+1≠bk4∧w.heap.size≤bk4):=by
  have l5:=World.block_lt_of_cell? _ _ (S1.out.cel (b2+1+1) 0 (.slice none 0 0));have:=S1.out.bel.size;exact⟨by simp at l5;omega,by omega⟩
 have FX:Hid (w'.frozen? ⟨bk4,0,none⟩=false):=fz4;have S2:Hid _:=((((S1.out.go hJ.bel).addN s1).addN s3).addC ce4).addC ce5;rw[←ew,←e1,←e2]at S2;rw[←ew]at FZ;rw[←e1]at ND;rw[←ew,←e1]at FX;rw[←ew,←e1,←e2];clear ew e1 e2 q1 q2 s1 s3 eu4 eu5 eb4 eb5 ce4 ce5 ge4 ge5 lt4 lt5 fz4 fz5 hJ hA S1;have z5:=S2.out.cell b5 (.slice a5 n5 c5);have z6:=S2.out.cell b6 (.slice a6 n6 c6);go_wp2_with fail
 refine(Db _ _ N2 N1 _ (S2.out.at (.agg #[.slice a6 n6 c6]) N2) (S2.out.at (.agg #[.slice a5 n5 c5]) N1) HF.out.2 HF.out.1).mono ?_;rintro e w7 ⟨rfl,hb⟩;have FZ:Hid (w7.frozen? ⟨b2+1+1,0,none⟩=false∧w7.frozen? ⟨b2+1+1,1,none⟩=false):=⟨(hb.frozen (World.block_lt_of_cell? _ _ (S2.out.cel (b2+1+1) 0 (.slice none 0 0)))).trans FZ.out.1,(hb.frozen (World.block_lt_of_cell? _ _ (S2.out.cel (b2+1+1) 1 (.slice none 0 0)))).trans FZ.out.2⟩;have FX:Hid (w7.frozen? ⟨b5,0,none⟩=false):=(hb.frozen (World.block_lt_of_cell? _ _ z5)).trans FX.out;have S3:Hid _:=S2.out.go hb;clear hb S2 z5 z6;obtain⟨kk,hkk⟩:=nme (Az N2 N1);rw[←hkk];by_cases hlt:N2<N1
 ·have hd:decide (kk<0)=true:=decide_eq_true (by rw[hkk];unfold Az;rw[if_pos hlt];omega);have HM:Hid (Min.min N1 N2=N2):=by show _=_;omega
  have HX:Hid (Ar N2):=HF.out.2;have z5:=S3.out.cell b5 (.slice a5 n5 c5);have z6:=S3.out.cell b6 (.slice a6 n6 c6);have fx:=FX.out;have S4:Hid _:=(S3.out.set (b:=b5) (i:=0) z5 ND.out.2 [(b2+1+1,0,.slice none 0 0),(b2+1+1,1,.slice none 0 0)] (fun p hp=>by
   simp only[List.mem_cons,List.not_mem_nil,or_false]at hp;rcases hp with rfl|rfl<;>exact⟨by simp,ND.out.1⟩) (.slice a6 n6 c6)).addC (b:=b5) (i:=0) (v:=.slice a6 n6 c6) (by simp[go_sem,z5])
  have FZ:Hid ((w7.setCell ⟨b5,0,none⟩ (.slice a6 n6 c6)).frozen? ⟨b2+1+1,0,none⟩=false∧(w7.setCell ⟨b5,0,none⟩ (.slice a6 n6 c6)).frozen? ⟨b2+1+1,1,none⟩=false):=⟨by simp[World.frozen?_setCell,FZ.out.1],by simp[World.frozen?_setCell,FZ.out.2]⟩;clear hlt hkk S3 HF;go_wp2_with fail
  clear z5 z6 fx hd;obtain⟨w8,hw⟩:=nme (w7.setCell ⟨b5,0,none⟩ (.slice a6 n6 c6));rw[←hw]at S4 FZ;rw[←hw];clear hw;have e6:=S4.out.cel (b2+1+1) 0 (.slice none 0 0);have e7:=S4.out.cel (b2+1+1) 1 (.slice none 0 0);have f6:=FZ.out.1;have f7:=FZ.out.2;refine Aj (JD w8 [AF (N2),AF (1),sRt (N2) (1),sAny] [[],[],[0,1],[2]] 3 2 [0,1,2] (Dl (b2+1+1))) 19 (by kernel_rfl) rfl (by kernel_rfl) (JD.start _ _ _ _ _ _ _) (fun HG HN=>⟨?_,?_,?_,?_,trivial⟩) ?_
  ·intro L vs a w' hJ hF hP hL;have hK:=hJ;have hJ:=hK.open hL (by decide);have q5:(a.tmps[5]?).getD undef=.pointer (some ⟨b5,0,none⟩):=hF.old 5 rfl;have cb:=cell_later hJ.bel (S4.out.cell (b5) (.slice a6 n6 c6));exact Aa (v:=.agg #[.slice a6 n6 c6]) rfl (by simp[execOp,go_sem,q5,cb]) ⟨_,rfl,hK.step hL (by decide) (by decide) rfl (Ah) <| hJ.step hL rfl (Below.refl _ _) (by exact((S4.out.at (.agg #[.slice a6 n6 c6]) (N2)).mono hJ.bel))⟩
  ·intro L vs a w' hJ hF hP hL;have hK:=hJ;have hJ:=hK.open hL (by decide);refine Ai (f:=19) (args:= #[.int .u64 1]) rfl (by simp[go_sem]) (CR 1 _ (by omega)) ?_;rintro e w2 ⟨v,rfl,hv,hb⟩;exact⟨_,rfl,_,rfl,hK.step hL (by decide) (by decide) rfl (Ah) <| hJ.step hL rfl hb (by exact hv)⟩
  ·intro L vs a w' hJ hF hP hL;have hK:=hJ;have hJ:=hK.open hL (by decide);have p0:L 0=true:=hP ⟨0,.data⟩ (by simp) rfl;have s0:Ac w' (vs 0) (N2):=hJ.sp 0 p0;have q16:=hF.slot 0 16 rfl p0;have p1:L 1=true:=hP ⟨1,.data⟩ (by simp) rfl;have s1:Ac w' (vs 1) (1):=hJ.sp 1 p1;have q17:=hF.slot 1 17 rfl p1;refine Ai (f:=51) (args:= #[vs 0,vs 1]) rfl (by simp[go_sem,q16,q17]) (Cw _ _ N2 1 _ s0 s1 HX.out (by omega) (Nat.gcd_one_right _)) ?_;rintro e w2 ⟨v,rfl,hv,hb⟩;exact⟨_,rfl,_,rfl,hK.step hL (by decide) (by decide) rfl (Ab p0 (Ab p1 (Ah))) <| hJ.step hL rfl hb (by exact hv)⟩
  ·intro L vs a w' hJ hF hP hL;have hK:=hJ;have hJ:=hK.core hL;have q4:(a.tmps[4]?).getD undef=.pointer (some ⟨b2+1+1,0,none⟩):=hF.old 4 rfl;have p2:L 2=true:=hP ⟨2,.data⟩ (by simp) rfl;have s2:Rt w' (vs 2) (N2) (1):=hJ.sp 2 p2;have q18:=hF.slot 2 18 rfl p2;have p0:L 0=true:=hK.cl 2 p2 0 (by simp);have p1:L 1=true:=hK.cl 2 p2 1 (by simp);have x0:=cell_later hJ.bel e6;have y0:=(hJ.bel.frozen (World.block_lt_of_cell? _ _ e6)).trans f6;have x1:=cell_later hJ.bel e7;have y1:=(hJ.bel.frozen (World.block_lt_of_cell? _ _ e7)).trans f7;obtain⟨aa,nn,cc,a2,n2,c2,e8,_,_⟩:=s2.raw;exact Al (w':=((w'.setCell ⟨b2+1+1,0,none⟩ (.slice aa nn cc)).setCell ⟨b2+1+1,1,none⟩ (.slice a2 n2 c2))) rfl (by simp[execOp,go_sem,q4,q18,e8,x0,y0,x1,y1]) ⟨undef,rfl,hK.put hL (by decide) rfl (Ab p2 Ah) (Ab p0 (Ab p1 (Ab p2 (Ah)))) p2 ⟨_,_,e8,rfl⟩⟩
  intro L vs w' hA hK;obtain⟨_,w1,hb1,sv,u1,u2,ev,ew⟩:=hK.fin (hA 3 (by simp));replace sv:Rt w1 (vs 2) (N2) (1):=sv;obtain⟨a8,n8,k8,a9,n9,k9,e8,_,_⟩:=sv.raw;rw[e8]at ev sv;obtain⟨rfl,rfl⟩:u1=.slice a8 n8 k8∧u2=.slice a9 n9 k9:=by simpa[eq_comm]using ev
  have x0:=cell_later hb1 e6;have x1:=cell_later hb1 e7;have Z:Hid _:=AY (w0:=w) (v:=.slice a8 n8 k8) (u:=.slice a9 n9 k9) x0 x1 sv (Ae S4.out.bel hb1) HB.out;obtain⟨l6,l7⟩:=AO (w0:=w) (p:=0) (q:=0) (a6:=a8) (n6:=n8) (k6:=k8) (a7:=a9) (n7:=n9) (k7:=k9) x0 x1;rw[←ew]at Z l6 l7;clear ew x0 x1 sv ev hb1 e8 hK hA e6 e7 f6 f7 S4;simp only[AC,Act.put,List.setIfInBounds_toArray,List.set_cons_zero,List.set_cons_succ,Nat.reduceAdd];go_wp2_with fail
  rw[HM.out];exact bodyPost_ret (v:=.agg #[.slice a8 n8 k8,.slice a9 n9 k9]) (by simp[results,Tryz.results63,go_sem,l6,l7]) rfl ⟨_,rfl,Z.out.1,Z.out.2⟩
 have hd:decide (kk<0)=false:=decide_eq_false (by
  rw[hkk];unfold Az;rw[if_neg hlt];split<;>omega)
 have HM:Hid (Min.min N1 N2=N1):=by show _=_;omega
 have HX:Hid (Ar N1):=HF.out.1;clear hlt hkk HF;go_wp2_with fail
 clear hd;have e6:=S3.out.cel (b2+1+1) 0 (.slice none 0 0);have e7:=S3.out.cel (b2+1+1) 1 (.slice none 0 0);have f6:=FZ.out.1;have f7:=FZ.out.2;refine Aj (JD w7 [AF (N1),AF (1),sRt (N1) (1),sAny] [[],[],[0,1],[2]] 3 2 [0,1,2] (Dl (b2+1+1))) 19 (by kernel_rfl) rfl (by kernel_rfl) (JD.start _ _ _ _ _ _ _) (fun HG HN=>⟨?_,?_,?_,?_,trivial⟩) ?_
 ·intro L vs a w' hJ hF hP hL;have hK:=hJ;have hJ:=hK.open hL (by decide);have q5:(a.tmps[5]?).getD undef=.pointer (some ⟨b5,0,none⟩):=hF.old 5 rfl;have cb:=cell_later hJ.bel (S3.out.cell (b5) (.slice a5 n5 c5));exact Aa (v:=.agg #[.slice a5 n5 c5]) rfl (by simp[execOp,go_sem,q5,cb]) ⟨_,rfl,hK.step hL (by decide) (by decide) rfl (Ah) <| hJ.step hL rfl (Below.refl _ _) (by exact((S3.out.at (.agg #[.slice a5 n5 c5]) (N1)).mono hJ.bel))⟩
 ·intro L vs a w' hJ hF hP hL;have hK:=hJ;have hJ:=hK.open hL (by decide);refine Ai (f:=19) (args:= #[.int .u64 1]) rfl (by simp[go_sem]) (CR 1 _ (by omega)) ?_;rintro e w2 ⟨v,rfl,hv,hb⟩;exact⟨_,rfl,_,rfl,hK.step hL (by decide) (by decide) rfl (Ah) <| hJ.step hL rfl hb (by exact hv)⟩
 ·intro L vs a w' hJ hF hP hL;have hK:=hJ;have hJ:=hK.open hL (by decide);have p0:L 0=true:=hP ⟨0,.data⟩ (by simp) rfl;have s0:Ac w' (vs 0) (N1):=hJ.sp 0 p0;have q16:=hF.slot 0 16 rfl p0;have p1:L 1=true:=hP ⟨1,.data⟩ (by simp) rfl;have s1:Ac w' (vs 1) (1):=hJ.sp 1 p1;have q17:=hF.slot 1 17 rfl p1;refine Ai (f:=51) (args:= #[vs 0,vs 1]) rfl (by simp[go_sem,q16,q17]) (Cw _ _ N1 1 _ s0 s1 HX.out (by omega) (Nat.gcd_one_right _)) ?_;rintro e w2 ⟨v,rfl,hv,hb⟩;exact⟨_,rfl,_,rfl,hK.step hL (by decide) (by decide) rfl (Ab p0 (Ab p1 (Ah))) <| hJ.step hL rfl hb (by exact hv)⟩
 ·intro L vs a w' hJ hF hP hL;have hK:=hJ;have hJ:=hK.core hL;have q4:(a.tmps[4]?).getD undef=.pointer (some ⟨b2+1+1,0,none⟩):=hF.old 4 rfl;have p2:L 2=true:=hP ⟨2,.data⟩ (by simp) rfl;have s2:Rt w' (vs 2) (N1) (1):=hJ.sp 2 p2;have q18:=hF.slot 2 18 rfl p2;have p0:L 0=true:=hK.cl 2 p2 0 (by simp);have p1:L 1=true:=hK.cl 2 p2 1 (by simp);have x0:=cell_later hJ.bel e6;have y0:=(hJ.bel.frozen (World.block_lt_of_cell? _ _ e6)).trans f6;have x1:=cell_later hJ.bel e7;have y1:=(hJ.bel.frozen (World.block_lt_of_cell? _ _ e7)).trans f7;obtain⟨aa,nn,cc,a2,n2,c2,e8,_,_⟩:=s2.raw;exact Al (w':=((w'.setCell ⟨b2+1+1,0,none⟩ (.slice aa nn cc)).setCell ⟨b2+1+1,1,none⟩ (.slice a2 n2 c2))) rfl (by simp[execOp,go_sem,q4,q18,e8,x0,y0,x1,y1]) ⟨undef,rfl,hK.put hL (by decide) rfl (Ab p2 Ah) (Ab p0 (Ab p1 (Ab p2 (Ah)))) p2 ⟨_,_,e8,rfl⟩⟩
 intro L vs w' hA hK;obtain⟨_,w1,hb1,sv,u1,u2,ev,ew⟩:=hK.fin (hA 3 (by simp));replace sv:Rt w1 (vs 2) (N1) (1):=sv;obtain⟨a8,n8,k8,a9,n9,k9,e8,_,_⟩:=sv.raw;rw[e8]at ev sv;obtain⟨rfl,rfl⟩:u1=.slice a8 n8 k8∧u2=.slice a9 n9 k9:=by simpa[eq_comm]using ev
 have x0:=cell_later hb1 e6;have x1:=cell_later hb1 e7;have Z:Hid _:=AY (w0:=w) (v:=.slice a8 n8 k8) (u:=.slice a9 n9 k9) x0 x1 sv (Ae S3.out.bel hb1) HB.out;obtain⟨l6,l7⟩:=AO (w0:=w) (p:=0) (q:=0) (a6:=a8) (n6:=n8) (k6:=k8) (a7:=a9) (n7:=n9) (k7:=k9) x0 x1;rw[←ew]at Z l6 l7;clear ew x0 x1 sv ev hb1 e8 hK hA e6 e7 f6 f7 S3;simp only[AC,Act.put,List.setIfInBounds_toArray,List.set_cons_zero,List.set_cons_succ,Nat.reduceAdd];go_wp2_with fail
 rw[HM.out];exact bodyPost_ret (v:=.agg #[.slice a8 n8 k8,.slice a9 n9 k9]) (by simp[results,Tryz.results63,go_sem,l6,l7]) rfl ⟨_,rfl,Z.out.1,Z.out.2⟩
def Hh(w:World)(n p q:Nat)(e:Ending)(w':World):Prop:= ∃v u,e=.returned (.tuple #[v,u])∧Ac w' v n∧Rt w' u p q∧Below w.heap.size w w'
theorem LG{w0 w:World}{r:Nat}{n p q:Nat}{v s u V U:Value}(c0:w.cell? ⟨r,0,none⟩=some (.slice none 0 0))(c1:w.cell? ⟨r+1,0,none⟩=some (.slice none 0 0))(c2:w.cell? ⟨r+1,1,none⟩=some (.slice none 0 0))(h:Ac w V n)(k:Rt w U p q)(hb:Below w0.heap.size w0 w)(hr:w0.heap.size≤r):
  (Ac (((w.setCell ⟨r,0,none⟩ v).setCell ⟨r+1,0,none⟩ s).setCell ⟨r+1,1,none⟩ u) V n∧Rt (((w.setCell ⟨r,0,none⟩ v).setCell ⟨r+1,0,none⟩ s).setCell ⟨r+1,1,none⟩ u) U p q∧Below w0.heap.size w0 (((w.setCell ⟨r,0,none⟩ v).setCell ⟨r+1,0,none⟩ s).setCell ⟨r+1,1,none⟩ u))∧(((w.setCell ⟨r,0,none⟩ v).setCell ⟨r+1,0,none⟩ s).setCell ⟨r+1,1,none⟩ u).cell? ⟨r,0,none⟩=some v∧(((w.setCell ⟨r,0,none⟩ v).setCell ⟨r+1,0,none⟩ s).setCell ⟨r+1,1,none⟩ u).cell? ⟨r+1,0,none⟩=some s∧(((w.setCell ⟨r,0,none⟩ v).setCell ⟨r+1,0,none⟩ s).setCell ⟨r+1,1,none⟩ u).cell? ⟨r+1,1,none⟩=some u:=by
 have j1:(w.setCell ⟨r,0,none⟩ v).cell? ⟨r+1,0,none⟩=some (.slice none 0 0):=(World.cell?_setCell_other (h:=by simp) ..).trans c1;have j2:(w.setCell ⟨r,0,none⟩ v).cell? ⟨r+1,1,none⟩=some (.slice none 0 0):=(World.cell?_setCell_other (h:=by simp) ..).trans c2;have j3:((w.setCell ⟨r,0,none⟩ v).setCell ⟨r+1,0,none⟩ s).cell? ⟨r+1,1,none⟩=some (.slice none 0 0):=(World.cell?_setCell_other (h:=by simp) ..).trans j2;have i0:(w.setCell ⟨r,0,none⟩ v).cell? ⟨r,0,none⟩=some v:=by simp[go_sem,c0]
 have i1:((w.setCell ⟨r,0,none⟩ v).setCell ⟨r+1,0,none⟩ s).cell? ⟨r+1,0,none⟩=some s:=by simp[go_sem,j1]
 refine⟨⟨((h.setCell (Af c0) _).setCell (Af j1) _).setCell (Af j3) _,((k.setCell (Af c0) _).setCell (Af j1) _).setCell (Af j3) _,((hb.setCell hr _).setCell (by show _≤r+1;omega) _).setCell (by show _≤r+1;omega) _⟩,?_,?_,?_⟩
 ·exact(World.cell?_setCell_other (h:=by simp) ..).trans ((World.cell?_setCell_other (h:=by simp) ..).trans i0)
 ·exact(World.cell?_setCell_other (h:=by simp) ..).trans i1
 simp[go_sem,j3]
theorem IW(v:Value)(p q:Nat)(w:World)(h:Rt w v p q)(hp:RS p)(hq:RS q)(h0:p%q=0):
  Calls Tryz.prog 61 #[v] w (Hh w (p/q) 0 1):=by
 obtain⟨p1,m1,d1,p2,m2,d2,e0,_,hsnd⟩:=h.raw;subst e0;have HD:Hid (decide (p%q=0)=true):=decide_eq_true h0;have S0:Hid _:=(((A8 w).addF h).box (.slice p1 m1 d1) (.slice p2 m2 d2) 29 _ rfl).box1 (.slice none 0 0) 27 _ rfl;simp only[World.size_alloc]at S0;have S1:Hid _:=S0.out.box (.slice none 0 0) (.slice none 0 0) 29 _ rfl;simp only[World.size_alloc]at S1;obtain⟨w0,hw0⟩:=nme (((w.alloc (.cells #[.slice p1 m1 d1,.slice p2 m2 d2] 29)).alloc (.cells #[.slice none 0 0] 27)).alloc (.cells #[.slice none 0 0,.slice none 0 0] 29));have FZ:Hid (w0.frozen? ⟨w.heap.size+1,0,none⟩=false∧w0.frozen? ⟨w.heap.size+1+1,0,none⟩=false∧w0.frozen? ⟨w.heap.size+1+1,1,none⟩=false):=by
  rw[hw0];exact⟨by simp[go_sem],by simp[go_sem],by simp[go_sem]⟩
 have HH:Hid (RS p∧RS q∧RS (p%q)):=⟨hp,hq,hp.le (Nat.mod_le _ _)⟩;clear h hp hq h0 hsnd S0;go_enter Tryz.func61,Tryz.ntmps61
 go_wp2_with fail
 rw[←hw0]at S1;rw[←hw0];obtain⟨b2,hb2⟩:=nme w.heap.size;have HB:Hid (w.heap.size≤b2+1):=by show _≤_;omega
 rw[←hb2]at S1 FZ;rw[←hb2];clear hw0 hb2;refine(FD _ p q _ (S1.out.fr (.agg #[.slice p1 m1 d1,.slice p2 m2 d2]) p q) HH.out.1 HH.out.2.1).mono ?_;rintro e v4w ⟨v4,v5,rfl,hv,hu,hb⟩;obtain⟨a4,n4,c4,rfl⟩:=hv.isAgg;obtain⟨a5,n5,c5,rfl⟩:=hu.isAgg;have hbb:=Ae hb (Ad (o:=.cells #[.slice a5 n5 c5] 27) (Ad (o:=.cells #[.slice a4 n4 c4] 27) (Ag _)));have FZ:Hid (((v4w.alloc (.cells #[.slice a4 n4 c4] 27)).alloc (.cells #[.slice a5 n5 c5] 27)).frozen? ⟨b2+1,0,none⟩=false∧((v4w.alloc (.cells #[.slice a4 n4 c4] 27)).alloc (.cells #[.slice a5 n5 c5] 27)).frozen? ⟨b2+1+1,0,none⟩=false∧((v4w.alloc (.cells #[.slice a4 n4 c4] 27)).alloc (.cells #[.slice a5 n5 c5] 27)).frozen? ⟨b2+1+1,1,none⟩=false):=⟨(hbb.frozen (World.block_lt_of_cell? _ _ (S1.out.cel (b2+1) 0 (.slice none 0 0)))).trans FZ.out.1,(hbb.frozen (World.block_lt_of_cell? _ _ (S1.out.cel (b2+1+1) 0 (.slice none 0 0)))).trans FZ.out.2.1,(hbb.frozen (World.block_lt_of_cell? _ _ (S1.out.cel (b2+1+1) 1 (.slice none 0 0)))).trans FZ.out.2.2⟩;have S2:Hid _:=((((S1.out.go hb).addN hv).addN hu).box1 (.slice a4 n4 c4) 27 _ rfl).box1 (.slice a5 n5 c5) 27 _ rfl;have hlb:b2+1+1<v4w.heap.size:=World.block_lt_of_cell? _ _ (cell_later hb (S1.out.cel (b2+1+1) 0 (.slice none 0 0)));clear hv hu hb hbb S1;simp only[World.size_alloc]at S2;go_wp2_with fail
 obtain⟨w4,hw⟩:=nme ((v4w.alloc (.cells #[.slice a4 n4 c4] 27)).alloc (.cells #[.slice a5 n5 c5] 27));obtain⟨b4,hb⟩:=nme v4w.heap.size;rw[←hw,←hb]at S2;rw[←hb]at hlb;rw[←hw]at FZ;rw[←hw,←hb];clear hw hb;have IZ:=BP _ (p%q) _ (S2.out.at (.agg #[.slice a5 n5 c5]) (p%q)) HH.out.2.2.fits;rw[HD.out]at IZ;refine IZ.mono ?_;clear IZ;rintro e w9 ⟨rfl,hb⟩;have FZ:Hid (w9.frozen? ⟨b2+1,0,none⟩=false∧w9.frozen? ⟨b2+1+1,0,none⟩=false∧w9.frozen? ⟨b2+1+1,1,none⟩=false):=⟨(hb.frozen (World.block_lt_of_cell? _ _ (S2.out.cel (b2+1) 0 (.slice none 0 0)))).trans FZ.out.1,(hb.frozen (World.block_lt_of_cell? _ _ (S2.out.cel (b2+1+1) 0 (.slice none 0 0)))).trans FZ.out.2.1,(hb.frozen (World.block_lt_of_cell? _ _ (S2.out.cel (b2+1+1) 1 (.slice none 0 0)))).trans FZ.out.2.2⟩;have S3:Hid _:=S2.out.go hb;clear hb S2;have x0:=S3.out.cel (b2+1) 0 (.slice none 0 0);have x1:=S3.out.cel (b2+1+1) 0 (.slice none 0 0);have x2:=S3.out.cel (b2+1+1) 1 (.slice none 0 0);have f0:=FZ.out.1;have f1:=FZ.out.2.1;have f2:=FZ.out.2.2;have z4:=S3.out.cell b4 (.slice a4 n4 c4);have Z:Hid _:=LG (w0:=w) (v:=.slice a4 n4 c4) (s:=.slice none 0 0) (u:=.slice none 0 0) x0 x1 x2 (S3.out.at (.agg #[.slice a4 n4 c4]) (p/q)) (Cg _) S3.out.bel HB.out;obtain⟨_,l0,l1,l2⟩:=Z.out;clear S3 FZ hlb;go_wp2_with fail
 exact bodyPost_ret (v:=.tuple #[.agg #[.slice a4 n4 c4],.agg #[.slice none 0 0,.slice none 0 0]]) (by simp[results,Tryz.results61,go_sem,l0,l1,l2]) rfl ⟨_,_,rfl,Z.out.1.1,Z.out.1.2.1,Z.out.1.2.2⟩
theorem Jr(v:Value)(p q:Nat)(w:World)(h:Rt w v p q)(hp:RS p)(hq:RS q)(h0:p%q≠0):
  Calls Tryz.prog 61 #[v] w (Hh w (p/q) q (p%q)):=by
 obtain⟨p1,m1,d1,p2,m2,d2,e0,_,hsnd⟩:=h.raw;subst e0;have p0:p≠0:=fun e=>h0 (by rw[e];exact Nat.zero_mod _);rw[if_neg p0]at hsnd;have HG:Hid (Nat.gcd q (p%q)=1∧0<p%q∧q≠0):=⟨by rw[Nat.gcd_comm,←Nat.gcd_rec,Nat.gcd_comm];exact h.low,Nat.pos_of_ne_zero h0,by have:=h.pos;omega⟩;have HD:Hid (decide (p%q=0)=false):=decide_eq_false h0;have S0:Hid _:=((((A8 w).addF h).addN hsnd).box (.slice p1 m1 d1) (.slice p2 m2 d2) 29 _ rfl).box1 (.slice none 0 0) 27 _ rfl;simp only[World.size_alloc]at S0;have S1:Hid _:=S0.out.box (.slice none 0 0) (.slice none 0 0) 29 _ rfl;simp only[World.size_alloc]at S1;obtain⟨w0,hw0⟩:=nme (((w.alloc (.cells #[.slice p1 m1 d1,.slice p2 m2 d2] 29)).alloc (.cells #[.slice none 0 0] 27)).alloc (.cells #[.slice none 0 0,.slice none 0 0] 29));have FZ:Hid (w0.frozen? ⟨w.heap.size+1,0,none⟩=false∧w0.frozen? ⟨w.heap.size+1+1,0,none⟩=false∧w0.frozen? ⟨w.heap.size+1+1,1,none⟩=false):=by
  rw[hw0];exact⟨by simp[go_sem],by simp[go_sem],by simp[go_sem]⟩
 have HH:Hid (RS p∧RS q∧RS (p%q)):=⟨hp,hq,hp.le (Nat.mod_le _ _)⟩;clear h hp hq h0 hsnd S0 p0;go_enter Tryz.func61,Tryz.ntmps61
 go_wp2_with fail
 rw[←hw0]at S1;rw[←hw0];obtain⟨b2,hb2⟩:=nme w.heap.size;have HB:Hid (w.heap.size≤b2+1):=by show _≤_;omega
 rw[←hb2]at S1 FZ;rw[←hb2];clear hw0 hb2;refine(FD _ p q _ (S1.out.fr (.agg #[.slice p1 m1 d1,.slice p2 m2 d2]) p q) HH.out.1 HH.out.2.1).mono ?_;rintro e v4w ⟨v4,v5,rfl,hv,hu,hb⟩;obtain⟨a4,n4,c4,rfl⟩:=hv.isAgg;obtain⟨a5,n5,c5,rfl⟩:=hu.isAgg;have hbb:=Ae hb (Ad (o:=.cells #[.slice a5 n5 c5] 27) (Ad (o:=.cells #[.slice a4 n4 c4] 27) (Ag _)));have FZ:Hid (((v4w.alloc (.cells #[.slice a4 n4 c4] 27)).alloc (.cells #[.slice a5 n5 c5] 27)).frozen? ⟨b2+1,0,none⟩=false∧((v4w.alloc (.cells #[.slice a4 n4 c4] 27)).alloc (.cells #[.slice a5 n5 c5] 27)).frozen? ⟨b2+1+1,0,none⟩=false∧((v4w.alloc (.cells #[.slice a4 n4 c4] 27)).alloc (.cells #[.slice a5 n5 c5] 27)).frozen? ⟨b2+1+1,1,none⟩=false):=⟨(hbb.frozen (World.block_lt_of_cell? _ _ (S1.out.cel (b2+1) 0 (.slice none 0 0)))).trans FZ.out.1,(hbb.frozen (World.block_lt_of_cell? _ _ (S1.out.cel (b2+1+1) 0 (.slice none 0 0)))).trans FZ.out.2.1,(hbb.frozen (World.block_lt_of_cell? _ _ (S1.out.cel (b2+1+1) 1 (.slice none 0 0)))).trans FZ.out.2.2⟩;have S2:Hid _:=((((S1.out.go hb).addN hv).addN hu).box1 (.slice a4 n4 c4) 27 _ rfl).box1 (.slice a5 n5 c5) 27 _ rfl;have hlb:b2+1+1<v4w.heap.size:=World.block_lt_of_cell? _ _ (cell_later hb (S1.out.cel (b2+1+1) 0 (.slice none 0 0)));clear hv hu hb hbb S1;simp only[World.size_alloc]at S2;go_wp2_with fail
 obtain⟨w4,hw⟩:=nme ((v4w.alloc (.cells #[.slice a4 n4 c4] 27)).alloc (.cells #[.slice a5 n5 c5] 27));obtain⟨b4,hb⟩:=nme v4w.heap.size;rw[←hw,←hb]at S2;rw[←hb]at hlb;rw[←hw]at FZ;rw[←hw,←hb];clear hw hb;have IZ:=BP _ (p%q) _ (S2.out.at (.agg #[.slice a5 n5 c5]) (p%q)) HH.out.2.2.fits;rw[HD.out]at IZ;refine IZ.mono ?_;clear IZ;rintro e w9 ⟨rfl,hb⟩;have FZ:Hid (w9.frozen? ⟨b2+1,0,none⟩=false∧w9.frozen? ⟨b2+1+1,0,none⟩=false∧w9.frozen? ⟨b2+1+1,1,none⟩=false):=⟨(hb.frozen (World.block_lt_of_cell? _ _ (S2.out.cel (b2+1) 0 (.slice none 0 0)))).trans FZ.out.1,(hb.frozen (World.block_lt_of_cell? _ _ (S2.out.cel (b2+1+1) 0 (.slice none 0 0)))).trans FZ.out.2.1,(hb.frozen (World.block_lt_of_cell? _ _ (S2.out.cel (b2+1+1) 1 (.slice none 0 0)))).trans FZ.out.2.2⟩;have S3:Hid _:=S2.out.go hb;clear hb S2;have x0:=S3.out.cel (b2+1) 0 (.slice none 0 0);have x1:=S3.out.cel (b2+1+1) 0 (.slice none 0 0);have x2:=S3.out.cel (b2+1+1) 1 (.slice none 0 0);have f0:=FZ.out.1;have f1:=FZ.out.2.1;have f2:=FZ.out.2.2;have z4:=S3.out.cell b4 (.slice a4 n4 c4);have z5:=S3.out.cell (b4+1) (.slice a5 n5 c5);have z1:=S3.out.cel b2 0 (.slice p1 m1 d1);have z2:=S3.out.cel b2 1 (.slice p2 m2 d2);have TU:Rt w9 (.agg #[.slice p2 m2 d2,.slice a5 n5 c5]) q (p%q):=⟨⟨_,_,_,_,_,_,rfl,S3.out.at (.agg #[.slice p2 m2 d2]) q,by
  rw[if_neg HG.out.2.2];exact S3.out.at (.agg #[.slice a5 n5 c5]) (p%q)⟩,HG.out.2.1,HG.out.1⟩
 have Z:Hid _:=LG (w0:=w) (v:=.slice a4 n4 c4) (s:=.slice p2 m2 d2) (u:=.slice a5 n5 c5) x0 x1 x2 (S3.out.at (.agg #[.slice a4 n4 c4]) (p/q)) TU S3.out.bel HB.out;obtain⟨_,l0,l1,l2⟩:=Z.out;have nb1: ¬b2+1=b4:=by omega
 have nb2: ¬b2+1+1=b4:=by omega
 have nb3: ¬b2+1=b4+1:=by omega
 have nb4: ¬b2+1+1=b4+1:=by omega
 have nb5: ¬b4=b2+1:=by omega
 have nb6: ¬b4=b2+1+1:=by omega
 have nb7: ¬b4+1=b2+1:=by omega
 have nb8: ¬b4+1=b2+1+1:=by omega
 clear S3 FZ hlb TU;go_wp2_with fail
 go_region
 go_wp2_with fail
 refine bodyPost_ret (v:=.tuple #[.agg #[.slice a4 n4 c4],.agg #[.slice p2 m2 d2,.slice a5 n5 c5]]) (by simp[results,Tryz.results61,go_sem,l0,l1,l2]) rfl ?_;exact⟨_,_,rfl,Z.out.1.1.mono (Au (Ag _)),Z.out.1.2.1.mono (Au (Ag _)),Au Z.out.1.2.2⟩
def Btw(p q x y m n:Nat):Prop:=(p*n≤m*q∧m*y≤x*n)∨(x*n≤m*y∧m*q≤p*n)
structure CG (p q x y a b:Nat):Prop where
 mem:Btw p q x y a b
 least: ∀m n,0<n→Btw p q x y m n→a≤m∧b≤n
theorem LH{p q x y:Nat}(hq:0<q)(hg:Nat.gcd p q=1)(he:p*y=x*q)(hy:0<y):CG p q x y p q:=by
 refine⟨.inl ⟨Nat.le_refl _,by rw[he];exact Nat.le_refl _⟩,fun m n hn h=> ?_⟩;have e:p*n=m*q:=by
  rcases h with⟨h1,h2⟩| ⟨h1,h2⟩
  ·refine Nat.le_antisymm h1 (Nat.le_of_mul_le_mul_right (c:=y) ?_ hy);have h3:=Nat.mul_le_mul_right q h2;have e1:m*q*y=m*y*q:=by grind
   have e2:p*n*y=x*n*q:=by
    have:p*n*y=p*y*n:=by grind
    rw[this,he];grind
   rw[e1,e2];exact h3
  refine Nat.le_antisymm (Nat.le_of_mul_le_mul_right (c:=y) ?_ hy) h2;have h3:=Nat.mul_le_mul_right q h1;have e1:m*q*y=m*y*q:=by grind
  have e2:p*n*y=x*n*q:=by
   have:p*n*y=p*y*n:=by grind
   rw[this,he];grind
  rw[e1,e2];exact h3
 have hg':Nat.Coprime p q:=hg;obtain⟨t,ht⟩:q∣n:=hg'.symm.dvd_of_dvd_mul_left ⟨m,by rw[e,Nat.mul_comm]⟩;have t0:0<t:=by
  rcases Nat.eq_zero_or_pos t with e0|e0
  ·rw[e0]at ht;omega
  exact e0
 have em:m=p*t:=by
  refine Nat.eq_of_mul_eq_mul_right hq ?_;rw[←e,ht];grind
 rw[em,ht];exact⟨Nat.le_mul_of_pos_right _ t0,Nat.le_mul_of_pos_right _ t0⟩
theorem Gc{p q m:Nat}(hq:0<q):p≤m*q↔Av p q≤m:=by
 have hdm:=Nat.div_add_mod p q;have hml:=Nat.mod_lt p hq;unfold Av;constructor
 ·intro h;split
  ·exact Nat.div_le_of_le_mul (by rw[Nat.mul_comm];exact h)
  rename_i h0;refine Nat.succ_le_of_lt (Nat.lt_of_mul_lt_mul_left (a:=q) ?_);rw[Nat.mul_comm q m];omega
 intro h;split at h
 ·have:=Nat.mul_le_mul_left q h;rw[Nat.mul_comm q m]at this;omega
 have:=Nat.mul_le_mul_left q h;rw[Nat.mul_comm q m,Nat.mul_add,Nat.mul_one]at this;omega
theorem Hi(p q:Nat)(hq:0<q):p≤Av p q*q:=(Gc hq).2 (Nat.le_refl _)
theorem Fn{p q x y:Nat}(hq:0<q)(hy:0<y)(hle:p*y≤x*q)(h:p/q≠x/y∨p%q=0∨x%y=0):Av p q*y≤x:=by
 have hf:p/q≤x/y:=by
  rw[Nat.le_div_iff_mul_le hy];refine Nat.le_of_mul_le_mul_right (c:=q) ?_ hq;have h1:p/q*y*q=p/q*q*y:=by grind
  rw[h1];exact Nat.le_trans (Nat.mul_le_mul_right y (Nat.div_mul_le_self p q)) hle
 have hx:x/y*y≤x:=Nat.div_mul_le_self x y;unfold Av;split
 ·exact Nat.le_trans (Nat.mul_le_mul_right y hf) hx
 rename_i h0;by_cases hlt:p/q<x/y
 ·exact Nat.le_trans (Nat.mul_le_mul_right y hlt) hx
 have he:p/q=x/y:=by omega
 have hx0:x%y=0:=by
  rcases h with h|h|h
  ·exact absurd he h
  ·exact absurd h h0
  exact h
 exfalso;have d1:=Nat.div_add_mod p q;have d2:=Nat.div_add_mod x y;rw[hx0,Nat.add_zero]at d2;rw[he]at d1;have h3:p*y=(q*(x/y)+p%q)*y:=by rw[d1]
 have h4:x*q=y*(x/y)*q:=by rw[d2]
 rw[h3,h4,Nat.add_mul,show y*(x/y)*q=q*(x/y)*y by grind]at hle;have h5:0<p%q*y:=Nat.mul_pos (Nat.pos_of_ne_zero h0) hy;omega
theorem Btw.swap{p q x y m n:Nat}(h:Btw p q x y m n):Btw x y p q m n:=h.symm
theorem CG.swap{p q x y a b:Nat}(h:CG p q x y a b):CG x y p q a b:=⟨h.mem.swap,fun m n hn hb=>h.least m n hn hb.swap⟩
theorem EH{p q x y:Nat}(hq:0<q)(hy:0<y)(h:p/q≠x/y∨p%q=0∨x%y=0):CG p q x y (Min.min (Av p q) (Av x y)) 1:=by
 have key: ∀{p q x y:Nat},0<q→0<y→p*y≤x*q→(p/q≠x/y∨p%q=0∨x%y=0)→Min.min (Av p q) (Av x y)=Av p q∧Btw p q x y (Av p q) 1:=by
  intro p q x y hq hy hle h;have h1:=Fn hq hy hle h;have h2:Av p q≤Av x y:=by
   refine Nat.le_of_mul_le_mul_right (c:=y) ?_ hy;exact Nat.le_trans h1 (Hi x y hy)
  exact⟨Nat.min_eq_left h2,.inl ⟨by rw[Nat.mul_one];exact Hi p q hq,by rw[Nat.mul_one];exact h1⟩⟩
 refine⟨?_,fun m n hn hb=>⟨?_,hn⟩⟩
 ·rcases Nat.le_total (p*y) (x*q)with hle|hle
  ·obtain⟨e,hb⟩:=key hq hy hle h;rw[e];exact hb
  obtain⟨e,hb⟩:=key hy hq hle (by
   rcases h with h|h|h
   ·exact .inl (Ne.symm h)
   ·exact .inr (.inr h)
   exact .inr (.inl h))
  rw[Nat.min_comm,e];exact hb.swap
 have up: ∀{p q:Nat},0<q→p*n≤m*q→Av p q≤m:=fun {p q} hq h1=>(Gc hq).1 (Nat.le_trans (Nat.le_mul_of_pos_right _ hn) h1);rcases hb with⟨h1,_⟩| ⟨h1,_⟩
 ·exact Nat.le_trans (Nat.min_le_left _ _) (up hq h1)
 exact Nat.le_trans (Nat.min_le_right _ _) (up hy h1)
theorem FO{p q x y a b:Nat}(hq:0<q)(hy:0<y)(hf:p/q=x/y)(hu:p%q≠0)(hv:x%y≠0)(h:CG q (p%q) y (x%y) a b):CG p q x y (p/q*a+b) a:=by
 have d1:=Nat.div_add_mod p q;have d2:=Nat.div_add_mod x y;rw[←hf]at d2;generalize p/q=f at*;generalize p%q=u at*;generalize x%y=v at*;have e1:p=f*q+u:=by rw[←d1,Nat.mul_comm]
 have e2:x=f*y+v:=by rw[←d2,Nat.mul_comm]
 subst e1 e2;refine⟨?_,fun m n hn hb=> ?_⟩
 ·rcases h.mem with⟨h1,h2⟩| ⟨h1,h2⟩
  ·refine .inr ⟨?_,?_⟩
   ·rw[Nat.add_mul,Nat.add_mul,show f*y*a=f*a*y by grind,show v*a=a*v by grind,show b*y=y*b by grind];omega
   rw[Nat.add_mul,Nat.add_mul,show f*q*a=f*a*q by grind,show u*a=a*u by grind,show b*q=q*b by grind];omega
  refine .inl ⟨?_,?_⟩
  ·rw[Nat.add_mul,Nat.add_mul,show f*q*a=f*a*q by grind,show u*a=a*u by grind,show b*q=q*b by grind];omega
  rw[Nat.add_mul,Nat.add_mul,show f*y*a=f*a*y by grind,show v*a=a*v by grind,show b*y=y*b by grind];omega
 have low: ∀{q u:Nat},0<q→u≠0→(f*q+u)*n≤m*q→f*n≤m:=fun {q u} hq hu h1=>by
  refine Nat.le_of_mul_le_mul_right (c:=q) ?_ hq;rw[Nat.add_mul,show f*q*n=f*n*q by grind]at h1;omega
 have hm:f*n≤m:=by
  rcases hb with⟨h1,_⟩| ⟨h1,_⟩
  ·exact low hq hu h1
  exact low hy hv h1
 obtain⟨k,hk⟩: ∃k,m=f*n+k:=⟨m-f*n,by omega⟩;subst hk;have flip: ∀{q u:Nat},((f*q+u)*n≤(f*n+k)*q↔n*u≤q*k)∧((f*n+k)*q≤(f*q+u)*n↔q*k≤n*u):=fun {q u}=>by
  rw[Nat.add_mul,Nat.add_mul,show f*q*n=f*n*q by grind,show u*n=n*u by grind,show k*q=q*k by grind];omega
 have k0:0<k:=by
  rcases Nat.eq_zero_or_pos k with e|e
  ·exfalso;subst e;have p1:0<n*u:=Nat.mul_pos hn (Nat.pos_of_ne_zero hu);have p2:0<n*v:=Nat.mul_pos hn (Nat.pos_of_ne_zero hv);rcases hb with⟨h1,_⟩| ⟨h1,_⟩
   ·have:=flip.1.1 h1;omega
   have:=flip.1.1 h1;omega
  exact e
 have hB:Btw q u y v n k:=by
  rcases hb with⟨h1,h2⟩| ⟨h1,h2⟩
  ·exact .inr ⟨flip.2.1 h2,flip.1.1 h1⟩
  exact .inl ⟨flip.2.1 h2,flip.1.1 h1⟩
 obtain⟨g1,g2⟩:=h.least n k k0 hB;exact⟨Nat.add_le_add (Nat.mul_le_mul_left f g1) g2,g1⟩
structure Ahead (p0 q0 x0 y0 p q x y a b c d:Nat):Prop where
 q1:0<q
 y1:0<y
 back: ∀m n,0<n→Nat.gcd m n=1→CG p q x y m n→CG p0 q0 x0 y0 (a*m+b*n) (c*m+d*n)∧Nat.gcd (a*m+b*n) (c*m+d*n)=1∧0<c*m+d*n
 num:a*p+b*q=p0
 den:c*p+d*q=q0
 sz:a≤p0+1∧b≤p0+1∧c≤q0+1∧d≤q0+1
theorem Ahead.start{p q x y:Nat}(hq:0<q)(hy:0<y):Ahead p q x y p q x y 1 0 0 1:=by
 refine⟨hq,hy,fun m n hn hg hb=> ?_,by omega,by omega,by omega⟩;rw[show 1*m+0*n=m by omega,show 0*m+1*n=n by omega];exact⟨hb,hg,hn⟩
theorem Ahead.step{p0 q0 x0 y0 p q x y a b c d:Nat}(h:Ahead p0 q0 x0 y0 p q x y a b c d)(hf:p/q=x/y)(hu:p%q≠0)(hv:x%y≠0):Ahead p0 q0 x0 y0 q (p%q) y (x%y) (a*(p/q)+b) a (c*(p/q)+d) c:=by
 have d1:=Nat.div_add_mod p q;have hn:(a*(p/q)+b)*q+a*(p%q)=p0:=by
  rw[←h.num];have:a*p=a*(q*(p/q)+p%q):=by rw[d1]
  rw[this];grind
 have hd:(c*(p/q)+d)*q+c*(p%q)=q0:=by
  rw[←h.den];have:c*p=c*(q*(p/q)+p%q):=by rw[d1]
  rw[this];grind
 have up: ∀s t:Nat,0<t→s≤s*t:=fun s t ht=>Nat.le_mul_of_pos_right _ ht;refine⟨Nat.pos_of_ne_zero hu,Nat.pos_of_ne_zero hv,fun m n hn0 hg hb=> ?_,hn,hd,?_⟩
 ·have m0:0<m:=by
   rcases Nat.eq_zero_or_pos m with e|e
   ·exfalso;subst e;have k1:=Nat.mul_pos h.q1 hn0;have k2:=Nat.mul_pos h.y1 hn0;rcases hb.mem with⟨h1,_⟩| ⟨h1,_⟩<;>rw[Nat.zero_mul]at h1<;>omega
   exact e
  have hs:=FO h.q1 h.y1 hf hu hv hb;have hg2:Nat.gcd (p/q*m+n) m=1:=by
   rw[Nat.add_comm,Nat.gcd_add_mul_right_left,Nat.gcd_comm];exact hg
  obtain⟨r1,r2,r3⟩:=h.back _ _ m0 hg2 hs;have e1:a*(p/q*m+n)+b*m=(a*(p/q)+b)*m+a*n:=by grind
  have e2:c*(p/q*m+n)+d*m=(c*(p/q)+d)*m+c*n:=by grind
  rw[e1,e2]at r1 r2;rw[e2]at r3;exact⟨r1,r2,r3⟩
 have k1:=up (a*(p/q)+b) q h.q1;have k2:=up a (p%q) (Nat.pos_of_ne_zero hu);have k3:=up (c*(p/q)+d) q h.q1;have k4:=up c (p%q) (Nat.pos_of_ne_zero hu);omega
def RAt(w:World)(r p q:Nat):Prop:= ∃a n c a' n' c',w.cell? ⟨r,0,none⟩=some (.slice a n c)∧w.cell? ⟨r,1,none⟩=some (.slice a' n' c')∧w.frozen? ⟨r,0,none⟩=false∧w.frozen? ⟨r,1,none⟩=false∧Rt w (.agg #[.slice a n c,.slice a' n' c']) p q
def NAt(w:World)(r x:Nat):Prop:= ∃a n c,w.cell? ⟨r,0,none⟩=some (.slice a n c)∧w.frozen? ⟨r,0,none⟩=false∧Ac w (.agg #[.slice a n c]) x
def TAt(w:World)(r a b c d:Nat):Prop:= ∃t0 e0 k0 t1 e1 k1 t2 e2 k2 t3 e3 k3,(w.cell? ⟨r,0,none⟩=some (.slice t0 e0 k0)∧w.cell? ⟨r,1,none⟩=some (.slice t1 e1 k1)∧w.cell? ⟨r,2,none⟩=some (.slice t2 e2 k2)∧w.cell? ⟨r,3,none⟩=some (.slice t3 e3 k3))∧(w.frozen? ⟨r,0,none⟩=false∧w.frozen? ⟨r,1,none⟩=false∧w.frozen? ⟨r,2,none⟩=false∧w.frozen? ⟨r,3,none⟩=false)∧BZ w (.agg #[.slice t0 e0 k0,.slice t1 e1 k1,.slice t2 e2 k2,.slice t3 e3 k3]) a b c d
theorem C9{w w':World}{p:Addr}{v:Value}(hb:Below w.heap.size w w')(hc:w.cell? p=some v)(hf:w.frozen? p=false):w'.frozen? p=false:=(hb.frozen (World.block_lt_of_cell? _ _ hc)).trans hf
theorem RAt.go{w w':World}{r p q:Nat}(h:RAt w r p q)(hb:Below w.heap.size w w'):RAt w' r p q:=by
 obtain⟨a,n,c,a',n',c',c0,c1,f0,f1,hr⟩:=h;exact⟨a,n,c,a',n',c',cell_later hb c0,cell_later hb c1,C9 hb c0 f0,C9 hb c1 f1,hr.mono hb⟩
theorem NAt.go{w w':World}{r x:Nat}(h:NAt w r x)(hb:Below w.heap.size w w'):NAt w' r x:=by
 obtain⟨a,n,c,c0,f0,hr⟩:=h;exact⟨a,n,c,cell_later hb c0,C9 hb c0 f0,hr.mono hb⟩
theorem TAt.go{w w':World}{r a b c d:Nat}(h:TAt w r a b c d)(hb:Below w.heap.size w w'):TAt w' r a b c d:=by
 obtain⟨t0,e0,k0,t1,e1,k1,t2,e2,k2,t3,e3,k3,⟨c0,c1,c2,c3⟩,⟨f0,f1,f2,f3⟩,hr⟩:=h;exact⟨_,_,_,_,_,_,_,_,_,_,_,_,⟨cell_later hb c0,cell_later hb c1,cell_later hb c2,cell_later hb c3⟩,⟨C9 hb c0 f0,C9 hb c1 f1,C9 hb c2 f2,C9 hb c3 f3⟩,hr.mono hb⟩
theorem Ce{w:World}{g r i j:Nat}{u v:Value}(h:w.cell? ⟨r,i,none⟩=some v)(hg:r≠g):(w.setCell ⟨g,j,none⟩ u).cell? ⟨r,i,none⟩=some v:=by
 rw[World.cell?_setCell_far _ _ _ _ (by simpa using Ne.symm hg)];exact h
theorem RAt.far{w:World}{r p q g i:Nat}(h:RAt w r p q)(hg:r≠g){a:Option Addr}{n c:Nat}(hc:w.cell? ⟨g,i,none⟩=some (.slice a n c))(u:Value):RAt (w.setCell ⟨g,i,none⟩ u) r p q:=by
 obtain⟨a,n,c,a',n',c',c0,c1,f0,f1,hr⟩:=h;exact⟨a,n,c,a',n',c',Ce c0 hg,Ce c1 hg,by simp[World.frozen?_setCell,f0],by simp[World.frozen?_setCell,f1],hr.setCell (Af hc) u⟩
theorem NAt.far{w:World}{r x g i:Nat}(h:NAt w r x)(hg:r≠g){a:Option Addr}{n c:Nat}(hc:w.cell? ⟨g,i,none⟩=some (.slice a n c))(u:Value):NAt (w.setCell ⟨g,i,none⟩ u) r x:=by
 obtain⟨a,n,c,c0,f0,hr⟩:=h;exact⟨a,n,c,Ce c0 hg,by simp[World.frozen?_setCell,f0],hr.setCell (Af hc) u⟩
theorem TAt.far{w:World}{r a b c d g i:Nat}(h:TAt w r a b c d)(hg:r≠g){s:Option Addr}{n m:Nat}(hc:w.cell? ⟨g,i,none⟩=some (.slice s n m))(u:Value):TAt (w.setCell ⟨g,i,none⟩ u) r a b c d:=by
 obtain⟨t0,e0,k0,t1,e1,k1,t2,e2,k2,t3,e3,k3,⟨c0,c1,c2,c3⟩,⟨f0,f1,f2,f3⟩,hr⟩:=h;exact⟨_,_,_,_,_,_,_,_,_,_,_,_,⟨Ce c0 hg,Ce c1 hg,Ce c2 hg,Ce c3 hg⟩,⟨by simp[World.frozen?_setCell,f0],by simp[World.frozen?_setCell,f1],by simp[World.frozen?_setCell,f2],by simp[World.frozen?_setCell,f3]⟩,hr.setCell (Af hc) u⟩
theorem RAt.put{w:World}{r p q:Nat}(h:RAt w r p q){a:Option Addr}{n c:Nat}{a':Option Addr}{n' c':Nat}{p' q':Nat}(hv:Rt w (.agg #[.slice a n c,.slice a' n' c']) p' q'):RAt ((w.setCell ⟨r,0,none⟩ (.slice a n c)).setCell ⟨r,1,none⟩ (.slice a' n' c')) r p' q':=by
 obtain⟨b,m,d,b',m',d',c0,c1,f0,f1,_⟩:=h;obtain⟨n1,n2⟩:=Cv c0 c1 (.slice a n c);have hd:(w.setCell ⟨r,0,none⟩ (.slice a n c)).cell? ⟨r,1,none⟩=some (.slice b' m' d'):=by rw[World.cell?_setCell_other (h:=by simp),c1]
 refine⟨a,n,c,a',n',c',?_,by simp[go_sem,hd],by simp[World.frozen?_setCell,f0],by simp[World.frozen?_setCell,f1],(hv.setCell n1 _).setCell n2 _⟩;rw[World.cell?_setCell_other (h:=by simp)];simp[go_sem,c0]
theorem NAt.put{w:World}{r x:Nat}(h:NAt w r x){a:Option Addr}{n c y:Nat}(hv:Ac w (.agg #[.slice a n c]) y):NAt (w.setCell ⟨r,0,none⟩ (.slice a n c)) r y:=by
 obtain⟨b,m,d,c0,f0,_⟩:=h;exact⟨a,n,c,by simp[go_sem,c0],by simp[World.frozen?_setCell,f0],hv.setCell (Af c0) _⟩
theorem TAt.four{w:World}{r a b c d:Nat}(h:TAt w r a b c d):EM w r:=by
 obtain⟨t0,e0,k0,t1,e1,k1,t2,e2,k2,t3,e3,k3,⟨c0,c1,c2,c3⟩,⟨f0,f1,f2,f3⟩,hr⟩:=h;intro i hi;match i,hi with
 |0,_=>exact⟨⟨_,_,_,c0⟩,f0⟩
 |1,_=>exact⟨⟨_,_,_,c1⟩,f1⟩
 |2,_=>exact⟨⟨_,_,_,c2⟩,f2⟩
 |3,_=>exact⟨⟨_,_,_,c3⟩,f3⟩
theorem TAt.put{w w0:World}{r a b c d:Nat}(h:TAt w r a b c d){t0 t1 t2 t3:Option Addr}{e0 k0 e1 k1 e2 k2 e3 k3 a' b' c' d':Nat}(hv:BZ w (.agg #[.slice t0 e0 k0,.slice t1 e1 k1,.slice t2 e2 k2,.slice t3 e3 k3]) a' b' c' d')(hb:Below w0.heap.size w0 w)(hr:w0.heap.size≤r):TAt ((((w.setCell ⟨r,0,none⟩ (.slice t0 e0 k0)).setCell ⟨r,1,none⟩ (.slice t1 e1 k1)).setCell ⟨r,2,none⟩ (.slice t2 e2 k2)).setCell ⟨r,3,none⟩ (.slice t3 e3 k3)) r a' b' c' d':=by
 have h4:=h.four;obtain⟨⟨z1,_⟩,l0,l1,l2,l3⟩:=G6 (w0:=w0) (s0:=.slice t0 e0 k0) (s1:=.slice t1 e1 k1) (s2:=.slice t2 e2 k2) (s3:=.slice t3 e3 k3) h4 hv hb hr;have f0:=(h4 0 (by omega)).2;have f1:=(h4 1 (by omega)).2;have f2:=(h4 2 (by omega)).2;have f3:=(h4 3 (by omega)).2;exact⟨_,_,_,_,_,_,_,_,_,_,_,_,⟨l0,l1,l2,l3⟩,⟨by simp[World.frozen?_setCell,f0],by simp[World.frozen?_setCell,f1],by simp[World.frozen?_setCell,f2],by simp[World.frozen?_setCell,f3]⟩,z1⟩
theorem Da{p q x y a b a' b':Nat}(h:CG p q x y a b)(k:CG p q x y a' b')(hb:0<b)(hb':0<b'):a=a'∧b=b':=by
 obtain⟨h1,h2⟩:=h.least _ _ hb' k.mem;obtain⟨k1,k2⟩:=k.least _ _ hb h.mem;omega
theorem Ge: ∀(N p q x y:Nat),q≤N→0<q→0<y→Nat.gcd p q=1→Nat.gcd x y=1→ ∃a b,0<b∧Nat.gcd a b=1∧CG p q x y a b
 |0,p,q,x,y,hN,hq,hy,h1,h2=>by omega
 |N+1,p,q,x,y,hN,hq,hy,h1,h2=>by
  by_cases h:p/q≠x/y∨p%q=0∨x%y=0
  ·exact⟨_,1,by omega,Nat.gcd_one_right _,EH hq hy h⟩
  have hf:p/q=x/y:=Decidable.byContradiction fun e=>h (.inl e);have hu:p%q≠0:=fun e=>h (.inr (.inl e));have hv:x%y≠0:=fun e=>h (.inr (.inr e));have l1:=Nat.mod_lt p hq;obtain⟨a,b,hb,hg,hB⟩:=Ge N q (p%q) y (x%y) (by omega) (Nat.pos_of_ne_zero hu) (Nat.pos_of_ne_zero hv) (by rw[Nat.gcd_comm,←Nat.gcd_rec,Nat.gcd_comm];exact h1) (by rw[Nat.gcd_comm,←Nat.gcd_rec,Nat.gcd_comm];exact h2);have a0:0<a:=by
   rcases Nat.eq_zero_or_pos a with e|e
   ·exfalso;subst e;have k1:=Nat.mul_pos hq hb;have k2:=Nat.mul_pos hy hb;rcases hB.mem with⟨h1,_⟩| ⟨h1,_⟩<;>rw[Nat.zero_mul]at h1<;>omega
   exact e
  refine⟨p/q*a+b,a,a0,?_,FO hq hy hf hu hv hB⟩;rw[Nat.add_comm,Nat.gcd_add_mul_right_left,Nat.gcd_comm];exact hg
theorem Hj{p q x y a b:Nat}(h:CG p q x y a b)(hq:0<q)(hle:p*y≤x*q∨x*q≤p*y):a≤p∧b≤q:=by
 refine h.least p q hq ?_;rcases hle with e|e
 ·exact .inl ⟨Nat.le_refl _,e⟩
 exact .inr ⟨e,Nat.le_refl _⟩
theorem Ky{x y F:Nat}(hF:F=x/y)(hg:Nat.gcd x y=1):(x*1-F*y)/Nat.gcd (x*1-F*y) (y*1)=x%y∧(y*1)/Nat.gcd (x*1-F*y) (y*1)=y∧F*y≤x*1:=by
 have hd:=Nat.div_add_mod x y;have e:x*1-F*y=x%y:=by
  rw[hF,Nat.mul_comm (x/y)];omega
 have g1:Nat.gcd (x%y) (y*1)=1:=by
  rw[Nat.mul_one,Nat.gcd_comm,Nat.gcd_comm y,←Nat.gcd_rec,Nat.gcd_comm];exact hg
 rw[e,g1,Nat.div_one,Nat.div_one,Nat.mul_one];exact⟨rfl,rfl,by rw[hF,Nat.mul_comm,Nat.mul_one];omega⟩
theorem Hy{a b:Nat}(hg:Nat.gcd a b=1):(1*b)/Nat.gcd (1*b) (1*a)=b∧(1*a)/Nat.gcd (1*b) (1*a)=a:=by
 rw[Nat.one_mul,Nat.one_mul,Nat.gcd_comm,hg];exact⟨Nat.div_one _,Nat.div_one _⟩
theorem Hz{F a b:Nat}(hg:Nat.gcd a b=1):(F*a+b*1)/Nat.gcd (F*a+b*1) (1*a)=F*a+b∧(1*a)/Nat.gcd (F*a+b*1) (1*a)=a:=by
 have e:Nat.gcd (F*a+b*1) (1*a)=1:=by
  rw[Nat.mul_one,Nat.one_mul,Nat.add_comm,Nat.gcd_add_mul_right_left,Nat.gcd_comm];exact hg
 rw[e,Nat.div_one,Nat.div_one,Nat.mul_one,Nat.one_mul];exact⟨rfl,rfl⟩
theorem El{x y:Nat}(hg:Nat.gcd x y=1):Nat.gcd y (x%y)=1:=by
 rw[Nat.gcd_comm,←Nat.gcd_rec,Nat.gcd_comm];exact hg
theorem LI{p q x y:Nat}(hq:0<q)(hy:0<y)(hle:p*y≤x*q)(hc:Av p q*y≤x*1):CG p q x y (Av p q) 1:=by
 refine⟨.inl ⟨by rw[Nat.mul_one];exact Hi p q hq,by rw[Nat.mul_one]at hc⊢;exact hc⟩,fun m n hn hb=>⟨?_,hn⟩⟩;have up:p*n≤m*q→Av p q≤m:=fun h1=>(Gc hq).1 (Nat.le_trans (Nat.le_mul_of_pos_right _ hn) h1);rcases hb with⟨h1,_⟩| ⟨h1,h2⟩
 ·exact up h1
 refine up ?_
 ·refine Nat.le_of_mul_le_mul_right (c:=y) ?_ hy;have e1:p*n*y=p*y*n:=by grind
  have e2:m*q*y=m*y*q:=by grind
  rw[e1,e2];refine Nat.le_trans (Nat.mul_le_mul_right n hle) ?_;rw[show x*q*n=x*n*q by grind];exact Nat.mul_le_mul_right q h1
theorem LJ{p q x y:Nat}(hq:0<q)(hy:0<y)(hle:p*y≤x*q)(hc: ¬Av p q*y≤x*1):p/q=x/y∧p%q≠0∧x%y≠0:=by
 rw[Nat.mul_one]at hc;refine⟨Decidable.byContradiction fun e=>hc (Fn hq hy hle (.inl e)),fun e=>hc (Fn hq hy hle (.inr (.inl e))),fun e=>hc (Fn hq hy hle (.inr (.inr e)))⟩
theorem NG{p q x y:Nat}(hf:p/q=x/y)(hle:p*y≤x*q):y*(p%q)≤q*(x%y):=by
 have d1:=Nat.div_add_mod p q;have d2:=Nat.div_add_mod x y;rw[←hf]at d2;have h1:p*y=q*(p/q)*y+p%q*y:=by rw[←Nat.add_mul,d1]
 have h2:x*q=y*(p/q)*q+x%y*q:=by rw[←Nat.add_mul,d2]
 have h3:y*(p/q)*q=q*(p/q)*y:=by grind
 rw[h1,h2,h3]at hle;rw[Nat.mul_comm y,Nat.mul_comm q];omega
theorem FP(v u:Value)(x y F:Nat)(w:World)(h:RRt w v x y)(k:RRt w u F 1)(hx:RS x)(hy:RS y)(hF:F=x/y)(hy0:0<y)(hg:Nat.gcd x y=1):
  Calls Tryz.prog 67 #[v,u] w (Bc w (x%y) y):=by
 obtain⟨l1,l2,l3⟩:=Ky hF hg;have hf:RS F:=hx.le (by rw[hF];exact Nat.div_le_self _ _);have h1:RS 1:=Bn (by omega);have CM:=fun w' (hb:Below w.heap.size w w')=>Hv v u x y F 1 w' (h.mono hb) (k.mono hb) hx hy hf h1 hy0 (by omega) l3;simp only[l1,l2]at CM;obtain⟨p1,n1,c1,p2,n2,c2,e0,_,_⟩:=h;subst e0;obtain⟨p3,n3,c3,p4,n4,c4,e1,_,_⟩:=k;subst e1;obtain⟨w0,hw0⟩:=nme (((w.alloc (.cells #[.slice p1 n1 c1,.slice p2 n2 c2] 34)).alloc (.cells #[.slice p3 n3 c3,.slice p4 n4 c4] 34)).alloc (.cells #[.slice none 0 0,.slice none 0 0] 34));have B0:Below w.heap.size w w0:=by rw[hw0];exact Ad (Ad (Ad (Ag w)))
 have HC:Hid _:=CM w0 B0;have e6:w0.cell? ⟨w.heap.size+1+1,0,none⟩=some (.slice none 0 0):=by rw[hw0];simp[go_sem]
 have e7:w0.cell? ⟨w.heap.size+1+1,1,none⟩=some (.slice none 0 0):=by rw[hw0];simp[go_sem]
 have f6:w0.frozen? ⟨w.heap.size+1+1,0,none⟩=false:=by rw[hw0];simp[go_sem]
 have f7:w0.frozen? ⟨w.heap.size+1+1,1,none⟩=false:=by rw[hw0];simp[go_sem]
 have HB:Hid (Below w.heap.size w w0):=B0;clear CM B0 hx hy hF hy0 hg l1 l2 l3 hf h1;go_enter Tryz.func67,Tryz.ntmps67
 go_wp2_with fail
 rw[←hw0];obtain⟨b2,hb2⟩:=nme w.heap.size;have HL:Hid (w.heap.size≤b2+1+1):=by show _≤_;omega
 rw[←hb2]at e6 e7 f6 f7;rw[←hb2];clear hw0 hb2;refine Calls.mono HC.out ?_;rintro e w9 ⟨v9,rfl,⟨z1,m1,d1,z2,m2,d2,rfl,h6,h7⟩,hb9⟩;have b9:Below w9.heap.size w9 (w9.alloc (.cells #[.slice z1 m1 d1,.slice z2 m2 d2] 34)):=Ad (Ag w9);have b19:=Ae hb9 b9;have x0:=cell_later b19 e6;have x1:=cell_later b19 e7;have y0:=(b19.frozen (World.block_lt_of_cell? _ _ e6)).trans f6;have y1:=(b19.frozen (World.block_lt_of_cell? _ _ e7)).trans f7;have Z:Hid _:=AR (w0:=w) (v:=.slice z1 m1 d1) (u:=.slice z2 m2 d2) x0 x1 (V:=.agg #[.slice z1 m1 d1,.slice z2 m2 d2]) ⟨_,_,_,_,_,_,rfl,h6.mono b9,h7.mono b9⟩ (Ae HB.out b19) HL.out;obtain⟨l6,l7⟩:=AO (w0:=w) (p:=0) (q:=0) (a6:=z1) (n6:=m1) (k6:=d1) (a7:=z2) (n7:=m2) (k7:=d2) x0 x1;have z0:(w9.alloc (.cells #[.slice z1 m1 d1,.slice z2 m2 d2] 34)).cell? ⟨w9.heap.size,0,none⟩=some (.slice z1 m1 d1):=by simp[go_sem]
 have z1':(w9.alloc (.cells #[.slice z1 m1 d1,.slice z2 m2 d2] 34)).cell? ⟨w9.heap.size,1,none⟩=some (.slice z2 m2 d2):=by simp[go_sem]
 clear h6 h7 hb9 e6 e7 f6 f7 HB b9 b19;go_wp2_with fail
 exact bodyPost_ret (v:=.agg #[.slice z1 m1 d1,.slice z2 m2 d2]) (by simp[results,Tryz.results67,go_sem,l6,l7]) rfl ⟨_,rfl,Z.out.1,Z.out.2⟩
theorem IX(v u:Value)(a b:Nat)(w:World)(h:RRt w v 1 1)(k:RRt w u a b)(ha:RS a)(hb:RS b)(ha0:0<a)(hg:Nat.gcd a b=1):
  Calls Tryz.prog 28 #[v,u] w (A5 w b a true):=by
 have h1:RS 1:=Bn (by omega);have:=FK v u 1 1 a b w h k h1 h1 ha hb (by omega) ha0;rw[(Hy hg).1,(Hy hg).2]at this;exact this
theorem Js(v u:Value)(F a b:Nat)(w:World)(h:RRt w v F 1)(k:RRt w u b a)(hF:RS F)(ha:RS a)(hb:RS b)(ha0:0<a)(hg:Nat.gcd a b=1):
  Calls Tryz.prog 22 #[v,u] w (Bc w (F*a+b) a):=by
 have:=Ht v u F 1 b a w h k hF (Bn (by omega)) hb ha (by omega) ha0;rw[(Hz hg).1,(Hz hg).2]at this;exact this
end Go.Proofs.YtcbjkgphpnihiaaGreatDoor
