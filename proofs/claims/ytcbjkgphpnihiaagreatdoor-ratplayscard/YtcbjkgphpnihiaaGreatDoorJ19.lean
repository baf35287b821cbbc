/- Contracts of the program's functions, part 19: own work, joined in build order. -/
import Derived.Test.YtcbjkgphpnihiaaGreatDoorJ18
import Derived.Deep.LoopGhost
namespace Go.Proofs.YtcbjkgphpnihiaaGreatDoor
open Go.RowKit
set_option maxRecDepth 100000
set_option linter.unusedVariables false
set_option maxHeartbeats 16000000
theorem Jc{x y:Nat}(h:x<P 400)(k:y<P 400):x*y<P 800:=by
 rw[show 800=400+400 from rfl,DJ];exact Nat.mul_lt_mul'' h k
theorem LK(v u:Value)(p q x y:Nat)(w:World)(h:RRt w v p q)(k:RRt w u x y)(hp:p<P 400)(hq:q<P 400)(hx:x<P 400)(hy:y<P 400)(hq0:0<q)(hy0:0<y):
  Calls Tryz.prog 22 #[v,u] w (Bc w ((p*y+x*q)/Nat.gcd (p*y+x*q) (q*y)) ((q*y)/Nat.gcd (p*y+x*q) (q*y))):=by
 obtain⟨p1,n1,c1,p2,n2,c2,e0,g1,g2⟩:=h;subst e0;obtain⟨p3,n3,c3,p4,n4,c4,e1,g3,g4⟩:=k;subst e1;have S0:Hid _:=((((((A8 w).addM g1).addM g2).addM g3).addM g4).box (.slice p1 n1 c1) (.slice p2 n2 c2) 34 _ rfl).box (.slice p3 n3 c3) (.slice p4 n4 c4) 34 _ rfl;simp only[World.size_alloc]at S0;have S1:Hid _:=S0.out.box (.slice none 0 0) (.slice none 0 0) 34 _ rfl;simp only[World.size_alloc]at S1;obtain⟨w0,hw0⟩:=nme (((w.alloc (.cells #[.slice p1 n1 c1,.slice p2 n2 c2] 34)).alloc (.cells #[.slice p3 n3 c3,.slice p4 n4 c4] 34)).alloc (.cells #[.slice none 0 0,.slice none 0 0] 34));have f6:w0.frozen? ⟨w.heap.size+1+1,0,none⟩=false:=by rw[hw0];simp[go_sem]
 have f7:w0.frozen? ⟨w.heap.size+1+1,1,none⟩=false:=by rw[hw0];simp[go_sem]
 have m1:p*y<P 800:=Jc hp hy;have m2:x*q<P 800:=Jc hx hq;have m3:q*y<P 800:=Jc hq hy;have s1:Aw (p*y+x*q):=⟨Nat.lt_of_lt_of_le (by rw[←P_B];exact Ek m1 m2) (Cz (show 2*801≤1000000 by omega))⟩;have s2:Aw (q*y):=⟨Nat.lt_of_lt_of_le (by rw[←P_B];exact m3) (Cz (show 2*800≤1000000 by omega))⟩;have HH:Hid (AE p∧AE q∧AE x∧AE y∧AE (p*y)∧AE (x*q)∧Aw (p*y+x*q)∧Aw (q*y)∧0<q*y):=⟨BT hp (by omega),BT hq (by omega),BT hx (by omega),BT hy (by omega),BT m1 (by omega),BT m2 (by omega),s1,s2,Nat.mul_pos hq0 hy0⟩;clear g1 g2 g3 g4 hp hq hx hy hq0 hy0 s1 s2 S0 m1 m2 m3;go_enter Tryz.func22,Tryz.ntmps22
 go_wp2_with fail
 rw[←hw0]at S1;rw[←hw0];obtain⟨b2,hb2⟩:=nme w.heap.size;have HB:Hid (w.heap.size≤b2+1+1):=by show _≤_;omega
 rw[←hb2]at S1 f6 f7;rw[←hb2];clear hw0 hb2;have e6:=S1.out.cel (b2+1+1) 0 (.slice none 0 0);have e7:=S1.out.cel (b2+1+1) 1 (.slice none 0 0);refine Aj (JD w0 [sEq (.pointer (some ⟨b2,0,none⟩)),sR (p),sEq (.pointer (some ⟨b2+1,1,none⟩)),sR (y),sR (p*y),sEq (.pointer (some ⟨b2+1,0,none⟩)),sR (x),sEq (.pointer (some ⟨b2,1,none⟩)),sR (q),sR (x*q),sR (p*y+x*q),sEq (.pointer (some ⟨b2,1,none⟩)),sR (q),sEq (.pointer (some ⟨b2+1,1,none⟩)),sR (y),sR (q*y),Ax ((p*y+x*q)/Nat.gcd (p*y+x*q) (q*y)) ((q*y)/Nat.gcd (p*y+x*q) (q*y)),sAny] [[],[0],[],[2],[1,3],[],[5],[],[7],[6,8],[4,9],[],[11],[],[13],[12,14],[10,15],[16]] 17 16 [0,1,2,3,4,5,6,7,8,9,10,11,12,13,14,15,16] (Dl (b2+1+1))) 22 (by kernel_rfl) rfl (by kernel_rfl) (JD.start _ _ _ _ _ _ _) (fun HG HN=>⟨?_,?_,?_,?_,?_,?_,?_,?_,?_,?_,?_,?_,?_,?_,?_,?_,?_,?_,trivial⟩) ?_
 ·intro L vs a w' hJ hF hP hL;have hK:=hJ;have hJ:=hK.open hL (by decide);have q2:(a.tmps[2]?).getD undef=.pointer (some ⟨b2,0,none⟩):=hF.old 2 rfl;exact Aa (v:=.pointer (some ⟨b2,0,none⟩)) rfl (by simp[execOp,go_sem,q2]) ⟨_,rfl,hK.step hL (by decide) (by decide) rfl (Ah) <| hJ.step hL rfl (Below.refl _ _) (by exact rfl)⟩
 ·intro L vs a w' hJ hF hP hL;have hK:=hJ;have hJ:=hK.open hL (by decide);have p0:L 0=true:=hP ⟨0,.data⟩ (by simp) rfl;have s0:vs 0=.pointer (some ⟨b2,0,none⟩):=hJ.sp 0 p0;have q5:=hF.slot 0 5 rfl p0;have cb:=cell_later hJ.bel (S1.out.cel (b2) 0 (.slice p1 n1 c1));exact Aa (v:=.agg #[.slice p1 n1 c1]) rfl (by simp[execOp,go_sem,q5,s0,cb]) ⟨_,rfl,hK.step hL (by decide) (by decide) rfl (Ab p0 (Ah)) <| hJ.step hL rfl (Below.refl _ _) (by exact((S1.out.rat (.agg #[.slice p1 n1 c1]) (p)).mono hJ.bel))⟩
 ·intro L vs a w' hJ hF hP hL;have hK:=hJ;have hJ:=hK.open hL (by decide);have q3:(a.tmps[3]?).getD undef=.pointer (some ⟨b2+1,0,none⟩):=hF.old 3 rfl;exact Aa (v:=.pointer (some ⟨b2+1,1,none⟩)) rfl (by simp[execOp,go_sem,q3]) ⟨_,rfl,hK.step hL (by decide) (by decide) rfl (Ah) <| hJ.step hL rfl (Below.refl _ _) (by exact rfl)⟩
 ·intro L vs a w' hJ hF hP hL;have hK:=hJ;have hJ:=hK.open hL (by decide);have p2:L 2=true:=hP ⟨2,.data⟩ (by simp) rfl;have s2:vs 2=.pointer (some ⟨b2+1,1,none⟩):=hJ.sp 2 p2;have q7:=hF.slot 2 7 rfl p2;have cb:=cell_later hJ.bel (S1.out.cel (b2+1) 1 (.slice p4 n4 c4));exact Aa (v:=.agg #[.slice p4 n4 c4]) rfl (by simp[execOp,go_sem,q7,s2,cb]) ⟨_,rfl,hK.step hL (by decide) (by decide) rfl (Ab p2 (Ah)) <| hJ.step hL rfl (Below.refl _ _) (by exact((S1.out.rat (.agg #[.slice p4 n4 c4]) (y)).mono hJ.bel))⟩
 ·intro L vs a w' hJ hF hP hL;have hK:=hJ;have hJ:=hK.open hL (by decide);have p1:L 1=true:=hP ⟨1,.data⟩ (by simp) rfl;have s1:Ak w' (vs 1) (p):=hJ.sp 1 p1;have q6:=hF.slot 1 6 rfl p1;have p3:L 3=true:=hP ⟨3,.data⟩ (by simp) rfl;have s3:Ak w' (vs 3) (y):=hJ.sp 3 p3;have q8:=hF.slot 3 8 rfl p3;refine Ai (f:=54) (args:= #[vs 1,vs 3]) rfl (by simp[go_sem,q6,q8]) (A7 _ _ p y _ s1 s3 HH.out.1 HH.out.2.2.2.1) ?_;rintro e w2 ⟨v,rfl,hv,hb⟩;exact⟨_,rfl,_,rfl,hK.step hL (by decide) (by decide) rfl (Ab p1 (Ab p3 (Ah))) <| hJ.step hL rfl hb (by exact hv)⟩
 ·intro L vs a w' hJ hF hP hL;have hK:=hJ;have hJ:=hK.open hL (by decide);have q3:(a.tmps[3]?).getD undef=.pointer (some ⟨b2+1,0,none⟩):=hF.old 3 rfl;exact Aa (v:=.pointer (some ⟨b2+1,0,none⟩)) rfl (by simp[execOp,go_sem,q3]) ⟨_,rfl,hK.step hL (by decide) (by decide) rfl (Ah) <| hJ.step hL rfl (Below.refl _ _) (by exact rfl)⟩
 ·intro L vs a w' hJ hF hP hL;have hK:=hJ;have hJ:=hK.open hL (by decide);have p5:L 5=true:=hP ⟨5,.data⟩ (by simp) rfl;have s5:vs 5=.pointer (some ⟨b2+1,0,none⟩):=hJ.sp 5 p5;have q10:=hF.slot 5 10 rfl p5;have cb:=cell_later hJ.bel (S1.out.cel (b2+1) 0 (.slice p3 n3 c3));exact Aa (v:=.agg #[.slice p3 n3 c3]) rfl (by simp[execOp,go_sem,q10,s5,cb]) ⟨_,rfl,hK.step hL (by decide) (by decide) rfl (Ab p5 (Ah)) <| hJ.step hL rfl (Below.refl _ _) (by exact((S1.out.rat (.agg #[.slice p3 n3 c3]) (x)).mono hJ.bel))⟩
 ·intro L vs a w' hJ hF hP hL;have hK:=hJ;have hJ:=hK.open hL (by decide);have q2:(a.tmps[2]?).getD undef=.pointer (some ⟨b2,0,none⟩):=hF.old 2 rfl;exact Aa (v:=.pointer (some ⟨b2,1,none⟩)) rfl (by simp[execOp,go_sem,q2]) ⟨_,rfl,hK.step hL (by decide) (by decide) rfl (Ah) <| hJ.step hL rfl (Below.refl _ _) (by exact rfl)⟩
 ·intro L vs a w' hJ hF hP hL;have hK:=hJ;have hJ:=hK.open hL (by decide);have p7:L 7=true:=hP ⟨7,.data⟩ (by simp) rfl;have s7:vs 7=.pointer (some ⟨b2,1,none⟩):=hJ.sp 7 p7;have q12:=hF.slot 7 12 rfl p7;have cb:=cell_later hJ.bel (S1.out.cel (b2) 1 (.slice p2 n2 c2));exact Aa (v:=.agg #[.slice p2 n2 c2]) rfl (by simp[execOp,go_sem,q12,s7,cb]) ⟨_,rfl,hK.step hL (by decide) (by decide) rfl (Ab p7 (Ah)) <| hJ.step hL rfl (Below.refl _ _) (by exact((S1.out.rat (.agg #[.slice p2 n2 c2]) (q)).mono hJ.bel))⟩
 ·intro L vs a w' hJ hF hP hL;have hK:=hJ;have hJ:=hK.open hL (by decide);have p6:L 6=true:=hP ⟨6,.data⟩ (by simp) rfl;have s6:Ak w' (vs 6) (x):=hJ.sp 6 p6;have q11:=hF.slot 6 11 rfl p6;have p8:L 8=true:=hP ⟨8,.data⟩ (by simp) rfl;have s8:Ak w' (vs 8) (q):=hJ.sp 8 p8;have q13:=hF.slot 8 13 rfl p8;refine Ai (f:=54) (args:= #[vs 6,vs 8]) rfl (by simp[go_sem,q11,q13]) (A7 _ _ x q _ s6 s8 HH.out.2.2.1 HH.out.2.1) ?_;rintro e w2 ⟨v,rfl,hv,hb⟩;exact⟨_,rfl,_,rfl,hK.step hL (by decide) (by decide) rfl (Ab p6 (Ab p8 (Ah))) <| hJ.step hL rfl hb (by exact hv)⟩
 ·intro L vs a w' hJ hF hP hL;have hK:=hJ;have hJ:=hK.open hL (by decide);have p4:L 4=true:=hP ⟨4,.data⟩ (by simp) rfl;have s4:Ak w' (vs 4) (p*y):=hJ.sp 4 p4;have q9:=hF.slot 4 9 rfl p4;have p9:L 9=true:=hP ⟨9,.data⟩ (by simp) rfl;have s9:Ak w' (vs 9) (x*q):=hJ.sp 9 p9;have q14:=hF.slot 9 14 rfl p9;refine Ai (f:=53) (args:= #[vs 4,vs 9]) rfl (by simp[go_sem,q9,q14]) (FE _ _ (p*y) (x*q) _ s4 s9 HH.out.2.2.2.2.1 HH.out.2.2.2.2.2.1) ?_;rintro e w2 ⟨v,rfl,hv,hb⟩;exact⟨_,rfl,_,rfl,hK.step hL (by decide) (by decide) rfl (Ab p4 (Ab p9 (Ah))) <| hJ.step hL rfl hb (by exact hv)⟩
 ·intro L vs a w' hJ hF hP hL;have hK:=hJ;have hJ:=hK.open hL (by decide);have q2:(a.tmps[2]?).getD undef=.pointer (some ⟨b2,0,none⟩):=hF.old 2 rfl;exact Aa (v:=.pointer (some ⟨b2,1,none⟩)) rfl (by simp[execOp,go_sem,q2]) ⟨_,rfl,hK.step hL (by decide) (by decide) rfl (Ah) <| hJ.step hL rfl (Below.refl _ _) (by exact rfl)⟩
 ·intro L vs a w' hJ hF hP hL;have hK:=hJ;have hJ:=hK.open hL (by decide);have p11:L 11=true:=hP ⟨11,.data⟩ (by simp) rfl;have s11:vs 11=.pointer (some ⟨b2,1,none⟩):=hJ.sp 11 p11;have q16:=hF.slot 11 16 rfl p11;have cb:=cell_later hJ.bel (S1.out.cel (b2) 1 (.slice p2 n2 c2));exact Aa (v:=.agg #[.slice p2 n2 c2]) rfl (by simp[execOp,go_sem,q16,s11,cb]) ⟨_,rfl,hK.step hL (by decide) (by decide) rfl (Ab p11 (Ah)) <| hJ.step hL rfl (Below.refl _ _) (by exact((S1.out.rat (.agg #[.slice p2 n2 c2]) (q)).mono hJ.bel))⟩
 ·intro L vs a w' hJ hF hP hL;have hK:=hJ;have hJ:=hK.open hL (by decide);have q3:(a.tmps[3]?).getD undef=.pointer (some ⟨b2+1,0,none⟩):=hF.old 3 rfl;exact Aa (v:=.pointer (some ⟨b2+1,1,none⟩)) rfl (by simp[execOp,go_sem,q3]) ⟨_,rfl,hK.step hL (by decide) (by decide) rfl (Ah) <| hJ.step hL rfl (Below.refl _ _) (by exact rfl)⟩
 ·intro L vs a w' hJ hF hP hL;have hK:=hJ;have hJ:=hK.open hL (by decide);have p13:L 13=true:=hP ⟨13,.data⟩ (by simp) rfl;have s13:vs 13=.pointer (some ⟨b2+1,1,none⟩):=hJ.sp 13 p13;have q18:=hF.slot 13 18 rfl p13;have cb:=cell_later hJ.bel (S1.out.cel (b2+1) 1 (.slice p4 n4 c4));exact Aa (v:=.agg #[.slice p4 n4 c4]) rfl (by simp[execOp,go_sem,q18,s13,cb]) ⟨_,rfl,hK.step hL (by decide) (by decide) rfl (Ab p13 (Ah)) <| hJ.step hL rfl (Below.refl _ _) (by exact((S1.out.rat (.agg #[.slice p4 n4 c4]) (y)).mono hJ.bel))⟩
 ·intro L vs a w' hJ hF hP hL;have hK:=hJ;have hJ:=hK.open hL (by decide);have p12:L 12=true:=hP ⟨12,.data⟩ (by simp) rfl;have s12:Ak w' (vs 12) (q):=hJ.sp 12 p12;have q17:=hF.slot 12 17 rfl p12;have p14:L 14=true:=hP ⟨14,.data⟩ (by simp) rfl;have s14:Ak w' (vs 14) (y):=hJ.sp 14 p14;have q19:=hF.slot 14 19 rfl p14;refine Ai (f:=54) (args:= #[vs 12,vs 14]) rfl (by simp[go_sem,q17,q19]) (A7 _ _ q y _ s12 s14 HH.out.2.1 HH.out.2.2.2.1) ?_;rintro e w2 ⟨v,rfl,hv,hb⟩;exact⟨_,rfl,_,rfl,hK.step hL (by decide) (by decide) rfl (Ab p12 (Ab p14 (Ah))) <| hJ.step hL rfl hb (by exact hv)⟩
 ·intro L vs a w' hJ hF hP hL;have hK:=hJ;have hJ:=hK.open hL (by decide);have p10:L 10=true:=hP ⟨10,.data⟩ (by simp) rfl;have s10:Ak w' (vs 10) (p*y+x*q):=hJ.sp 10 p10;have q15:=hF.slot 10 15 rfl p10;have p15:L 15=true:=hP ⟨15,.data⟩ (by simp) rfl;have s15:Ak w' (vs 15) (q*y):=hJ.sp 15 p15;have q20:=hF.slot 15 20 rfl p15;refine Ai (f:=41) (args:= #[vs 10,vs 15]) rfl (by simp[go_sem,q15,q20]) (CU _ _ (p*y+x*q) (q*y) _ s10 s15 HH.out.2.2.2.2.2.2.1 HH.out.2.2.2.2.2.2.2.1 HH.out.2.2.2.2.2.2.2.2) ?_;rintro e w2 ⟨v,rfl,hv,hb⟩;exact⟨_,rfl,_,rfl,hK.step hL (by decide) (by decide) rfl (Ab p10 (Ab p15 (Ah))) <| hJ.step hL rfl hb (by exact hv)⟩
 ·intro L vs a w' hJ hF hP hL;have hK:=hJ;have hJ:=hK.core hL;have q4:(a.tmps[4]?).getD undef=.pointer (some ⟨b2+1+1,0,none⟩):=hF.old 4 rfl;have p16:L 16=true:=hP ⟨16,.data⟩ (by simp) rfl;have s16:RRt w' (vs 16) ((p*y+x*q)/Nat.gcd (p*y+x*q) (q*y)) ((q*y)/Nat.gcd (p*y+x*q) (q*y)):=hJ.sp 16 p16;have q21:=hF.slot 16 21 rfl p16;have p10:L 10=true:=hK.cl 16 p16 10 (by simp);have p4:L 4=true:=hK.cl 10 p10 4 (by simp);have p1:L 1=true:=hK.cl 4 p4 1 (by simp);have p0:L 0=true:=hK.cl 1 p1 0 (by simp);have p3:L 3=true:=hK.cl 4 p4 3 (by simp);have p2:L 2=true:=hK.cl 3 p3 2 (by simp);have p9:L 9=true:=hK.cl 10 p10 9 (by simp);have p6:L 6=true:=hK.cl 9 p9 6 (by simp);have p5:L 5=true:=hK.cl 6 p6 5 (by simp);have p8:L 8=true:=hK.cl 9 p9 8 (by simp);have p7:L 7=true:=hK.cl 8 p8 7 (by simp);have p15:L 15=true:=hK.cl 16 p16 15 (by simp);have p12:L 12=true:=hK.cl 15 p15 12 (by simp);have p11:L 11=true:=hK.cl 12 p12 11 (by simp);have p14:L 14=true:=hK.cl 15 p15 14 (by simp);have p13:L 13=true:=hK.cl 14 p14 13 (by simp);have x0:=cell_later hJ.bel e6;have y0:=(hJ.bel.frozen (World.block_lt_of_cell? _ _ e6)).trans f6;have x1:=cell_later hJ.bel e7;have y1:=(hJ.bel.frozen (World.block_lt_of_cell? _ _ e7)).trans f7;have s16':=s16;obtain⟨aa,nn,cc,a2,n2,c2,e8,_,_⟩:=s16';exact Al (w':=((w'.setCell ⟨b2+1+1,0,none⟩ (.slice aa nn cc)).setCell ⟨b2+1+1,1,none⟩ (.slice a2 n2 c2))) rfl (by simp[execOp,go_sem,q4,q21,e8,x0,y0,x1,y1]) ⟨undef,rfl,hK.put hL (by decide) rfl (Ab p16 (Ah)) (Ab p0 (Ab p1 (Ab p2 (Ab p3 (Ab p4 (Ab p5 (Ab p6 (Ab p7 (Ab p8 (Ab p9 (Ab p10 (Ab p11 (Ab p12 (Ab p13 (Ab p14 (Ab p15 (Ab p16 (Ah)))))))))))))))))) p16 ⟨_,_,e8,rfl⟩⟩
 intro L vs w' hA hK;obtain⟨_,w1,hb1,sv,u1,u2,ev,ew⟩:=hK.fin (hA 17 (by simp));replace sv:RRt w1 (vs 16) ((p*y+x*q)/Nat.gcd (p*y+x*q) (q*y)) ((q*y)/Nat.gcd (p*y+x*q) (q*y)):=sv;obtain⟨a6,n6,k6,a7,n7,k7,e8,h6,h7⟩:=sv;rw[e8]at ev;obtain⟨rfl,rfl⟩:u1=.slice a6 n6 k6∧u2=.slice a7 n7 k7:=by simpa[eq_comm]using ev
 have x0:=cell_later hb1 e6;have x1:=cell_later hb1 e7;have Z:Hid _:=AR (w0:=w) (v:=.slice a6 n6 k6) (u:=.slice a7 n7 k7) x0 x1 (V:=.agg #[.slice a6 n6 k6,.slice a7 n7 k7]) ⟨_,_,_,_,_,_,rfl,h6,h7⟩ (Ae S1.out.bel hb1) HB.out;obtain⟨l6,l7⟩:=AO (w0:=w) (p:=p) (q:=q) (a6:=a6) (n6:=n6) (k6:=k6) (a7:=a7) (n7:=n7) (k7:=k7) x0 x1;rw[←ew]at Z l6 l7;clear ew x0 x1 h6 h7 ev hb1 e8 hK hA e6 e7 f6 f7 S1;simp only[AC,Act.put,List.setIfInBounds_toArray,List.set_cons_zero,List.set_cons_succ,Nat.reduceAdd];go_wp2_with fail
 exact bodyPost_ret (v:=.agg #[.slice a6 n6 k6,.slice a7 n7 k7]) (by simp[results,Tryz.results22,go_sem,l6,l7]) rfl ⟨_,rfl,Z.out.1,Z.out.2⟩
def Bx(T:Nat→Nat×Nat):Nat→Nat×Nat
 |0=>(0,1)
 |k+1=>(((Bx T k).1*(T k).2+(T k).1*(Bx T k).2)/Nat.gcd ((Bx T k).1*(T k).2+(T k).1*(Bx T k).2) ((Bx T k).2*(T k).2),((Bx T k).2*(T k).2)/Nat.gcd ((Bx T k).1*(T k).2+(T k).1*(Bx T k).2) ((Bx T k).2*(T k).2))
def RFr(W:World)(g o L:Nat)(T:Nat→Nat×Nat):Prop:= ∀i,i<L→ ∃p1 n1 c1 p2 n2 c2,W.cell? ⟨g,o+i*2,none⟩=some (.slice p1 n1 c1)∧W.cell? ⟨g,o+i*2+1,none⟩=some (.slice p2 n2 c2)∧RRt W (.agg #[.slice p1 n1 c1,.slice p2 n2 c2]) (T i).1 (T i).2
theorem HU{w:World}{r:Nat}{b6 b7:Value}{u v:Value}(x0:w.cell? ⟨r,0,none⟩=some b6)(x1:w.cell? ⟨r,1,none⟩=some b7):
  ((w.setCell ⟨r,0,none⟩ u).setCell ⟨r,1,none⟩ v).cell? ⟨r,0,none⟩=some u∧((w.setCell ⟨r,0,none⟩ u).setCell ⟨r,1,none⟩ v).cell? ⟨r,1,none⟩=some v:=by
 have hd:(w.setCell ⟨r,0,none⟩ u).cell? ⟨r,1,none⟩=some b7:=by rw[World.cell?_setCell_other (h:=by simp),x1]
 constructor
 ·rw[World.cell?_setCell_other (h:=by simp)];simp[go_sem,x0]
 simp[go_sem,hd]
structure Su (w W:World) (r0 r:Nat) (k:Nat) (T:Nat→Nat×Nat) (s1:Option Addr) (m1 d1:Nat) (s2:Option Addr) (m2 d2:Nat):Prop where
 bel:Below w.heap.size w W
 a0:W.cell? ⟨r0,0,none⟩=some (.slice none 0 0)
 a1:W.cell? ⟨r0,1,none⟩=some (.slice none 0 0)
 f0:W.frozen? ⟨r0,0,none⟩=false
 f1:W.frozen? ⟨r0,1,none⟩=false
 c0:W.cell? ⟨r,0,none⟩=some (.slice s1 m1 d1)
 c1:W.cell? ⟨r,1,none⟩=some (.slice s2 m2 d2)
 g0:W.frozen? ⟨r,0,none⟩=false
 g1:W.frozen? ⟨r,1,none⟩=false
 val:RRt W (.agg #[.slice s1 m1 d1,.slice s2 m2 d2]) (Bx T k).1 (Bx T k).2
 ne:r0≠r
 lo:w.heap.size≤r0∧w.heap.size≤r
theorem Su.put{w W:World}{r0 r k:Nat}{T:Nat→Nat×Nat}{s1:Option Addr}{m1 d1:Nat}{s2:Option Addr}{m2 d2:Nat}(h:Su w W r0 r k T s1 m1 d1 s2 m2 d2){W2:World}(hb:Below W.heap.size W W2){y1:Option Addr}{k1 l1:Nat}{y2:Option Addr}{k2 l2:Nat}(hv:RRt W2 (.agg #[.slice y1 k1 l1,.slice y2 k2 l2]) (Bx T (k+1)).1 (Bx T (k+1)).2):
  Su w ((W2.setCell ⟨r,0,none⟩ (.slice y1 k1 l1)).setCell ⟨r,1,none⟩ (.slice y2 k2 l2)) r0 r (k+1) T y1 k1 l1 y2 k2 l2:=by
 have c0:=cell_later hb h.c0;have c1:=cell_later hb h.c1;obtain⟨l0,l1'⟩:=HU (u:=.slice y1 k1 l1) (v:=.slice y2 k2 l2) c0 c1;have hn: ∀(i j:Nat) (u:Value) (X:World),(X.setCell ⟨r,j,none⟩ u).cell? ⟨r0,i,none⟩=X.cell? ⟨r0,i,none⟩:=fun i j u X=>World.cell?_of_block (Below.heap_setCell _ _ _ _ h.ne);have hf: ∀(i j:Nat) (u:Value) (X:World),(X.setCell ⟨r,j,none⟩ u).frozen? ⟨r0,i,none⟩=X.frozen? ⟨r0,i,none⟩:=fun i j u X=>by simp[World.frozen?,show(X.setCell ⟨r,j,none⟩ u).heap[r0]? =X.heap[r0]? from Below.heap_setCell _ _ _ _ h.ne]
 obtain⟨z1,z2⟩:=AR (w0:=w) (v:=.slice y1 k1 l1) (u:=.slice y2 k2 l2) c0 c1 hv (Ae h.bel hb) h.lo.2;have fr: ∀i,((W2.setCell ⟨r,0,none⟩ (.slice y1 k1 l1)).setCell ⟨r,1,none⟩ (.slice y2 k2 l2)).frozen? ⟨r,i,none⟩=W2.frozen? ⟨r,i,none⟩:=fun i=>by simp[go_sem]
 exact⟨z2,by rw[hn,hn];exact cell_later hb h.a0,by rw[hn,hn];exact cell_later hb h.a1,by rw[hf,hf];exact(hb.frozen (World.block_lt_of_cell? _ _ h.a0)).trans h.f0,by rw[hf,hf];exact(hb.frozen (World.block_lt_of_cell? _ _ h.a1)).trans h.f1,l0,l1',(fr 0).trans ((hb.frozen (World.block_lt_of_cell? _ _ h.c0)).trans h.g0),(fr 1).trans ((hb.frozen (World.block_lt_of_cell? _ _ h.c1)).trans h.g1),z1,h.ne,h.lo⟩
theorem LM(g o L cap:Nat)(T:Nat→Nat×Nat)(w:World)(h:RFr w g o L T)(hL:L≤1000)(hc:L≤cap)(hcap:cap≤9223372036854775807)(hT: ∀i,i<L→(T i).1<P 400∧(T i).2<P 400∧0<(T i).2)(hS: ∀i,i≤L→(Bx T i).1<P 400∧(Bx T i).2<P 400∧0<(Bx T i).2):
  Calls Tryz.prog 34 #[.slice (some ⟨g,o,none⟩) L cap] w (Bc w (Bx T L).1 (Bx T L).2):=by
 have HH:Hid (RFr w g o L T∧(∀i,i<L→(T i).1<P 400∧(T i).2<P 400∧0<(T i).2)∧(∀i,i≤L→(Bx T i).1<P 400∧(Bx T i).2<P 400∧0<(Bx T i).2)):=⟨h,hT,hS⟩;clear h hT hS;obtain⟨W0,hW0⟩:=nme (w.alloc (.cells #[.slice none 0 0,.slice none 0 0] 34));obtain⟨r0,er0⟩:=nme w.heap.size;have B0:Below w.heap.size w W0:=by rw[hW0];exact Ad (Ag w)
 have a0:W0.cell? ⟨r0,0,none⟩=some (.slice none 0 0):=by rw[hW0,er0];simp[go_sem]
 have a1:W0.cell? ⟨r0,1,none⟩=some (.slice none 0 0):=by rw[hW0,er0];simp[go_sem]
 have f0:W0.frozen? ⟨r0,0,none⟩=false:=by rw[hW0,er0];simp[go_sem]
 have f1:W0.frozen? ⟨r0,1,none⟩=false:=by rw[hW0,er0];simp[go_sem]
 have HW:Hid (w.alloc (.cells #[.slice none 0 0,.slice none 0 0] 34)=W0∧w.heap.size=r0∧Below w.heap.size w W0):=⟨hW0.symm,er0.symm,B0⟩;clear hW0 er0 B0;go_enter Tryz.func34,Tryz.ntmps34
 go_wp2_with fail
 rw[HW.out.1,HW.out.2.1];refine Calls.mono (CA W0) ?_;rintro e w1 ⟨v1,rfl,hv1,hb1⟩;have hv2:=hv1;obtain⟨s1,m1,d1,s2,m2,d2,rfl,_,_⟩:=hv2;obtain⟨W1,hW1⟩:=nme (w1.alloc (.cells #[.slice s1 m1 d1,.slice s2 m2 d2] 34));obtain⟨r,er⟩:=nme w1.heap.size;have B1:Below w1.heap.size w1 W1:=by rw[hW1];exact Ad (Ag w1)
 have B01:=Ae hb1 B1;have S1:Hid (Su w W1 r0 r 0 T s1 m1 d1 s2 m2 d2):=by
  refine⟨Ae HW.out.2.2 B01,cell_later B01 a0,cell_later B01 a1,(B01.frozen (World.block_lt_of_cell? _ _ a0)).trans f0,(B01.frozen (World.block_lt_of_cell? _ _ a1)).trans f1,by rw[hW1,er];simp[go_sem],by rw[hW1,er];simp[go_sem],by rw[hW1,er];simp[go_sem],by rw[hW1,er];simp[go_sem],hv1.mono B1,?_,?_⟩
  ·have h2:=World.block_lt_of_cell? _ _ (cell_later hb1 a0);simp at h2;omega
  have h2:=HW.out.2.2.size;have h3:=hb1.size;have h4:=HW.out.2.1;omega
 have HW1:Hid (w1.alloc (.cells #[.slice s1 m1 d1,.slice s2 m2 d2] 34)=W1∧w1.heap.size=r):=⟨hW1.symm,er.symm⟩;clear hv1 hb1 B1 B01 hW1 er a0 a1 f0 f1;go_wp2_with fail
 rw[HW1.out.1,HW1.out.2];clear HW1;go_loopw [4] (fun i wr=> ∃(k:Nat) (s1:Option Addr) (m1 d1:Nat) (s2:Option Addr) (m2 d2:Nat),k≤L∧i=.int .i64 (k:Int)∧Hid (Su w wr r0 r k T s1 m1 d1 s2 m2 d2)) (fun i _=>L- (intOf i).toNat)
 case atStart=>exact⟨0,s1,m1,d1,s2,m2,d2,Nat.zero_le _,rfl,S1⟩
 case round=>
  obtain⟨k,s1,m1,d1,s2,m2,d2,hk,rfl,hSu⟩:=hrel;by_cases hlt:k<L
  ·have hk1:(k:Int)<(L:Int):=by omega
   obtain⟨p1,n1,c1,p2,n2,c2,t0,t1,ht⟩:=HH.out.1 k hlt;have BW:=hSu.out.bel;have x0:wr.drew.cell? ⟨g,o+k*2,none⟩=some (.slice p1 n1 c1):=(show wr.cell? _=_ from cell_later BW t0);have x1:wr.drew.cell? ⟨g,o+k*2+1,none⟩=some (.slice p2 n2 c2):=(show wr.cell? _=_ from cell_later BW t1);have y0:wr.drew.cell? ⟨r,0,none⟩=some (.slice s1 m1 d1):=hSu.out.c0;have y1:wr.drew.cell? ⟨r,1,none⟩=some (.slice s2 m2 d2):=hSu.out.c1;have BD:Below wr.heap.size wr wr.drew:=⟨rfl,rfl,rfl,Nat.le_refl _,fun _ _=>rfl⟩;have AD:Hid (Calls Tryz.prog 22 #[.agg #[.slice s1 m1 d1,.slice s2 m2 d2],.agg #[.slice p1 n1 c1,.slice p2 n2 c2]] wr.drew fun e w2=> ∃z1 k1 l1 z2 k2 l2,e=.returned (.agg #[.slice z1 k1 l1,.slice z2 k2 l2])∧w2.cell? ⟨r,0,none⟩=some (.slice s1 m1 d1)∧w2.cell? ⟨r,1,none⟩=some (.slice s2 m2 d2)∧w2.frozen? ⟨r,0,none⟩=false∧w2.frozen? ⟨r,1,none⟩=false∧Hid (Su w ((w2.setCell ⟨r,0,none⟩ (.slice z1 k1 l1)).setCell ⟨r,1,none⟩ (.slice z2 k2 l2)) r0 r (k+1) T z1 k1 l1 z2 k2 l2)):=by
    obtain⟨q1,q2,q3⟩:=HH.out.2.1 k hlt;obtain⟨q4,q5,q6⟩:=HH.out.2.2 k hk;refine(LK _ _ (Bx T k).1 (Bx T k).2 (T k).1 (T k).2 wr.drew (hSu.out.val.mono BD) (ht.mono (Ae BW BD)) q4 q5 q1 q2 q6 q3).mono ?_;rintro e w2 ⟨v2,rfl,hv2,hb2⟩;have hv3:=hv2;obtain⟨z1,k1,l1,z2,k2,l2,rfl,_,_⟩:=hv3;exact⟨z1,k1,l1,z2,k2,l2,rfl,cell_later hb2 y0,cell_later hb2 y1,(hb2.frozen (World.block_lt_of_cell? _ _ y0)).trans hSu.out.g0,(hb2.frozen (World.block_lt_of_cell? _ _ y1)).trans hSu.out.g1,hSu.out.put (Ae BD hb2) hv2⟩
   clear t0 t1 ht BW BD hSu;go_upto_region 5 with fail
   go_region_with (first| (go_at_call 22;refine Calls.mono AD.out ?_;rintro e w2 ⟨z1,k1,l1,z2,k2,l2,rfl,i0,i1,j0,j1,SU⟩))
   all_goals(
    have w5:IntKind.i64.wrap ((k:Int)+1)=(k:Int)+1:=by rw[IntKind.wrap_i64];omega
    clear i0 i1 j0 j1 AD x0 x1 y0 y1;go_wp2_with fail
    go_roundw
    case rel=>exact⟨k+1,z1,k1,l1,z2,k2,l2,by omega,by simp,SU⟩
    case measure=>simp[intOf];omega)
  obtain rfl:k=L:=by omega
  have c0:=hSu.out.c0;have c1:=hSu.out.c1;have a0:=hSu.out.a0;have a1:=hSu.out.a1;have f0:=hSu.out.f0;have f1:=hSu.out.f1;have Z:Hid _:=AR (w0:=w) (v:=.slice s1 m1 d1) (u:=.slice s2 m2 d2) a0 a1 hSu.out.val hSu.out.bel hSu.out.lo.1;obtain⟨l6,l7⟩:=HU (u:=.slice s1 m1 d1) (v:=.slice s2 m2 d2) a0 a1;clear hSu;go_wp2_with fail
  exact bodyPost_ret (v:=.agg #[.slice s1 m1 d1,.slice s2 m2 d2]) (by simp[results,Tryz.results34,go_sem,l6,l7]) rfl ⟨_,rfl,Z.out.1,Z.out.2⟩
def tP(p q:Nat):Nat:=if p%q=0 then 0 else q
def tQ(p q:Nat):Nat:=if p%q=0 then 1 else p%q
theorem G7(v:Value)(p q:Nat)(w:World)(h:Rt w v p q)(hp:RS p)(hq:RS q):Calls Tryz.prog 61 #[v] w (Hh w (p/q) (tP p q) (tQ p q)):=by
 unfold tP tQ;by_cases h0:p%q=0
 ·rw[if_pos h0,if_pos h0];exact IW v p q w h hp hq h0
 rw[if_neg h0,if_neg h0];exact Jr v p q w h hp hq h0
theorem Gf{p q:Nat}(hq:0<q):tP p q=0↔p%q=0:=by
 unfold tP;split
 ·rename_i h;exact⟨fun _=>h,fun _=>rfl⟩
 rename_i h;exact⟨fun e=>by omega,fun e=>absurd e h⟩
theorem DE{x:Nat}(h:x<P 47):RS x:=⟨Nat.lt_trans h (CQ (by omega))⟩
structure BSt (w0 w:World) (b b5 b7 p0 q0 x0 y0 p q x y g1 g2 g3 g4:Nat):Prop where
 r:RAt w b p q
 s:RAt w (b+1) x y
 o:RAt w (b+1+1) 0 1
 t:TAt w b5 g1 g2 g3 g4
 n:NAt w b7 q
 ah:Ahead p0 q0 x0 y0 p q x y g1 g2 g3 g4
 sz:p<P 47∧q<P 47∧x<P 47∧y<P 47
 bel:Below w0.heap.size w0 w
 ne:w0.heap.size≤b∧b+1+1<b5∧b5<b7
theorem BSt.go{w0 w w':World}{b b5 b7 p0 q0 x0 y0 p q x y g1 g2 g3 g4:Nat}(h:BSt w0 w b b5 b7 p0 q0 x0 y0 p q x y g1 g2 g3 g4)(hb:Below w.heap.size w w'):BSt w0 w' b b5 b7 p0 q0 x0 y0 p q x y g1 g2 g3 g4:=
 ⟨h.r.go hb,h.s.go hb,h.o.go hb,h.t.go hb,h.n.go hb,h.ah,h.sz,Ae h.bel hb,h.ne⟩
theorem BSt.small{w0 w:World}{b b5 b7 p0 q0 x0 y0 p q x y g1 g2 g3 g4:Nat}(h:BSt w0 w b b5 b7 p0 q0 x0 y0 p q x y g1 g2 g3 g4)(hp:p0<P 47)(hq:q0<P 47):RS g1∧RS g2∧RS g3∧RS g4:=by
 have h1:P 47<P 90:=CQ (by omega);have:=h.ah.sz;exact⟨⟨by omega⟩,⟨by omega⟩,⟨by omega⟩,⟨by omega⟩⟩
end Go.Proofs.YtcbjkgphpnihiaaGreatDoor
