/- Contracts of the program's functions, part 13: own work, joined in build order. -/
import Derived.Test.YtbikpmmpgbggaaaGreatDoorJ12
import Derived.Handy
namespace Go.Proofs.YtbikpmmpgbggaaaGreatDoor
open Go.RowKit
set_option maxRecDepth 100000
set_option linter.unusedVariables false
set_option maxHeartbeats 16000000
def szI(p q:Nat):Int:=(bitLen p:Int)- (bitLen q:Int)
def tfB(p q:Nat):Nat:=GV p q (flI p q (szI p q))
def tfV(p q:Nat):Nat:=if p=0 then 0 else if tfB p q<9218868437227405312 then tfB p q else 0
def BO(p q:Nat):Bool:=decide (p=0)||decide (tfB p q<9218868437227405312)
theorem KC{p q:Nat}(hp:0<p)(hq:0<q):At p q (flI p q (szI p q)):=by
 obtain⟨h1,h2⟩:=bitLen_spec p;obtain⟨k1,k2⟩:=bitLen_spec q;have p1:=ID hp;have q1:=ID hq;have:=Wz (p:=p) (q:=q) (a:=bitLen p-1) (b:=bitLen q-1) (h2 (by omega)) (by rw[show bitLen p-1+1=bitLen p by omega];exact h1) (k2 (by omega)) (by rw[show bitLen q-1+1=bitLen q by omega];exact k1);rw[show((bitLen p-1:Nat):Int)- ((bitLen q-1:Nat):Int)=szI p q by unfold szI;omega]at this;exact this
theorem KE(p q:Nat)(s:Int):flI p q s≤s∧s-1≤flI p q s:=by unfold flI;split<;>omega
theorem WB{p q:Nat}(hp:0<p)(hq:0<q)(h:szI p q< -1075):tfV p q=0∧BO p q=true:=by
 have h1:=(KC hp hq).bits_low hq (by have:=(KE p q (szI p q)).1;omega);unfold tfV BO tfB;rw[h1];simp
theorem Vu{p q:Nat}(hp:0<p)(hq:0<q)(h:1024<szI p q):tfV p q=0∧BO p q=false:=by
 have h1:=(KC hp hq).high hq (by have:=(KE p q (szI p q)).2;omega);unfold tfV BO tfB;rw[if_neg (by omega),if_neg (by omega)];simp;omega
theorem Li{p q:Nat}(hp:0<p)(h: ¬tfB p q<9218868437227405312):tfV p q=0∧BO p q=false:=by
 unfold tfV BO;rw[if_neg (by omega),if_neg h];simp;omega
theorem PY{p q:Nat}(hp:0<p)(h:tfB p q<9218868437227405312):tfV p q=tfB p q∧BO p q=true:=by
 unfold tfV BO;rw[if_neg (by omega),if_pos h];simp[h]
theorem Hu(v u:Value)(p q:Nat)(s:Int)(w:World)(h:Ac w v p)(k:Ac w u q)(hp:AE p)(hq:AE q)(h1: -16777216≤s)(h2:s≤16777216):
  Calls Tryz.prog 90 #[v,u,.int .i64 s] w (Ih w (upN p s) (dnN q s)):=by
 unfold upN dnN;by_cases hs:s<0
 ·have:=JL v u p q (-s).toNat s w h k hp (by omega) (by omega) (by omega);rw[show s.toNat=0 by omega,Nat.pow_zero,Nat.mul_one];exact this
 have:=JM v u p q s.toNat s w h k hq (by omega) (by omega);rw[show(-s).toNat=0 by omega,Nat.pow_zero,Nat.mul_one];exact this
theorem PZ{p n m:Nat}{s:Int}(h:p<P n)(hs: -64*(m:Int)<s)(hm:0<m):upN p s<P (n+m):=by
 unfold upN;rw[FU];exact Nat.mul_lt_mul'' h (by rw[DQ];exact Nat.pow_lt_pow_right (by omega) (by omega))
theorem TX{p n m:Nat}{s:Int}(h:p<P n)(hs:s<64*(m:Int))(hm:0<m):dnN p s<P (n+m):=by
 unfold dnN;rw[FU];exact Nat.mul_lt_mul'' h (by rw[DQ];exact Nat.pow_lt_pow_right (by omega) (by omega))
theorem TY{u:Int}{x y ct B:Nat}(hx:x=(u+1074).toNat)(hy:y=x*4503599627370496)(hB:y+ct=B)(h1: -1074≤u)(h2:x≤2046)(h3:ct≤9007199254740992):
  wrap64 (u+1074)=(x:Int)∧IntKind.u64.wrap (x:Int)=(x:Int)∧IntKind.u64.wrap ((x:Int)*4503599627370496)=(y:Int)∧IntKind.u64.wrap ((y:Int)+(ct:Int))=(B:Int):=
 ⟨by rw[IntWalk.wrap64_in _ ⟨by omega,by omega⟩];omega,by rw[IntKind.wrap_u64];omega,by rw[IntKind.wrap_u64];omega,by rw[IntKind.wrap_u64];omega⟩
theorem N8(v:Value)(p q:Nat)(w:World)(h:Rt w v p q)(hp:RS p)(hq:RS q)(hq0:0<q):
  Calls Tryz.prog 50 #[v] w fun e w'=>e=.returned (.tuple #[.float .f64 (tfV p q),.bool (BO p q)])∧Below w.heap.size w w':=by
 have h':=h;obtain⟨a,n,c,a',n',c',e0,_,_⟩:=h'.raw;subst e0;have S1:Hid _:=((Bp w).addF h).box (.slice a n c) (.slice a' n' c') 105 _ rfl;obtain⟨s,hs⟩:=nme (szI p q:Int);have lp:bitLen p≤5760:=GP hp.lt;have lq:bitLen q≤5760:=GP hq.lt;have m1:IntKind.i64.wrap ((bitLen p:Int)- (bitLen q:Int))=s:=by rw[IntKind.wrap_i64,hs];unfold szI;omega
 have HS:Hid (s=szI p q∧ -5760≤s∧s≤5760):=⟨hs,by rw[hs];unfold szI;omega,by rw[hs];unfold szI;omega⟩;have HH:Hid (RS p∧RS q∧0<q):=⟨hp,hq,hq0⟩;have HL:Hid (p≠0→0<bitLen p):=fun hh=>ID (by omega);clear h h' hp hq hq0 hs;go_enter Tryz.func50,Tryz.ntmps50
 go_wp2_with fail
 refine(Hk _ p q _ (S1.out.fr (.agg #[.slice a n c,.slice a' n' c']) p q) HH.out.2.1.fits).mono ?_;rintro e w1 ⟨v1,u1,rfl,hv1,hu1,hb1⟩;obtain⟨a1,n1,c1,rfl⟩:=hv1.isAgg;obtain⟨a2,n2,c2,rfl⟩:=hu1.isAgg;have S2:Hid _:=((((S1.out.go hb1).addN hv1).addN hu1).box1 (.slice a1 n1 c1) 103 _ rfl).box1 (.slice a2 n2 c2) 103 _ rfl;simp only[World.size_alloc]at S2;clear hv1 hu1 hb1 S1;go_wp2_with fail
 obtain⟨w2,hw2⟩:=nme ((w1.alloc (.cells #[.slice a1 n1 c1] 103)).alloc (.cells #[.slice a2 n2 c2] 103));obtain⟨g,hg⟩:=nme w1.heap.size;rw[←hw2,←hg]at S2;rw[←hw2,←hg];clear hw2 hg;refine Bg (JB w2 [DJ (p),sEq (.int .i64 ((bitLen p:Nat):Int)),DJ (q),sEq (.int .i64 ((bitLen q:Nat):Int)),sEq (.int .i64 s),sEq (.int .i64 s)] []) 71 (by kernel_rfl) rfl (by kernel_rfl) (JB.start _ _ _) (fun HG HN=>⟨?_,?_,?_,?_,?_,?_,trivial⟩) ?_
 ·intro L vs a w' hJ hF hP hL;have q4:(a.tmps[4]?).getD undef=.pointer (some ⟨g,0,none⟩):=hF.old 4 rfl;have cb:=cell_later hJ.bel (S2.out.cell (g) (.slice a1 n1 c1));exact Av (v:=.agg #[.slice a1 n1 c1]) rfl (by simp[execOp,go_sem,q4,cb]) ⟨_,rfl,hJ.step hL rfl (Below.refl _ _) (by exact((S2.out.at (.agg #[.slice a1 n1 c1]) (p)).mono hJ.bel))⟩
 ·intro L vs a w' hJ hF hP hL;have p0:L 0=true:=hP ⟨0,.data⟩ (by simp) rfl;have s0:Ac w' (vs 0) (p):=hJ.sp 0 p0;have q18:=hF.slot 0 18 rfl p0;refine AO (f:=89) (args:= #[vs 0]) rfl (by simp[go_sem,q18]) (Ec _ p _ s0 HH.out.1.fits) ?_;rintro e w2 ⟨rfl,hb⟩;exact⟨_,rfl,_,rfl,hJ.step hL rfl hb (by exact rfl)⟩
 ·intro L vs a w' hJ hF hP hL;have q5:(a.tmps[5]?).getD undef=.pointer (some ⟨g+1,0,none⟩):=hF.old 5 rfl;have cb:=cell_later hJ.bel (S2.out.cell (g+1) (.slice a2 n2 c2));exact Av (v:=.agg #[.slice a2 n2 c2]) rfl (by simp[execOp,go_sem,q5,cb]) ⟨_,rfl,hJ.step hL rfl (Below.refl _ _) (by exact((S2.out.at (.agg #[.slice a2 n2 c2]) (q)).mono hJ.bel))⟩
 ·intro L vs a w' hJ hF hP hL;have p2:L 2=true:=hP ⟨2,.data⟩ (by simp) rfl;have s2:Ac w' (vs 2) (q):=hJ.sp 2 p2;have q20:=hF.slot 2 20 rfl p2;refine AO (f:=89) (args:= #[vs 2]) rfl (by simp[go_sem,q20]) (Ec _ q _ s2 HH.out.2.1.fits) ?_;rintro e w2 ⟨rfl,hb⟩;exact⟨_,rfl,_,rfl,hJ.step hL rfl hb (by exact rfl)⟩
 ·intro L vs a w' hJ hF hP hL;have p1:L 1=true:=hP ⟨1,.data⟩ (by simp) rfl;have s1:vs 1=.int .i64 ((bitLen p:Nat):Int):=hJ.sp 1 p1;have q19:=hF.slot 1 19 rfl p1;have p3:L 3=true:=hP ⟨3,.data⟩ (by simp) rfl;have s3:vs 3=.int .i64 ((bitLen q:Nat):Int):=hJ.sp 3 p3;have q21:=hF.slot 3 21 rfl p3;exact Av (v:=.int .i64 s) rfl (by simp[execOp,go_sem,q19,s1,q21,s3,m1]) ⟨_,rfl,hJ.step hL rfl (Below.refl _ _) (by exact rfl)⟩
 ·intro L vs a w' hJ hF hP hL;have p4:L 4=true:=hP ⟨4,.data⟩ (by simp) rfl;have s4:vs 4=.int .i64 s:=hJ.sp 4 p4;have q22:=hF.slot 4 22 rfl p4;exact Av (v:=.int .i64 s) rfl (by simp[execOp,go_sem,q22,s4]) ⟨_,rfl,hJ.step hL rfl (Below.refl _ _) (by exact rfl)⟩
 intro L vs w' hA hJ;have s5:vs 5=.int .i64 s:=hJ.sp 5 (hA 5 (by simp));simp only[DU,Act.put,List.setIfInBounds_toArray,List.set_cons_zero,List.set_cons_succ,Nat.reduceAdd];simp only[s5];obtain⟨w3,ew3⟩:=nme w';have S3:Hid _:=S2.out.go (ew3▸hJ.bel:Below w2.heap.size w2 w3);rw[←ew3];clear ew3 hJ hA s5 S2 m1 lp lq;have k1:=S3.out.cel g 0 (.slice a1 n1 c1);go_wp2_with fail
 refine(Ec _ p _ (S3.out.at (.agg #[.slice a1 n1 c1]) p) HH.out.1.fits).mono ?_;rintro e w4 ⟨rfl,hb4⟩;have S4:Hid _:=S3.out.go hb4;clear hb4 S3 k1;by_cases h0:p=0
 ·have t1:bitLen p=0:=by rw[h0];exact Ed
  have HV:Hid (tfV p q=0∧BO p q=true):=by constructor<;>simp[tfV,BO,h0]
  rw[t1];clear h0 t1;go_wp2_with fail
  exact bodyPost_ret (v:=.tuple #[.float .f64 (0),.bool true]) (by simp[results,Tryz.results50,go_sem]) rfl ⟨by rw[HV.out.1,HV.out.2],S4.out.bel⟩
 obtain⟨l,hl⟩:=nmd (bitLen p);rw[hl];have t1:((l:Int)==0)=false:=by have:=HL.out h0;simp;omega
 have t2:decide ((l:Int)=0)=false:=by have:=HL.out h0;exact decide_eq_false (by omega)
 have HP:Hid (0<p):=by show _<_;omega
 clear h0 hl HL;by_cases h1:s< -1075
 ·have t3:decide (s< -1075)=true:=decide_eq_true h1;have HV:Hid (tfV p q=0∧BO p q=true):=WB HP.out HH.out.2.2 (by rw[←HS.out.1];exact h1);clear h1;go_wp2_with fail
  exact bodyPost_ret (v:=.tuple #[.float .f64 (0),.bool true]) (by simp[results,Tryz.results50,go_sem]) rfl ⟨by rw[HV.out.1,HV.out.2],S4.out.bel⟩
 have t3:decide (s< -1075)=false:=decide_eq_false h1;by_cases h2:1024<s
 ·have t4:decide (1024<s)=true:=decide_eq_true h2;have HV:Hid (tfV p q=0∧BO p q=false):=Vu HP.out HH.out.2.2 (by rw[←HS.out.1];exact h2);clear h1 h2;go_wp2_with fail
  exact bodyPost_ret (v:=.tuple #[.float .f64 (0),.bool false]) (by simp[results,Tryz.results50,go_sem]) rfl ⟨by rw[HV.out.1,HV.out.2],S4.out.bel⟩
 have t4:decide (1024<s)=false:=decide_eq_false h2;have HB:Hid (-1075≤s∧s≤1024):=⟨by omega,by omega⟩;have k1:=S4.out.cel g 0 (.slice a1 n1 c1);have k2:=S4.out.cel (g+1) 0 (.slice a2 n2 c2);clear h1 h2;go_wp2_with fail
 refine(Hu _ _ p q s _ (S4.out.at (.agg #[.slice a1 n1 c1]) p) (S4.out.at (.agg #[.slice a2 n2 c2]) q) HH.out.1.fits HH.out.2.1.fits (by have:=HB.out;omega) (by have:=HB.out;omega)).mono ?_;rintro e w5 ⟨v5,u5,rfl,hv5,hu5,hb5⟩;obtain⟨a5,n5,c5,rfl⟩:=hv5.isAgg;obtain⟨a6,n6,c6,rfl⟩:=hu5.isAgg;have S5:Hid _:=((((S4.out.go hb5).addN hv5).addN hu5).box1 (.slice a5 n5 c5) 103 _ rfl).box1 (.slice a6 n6 c6) 103 _ rfl;simp only[World.size_alloc]at S5;clear hv5 hu5 hb5 S4 k1 k2;go_wp2_with fail
 obtain⟨w6,hw6⟩:=nme ((w5.alloc (.cells #[.slice a5 n5 c5] 103)).alloc (.cells #[.slice a6 n6 c6] 103));rw[←hw6]at S5;rw[←hw6];clear hw6;obtain⟨z,hz⟩:=nmd (AW (upN p s) (dnN q s));obtain⟨f,hf⟩:=nme (flI p q s:Int);obtain⟨u,hu⟩:=nme (unI f:Int);have HF:Hid (f=flI p q s∧u=unI f∧(z<0↔upN p s<dnN q s)∧AW (upN p s) (dnN q s)=z):=⟨hf,hu,by rw[←hz];unfold AW;split<;>(try split)<;>omega,hz⟩;have SU:Hid (upN p s<P 107∧dnN q s<P 107):=⟨PZ (n:=90) (m:=17) HH.out.1.lt (by have:=HB.out;omega) (by omega),TX (n:=90) (m:=17) HH.out.2.1.lt (by have:=HB.out;omega) (by omega)⟩;clear hz hf hu;refine(UU _ _ (upN p s) (dnN q s) z _ (S5.out.at (.agg #[.slice a5 n5 c5]) (upN p s)) (S5.out.at (.agg #[.slice a6 n6 c6]) (dnN q s)) (BV SU.out.1 (by omega)) (BV SU.out.2 (by omega)) HF.out.2.2.2).mono ?_;rintro e w7 ⟨rfl,hb7⟩;have S7:Hid _:=S5.out.go hb7;clear hb7 S5 SU;have hAt:=KC HP.out HH.out.2.2;rw[←HS.out.1,←HF.out.1]at hAt;have hfb:=KE p q s;rw[←HF.out.1]at hfb;have hub: -1074≤u∧u≤972:=by rw[HF.out.2.1];have:=HB.out;unfold unI;split<;>omega
 have hct:=hAt.ct HH.out.2.2;rw[←HF.out.2.1]at hct;obtain⟨ct,ect⟩:=nme (ctN p q u);rw[←ect]at hct;obtain⟨B,hB⟩:=nme ((u+1074).toNat*4503599627370496+ct:Nat);have hTB:tfB p q=B:=by unfold tfB GV;rw[←HS.out.1,←HF.out.1,←HF.out.2.1,←ect,←hB]
 have k1:=S7.out.cel g 0 (.slice a1 n1 c1);have k2:=S7.out.cel (g+1) 0 (.slice a2 n2 c2);have g1:wrap64 (f-52)=f-52:=IntWalk.wrap64_in _ ⟨by have:=HB.out;omega,by have:=HB.out;omega⟩;have g2:(if f-52< -1074 then(-1074:Int) else f-52)=u:=by rw[HF.out.2.1];rfl
 have g3:max (f-52) (-1074)=u:=by rw[HF.out.2.1];unfold unI;split<;>omega
 obtain⟨x,hx⟩:=nme ((u+1074).toNat:Nat);obtain⟨y,hy⟩:=nme (x*4503599627370496:Nat);have hyB:y+ct=B:=by rw[hB,←hx,hy]
 have hx2:x≤2046:=by omega
 have hyl:y≤9214364837600034816:=by omega
 obtain⟨g4,g5,g6,g8⟩:=TY (u:=u) hx hy hyB hub.1 hx2 hct;have HC:Hid (ct<18446744073709551616∧upN p u<P 107∧dnN q u<P 107∧0<dnN q u∧ -16777216≤u∧u≤16777216∧ct=Dp (upN p u) (dnN q u)∧tfB p q=B):=⟨by omega,PZ (n:=90) (m:=17) HH.out.1.lt (by omega) (by omega),TX (n:=90) (m:=17) HH.out.2.1.lt (by omega) (by omega),Ee HH.out.2.2 u,by omega,by omega,ect,hTB⟩;have HG:Hid (wrap64 (f-52)=f-52):=g1;clear hAt hfb hub hct ect hTB hx hx2 hB g1 hy hyB hyl;by_cases h3:z<0
 ·have t5:decide (z<0)=true:=decide_eq_true h3;have t6:wrap64 (s-1)=f:=by rw[IntWalk.wrap64_in _ ⟨by have:=HB.out;omega,by have:=HB.out;omega⟩,HF.out.1];unfold flI;rw[if_pos (HF.out.2.2.1.1 h3)]
  have g1:=HG.out;clear h3;go_wp2_with fail
  refine(Hu _ _ p q u _ (S7.out.at (.agg #[.slice a1 n1 c1]) p) (S7.out.at (.agg #[.slice a2 n2 c2]) q) HH.out.1.fits HH.out.2.1.fits HC.out.2.2.2.2.1 HC.out.2.2.2.2.2.1).mono ?_;rintro e w8 ⟨v8,u8,rfl,hv8,hu8,hb8⟩;have S8:Hid _:=(((S7.out.go hb8).addN hv8).addN hu8);clear hv8 hu8 hb8 S7 k1 k2;go_wp2_with fail
  refine(JN v8 u8 (upN p u) (dnN q u) _ (S8.out.at v8 (upN p u)) (S8.out.at u8 (dnN q u)) (Cb HC.out.2.1 (by omega)) (Cb HC.out.2.2.1 (by omega)) HC.out.2.2.2.1).mono ?_;rintro e w9 ⟨v9,rfl,hv9,hb9⟩;rw[←HC.out.2.2.2.2.2.2.1]at hv9;have S9:Hid _:=(S8.out.go hb9).addN hv9;clear hv9 hb9 S8;go_wp2_with fail
  refine(Mw v9 ct _ (S9.out.at v9 ct) HC.out.1).mono ?_;rintro e w10 ⟨rfl,hb10⟩;have S10:Hid _:=S9.out.go hb10;clear hb10 S9;by_cases h3:B<9218868437227405312
  ·have t5:decide (9218868437227405312≤B)=false:=decide_eq_false (by omega);have t6:decide ((9218868437227405312:Int)≤(B:Int))=false:=decide_eq_false (by omega);have HV:Hid (tfV p q=B∧BO p q=true):=by have:=PY (q:=q) HP.out (by rw[HC.out.2.2.2.2.2.2.2];exact h3);rw[HC.out.2.2.2.2.2.2.2]at this;exact this
   clear h3;go_wp2_with fail
   refine(Jf B _).mono ?_;rintro e w11 ⟨rfl,hw11⟩;rw[hw11];clear hw11;go_wp2_with fail
   exact bodyPost_ret (v:=.tuple #[.float .f64 (B),.bool true]) (by simp[results,Tryz.results50,go_sem]) rfl ⟨by rw[HV.out.1,HV.out.2],S10.out.bel⟩
  have t5:decide (9218868437227405312≤B)=true:=decide_eq_true (by omega);have t6:decide ((9218868437227405312:Int)≤(B:Int))=true:=decide_eq_true (by omega);have HV:Hid (tfV p q=0∧BO p q=false):=Li HP.out (by rw[HC.out.2.2.2.2.2.2.2];exact h3);clear h3;go_wp2_with fail
  exact bodyPost_ret (v:=.tuple #[.float .f64 (0),.bool false]) (by simp[results,Tryz.results50,go_sem]) rfl ⟨by rw[HV.out.1,HV.out.2],S10.out.bel⟩
 have t5:decide (z<0)=false:=decide_eq_false h3;obtain rfl:f=s:=by rw[HF.out.1];unfold flI;rw[if_neg (fun hh=>h3 (HF.out.2.2.1.2 hh))]
 have g1:=HG.out;clear h3;go_wp2_with fail
 refine(Hu _ _ p q u _ (S7.out.at (.agg #[.slice a1 n1 c1]) p) (S7.out.at (.agg #[.slice a2 n2 c2]) q) HH.out.1.fits HH.out.2.1.fits HC.out.2.2.2.2.1 HC.out.2.2.2.2.2.1).mono ?_;rintro e w8 ⟨v8,u8,rfl,hv8,hu8,hb8⟩;have S8:Hid _:=(((S7.out.go hb8).addN hv8).addN hu8);clear hv8 hu8 hb8 S7 k1 k2;go_wp2_with fail
 refine(JN v8 u8 (upN p u) (dnN q u) _ (S8.out.at v8 (upN p u)) (S8.out.at u8 (dnN q u)) (Cb HC.out.2.1 (by omega)) (Cb HC.out.2.2.1 (by omega)) HC.out.2.2.2.1).mono ?_;rintro e w9 ⟨v9,rfl,hv9,hb9⟩;rw[←HC.out.2.2.2.2.2.2.1]at hv9;have S9:Hid _:=(S8.out.go hb9).addN hv9;clear hv9 hb9 S8;go_wp2_with fail
 refine(Mw v9 ct _ (S9.out.at v9 ct) HC.out.1).mono ?_;rintro e w10 ⟨rfl,hb10⟩;have S10:Hid _:=S9.out.go hb10;clear hb10 S9;by_cases h3:B<9218868437227405312
 ·have t5:decide (9218868437227405312≤B)=false:=decide_eq_false (by omega);have t6:decide ((9218868437227405312:Int)≤(B:Int))=false:=decide_eq_false (by omega);have HV:Hid (tfV p q=B∧BO p q=true):=by have:=PY (q:=q) HP.out (by rw[HC.out.2.2.2.2.2.2.2];exact h3);rw[HC.out.2.2.2.2.2.2.2]at this;exact this
  clear h3;go_wp2_with fail
  refine(Jf B _).mono ?_;rintro e w11 ⟨rfl,hw11⟩;rw[hw11];clear hw11;go_wp2_with fail
  exact bodyPost_ret (v:=.tuple #[.float .f64 (B),.bool true]) (by simp[results,Tryz.results50,go_sem]) rfl ⟨by rw[HV.out.1,HV.out.2],S10.out.bel⟩
 have t5:decide (9218868437227405312≤B)=true:=decide_eq_true (by omega);have t6:decide ((9218868437227405312:Int)≤(B:Int))=true:=decide_eq_true (by omega);have HV:Hid (tfV p q=0∧BO p q=false):=Li HP.out (by rw[HC.out.2.2.2.2.2.2.2];exact h3);clear h3;go_wp2_with fail
 exact bodyPost_ret (v:=.tuple #[.float .f64 (0),.bool false]) (by simp[results,Tryz.results50,go_sem]) rfl ⟨by rw[HV.out.1,HV.out.2],S10.out.bel⟩
theorem Bx{n:Nat}(h:n≤1500):10^n<P 90:=by
 exact Nat.lt_of_le_of_lt (Nat.pow_le_pow_right (by omega) h) (by decide+kernel:10^1500<P 90)
theorem TZ{x y m X:Nat}(h:x*y^m=X)(hm:m%2=0):x*(y*y)^(m/2)=X:=by
 rw[←h,←Nat.pow_two,←Nat.pow_mul];congr 2
 omega
theorem Vv{x y m X:Nat}(h:x*y^m=X)(hm:m%2=1):x*y*(y*y)^(m/2)=X:=by
 rw[←h,←Nat.pow_two,←Nat.pow_mul,Nat.mul_assoc,←Nat.pow_succ'];congr 2
 omega
theorem Vw{x y m X:Nat}(h:x*y^m=X)(hy:0<y):x≤X:=by
 rw[←h];exact Nat.le_mul_of_pos_right _ (Nat.pow_pos hy)
theorem Vx{x y m X:Nat}(h:x*y^m=X)(hx:0<x)(hy:0<y)(hm:0<m):y≤X:=by
 rw[←h];have h1:y^1≤y^m:=Nat.pow_le_pow_right hy hm;rw[Nat.pow_one]at h1;exact Nat.le_trans h1 (Nat.le_mul_of_pos_left _ hx)
def P6(w:World)(b g n:Nat)(wr:World)(m x y:Nat)(a1:Option Addr)(n1 c1:Nat)(a2:Option Addr)(n2 c2:Nat):Prop:=
 x*y^m=10^n∧0<x∧0<y∧SY w wr [(.agg #[.slice a1 n1 c1],x),(.agg #[.slice a2 n2 c2],y)] [] [] [] [(g,0,.slice a1 n1 c1),(g+1,0,.slice a2 n2 c2),(b,0,.slice none 0 0)] [g,g+1,b]∧b<g
theorem Hm(n:Nat)(w:World)(hn:n≤1500):
  Calls Tryz.prog 115 #[.int .i64 (n:Int)] w (Dk w (10^n)):=by
 have S0:Hid _:=(Bp w).box1 (.slice none 0 0) 103 _ rfl;have HX:Hid (n≤1500∧10^n<P 90):=⟨hn,Bx hn⟩;go_enter Tryz.func115,Tryz.ntmps115
 go_wp2_with fail
 refine(Dj 1 _ (by omega)).mono ?_;rintro e w1 ⟨v1,rfl,hv1,hb1⟩;obtain⟨a1,n1,c1,rfl⟩:=hv1.isAgg;have S1:Hid _:=(S0.out.go hb1).addN hv1;clear hv1 hb1 S0;go_wp2_with fail
 refine(Dj 10 _ (by omega)).mono ?_;rintro e w2 ⟨v2,rfl,hv2,hb2⟩;obtain⟨a2,n2,c2,rfl⟩:=hv2.isAgg;have S2:Hid _:=(((S1.out.go hb2).addN hv2).box1 (.slice a1 n1 c1) 103 _ rfl).box1 (.slice a2 n2 c2) 103 _ rfl;simp only[World.size_alloc]at S2;have HB:Hid (w.heap.size<w2.heap.size):=(S1.out.go hb2).lt w.heap.size;clear hv2 hb2 S1;go_wp2_with fail
 obtain⟨w3,hw3⟩:=nme ((w2.alloc (.cells #[.slice a1 n1 c1] 103)).alloc (.cells #[.slice a2 n2 c2] 103));obtain⟨g,hg⟩:=nme w2.heap.size;obtain⟨b,hb⟩:=nme w.heap.size;rw[←hw3,←hg,←hb]at S2;rw[←hw3,←hg,←hb];have hbg:b<g:=by rw[hg,hb];exact HB.out
 clear hw3 hg hb;have A0:Hid (P6 w b g n w3 n 1 10 a1 n1 c1 a2 n2 c2):=⟨by rw[Nat.one_mul],by omega,by omega,S2.out.sub _ _ _ _ _ _ (by simp) (by simp) (by simp) (by simp) (by simp) (by simp),hbg⟩;clear S2 hbg;go_loopw [0] (fun t wr=> ∃(m x y:Nat) (a1:Option Addr) (n1 c1:Nat) (a2:Option Addr) (n2 c2:Nat),t=.int .i64 (m:Int)∧m≤1500∧P6 w b g n wr m x y a1 n1 c1 a2 n2 c2) (fun t _=>(intOf t).toNat)
 case atStart=>exact⟨n,1,10,_,_,_,_,_,_,rfl,HX.out.1,A0.out⟩
 case round=>
  clear A0;obtain⟨m,x,y,a1,n1,c1,a2,n2,c2,rfl,hm,hT⟩:=hrel;have I:Hid _:=hT;clear hT;have k1:=I.out.2.2.2.1.cel g 0 (.slice a1 n1 c1);have k2:=I.out.2.2.2.1.cel (g+1) 0 (.slice a2 n2 c2);have k3:=I.out.2.2.2.1.cel b 0 (.slice none 0 0);have f1:=I.out.2.2.2.1.fz g 0;have f2:=I.out.2.2.2.1.fz (g+1) 0;have f3:=I.out.2.2.2.1.fz b 0;by_cases h0:0<m
  ·obtain⟨q,hq⟩: ∃q,q=m/2:=⟨_,rfl⟩;have r2:(m:Int).tdiv 2=(q:Int):=by rw[Int.tdiv_eq_ediv_of_nonneg (by omega)];omega
   have r3:IntKind.i64.wrap (q:Int)=(q:Int):=by rw[IntKind.wrap_i64];omega
   have d0:decide (0<(m:Int))=true:=decide_eq_true (by omega);have HQ:Hid (q=m/2):=hq;have HM:Hid (0<m):=h0;clear hq h0;have sy:Hid (y<P 90):=Nat.lt_of_le_of_lt (Vx I.out.1 I.out.2.1 I.out.2.2.1 HM.out) HX.out.2;have sx:Hid (x<P 90):=Nat.lt_of_le_of_lt (Vw I.out.1 I.out.2.2.1) HX.out.2;by_cases ho:m%2=1
   ·have d3:(m:Int).tmod 2=1:=by rw[Int.tmod_eq_emod_of_nonneg (by omega)];omega
    have HO:Hid (m%2=1):=ho;clear ho;go_wp2_with fail
    refine(DO _ _ x y _ (I.out.2.2.2.1.at (.agg #[.slice a1 n1 c1]) x) (I.out.2.2.2.1.at (.agg #[.slice a2 n2 c2]) y) (BV sx.out (by omega)) (BV sy.out (by omega)) (.inl (Cb sx.out (by omega)))).mono ?_;rintro e w4 ⟨v4,rfl,hv4,hb4⟩;obtain⟨a4,n4,c4,rfl⟩:=hv4.isAgg;have J:Hid _:=(I.out.2.2.2.1.go hb4).addN hv4;clear hv4 hb4 k1 k2 k3 f1 f2 f3;have k1:=J.out.cel g 0 (.slice a1 n1 c1);have k2:=J.out.cel (g+1) 0 (.slice a2 n2 c2);have f1:=J.out.fz g 0;have f2:=J.out.fz (g+1) 0;have K:Hid _:=(J.out.set (b:=g) (i:=0) k1 (J.out.lo g) [(g+1,0,.slice a2 n2 c2),(b,0,.slice none 0 0)] (by have:=I.out.2.2.2.2;simp;omega) (.slice a4 n4 c4)).addC (b:=g) (i:=0) (v:=.slice a4 n4 c4) (by simp[go_sem,k1]);have k5:(w4.setCell ⟨g,0,none⟩ (.slice a4 n4 c4)).cell? ⟨g+1,0,none⟩=some (.slice a2 n2 c2):=K.out.cel (g+1) 0 (.slice a2 n2 c2);go_wp2_with fail
    obtain⟨w5,hw5⟩:=nme (w4.setCell ⟨g,0,none⟩ (.slice a4 n4 c4));rw[←hw5]at K;rw[←hw5];clear hw5 J k1 k2 f1 f2 k5;refine(DO _ _ y y _ (K.out.at (.agg #[.slice a2 n2 c2]) y) (K.out.at (.agg #[.slice a2 n2 c2]) y) (BV sy.out (by omega)) (BV sy.out (by omega)) (.inl (Cb sy.out (by omega)))).mono ?_;rintro e w6 ⟨v6,rfl,hv6,hb6⟩;obtain⟨a6,n6,c6,rfl⟩:=hv6.isAgg;have J:Hid _:=(K.out.go hb6).addN hv6;clear hv6 hb6;have k1:=J.out.cel (g+1) 0 (.slice a2 n2 c2);have f1:=J.out.fz (g+1) 0;have L:Hid _:=(J.out.set (b:=g+1) (i:=0) k1 (J.out.lo (g+1)) [(g,0,.slice a4 n4 c4),(b,0,.slice none 0 0)] (by have:=I.out.2.2.2.2;simp;omega) (.slice a6 n6 c6)).addC (b:=g+1) (i:=0) (v:=.slice a6 n6 c6) (by simp[go_sem,k1]);have I2:Hid (P6 w b g n (w6.setCell ⟨g+1,0,none⟩ (.slice a6 n6 c6)) q (x*y) (y*y) a4 n4 c4 a6 n6 c6):=⟨by rw[HQ.out];exact Vv I.out.1 HO.out,Nat.mul_pos I.out.2.1 I.out.2.2.1,Nat.mul_pos I.out.2.2.1 I.out.2.2.1,L.out.sub _ _ _ _ _ _ (by simp) (by simp) (by simp) (by simp) (by simp) (by simp),I.out.2.2.2.2⟩;clear J K L sx sy;go_wp2_with fail
    go_roundw
    case rel=>exact⟨q,x*y,y*y,_,_,_,_,_,_,by go_num,by have:=HQ.out;omega,I2.out⟩
    case measure=>have:=HQ.out;have:=HM.out;simp[intOf];omega
   have d3:(m:Int).tmod 2=0:=by rw[Int.tmod_eq_emod_of_nonneg (by omega)];omega
   have HO:Hid (m%2=0):=by show _=_;omega
   clear ho;go_wp2_with fail
   refine(DO _ _ y y _ (I.out.2.2.2.1.at (.agg #[.slice a2 n2 c2]) y) (I.out.2.2.2.1.at (.agg #[.slice a2 n2 c2]) y) (BV sy.out (by omega)) (BV sy.out (by omega)) (.inl (Cb sy.out (by omega)))).mono ?_;rintro e w6 ⟨v6,rfl,hv6,hb6⟩;obtain⟨a6,n6,c6,rfl⟩:=hv6.isAgg;have J:Hid _:=(I.out.2.2.2.1.go hb6).addN hv6;clear hv6 hb6 k1 k2 k3 f1 f2 f3;have k1:=J.out.cel (g+1) 0 (.slice a2 n2 c2);have f1:=J.out.fz (g+1) 0;have L:Hid _:=(J.out.set (b:=g+1) (i:=0) k1 (J.out.lo (g+1)) [(g,0,.slice a1 n1 c1),(b,0,.slice none 0 0)] (by have:=I.out.2.2.2.2;simp;omega) (.slice a6 n6 c6)).addC (b:=g+1) (i:=0) (v:=.slice a6 n6 c6) (by simp[go_sem,k1]);have I2:Hid (P6 w b g n (w6.setCell ⟨g+1,0,none⟩ (.slice a6 n6 c6)) q x (y*y) a1 n1 c1 a6 n6 c6):=⟨by rw[HQ.out];exact TZ I.out.1 HO.out,I.out.2.1,Nat.mul_pos I.out.2.2.1 I.out.2.2.1,L.out.sub _ _ _ _ _ _ (by simp) (by simp) (by simp) (by simp) (by simp) (by simp),I.out.2.2.2.2⟩;clear J L sx sy;go_wp2_with fail
   go_roundw
   case rel=>exact⟨q,x,y*y,_,_,_,_,_,_,by go_num,by have:=HQ.out;omega,I2.out⟩
   case measure=>have:=HQ.out;have:=HM.out;simp[intOf];omega
  obtain rfl:m=0:=by omega
  have HV:Hid (10^n=x):=by show _=_;rw[←I.out.1,Nat.pow_zero,Nat.mul_one]
  have Z:Hid _:=I.out.2.2.2.1.ret1 (r:=b) k3 (by simp) (I.out.2.2.2.1.at (.agg #[.slice a1 n1 c1]) x) (.slice a1 n1 c1);go_wp2_with fail
  exact bodyPost_ret (v:=.agg #[.slice a1 n1 c1]) (by simp[results,Tryz.results115,go_sem,k3]) rfl ⟨_,rfl,by rw[HV.out];exact Z.out.1,Z.out.2⟩
theorem DP{s:ByteArray}: ∀{i:Nat},AF s i→decVal s i<10^i
 |0,_=>by simp[decVal]
 |i+1,h=>by
  have h1:=DP (i:=i) fun j hj=>h j (by omega);have h2:=h i (by omega);rw[decVal,Nat.pow_succ];omega
theorem Xo:10^401≤B 42:=by unfold B;decide+kernel
theorem LQ{x i:Nat}(h:x<10^i)(hi:i≤401):AG x:=
 FG (n:=42) (Nat.lt_of_lt_of_le h (Nat.le_trans (Nat.pow_le_pow_right (by decide) hi) Xo)) (by omega)
structure PS (w wr:World) (ax:Option Addr) (nx cx X:Nat):Prop where
 c1:wr.cell? ⟨w.heap.size,0,none⟩=some (.slice none 0 0)
 f1:wr.frozen? ⟨w.heap.size,0,none⟩=false
 c2:wr.cell? ⟨w.heap.size+1,0,none⟩=some (.slice ax nx cx)
 f2:wr.frozen? ⟨w.heap.size+1,0,none⟩=false
 num:Ai wr (.agg #[.slice ax nx cx]) X
 bel:Below w.heap.size w wr
theorem PS.mono{w wr w':World}{ax:Option Addr}{nx cx X:Nat}(h:PS w wr ax nx cx X)(hb:Below wr.heap.size wr w'):PS w w' ax nx cx X:=
 ⟨cell_later hb h.c1,(hb.frozen (World.block_lt_of_cell? _ _ h.c1)).trans h.f1,cell_later hb h.c2,(hb.frozen (World.block_lt_of_cell? _ _ h.c2)).trans h.f2,h.num.mono hb,Aj h.bel hb⟩
theorem PS.set{w wr:World}{ax a4:Option Addr}{nx cx X n4 c4 Y:Nat}(h:PS w wr ax nx cx X)(hv:Ai wr (.agg #[.slice a4 n4 c4]) Y):PS w (wr.setCell ⟨w.heap.size+1,0,none⟩ (.slice a4 n4 c4)) a4 n4 c4 Y:=by
 have h1:=h.c1;have h2:=h.c2;have h3:=h.f1;have h4:=h.f2;refine⟨?_,?_,?_,?_,hv.setCell (Ad h2) _,h.bel.setCell (by show _≤_+1;omega) _⟩;all_goals simp[go_sem, *]
theorem KF(s:ByteArray)(w:World)(h0:0<s.size)(h1:s.size≤400):
  Calls Tryz.prog 57 #[.string s] w fun e w'=>(AF s s.size→ ∃v,e=.returned (.tuple #[v,.bool true])∧Ai w' v (decVal s s.size)∧Below w.heap.size w w')∧(¬AF s s.size→e=.returned (.tuple #[.agg #[.slice none 0 0],.bool false])∧Below w.heap.size w w'):=by
 have hz:decide ((s.size:Int)<1)=false:=decide_eq_false (by omega);have hgt:decide (400<(s.size:Int))=false:=decide_eq_false (by omega);go_enter Tryz.func57,Tryz.ntmps57
 go_wp2_with fail
 obtain⟨w0,hw0⟩:=nme ((w.alloc (.cells #[.slice none 0 0] 64)).alloc (.cells #[.slice none 0 0] 64));have c1:w0.cell? ⟨w.heap.size,0,none⟩=some (.slice none 0 0):=by rw[hw0];simp[go_sem]
 have c2:w0.cell? ⟨w.heap.size+1,0,none⟩=some (.slice none 0 0):=by rw[hw0];simp[go_sem]
 have f1:w0.frozen? ⟨w.heap.size,0,none⟩=false:=by rw[hw0];simp[go_sem]
 have f2:w0.frozen? ⟨w.heap.size+1,0,none⟩=false:=by rw[hw0];simp[go_sem]
 have HB:Hid (Below w.heap.size w w0):=by rw[hw0];exact Ao _ _ _
 rw[←hw0];clear hw0;go_loopw [5] (fun t wr=> ∃(i:Nat) (ax:Option Addr) (nx cx:Nat),i≤s.size∧t=.int .i64 (i:Int)∧Hid (PS w wr ax nx cx (decVal s i)∧AF s i)) (fun t _=>s.size- (intOf t).toNat)
 case atStart=>exact⟨0,none,0,0,by omega,rfl,⟨⟨c1,f1,c2,f2,Gc _,HB.out⟩,fun i hi=>absurd hi (by omega)⟩⟩
 case round=>
  obtain⟨i,ax,nx,cx,hi,rfl,HH⟩:=hrel;clear c1 c2 f1 f2 HB;have hcb:=HH.out.1.c1;have hfb:=HH.out.1.f1;have hcx:=HH.out.1.c2;have hfx:=HH.out.1.f2;by_cases hii:i<s.size
  ·have hc:=BI hii;have hc2:=IB s i;by_cases hlo:sb s i<48
   ·have t1:decide (((sb s i:Nat):Int)<48)=true:=decide_eq_true (by omega);have HN:Hid (¬AF s s.size):=fun hh=>by have:=hh i hii;omega
    clear hlo;go_wp2_with fail
    refine bodyPost_ret (v:=.tuple #[.agg #[.slice none 0 0],.bool false]) (by simp[results,Tryz.results57,go_sem,hcb]) rfl ⟨fun hh=>absurd hh HN.out,fun _=>⟨rfl,?_⟩⟩;exact HH.out.1.bel.setCell (Nat.le_refl _) _
   have t1:decide (((sb s i:Nat):Int)<48)=false:=decide_eq_false (by omega);by_cases hhi:57<sb s i
   ·have t2:decide (57<((sb s i:Nat):Int))=true:=decide_eq_true (by omega);have HN:Hid (¬AF s s.size):=fun hh=>by have:=hh i hii;omega
    go_wp2_with fail
    refine bodyPost_ret (v:=.tuple #[.agg #[.slice none 0 0],.bool false]) (by simp[results,Tryz.results57,go_sem,hcb]) rfl ⟨fun hh=>absurd hh HN.out,fun _=>⟨rfl,?_⟩⟩;exact HH.out.1.bel.setCell (Nat.le_refl _) _
   have t2:decide (57<((sb s i:Nat):Int))=false:=decide_eq_false (by omega);obtain⟨d,hd⟩: ∃d,sb s i=d+48:=⟨sb s i-48,by omega⟩;have HD:Hid _:=hd;have hd9:d≤9:=by omega
   have hlt:=DP HH.out.2;obtain⟨X,hX⟩:=nme (decVal s i);have hstep:X*10+d=decVal s (i+1):=by rw[hX,decVal,HD.out];omega
   have hdg:AF s (i+1):=fun j hj=>by
    rcases Nat.lt_or_ge j i with hh|hh
    ·exact HH.out.2 j hh
    obtain rfl:j=i:=by omega
    rw[HD.out];omega
   have hlt1:X*10+d<10^(i+1):=by rw[hstep];exact DP hdg
   rw[←hX]at hlt;have K0:Hid (PS w wr ax nx cx X):=by rw[hX];exact HH.out.1
   have ST:Hid (X*10+d=decVal s (i+1)∧AF s (i+1)∧AG X∧AG (X*10)∧AG d∧AG 10):=⟨hstep,hdg,LQ hlt (by omega),LQ (Nat.lt_of_le_of_lt (Nat.le_add_right _ _) hlt1) (by omega),FG (n:=1) (by rw[IE];omega) (by omega),FG (n:=1) (by rw[IE];omega) (by omega)⟩;have WD:Hid (IntKind.u8.wrap (d:Int)=(d:Int)∧IntKind.u64.wrap (d:Int)=(d:Int)):=⟨by rw[IntKind.wrap_u8];omega,Dl _ (by omega)⟩;clear hstep hdg hlt hlt1 hX hcb hfb;go_wp2_with fail
   go_region_with
    (first
     | (go_at_call 67;have zz:=K0;clear zz;refine Calls.mono (CA 10 _ (by omega)) ?_;rintro e w1 ⟨v1,rfl,hv1,hb1⟩;have K1:Hid (PS w w1 ax nx cx X∧Ai w1 v1 10):=(by first|exact⟨K0.out.mono hb1,hv1⟩|exact⟨K0.out.mono (Bf hb1),hv1⟩);have q1:=K1.out.1.c2;clear hb1 hv1 K0)
     | (go_at_call 62;refine Calls.mono (CK _ _ X 10 _ (K1.out.1.num) (K1.out.2) ST.out.2.2.1 ST.out.2.2.2.2.2) ?_;rintro e w2 ⟨v2,rfl,hv2,hb2⟩;have K2:Hid (PS w w2 ax nx cx X∧Ai w2 v2 (X*10)):=(by first|exact⟨K1.out.1.mono hb2,hv2⟩|exact⟨K1.out.1.mono (Bf hb2),hv2⟩);have q2:=K2.out.1.c2;clear hb2 hv2 K1 q1)
     | (go_at_call 67;have zz:=K2;clear zz;rw[WD.out.1,WD.out.2];refine Calls.mono (CA d _ (by omega)) ?_;rintro e w3 ⟨v3,rfl,hv3,hb3⟩;have K3:Hid (PS w w3 ax nx cx X∧Ai w3 v2 (X*10)∧Ai w3 v3 d):=(by first|exact⟨K2.out.1.mono hb3,K2.out.2.mono hb3,hv3⟩|exact⟨K2.out.1.mono (Bf hb3),K2.out.2.mono (Bf hb3),hv3⟩);have q3:=K3.out.1.c2;clear hb3 hv3 K2 q2)
     | (go_at_call 98;refine Calls.mono (Rr _ _ (X*10) d _ (K3.out.2.1) (K3.out.2.2) ST.out.2.2.2.1 ST.out.2.2.2.2.1) ?_;rintro e w4 ⟨v4,rfl,hv4,hb4⟩;obtain⟨a4,n4,c4,rfl⟩:=hv4.isAgg;have K4:Hid (PS w w4 ax nx cx X∧Ai w4 (.agg #[.slice a4 n4 c4]) (X*10+d)):=(by first|exact⟨K3.out.1.mono hb4,hv4⟩|exact⟨K3.out.1.mono (Bf hb4),hv4⟩);have q4:=K4.out.1.c2;have q5:=K4.out.1.f2;clear hb4 hv4 K3 q3))
   all_goals go_wp2_with fail
   all_goals
    go_roundw
    case rel=>exact⟨i+1,a4,n4,c4,by omega,by go_num,⟨ST.out.1▸K4.out.1.set K4.out.2,ST.out.2.1⟩⟩
    case measure=>simp[intOf];omega
  obtain rfl:i=s.size:=by omega
  have HH2:Hid _:=HH.out;clear HH;go_wp2_with fail
  refine bodyPost_ret (v:=.tuple #[.agg #[.slice ax nx cx],.bool true]) (by simp[results,Tryz.results57,go_sem,hcb]) rfl ⟨fun _=>⟨_,rfl,HH2.out.1.num.setCell (Ad hcb) _,HH2.out.1.bel.setCell (Nat.le_refl _) _⟩,fun hh=>absurd HH2.out.2 hh⟩
def isD(s:ByteArray)(i:Nat):Bool:=decide (i<s.size)&&(decide (48≤sb s i)&&decide (sb s i≤57))
def GZ(s:ByteArray):Nat→Nat→Nat
 |0,i=>i
 |k+1,i=>if isD s i then GZ s k (i+1) else i
def Al(s:ByteArray)(i:Nat):Nat:=GZ s (s.size-i) i
theorem C9{s:ByteArray}{i:Nat}(h:isD s i=true):i<s.size:=by
 unfold isD at h;simp at h;exact h.1
theorem OS{s:ByteArray}{i:Nat}(h:isD s i=true):48≤sb s i∧sb s i≤57:=by
 unfold isD at h;simp at h;exact h.2
theorem FK{s:ByteArray}{i:Nat}(h:isD s i=true):Al s i=Al s (i+1):=by
 have:=C9 h;unfold Al;rw[show s.size-i=s.size- (i+1)+1 by omega,GZ,if_pos h]
theorem Cj{s:ByteArray}{i:Nat}(h:isD s i=false):Al s i=i:=by
 unfold Al;cases s.size-i with
 |zero=>rfl
 |succ k=>rw[GZ,if_neg (by simp[h])]
theorem OT(s:ByteArray): ∀k i,i≤GZ s k i
 |0,i=>Nat.le_refl _
 |k+1,i=>by
  rw[GZ];split
  ·have:=OT s k (i+1);omega
  omega
theorem EB(s:ByteArray)(i:Nat):i≤Al s i:=OT s _ i
theorem OU(s:ByteArray): ∀k i,i≤s.size→GZ s k i≤s.size
 |0,i,h=>h
 |k+1,i,h=>by
  rw[GZ];split
  ·rename_i hd;have:=C9 hd;exact OU s k (i+1) (by omega)
  exact h
theorem CD{s:ByteArray}{i:Nat}(h:i≤s.size):Al s i≤s.size:=OU s _ i h
theorem M8(s:ByteArray): ∀k i j,i≤j→j<GZ s k i→isD s j=true
 |0,i,j,h1,h2=>by rw[GZ]at h2;omega
 |k+1,i,j,h1,h2=>by
  rw[GZ]at h2;split at h2
  ·rename_i hd;rcases Nat.eq_or_lt_of_le h1 with e|e
   ·rw[←e];exact hd
   exact M8 s k (i+1) j e h2
  omega
theorem M9{s:ByteArray}{i j:Nat}(h1:i≤j)(h2:j<Al s i):isD s j=true:=M8 s _ i j h1 h2
theorem T0{s:ByteArray}{i:Nat}(h:i≤s.size):isD s (Al s i)=false:=by
 obtain⟨k,hk⟩:=nme (s.size-i);induction k generalizing i with
 |zero=>
  have e:i=s.size:=by omega
  have hn:isD s i=false:=by unfold isD;rw[e];simp
  rw[Cj hn];exact hn
 |succ k ih=>
  cases hd:isD s i with
  |true=>
   rw[FK hd];have:=C9 hd;exact ih (by omega) (by omega)
  |false=>rw[Cj hd];exact hd
theorem CN{s:ByteArray}{a b i:Nat}(hb:b≤s.size)(hi:a+i<b):sb (s.extract a b) i=sb s (a+i):=by
 have h1:i<(s.extract a b).size:=by rw[ByteArray.size_extract];omega
 have h2:a+i<s.size:=by omega
 unfold sb;rw[dif_pos h1,dif_pos h2,ByteArray.getElem_extract h1]
theorem Bj{s:ByteArray}{a b:Nat}(hb:b≤s.size):(s.extract a b).size=b-a:=by rw[ByteArray.size_extract];omega
theorem WC{s t:ByteArray}{i:Nat}:sb (s++t) i=if i<s.size then sb s i else sb t (i-s.size):=by
 have e:=ByteArray.size_append (a:=s) (b:=t);unfold sb;by_cases h1:i<s.size
 ·rw[if_pos h1,dif_pos h1,dif_pos (by omega),ByteArray.getElem_append_left h1]
 rw[if_neg h1];by_cases h2:i-s.size<t.size
 ·rw[dif_pos h2,dif_pos (by omega),ByteArray.getElem_append_right (by omega)]
 rw[dif_neg h2,dif_neg (by omega)]
theorem Ii{s:ByteArray}{i:Nat}(h:i≤s.size):AF (s.extract i (Al s i)) (s.extract i (Al s i)).size:=by
 intro j hj;have h1:=CD h;rw[Bj h1]at hj;rw[CN h1 (by omega)];exact OS (M9 (i:=i) (by omega) (by omega))
theorem Jv{s t:ByteArray}(h:AF s s.size)(k:AF t t.size):AF (s++t) (s++t).size:=by
 intro j hj;rw[ByteArray.size_append]at hj;rw[WC];split
 ·exact h j (by assumption)
 exact k _ (by omega)
theorem Na(v:Value)(x k:Nat)(w:World)(h:Ac w v x)(ht:Tx x)(hk:CY x k):Calls Tryz.prog 108 #[v] w fun e w'=>e=.returned (.string (AQ x k))∧Below w.heap.size w w':=by
 refine(TB v x w h ht).mono ?_;rintro e w' ⟨l,rfl,hl,hb⟩;rw[hl.unique hk];exact⟨rfl,hb⟩
theorem Lj(s t:ByteArray)(h:s.size+t.size≤9223372036854775807)(w:World):(binOp .add 9 (.string s) (.string t)).run Tryz.prog w=.ok (.string (s++t)) w:=by
 simp[binOp,run_string_add_sum,h]
def Hv(p q k l:Nat):ByteArray:=if q=1 then AQ p k else AQ p k++⟨#[47]⟩++AQ q l
theorem II{q:Nat}:bitLen q=1↔q=1:=by
 constructor
 ·intro h;have h1:=(bitLen_spec q).1;rw[h]at h1;rcases Nat.eq_zero_or_pos q with e|e
  ·rw[e,Ed]at h;omega
  omega
 intro h;rw[h];decide+kernel
theorem OV{x k:Nat}(h:CY x k)(hx:x<P 200):k≤5000:=by
 rcases h.2.2 with h1|h1
 ·omega
 have h2:2^(3*(k-1))≤10^(k-1):=by rw[Nat.pow_mul];exact Nat.pow_le_pow_left (by decide) _
 have h3:2^(3*(k-1))<P 200:=Nat.lt_of_le_of_lt (Nat.le_trans h2 h1) hx;rw[DQ]at h3;have h4:=(Nat.pow_lt_pow_iff_right (show 1<2 by decide)).1 h3;omega
theorem P7(v:Value)(p q k l:Nat)(w:World)(h:Rt w v p q)(hp:RS p)(hq:RS q)(hk:CY p k)(hl:CY q l):
  Calls Tryz.prog 78 #[v] w fun e w'=>e=.returned (.string (Hv p q k l))∧Below w.heap.size w w':=by
 have h':=h;obtain⟨a,n,c,a',n',c',e0,_,_⟩:=h'.raw;subst e0;have S1:Hid _:=((Bp w).addF h).box (.slice a n c) (.slice a' n' c') 105 _ rfl;have HH:Hid (RS p∧RS q∧CY p k∧CY q l∧Tx p∧Tx q):=⟨hp,hq,hk,hl,UR hp.lt (by omega),UR hq.lt (by omega)⟩;have kp:=OV hk (Cb hp.lt (by omega));have kq:=OV hl (Cb hq.lt (by omega));have sp:(AQ p k).size=k:=LP _ _;have sq:(AQ q l).size=l:=LP _ _;have m1:(AQ p k).size≤9223372036854775806:=by omega
 have m2:(AQ p k).size+1+(AQ q l).size≤9223372036854775807:=by omega
 clear h h' hp hq hk hl kp kq sp sq;go_enter Tryz.func78,Tryz.ntmps78
 go_wp2_with fail
 refine(Hk _ p q _ (S1.out.fr (.agg #[.slice a n c,.slice a' n' c']) p q) HH.out.2.1.fits).mono ?_;rintro e w1 ⟨v1,u1,rfl,hv1,hu1,hb1⟩;obtain⟨a1,n1,c1,rfl⟩:=hv1.isAgg;obtain⟨a2,n2,c2,rfl⟩:=hu1.isAgg;have S2:Hid _:=((((S1.out.go hb1).addN hv1).addN hu1).box1 (.slice a1 n1 c1) 103 _ rfl).box1 (.slice a2 n2 c2) 103 _ rfl;simp only[World.size_alloc]at S2;clear hv1 hu1 hb1 S1;go_wp2_with fail
 obtain⟨w2,hw2⟩:=nme ((w1.alloc (.cells #[.slice a1 n1 c1] 103)).alloc (.cells #[.slice a2 n2 c2] 103));obtain⟨g,hg⟩:=nme w1.heap.size;rw[←hw2,←hg]at S2;rw[←hw2,←hg];clear hw2 hg;refine(Ec _ q _ (S2.out.at (.agg #[.slice a2 n2 c2]) q) HH.out.2.1.fits).mono ?_;rintro e w3 ⟨rfl,hb3⟩;have S3:Hid _:=S2.out.go hb3;clear hb3 S2;have k1:=S3.out.cel g 0 (.slice a1 n1 c1);by_cases h1:q=1
 ·have t1:bitLen q=1:=II.2 h1;have HV:Hid (Hv p q k l=AQ p k):=by show _=_;unfold Hv;rw[if_pos h1]
  rw[t1];clear h1 t1;go_wp2_with fail
  refine(Na _ p k _ (S3.out.at (.agg #[.slice a1 n1 c1]) p) HH.out.2.2.2.2.1 HH.out.2.2.1).mono ?_;rintro e w4 ⟨rfl,hb4⟩;have S4:Hid _:=S3.out.go hb4;clear hb4 S3;go_wp2_with fail
  go_ret
  rw[HV.out];exact⟨rfl,S4.out.bel⟩
 obtain⟨j,hj⟩:=nmd (bitLen q);rw[hj];have t1:((j:Int)==1)=false:=by
  have: ¬j=1:=fun e=>h1 (II.1 (by omega));simp;omega
 have t2:decide ((j:Int)=1)=false:=by
  have: ¬j=1:=fun e=>h1 (II.1 (by omega));exact decide_eq_false (by omega)
 have HV:Hid (Hv p q k l=AQ p k++⟨#[47]⟩++AQ q l):=by show _=_;unfold Hv;rw[if_neg h1]
 clear h1 hj;go_wp2_with fail
 refine Bg (JB w3 [DJ (p),sEq (.string (AQ p k)),sEq (.string (AQ p k++⟨#[47]⟩)),DJ (q),sEq (.string (AQ q l)),sEq (.string (AQ p k++⟨#[47]⟩++AQ q l)),sEq (.string (AQ p k++⟨#[47]⟩++AQ q l))] []) 21 (by kernel_rfl) rfl (by kernel_rfl) (JB.start _ _ _) (fun HG HN=>⟨?_,?_,?_,?_,?_,?_,?_,trivial⟩) ?_
 ·intro L vs a w' hJ hF hP hL;have q3:(a.tmps[3]?).getD undef=.pointer (some ⟨g,0,none⟩):=hF.old 3 rfl;have cb:=cell_later hJ.bel (S3.out.cell (g) (.slice a1 n1 c1));exact Av (v:=.agg #[.slice a1 n1 c1]) rfl (by simp[execOp,go_sem,q3,cb]) ⟨_,rfl,hJ.step hL rfl (Below.refl _ _) (by exact((S3.out.at (.agg #[.slice a1 n1 c1]) (p)).mono hJ.bel))⟩
 ·intro L vs a w' hJ hF hP hL;have p0:L 0=true:=hP ⟨0,.data⟩ (by simp) rfl;have s0:Ac w' (vs 0) (p):=hJ.sp 0 p0;have q15:=hF.slot 0 15 rfl p0;refine AO (f:=108) (args:= #[vs 0]) rfl (by simp[go_sem,q15]) (Na _ p k _ s0 HH.out.2.2.2.2.1 HH.out.2.2.1) ?_;rintro e w2 ⟨rfl,hb⟩;exact⟨_,rfl,_,rfl,hJ.step hL rfl hb (by exact rfl)⟩
 ·intro L vs a w' hJ hF hP hL;have p1:L 1=true:=hP ⟨1,.data⟩ (by simp) rfl;have s1:vs 1=.string (AQ p k):=hJ.sp 1 p1;have q16:=hF.slot 1 16 rfl p1;exact Av (v:=.string (AQ p k++⟨#[47]⟩)) rfl (by simp[execOp,go_sem,q16,s1,m1]) ⟨_,rfl,hJ.step hL rfl (Below.refl _ _) (by exact rfl)⟩
 ·intro L vs a w' hJ hF hP hL;have q4:(a.tmps[4]?).getD undef=.pointer (some ⟨g+1,0,none⟩):=hF.old 4 rfl;have cb:=cell_later hJ.bel (S3.out.cell (g+1) (.slice a2 n2 c2));exact Av (v:=.agg #[.slice a2 n2 c2]) rfl (by simp[execOp,go_sem,q4,cb]) ⟨_,rfl,hJ.step hL rfl (Below.refl _ _) (by exact((S3.out.at (.agg #[.slice a2 n2 c2]) (q)).mono hJ.bel))⟩
 ·intro L vs a w' hJ hF hP hL;have p3:L 3=true:=hP ⟨3,.data⟩ (by simp) rfl;have s3:Ac w' (vs 3) (q):=hJ.sp 3 p3;have q18:=hF.slot 3 18 rfl p3;refine AO (f:=108) (args:= #[vs 3]) rfl (by simp[go_sem,q18]) (Na _ q l _ s3 HH.out.2.2.2.2.2 HH.out.2.2.2.1) ?_;rintro e w2 ⟨rfl,hb⟩;exact⟨_,rfl,_,rfl,hJ.step hL rfl hb (by exact rfl)⟩
 ·intro L vs a w' hJ hF hP hL;have p2:L 2=true:=hP ⟨2,.data⟩ (by simp) rfl;have s2:vs 2=.string (AQ p k++⟨#[47]⟩):=hJ.sp 2 p2;have q17:=hF.slot 2 17 rfl p2;have p4:L 4=true:=hP ⟨4,.data⟩ (by simp) rfl;have s4:vs 4=.string (AQ q l):=hJ.sp 4 p4;have q19:=hF.slot 4 19 rfl p4;exact Av (v:=.string (AQ p k++⟨#[47]⟩++AQ q l)) rfl (by simp[execOp,go_sem,q17,s2,q19,s4,m2]) ⟨_,rfl,hJ.step hL rfl (Below.refl _ _) (by exact rfl)⟩
 ·intro L vs a w' hJ hF hP hL;have p5:L 5=true:=hP ⟨5,.data⟩ (by simp) rfl;have s5:vs 5=.string (AQ p k++⟨#[47]⟩++AQ q l):=hJ.sp 5 p5;have q20:=hF.slot 5 20 rfl p5;exact Av (v:=.string (AQ p k++⟨#[47]⟩++AQ q l)) rfl (by simp[execOp,go_sem,q20,s5]) ⟨_,rfl,hJ.step hL rfl (Below.refl _ _) (by exact rfl)⟩
 intro L vs w' hA hJ;have s6:vs 6=.string (AQ p k++⟨#[47]⟩++AQ q l):=hJ.sp 6 (hA 6 (by simp));simp only[DU,Act.put,List.setIfInBounds_toArray,List.set_cons_zero,List.set_cons_succ,Nat.reduceAdd];simp only[s6];have HB:Hid (Below w.heap.size w w'):=(S3.out.go hJ.bel).bel;go_wp2_with fail
 go_ret
 rw[HV.out];exact⟨rfl,HB.out⟩
end Go.Proofs.YtbikpmmpgbggaaaGreatDoor
