/- Contracts of the program's functions, part 30: own work, joined in build order. -/
import Derived.Test.YtbikpmmpgbggaaaGreatDoorJ28
import Derived.BigRegion
namespace Go.Proofs.YtbikpmmpgbggaaaGreatDoor
open Go.RowKit
set_option maxRecDepth 100000
set_option linter.unusedVariables false
set_option maxHeartbeats 16000000
theorem Nw(s:ByteArray)(w:World)(hs:s.size≤9223372036854775807)(hg:prG s)(h6:Aq (Ab s,false) 0≠6):
  Calls Tryz.prog 5 #[.string s] w fun e w'=> ∃v,e=.returned (.tuple #[.agg #[.int .i64 (prI s 0),.int .i64 (prI s 1),.int .i64 (prI s 2),.int .i64 (prI s 3),.int .i64 (prI s 4),.int .i64 (prI s 5),v],.int .i64 (prE s)])∧Nr w.heap.size w' v (prN s)∧Below w.heap.size w w':=by
 have HZ:Hid _:=Nu s;have HGD:Hid _:=Nv s;have Z0:Hid (Bc w (w.alloc (.cells #[.int .i64 0,.int .i64 0,.int .i64 0,.int .i64 0,.int .i64 0,.int .i64 0,.slice none 0 0] 24)) w.heap.size 24 zC):=Bc.new w _ _;by_cases c0:4096<s.size
 ·have d0:(4096:Int)<(s.size:Int):=by omega
  have HPE:Hid (prE s=2):=by show _=_;unfold prE;rw[if_pos c0]
  clear c0;go_enter Tryz.func5,Tryz.ntmps5
  exact absurd d0 (by have:=hg.1;omega)
 have d0: ¬(4096:Int)<(s.size:Int):=by omega
 have HP1:Hid (prE s=if(!(suS (Ab s,false)).2&&(suS (Ab s,false)).1.isEmpty)=false then 201 else prC s):=by show _=_;unfold prE;rw[if_neg c0]
 have hls:(Ab s).length≤5000:=by have:=Ds s;omega
 have HST:=It (Ab s) (FP s);have HSZ:Hid (∀x∈Ab s,x.size≤9223372036854775807):=fun x hx=>by have:=Eu s x hx;omega
 have HILL:Hid ((De (Ab s,false)).2=true→False):=fun h=>by have:=hg.2.1;rw[h]at this;cases this
 have hs9:s.size≤1000000000:=by omega
 obtain⟨L,hL⟩:=nmd (Ab s);have HLW:Hid _:=hL;have CW:=EC s (w.alloc (.cells #[.int .i64 0,.int .i64 0,.int .i64 0,.int .i64 0,.int .i64 0,.int .i64 0,.slice none 0 0] 24)) hs9;rw[hL]at hls HST HSZ HILL HP1 HGD CW;clear hL c0 hs9;have HC9:Hid _:=CW;clear CW;go_enter Tryz.func5,Tryz.ntmps5
 go_wp2_with fail
 refine Calls.mono HC9.out ?_;rintro e w1 ⟨v1,rfl,hO,hb1⟩;have Z1:Hid (Bc w w1 w.heap.size 24 zC):=Z0.out.go hb1;have HT1:=Iu hO;clear hO hb1 Z0 HC9;have HT0:=HT1;obtain⟨a,cap,rfl,hc1,hc2,hc3⟩:=HT1;obtain⟨m,hm⟩:=nmd L.length;have HM:Hid _:=hm;have HSTH:Hid _:=HST;have HT:Hid (TSl w1 (.slice a m cap) L):=by rw[←hm];exact HT0
 clear HT0;rw[hm]at hc1 hls hc3;rw[hm];clear HST hm;by_cases l12:m<12
 ·have HPE:False:=by
   rcases HSTH.out with⟨q,_⟩| ⟨_,_,_,_,_,q,_⟩
   ·exact HILL.out q
   have:=HM.out;omega
  have d1:decide ((m:Int)<12)=true:=decide_eq_true (by omega);exact HPE.elim
 have d1:decide ((m:Int)<12)=false:=decide_eq_false (by omega);obtain⟨b,o,ea,hcell⟩:=hc3 (by omega);subst ea;have y0:=hcell 0 (by omega);have y1:=hcell 1 (by omega);rw[Nat.add_zero]at y0;unfold tx at y0 y1;obtain⟨K0,hK0⟩:=nmd (L.getD 0 ⟨#[]⟩);obtain⟨K1,hK1⟩:=nmd (L.getD 1 ⟨#[]⟩);rw[hK0]at y0 HSTH;rw[hK1]at y1 HSTH;clear hcell hK0 hK1;have tle:=Hp (x:=K0) (y:=⟨#[107,105,110,100]⟩);by_cases ck: ¬K0=⟨#[107,105,110,100]⟩
 ·have HPE:False:=by
   rcases HSTH.out with⟨q,_⟩| ⟨_,_,_,_,_,_,q,_⟩
   ·exact HILL.out q
   exact absurd q ck
  rw[decide_eq_false ck]at tle;have tl2: ¬K0.toList=[107,105,110,100]:=fun h=>by
   rw[h]at tle;exact absurd tle (by decide+kernel)
  have tl3:(K0.toList==[107,105,110,100])=false:=by simpa using tl2
  clear tle;exact HPE.elim
 rw[Classical.not_not]at ck;subst ck;clear tle;go_wp2_with fail
 refine(D8 K1 w1).mono ?_;rintro e w2 ⟨rfl,hb2⟩;obtain⟨kd,hkd⟩:=nmd (kdV K1);have hkr:=Im K1;rw[hkd]at HSTH hkr;rw[hkd];clear hkd;have B2:Hid (Below w1.heap.size w1 w2):=hb2;clear hb2 y0 y1;obtain⟨gC,eC⟩:=nme w2.heap.size;have S3:Hid (Bc w1 (w2.alloc (.cells #[.int .i64 kd,.int .i64 0,.int .i64 0,.int .i64 0,.int .i64 0,.int .i64 0,.slice none 0 0] 24)) gC 24 #[.int .i64 kd,.int .i64 0,.int .i64 0,.int .i64 0,.int .i64 0,.int .i64 0,.slice none 0 0]):=by
  have q:=Bc.new w2 #[.int .i64 kd,.int .i64 0,.int .i64 0,.int .i64 0,.int .i64 0,.int .i64 0,.slice none 0 0] 24;rw[←eC]at q;exact⟨q.hc,AU B2.out q.bel,by rw[eC];exact B2.out.size⟩
 have hcap:(12:Int)≤(cap:Int):=by omega
 go_wp2_with fail
 obtain⟨w3,hw3⟩:=nme ((w2.alloc (.cells #[.int .i64 kd,.int .i64 0,.int .i64 0,.int .i64 0,.int .i64 0,.int .i64 0,.slice none 0 0] 24)).alloc (.cells #[.string ⟨#[114,111,111,109]⟩,.string ⟨#[109,111,115,116]⟩,.string ⟨#[99,97,112]⟩,.string ⟨#[102,108,111,119,115]⟩,.string ⟨#[97,103,101]⟩] 9));have S3b:Hid (Bc w1 w3 gC 24 #[.int .i64 kd,.int .i64 0,.int .i64 0,.int .i64 0,.int .i64 0,.int .i64 0,.slice none 0 0]):=by rw[hw3];exact S3.out.go (Af (Aa _))
 have T12:Hid (TSl w3 (.slice (some ⟨b,o,none⟩) 12 cap) (L.take 12)):=Hb (HT.out.go S3b.out.bel) (by have:=HM.out;omega);have TN:Hid (TSl w3 (.slice (some ⟨w2.heap.size+1,0,none⟩) 5 5) nO5):=by
  rw[hw3,←World.size_alloc (w:=w2) (o:=.cells #[.int .i64 kd,.int .i64 0,.int .i64 0,.int .i64 0,.int .i64 0,.int .i64 0,.slice none 0 0] 24)];exact GB _ nO5 (by decide)
 rw[←hw3];clear hw3 S3;refine(E0 _ _ (L.take 12) nO5 2 w3 T12.out TN.out (by rw[List.length_take];omega) (by omega) (by decide) (fun x hx=>HSZ.out x (List.mem_of_mem_take hx))).mono ?_;rintro e w4 ⟨hb4,hcase⟩;have S4:Hid (Bc w1 w4 gC 24 #[.int .i64 kd,.int .i64 0,.int .i64 0,.int .i64 0,.int .i64 0,.int .i64 0,.slice none 0 0]):=S3b.out.go hb4;have Z4:Hid (Bc w w4 w.heap.size 24 zC):=Z1.out.go S4.out.bel;have SZ4:Hid (gC<w3.heap.size):=(Array.getElem?_eq_some_iff.1 S3b.out.hc).1;clear hb4 S3b T12 TN;subst eC;rcases hcase with⟨hI,rfl⟩| ⟨zs,v4,hI,rfl,hIr⟩
 ·have HPE:False:=by
   rcases HSTH.out with⟨q,_⟩| ⟨_,_,_,_,_,_,_,_,q,_⟩
   ·exact HILL.out q
   rw[hI]at q;cases q
  clear hI;exact HPE.elim
 have hc4:=S4.out.hc;have k0:=clAt hc4 0 (.int .i64 kd) rfl;clear hc4;rcases HSTH.out with⟨q,hq⟩| ⟨z1,z2,z3,z4,z5,_,_,kd0,hI2,hS,hV0,hV1,hV2,hV3,hV4,hV5⟩
 ·have HPE:False:=HILL.out q;have e0:kd=0:=by
   rcases hq with h|h|h|h
   ·have:=HM.out;omega
   ·exact absurd rfl h
   ·exact h
   rw[hI]at h;cases h
  subst e0;clear hI hIr q hq;exact HPE.elim
 rw[hI]at hI2;cases hI2;clear hI;have HVAL:Hid (Aq (L,false) 0=kd∧Aq (L,false) 1=z1∧Aq (L,false) 2=z2∧Aq (L,false) 3=z3∧Aq (L,false) 4=z4∧Aq (L,false) 5=z5):=⟨hV0,hV1,hV2,hV3,hV4,hV5⟩;have HSS:Hid _:=hS;have IR:Hid _:=hIr;clear hV0 hV1 hV2 hV3 hV4 hV5 hS hIr HSTH HILL;by_cases k6:kd≠6∧12<m
 ·have HPE:False:=by
   have q:=hg.2.2;rw[HLW.out,HVAL.out.1,HM.out]at q;omega
  have d8:(12:Int)<(m:Int):=by omega
  have d6:=k6.1;have d6b:(kd==6)=false:=by simp[d6]
  have d0b:(kd==0)=false:=by simp[kd0]
  exact HPE.elim
 have d0b:(kd==0)=false:=by simp[kd0]
 obtain⟨am,cm,ev,hm2,_⟩:=Ir.sl IR.out;obtain⟨gm,eam,hgm1,hgm2,hcm⟩:=hm2 (by simp);subst eam;subst ev;have i0:w4.cell? ⟨gm,0,none⟩=some (.int .i64 z1):=hcm 0 (by simp);have i1:w4.cell? ⟨gm,1,none⟩=some (.int .i64 z2):=hcm 1 (by simp);have i2:w4.cell? ⟨gm,2,none⟩=some (.int .i64 z3):=hcm 2 (by simp);have i3:w4.cell? ⟨gm,3,none⟩=some (.int .i64 z4):=hcm 3 (by simp);have i4:w4.cell? ⟨gm,4,none⟩=some (.int .i64 z5):=hcm 4 (by simp);have hne1:gm≠w2.heap.size:=by have:=SZ4.out;omega
 have hne2:w2.heap.size≠gm:=Ne.symm hne1;clear hcm hm2;have hcg:=S4.out.hc;have g1:=clAt hcg 1 (.int .i64 0) rfl;have f1:=fzAt hcg 1;have g2:=clAt hcg 2 (.int .i64 0) rfl;have f2:=fzAt hcg 2;have g3:=clAt hcg 3 (.int .i64 0) rfl;have f3:=fzAt hcg 3;have g4:=clAt hcg 4 (.int .i64 0) rfl;have f4:=fzAt hcg 4;have g5:=clAt hcg 5 (.int .i64 0) rfl;have f5:=fzAt hcg 5;clear hcg;have e6: ¬kd=6:=by rw[←HVAL.out.1,←HLW.out];exact h6
 have d6:=e6;have d6b:(kd==6)=false:=by simp[e6]
 have d8: ¬(12:Int)<(m:Int):=by
  rw[not_and]at k6;have:=k6 e6;omega
 have HWL:Hid ((!(suS (L,false)).2&&(suS (L,false)).1.isEmpty)=true∧suN (L,false)=[]):=by
  unfold suS suN;rw[if_neg (by rw[HVAL.out.1];exact e6),if_neg (by rw[HVAL.out.1];exact e6),HSS.out];have q:L.drop 12=[]:=List.drop_eq_nil_of_le (by have:=HM.out;omega);rw[q];exact⟨rfl,rfl⟩
 go_upto_region 10 with fail
 go_region
 refine Iv (fun W=>Bc w1 W w2.heap.size 24 #[.int .i64 kd,.int .i64 z1,.int .i64 z2,.int .i64 z3,.int .i64 z4,.int .i64 z5,.slice none 0 0]) ((((((S4.out.set 1 (.int .i64 z1)).set 2 (.int .i64 z2)).set 3 (.int .i64 z3)).set 4 (.int .i64 z4)).set 5 (.int .i64 z5)).drew 1) ?_;intro w5 hS5;have S5:Hid _:=hS5;clear hS5 i0 i1 i2 i3 i4 g1 g2 g3 g4 g5 f1 f2 f3 f4 f5 k0;have ROW:Hid (Nr w1.heap.size w5 (.slice none 0 0) []):=Nr.nil _ _;have NL:Hid (0=([]:List Nd).length∧NSl w5 none 0 0 (gOf [])):=Io (Nr.nil w1.heap.size w5) (fun x hx=>by cases hx);have HPC:Hid (prE s=A4 kd z1 z2 z3 z4 z5 (gOf []) 0):=by
  show _=_;rw[HP1.out,if_neg (by rw[HWL.out.1];decide)];unfold prC;rw[HLW.out,HWL.out.2,HVAL.out.1,HVAL.out.2.1,HVAL.out.2.2.1,HVAL.out.2.2.2.1,HVAL.out.2.2.2.2.1,HVAL.out.2.2.2.2.2,←NL.out.1]
 have hcg:=S5.out.hc;obtain⟨x0,x1,x2,x3,x4,x5,x6⟩:=cl7 hcg;clear hcg;go_wp2_with fail
 refine(Fu kd z1 z2 z3 z4 z5 none 0 0 (gOf []) w5 NL.out.2).mono ?_;rintro e w8 ⟨rfl,hb8⟩;obtain⟨ce,hce⟩:=nmd (A4 kd z1 z2 z3 z4 z5 (gOf []) 0);rw[hce]at HPC;rw[hce];have S8:Hid (Bc w1 w8 w2.heap.size 24 #[.int .i64 kd,.int .i64 z1,.int .i64 z2,.int .i64 z3,.int .i64 z4,.int .i64 z5,.slice none 0 0]):=S5.out.go hb8;have Z8:Hid (Bc w w8 w.heap.size 24 zC):=Z1.out.go S8.out.bel;have R8:Hid (Nr w1.heap.size w8 (.slice none 0 0) []):=Nr.below ROW.out hb8;clear hce hb8 x0 x1 x2 x3 x4 x5 x6 S5 ROW NL;have hcg:=S8.out.hc;obtain⟨x0,x1,x2,x3,x4,x5,x6⟩:=cl7 hcg;clear hcg;by_cases ce0:ce=0
 ·subst ce0;have HPE:Hid (prE s=0):=HPC.out;have lw:=Z1.out.hc;have LW:Hid (w.heap.size<w1.heap.size):=(Array.getElem?_eq_some_iff.1 lw).1;clear lw;go_upto_region 19 with fail
  go_wp2_with (refine(id ?_:wpList Tryz.prog _ _ (⟨none,.store 24 (.tmp 2) (.tmp 96),_,_,_,_⟩::_) _ _);refine wpList_store_row rfl 24 (.tmp 2) (.tmp 96) rfl w.heap.size #[.int .i64 kd,.int .i64 z1,.int .i64 z2,.int .i64 z3,.int .i64 z4,.int .i64 z5,.slice none 0 0] rfl rfl 24 zC Z8.out.hc (by kernel_rfl) (by kernel_rfl) (by kernel_rfl) ?_;refine Az (fun W=>Bc w W w.heap.size 24 #[.int .i64 kd,.int .i64 z1,.int .i64 z2,.int .i64 z3,.int .i64 z4,.int .i64 z5,.slice none 0 0]∧Nr w.heap.size W (.slice none 0 0) []) ⟨Z8.out.row _,Nr.weak (Nr.kept R8.out fun k hk=>setRow_other _ _ _ _ (by have:=(Nr.own R8.out hk).1;have:=LW.out;omega)) (by have:=LW.out;omega)⟩ ?_)
  intro wz BZ XZ;have hR:=BZ.hc;obtain⟨u0,u1,u2,u3,u4,u5,u6⟩:=cl7 hR;have WZ:Hid _:=BZ;clear hR BZ;go_wp2_with fail
  refine bodyPost_ret (v:=.tuple #[.agg #[.int .i64 kd,.int .i64 z1,.int .i64 z2,.int .i64 z3,.int .i64 z4,.int .i64 z5,.slice none 0 0],.int .i64 0]) (by simp[results,Tryz.results5,go_sem,u0,u1,u2,u3,u4,u5,u6]) rfl ?_;have q:=HGD.out HPE.out;exact⟨.slice none 0 0,by rw[q.1 0,q.1 1,q.1 2,q.1 3,q.1 4,q.1 5,HVAL.out.1,HVAL.out.2.1,HVAL.out.2.2.1,HVAL.out.2.2.2.1,HVAL.out.2.2.2.2.1,HVAL.out.2.2.2.2.2,HPE.out],by rw[q.2,HWL.out.2];exact XZ,WZ.out.bel⟩
 have HPE:Hid (prE s=ce):=HPC.out;have dce:(ce==0)=false:=by simp[ce0]
 go_upto_region 18 with fail
 go_wp2_with (refine(id ?_:wpList Tryz.prog _ _ (⟨none,.store 24 (.tmp 2) (.tmp 94),_,_,_,_⟩::_) _ _);refine wpList_store_row rfl 24 (.tmp 2) (.tmp 94) rfl w.heap.size zC rfl rfl 24 zC Z8.out.hc (by kernel_rfl) (by kernel_rfl) (by kernel_rfl) ?_;refine Az (fun W=>Bc w W w.heap.size 24 zC) (Z8.out.row _) ?_)
 intro wz BZ;have hR:=BZ.hc;obtain⟨u0,u1,u2,u3,u4,u5,u6⟩:=cl7 hR;have WZ:Hid _:=BZ;clear hR BZ;go_wp2_with fail
 refine bodyPost_ret (v:=.tuple #[.agg zC,.int .i64 ce]) (by simp[results,Tryz.results5,go_sem,u0,u1,u2,u3,u4,u5,u6]) rfl ?_;have q:=HZ.out (by rw[HPE.out];exact ce0);exact⟨.slice none 0 0,by rw[q.1 0,q.1 1,q.1 2,q.1 3,q.1 4,q.1 5,HPE.out],by rw[q.2];exact Nr.nil _ _,WZ.out.bel⟩
end Go.Proofs.YtbikpmmpgbggaaaGreatDoor
