/- Contracts of the program's functions, part 29: own work, joined in build order. -/
import Derived.Test.YtbikpmmpgbggaaaGreatDoorJ28
import Derived.BigRegion
namespace Go.Proofs.YtbikpmmpgbggaaaGreatDoor
open Go.RowKit
set_option maxRecDepth 100000
set_option linter.unusedVariables false
set_option maxHeartbeats 16000000
theorem On(s:ByteArray)(w:World)(hs:s.size≤9223372036854775807)(hb: ¬prG s):
  Calls Tryz.prog 5 #[.string s] w fun e w'=> ∃v,e=.returned (.tuple #[.agg #[.int .i64 (prI s 0),.int .i64 (prI s 1),.int .i64 (prI s 2),.int .i64 (prI s 3),.int .i64 (prI s 4),.int .i64 (prI s 5),v],.int .i64 (prE s)])∧Nr w.heap.size w' v (prN s)∧Below w.heap.size w w':=by
 have HZ:Hid _:=Nu s;have HGD:Hid _:=Nv s;have Z0:Hid (Bc w (w.alloc (.cells #[.int .i64 0,.int .i64 0,.int .i64 0,.int .i64 0,.int .i64 0,.int .i64 0,.slice none 0 0] 24)) w.heap.size 24 zC):=Bc.new w _ _;by_cases c0:4096<s.size
 ·have d0:(4096:Int)<(s.size:Int):=by omega
  have HPE:Hid (prE s=2):=by show _=_;unfold prE;rw[if_pos c0]
  clear c0;go_enter Tryz.func5,Tryz.ntmps5
  go_wp2_with (refine(id ?_:wpList Tryz.prog _ _ (⟨none,.store 24 (.tmp 2) (.tmp 14),_,_,_,_⟩::_) _ _);refine wpList_store_row rfl 24 (.tmp 2) (.tmp 14) rfl w.heap.size zC rfl rfl 24 zC Z0.out.hc (by kernel_rfl) (by kernel_rfl) (by kernel_rfl) ?_;refine Az (fun W=>Bc w W w.heap.size 24 zC) (Z0.out.row _) ?_)
  intro wz BZ;have hR:=BZ.hc;obtain⟨u0,u1,u2,u3,u4,u5,u6⟩:=cl7 hR;have WZ:Hid _:=BZ;clear hR BZ;go_wp2_with fail
  refine bodyPost_ret (v:=.tuple #[.agg zC,.int .i64 2]) (by simp[results,Tryz.results5,go_sem,u0,u1,u2,u3,u4,u5,u6]) rfl ?_;have q:=HZ.out (by rw[HPE.out];decide);exact⟨.slice none 0 0,by rw[q.1 0,q.1 1,q.1 2,q.1 3,q.1 4,q.1 5,HPE.out],by rw[q.2];exact Nr.nil _ _,WZ.out.bel⟩
 have d0: ¬(4096:Int)<(s.size:Int):=by omega
 have HP1:Hid (prE s=if(!(suS (Ab s,false)).2&&(suS (Ab s,false)).1.isEmpty)=false then 201 else prC s):=by show _=_;unfold prE;rw[if_neg c0]
 have hls:(Ab s).length≤5000:=by have:=Ds s;omega
 have HST:=It (Ab s) (FP s);have HSZ:Hid (∀x∈Ab s,x.size≤9223372036854775807):=fun x hx=>by have:=Eu s x hx;omega
 have HILL:Hid ((De (Ab s,false)).2=true→prE s=201):=fun h=>by
  rw[HP1.out,if_pos];have q:(suS (Ab s,false)).2=true:=by unfold suS;split;exact Fa _ _ h;exact h
  rw[q];rfl
 have hs9:s.size≤1000000000:=by omega
 obtain⟨L,hL⟩:=nmd (Ab s);have HLW:Hid _:=hL;have CW:=EC s (w.alloc (.cells #[.int .i64 0,.int .i64 0,.int .i64 0,.int .i64 0,.int .i64 0,.int .i64 0,.slice none 0 0] 24)) hs9;rw[hL]at hls HST HSZ HILL HP1 HGD CW;clear hL c0 hs9;have HC9:Hid _:=CW;clear CW;go_enter Tryz.func5,Tryz.ntmps5
 go_wp2_with fail
 refine Calls.mono HC9.out ?_;rintro e w1 ⟨v1,rfl,hO,hb1⟩;have Z1:Hid (Bc w w1 w.heap.size 24 zC):=Z0.out.go hb1;have HT1:=Iu hO;clear hO hb1 Z0 HC9;have HT0:=HT1;obtain⟨a,cap,rfl,hc1,hc2,hc3⟩:=HT1;obtain⟨m,hm⟩:=nmd L.length;have HM:Hid _:=hm;have HSTH:Hid _:=HST;have HT:Hid (TSl w1 (.slice a m cap) L):=by rw[←hm];exact HT0
 clear HT0;rw[hm]at hc1 hls hc3;rw[hm];clear HST hm;by_cases l12:m<12
 ·have HPE:Hid (prE s=201):=by
   rcases HSTH.out with⟨q,_⟩| ⟨_,_,_,_,_,q,_⟩
   ·exact HILL.out q
   have:=HM.out;omega
  have d1:decide ((m:Int)<12)=true:=decide_eq_true (by omega);go_wp2_with (refine(id ?_:wpList Tryz.prog _ _ (⟨none,.store 24 (.tmp 2) (.tmp 26),_,_,_,_⟩::_) _ _);refine wpList_store_row rfl 24 (.tmp 2) (.tmp 26) rfl w.heap.size zC rfl rfl 24 zC Z1.out.hc (by kernel_rfl) (by kernel_rfl) (by kernel_rfl) ?_;refine Az (fun W=>Bc w W w.heap.size 24 zC) (Z1.out.row _) ?_)
  intro wz BZ;have hR:=BZ.hc;obtain⟨u0,u1,u2,u3,u4,u5,u6⟩:=cl7 hR;have WZ:Hid _:=BZ;clear hR BZ;go_wp2_with fail
  refine bodyPost_ret (v:=.tuple #[.agg zC,.int .i64 201]) (by simp[results,Tryz.results5,go_sem,u0,u1,u2,u3,u4,u5,u6]) rfl ?_;have q:=HZ.out (by rw[HPE.out];decide);exact⟨.slice none 0 0,by rw[q.1 0,q.1 1,q.1 2,q.1 3,q.1 4,q.1 5,HPE.out],by rw[q.2];exact Nr.nil _ _,WZ.out.bel⟩
 have d1:decide ((m:Int)<12)=false:=decide_eq_false (by omega);obtain⟨b,o,ea,hcell⟩:=hc3 (by omega);subst ea;have y0:=hcell 0 (by omega);have y1:=hcell 1 (by omega);rw[Nat.add_zero]at y0;unfold tx at y0 y1;obtain⟨K0,hK0⟩:=nmd (L.getD 0 ⟨#[]⟩);obtain⟨K1,hK1⟩:=nmd (L.getD 1 ⟨#[]⟩);rw[hK0]at y0 HSTH;rw[hK1]at y1 HSTH;clear hcell hK0 hK1;have tle:=Hp (x:=K0) (y:=⟨#[107,105,110,100]⟩);by_cases ck: ¬K0=⟨#[107,105,110,100]⟩
 ·have HPE:Hid (prE s=201):=by
   rcases HSTH.out with⟨q,_⟩| ⟨_,_,_,_,_,_,q,_⟩
   ·exact HILL.out q
   exact absurd q ck
  rw[decide_eq_false ck]at tle;have tl2: ¬K0.toList=[107,105,110,100]:=fun h=>by
   rw[h]at tle;exact absurd tle (by decide+kernel)
  have tl3:(K0.toList==[107,105,110,100])=false:=by simpa using tl2
  clear tle;go_wp2_with (refine(id ?_:wpList Tryz.prog _ _ (⟨none,.store 24 (.tmp 2) (.tmp 26),_,_,_,_⟩::_) _ _);refine wpList_store_row rfl 24 (.tmp 2) (.tmp 26) rfl w.heap.size zC rfl rfl 24 zC Z1.out.hc (by kernel_rfl) (by kernel_rfl) (by kernel_rfl) ?_;refine Az (fun W=>Bc w W w.heap.size 24 zC) (Z1.out.row _) ?_)
  intro wz BZ;have hR:=BZ.hc;obtain⟨u0,u1,u2,u3,u4,u5,u6⟩:=cl7 hR;have WZ:Hid _:=BZ;clear hR BZ;go_wp2_with fail
  refine bodyPost_ret (v:=.tuple #[.agg zC,.int .i64 201]) (by simp[results,Tryz.results5,go_sem,u0,u1,u2,u3,u4,u5,u6]) rfl ?_;have q:=HZ.out (by rw[HPE.out];decide);exact⟨.slice none 0 0,by rw[q.1 0,q.1 1,q.1 2,q.1 3,q.1 4,q.1 5,HPE.out],by rw[q.2];exact Nr.nil _ _,WZ.out.bel⟩
 rw[Classical.not_not]at ck;subst ck;clear tle;go_wp2_with fail
 refine(D8 K1 w1).mono ?_;rintro e w2 ⟨rfl,hb2⟩;obtain⟨kd,hkd⟩:=nmd (kdV K1);have hkr:=Im K1;rw[hkd]at HSTH hkr;rw[hkd];clear hkd;have B2:Hid (Below w1.heap.size w1 w2):=hb2;clear hb2 y0 y1;obtain⟨gC,eC⟩:=nme w2.heap.size;have S3:Hid (Bc w1 (w2.alloc (.cells #[.int .i64 kd,.int .i64 0,.int .i64 0,.int .i64 0,.int .i64 0,.int .i64 0,.slice none 0 0] 24)) gC 24 #[.int .i64 kd,.int .i64 0,.int .i64 0,.int .i64 0,.int .i64 0,.int .i64 0,.slice none 0 0]):=by
  have q:=Bc.new w2 #[.int .i64 kd,.int .i64 0,.int .i64 0,.int .i64 0,.int .i64 0,.int .i64 0,.slice none 0 0] 24;rw[←eC]at q;exact⟨q.hc,AU B2.out q.bel,by rw[eC];exact B2.out.size⟩
 have hcap:(12:Int)≤(cap:Int):=by omega
 go_wp2_with fail
 obtain⟨w3,hw3⟩:=nme ((w2.alloc (.cells #[.int .i64 kd,.int .i64 0,.int .i64 0,.int .i64 0,.int .i64 0,.int .i64 0,.slice none 0 0] 24)).alloc (.cells #[.string ⟨#[114,111,111,109]⟩,.string ⟨#[109,111,115,116]⟩,.string ⟨#[99,97,112]⟩,.string ⟨#[102,108,111,119,115]⟩,.string ⟨#[97,103,101]⟩] 9));have S3b:Hid (Bc w1 w3 gC 24 #[.int .i64 kd,.int .i64 0,.int .i64 0,.int .i64 0,.int .i64 0,.int .i64 0,.slice none 0 0]):=by rw[hw3];exact S3.out.go (Af (Aa _))
 have T12:Hid (TSl w3 (.slice (some ⟨b,o,none⟩) 12 cap) (L.take 12)):=Hb (HT.out.go S3b.out.bel) (by have:=HM.out;omega);have TN:Hid (TSl w3 (.slice (some ⟨w2.heap.size+1,0,none⟩) 5 5) nO5):=by
  rw[hw3,←World.size_alloc (w:=w2) (o:=.cells #[.int .i64 kd,.int .i64 0,.int .i64 0,.int .i64 0,.int .i64 0,.int .i64 0,.slice none 0 0] 24)];exact GB _ nO5 (by decide)
 rw[←hw3];clear hw3 S3;refine(E0 _ _ (L.take 12) nO5 2 w3 T12.out TN.out (by rw[List.length_take];omega) (by omega) (by decide) (fun x hx=>HSZ.out x (List.mem_of_mem_take hx))).mono ?_;rintro e w4 ⟨hb4,hcase⟩;have S4:Hid (Bc w1 w4 gC 24 #[.int .i64 kd,.int .i64 0,.int .i64 0,.int .i64 0,.int .i64 0,.int .i64 0,.slice none 0 0]):=S3b.out.go hb4;have Z4:Hid (Bc w w4 w.heap.size 24 zC):=Z1.out.go S4.out.bel;have SZ4:Hid (gC<w3.heap.size):=(Array.getElem?_eq_some_iff.1 S3b.out.hc).1;clear hb4 S3b T12 TN;subst eC;rcases hcase with⟨hI,rfl⟩| ⟨zs,v4,hI,rfl,hIr⟩
 ·have HPE:Hid (prE s=201):=by
   rcases HSTH.out with⟨q,_⟩| ⟨_,_,_,_,_,_,_,_,q,_⟩
   ·exact HILL.out q
   rw[hI]at q;cases q
  clear hI;go_upto_region 9 with fail
  go_wp2_with (refine(id ?_:wpList Tryz.prog _ _ (⟨none,.store 24 (.tmp 2) (.tmp 56),_,_,_,_⟩::_) _ _);refine wpList_store_row rfl 24 (.tmp 2) (.tmp 56) rfl w.heap.size zC rfl rfl 24 zC Z4.out.hc (by kernel_rfl) (by kernel_rfl) (by kernel_rfl) ?_;refine Az (fun W=>Bc w W w.heap.size 24 zC) (Z4.out.row _) ?_)
  intro wz BZ;have hR:=BZ.hc;obtain⟨u0,u1,u2,u3,u4,u5,u6⟩:=cl7 hR;have WZ:Hid _:=BZ;clear hR BZ;go_wp2_with fail
  refine bodyPost_ret (v:=.tuple #[.agg zC,.int .i64 201]) (by simp[results,Tryz.results5,go_sem,u0,u1,u2,u3,u4,u5,u6]) rfl ?_;have q:=HZ.out (by rw[HPE.out];decide);exact⟨.slice none 0 0,by rw[q.1 0,q.1 1,q.1 2,q.1 3,q.1 4,q.1 5,HPE.out],by rw[q.2];exact Nr.nil _ _,WZ.out.bel⟩
 have hc4:=S4.out.hc;have k0:=clAt hc4 0 (.int .i64 kd) rfl;clear hc4;rcases HSTH.out with⟨q,hq⟩| ⟨z1,z2,z3,z4,z5,_,_,kd0,hI2,hS,hV0,hV1,hV2,hV3,hV4,hV5⟩
 ·have HPE:Hid (prE s=201):=HILL.out q;have e0:kd=0:=by
   rcases hq with h|h|h|h
   ·have:=HM.out;omega
   ·exact absurd rfl h
   ·exact h
   rw[hI]at h;cases h
  subst e0;clear hI hIr q hq;go_upto_region 9 with fail
  go_wp2_with (refine(id ?_:wpList Tryz.prog _ _ (⟨none,.store 24 (.tmp 2) (.tmp 56),_,_,_,_⟩::_) _ _);refine wpList_store_row rfl 24 (.tmp 2) (.tmp 56) rfl w.heap.size zC rfl rfl 24 zC Z4.out.hc (by kernel_rfl) (by kernel_rfl) (by kernel_rfl) ?_;refine Az (fun W=>Bc w W w.heap.size 24 zC) (Z4.out.row _) ?_)
  intro wz BZ;have hR:=BZ.hc;obtain⟨u0,u1,u2,u3,u4,u5,u6⟩:=cl7 hR;have WZ:Hid _:=BZ;clear hR BZ;go_wp2_with fail
  refine bodyPost_ret (v:=.tuple #[.agg zC,.int .i64 201]) (by simp[results,Tryz.results5,go_sem,u0,u1,u2,u3,u4,u5,u6]) rfl ?_;have q:=HZ.out (by rw[HPE.out];decide);exact⟨.slice none 0 0,by rw[q.1 0,q.1 1,q.1 2,q.1 3,q.1 4,q.1 5,HPE.out],by rw[q.2];exact Nr.nil _ _,WZ.out.bel⟩
 rw[hI]at hI2;cases hI2;clear hI;have HVAL:Hid (Aq (L,false) 0=kd∧Aq (L,false) 1=z1∧Aq (L,false) 2=z2∧Aq (L,false) 3=z3∧Aq (L,false) 4=z4∧Aq (L,false) 5=z5):=⟨hV0,hV1,hV2,hV3,hV4,hV5⟩;have HSS:Hid _:=hS;have IR:Hid _:=hIr;clear hV0 hV1 hV2 hV3 hV4 hV5 hS hIr HSTH HILL;by_cases k6:kd≠6∧12<m
 ·have HPE:Hid (prE s=201):=by
   show _=_;rw[HP1.out,if_pos];unfold suS;rw[if_neg (by rw[HVAL.out.1];exact k6.1),HSS.out];have q:(L.drop 12).isEmpty=false:=by rw[List.isEmpty_eq_false_iff,←List.length_pos_iff,List.length_drop,HM.out];omega
   rw[q];rfl
  have d8:(12:Int)<(m:Int):=by omega
  have d6:=k6.1;have d6b:(kd==6)=false:=by simp[d6]
  have d0b:(kd==0)=false:=by simp[kd0]
  go_upto_region 9 with fail
  go_wp2_with (refine(id ?_:wpList Tryz.prog _ _ (⟨none,.store 24 (.tmp 2) (.tmp 56),_,_,_,_⟩::_) _ _);refine wpList_store_row rfl 24 (.tmp 2) (.tmp 56) rfl w.heap.size zC rfl rfl 24 zC Z4.out.hc (by kernel_rfl) (by kernel_rfl) (by kernel_rfl) ?_;refine Az (fun W=>Bc w W w.heap.size 24 zC) (Z4.out.row _) ?_)
  intro wz BZ;have hR:=BZ.hc;obtain⟨u0,u1,u2,u3,u4,u5,u6⟩:=cl7 hR;have WZ:Hid _:=BZ;clear hR BZ;go_wp2_with fail
  refine bodyPost_ret (v:=.tuple #[.agg zC,.int .i64 201]) (by simp[results,Tryz.results5,go_sem,u0,u1,u2,u3,u4,u5,u6]) rfl ?_;have q:=HZ.out (by rw[HPE.out];decide);exact⟨.slice none 0 0,by rw[q.1 0,q.1 1,q.1 2,q.1 3,q.1 4,q.1 5,HPE.out],by rw[q.2];exact Nr.nil _ _,WZ.out.bel⟩
 exact absurd ⟨by omega,by rw[HLW.out,HSS.out],by rw[HLW.out,HVAL.out.1,HM.out];omega⟩ hb
end Go.Proofs.YtbikpmmpgbggaaaGreatDoor
