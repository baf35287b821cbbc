/- Contracts of the program's functions, part 33: own work, joined in build order. -/
import Derived.Test.YtbikpmmpgbggaaaGreatDoorJ28
namespace Go.Proofs.YtbikpmmpgbggaaaGreatDoor
open Go.RowKit
set_option maxRecDepth 100000
set_option linter.unusedVariables false
set_option maxHeartbeats 16000000
theorem V3(s:ByteArray):0<npQ s:=by
 unfold npQ;split
 ·rename_i h;unfold CV at h;rw[Bool.and_eq_true]at h;split
  ·rename_i p hc;rw[hc]at h;have h3: ¬vD p=0:=by have:=h.2;simpa using this
   exact Nat.div_pos (Nat.gcd_le_right _ (by omega)) (Nat.gcd_pos_of_pos_right _ (by omega))
  omega
 omega
theorem JS{x y:Nat}:AW x y=0↔x=y:=by
 unfold AW;constructor
 ·intro h;split at h
  ·omega
  split at h
  ·assumption
  omega
 intro h;rw[if_neg (by omega),if_pos h]
theorem LA(K R M C Fl A:Int)(a:Option Addr)(n cap:Nat)(G:Nat→Nat→Int)(s:ByteArray)(E:Int)(w:World)(h:NSl w a n cap G)(hs:s.size≤9223372036854775807)
  (hE:pfE (A4 K R M C Fl A G n) (fun b0 b1 b2 b3 b4 bu b5 b6=>CO K R M C Fl A G n b0 b1 b2 b3 b4 bu b5 b6) s=E):
  Calls Tryz.prog 7 #[.agg #[.int .i64 K,.int .i64 R,.int .i64 M,.int .i64 C,.int .i64 Fl,.int .i64 A,.slice a n cap],.string s] w fun e w'=>e=.returned (.tuple #[.agg #[.int .i64 (pfV E s 0),.int .i64 (pfV E s 1),.int .i64 (pfV E s 2),.int .i64 (pfV E s 3),.int .i64 (pfV E s 4),.float .f64 (pfU E s),.int .i64 (pfV E s 5),.int .i64 (pfV E s 6)],.int .i64 E])∧Below w.heap.size w w':=by
 have HN:Hid _:=h;have HEE:Hid _:=hE;have HBD:Hid (E≠0→(∀k,pfV E s k=0)∧pfU E s=0):=fun h=>⟨fun k=>by unfold pfV;rw[if_neg h],by unfold pfU;rw[if_neg h]⟩;have HGD:Hid (E=0→(∀k,pfV E s k=flV (Ab s,false) k)∧pfU E s=exU (flR (Ab s,false))):=fun h=>⟨fun k=>by unfold pfV;rw[if_pos h],by unfold pfU;rw[if_pos h]⟩;have hl0:n≤9223372036854775807:=Nat.le_trans h.le h.lim;obtain⟨ce,hce⟩:=nmd (A4 K R M C Fl A G n);clear h hE;go_enter Tryz.func7,Tryz.ntmps7
 go_wp2_with fail
 have S0:Hid _:=((CG w).box7 (.int .i64 K) (.int .i64 R) (.int .i64 M) (.int .i64 C) (.int .i64 Fl) (.int .i64 A) (.slice a n cap) 24 _ rfl).go (Af (o:=.cells #[.int .i64 0,.int .i64 0,.int .i64 0,.int .i64 0,.int .i64 0,.float .f64 0,.int .i64 0,.int .i64 0] 32) (Aa _));have Z0:Hid (Bc w ((w.alloc (.cells #[.int .i64 K,.int .i64 R,.int .i64 M,.int .i64 C,.int .i64 Fl,.int .i64 A,.slice a n cap] 24)).alloc (.cells #[.int .i64 0,.int .i64 0,.int .i64 0,.int .i64 0,.int .i64 0,.float .f64 0,.int .i64 0,.int .i64 0] 32)) (w.heap.size+1) 32 zP):=by
  have q:=CZ (w.alloc (.cells #[.int .i64 K,.int .i64 R,.int .i64 M,.int .i64 C,.int .i64 Fl,.int .i64 A,.slice a n cap] 24)) (.cells #[.int .i64 0,.int .i64 0,.int .i64 0,.int .i64 0,.int .i64 0,.float .f64 0,.int .i64 0,.int .i64 0] 32);rw[World.size_alloc]at q;exact⟨q,Af (Af (Aa w)),by omega⟩
 refine(Fu K R M C Fl A a n cap G _ (HN.out.go S0.out.bel)).mono ?_;rintro e w1 ⟨rfl,hb⟩;rw[hce];rw[hce]at HEE;clear hce;obtain⟨gA,egA⟩:=nme w.heap.size;obtain⟨gR,egR⟩:=nme (w.heap.size+1);have S1:Hid _:=S0.out.go hb;have Z1:Hid _:=Z0.out.go hb;rw[←egR]at Z1;rw[←egA]at S1;rw[←egR,←egA];clear egA egR hb S0 Z0;by_cases c0: ¬ce=0
 ·have HPE:Hid (E=ce):=by show _=_;rw[←HEE.out];unfold pfE;rw[if_pos c0]
  have dce:(ce==0)=false:=by simp[c0]
  go_upto_region 3 with fail
  go_wp2_with (refine(id ?_:wpList Tryz.prog _ _ (⟨none,.store 32 (.tmp 4) (.tmp 23),_,_,_,_⟩::_) _ _);refine wpList_store_row rfl 32 (.tmp 4) (.tmp 23) rfl gR zP rfl rfl 32 zP Z1.out.hc (by kernel_rfl) (by kernel_rfl) (by kernel_rfl) ?_;refine Az (fun W=>Bc w W gR 32 zP) (Z1.out.row _) ?_)
  intro wz BZ;have hR:=BZ.hc;obtain⟨u0,u1,u2,u3,u4,u5,u6,u7⟩:=cl8 hR;have WZ:Hid _:=BZ;clear hR BZ;go_wp2_with fail
  refine bodyPost_ret (v:=.tuple #[.agg zP,.int .i64 ce]) (by simp[results,Tryz.results7,go_sem,u0,u1,u2,u3,u4,u5,u6,u7]) rfl ?_;have q:=HBD.out (by rw[HPE.out];exact c0);exact⟨by rw[q.1 0,q.1 1,q.1 2,q.1 3,q.1 4,q.1 5,q.1 6,q.2,HPE.out],WZ.out.bel⟩
 rw[Classical.not_not]at c0;subst c0;by_cases c1:4096<s.size
 ·have d1:(4096:Int)<(s.size:Int):=by omega
  have HPE:Hid (E=2):=by show _=_;rw[←HEE.out];unfold pfE;rw[if_neg (by decide),if_pos c1]
  go_upto_region 5 with fail
  go_wp2_with (refine(id ?_:wpList Tryz.prog _ _ (⟨none,.store 32 (.tmp 4) (.tmp 28),_,_,_,_⟩::_) _ _);refine wpList_store_row rfl 32 (.tmp 4) (.tmp 28) rfl gR zP rfl rfl 32 zP Z1.out.hc (by kernel_rfl) (by kernel_rfl) (by kernel_rfl) ?_;refine Az (fun W=>Bc w W gR 32 zP) (Z1.out.row _) ?_)
  intro wz BZ;have hR:=BZ.hc;obtain⟨u0,u1,u2,u3,u4,u5,u6,u7⟩:=cl8 hR;have WZ:Hid _:=BZ;clear hR BZ;go_wp2_with fail
  refine bodyPost_ret (v:=.tuple #[.agg zP,.int .i64 2]) (by simp[results,Tryz.results7,go_sem,u0,u1,u2,u3,u4,u5,u6,u7]) rfl ?_;have q:=HBD.out (by rw[HPE.out];decide);exact⟨by rw[q.1 0,q.1 1,q.1 2,q.1 3,q.1 4,q.1 5,q.1 6,q.2,HPE.out],WZ.out.bel⟩
 have d0: ¬(4096:Int)<(s.size:Int):=by omega
 have HE1:Hid (E=if(!(flS (Ab s,false)).2&&(flS (Ab s,false)).1.isEmpty)=false then 201 else if exE (flR (Ab s,false))≠0 then exE (flR (Ab s,false)) else CO K R M C Fl A G n (flV (Ab s,false) 0) (flV (Ab s,false) 1) (flV (Ab s,false) 2) (flV (Ab s,false) 3) (flV (Ab s,false) 4) (exU (flR (Ab s,false))) (flV (Ab s,false) 5) (flV (Ab s,false) 6)):=by show _=_;rw[←HEE.out];unfold pfE;rw[if_neg (by decide),if_neg c1]
 have HFT:=Ul (Ab s) (FP s);have HSZ:Hid (∀x∈Ab s,x.size≤9223372036854775807):=fun x hx=>by have:=Eu s x hx;omega
 have HILL:Hid (((flS (Ab s,false)).2=true∨(flS (Ab s,false)).1≠[])→E=201):=fun h=>by
  rw[HE1.out,if_pos];rcases h with h|h
  ·rw[h];rfl
  rw[List.isEmpty_eq_false_iff.2 h,Bool.and_false]
 have CW:=EC s w1 (by omega);obtain⟨L,hL⟩:=nmd (Ab s);rw[hL]at HFT HSZ HILL HE1 HGD CW;have HC9:Hid _:=CW;have HFTH:Hid _:=HFT;clear hL c1 CW HFT HEE;go_wp2_with fail
 refine Calls.mono HC9.out ?_;rintro e w2 ⟨v1,rfl,hO,hb1⟩;have Z2:Hid _:=Z1.out.go hb1;have S2:Hid _:=S1.out.go hb1;have HT0:=Iu hO;have HT1:=HT0;clear hO hb1 Z1 S1 HC9;obtain⟨a2,cap2,rfl,hc1,hc2,hc3⟩:=HT0;obtain⟨m,hm⟩:=nmd L.length;have HM:Hid _:=hm;have HT:Hid (TSl w2 (.slice a2 m cap2) L):=by rw[←hm];exact HT1
 rw[hm]at hc1;rw[hm];clear HT1 hm hc3;by_cases m16: ¬m=16
 ·have HPE:Hid (E=201):=by
   rcases HFTH.out with⟨q,_⟩| ⟨_,_,_,_,_,_,_,q,_⟩
   ·exact HILL.out q
   exact absurd (HM.out.symm.trans q) m16
  have d16: ¬(m:Int)=16:=by omega
  have d16b:((m:Int)==16)=false:=by simp[d16]
  go_upto_region 8 with fail
  go_wp2_with (refine(id ?_:wpList Tryz.prog _ _ (⟨none,.store 32 (.tmp 4) (.tmp 34),_,_,_,_⟩::_) _ _);refine wpList_store_row rfl 32 (.tmp 4) (.tmp 34) rfl gR zP rfl rfl 32 zP Z2.out.hc (by kernel_rfl) (by kernel_rfl) (by kernel_rfl) ?_;refine Az (fun W=>Bc w W gR 32 zP) (Z2.out.row _) ?_)
  intro wz BZ;have hR:=BZ.hc;obtain⟨u0,u1,u2,u3,u4,u5,u6,u7⟩:=cl8 hR;have WZ:Hid _:=BZ;clear hR BZ;go_wp2_with fail
  refine bodyPost_ret (v:=.tuple #[.agg zP,.int .i64 201]) (by simp[results,Tryz.results7,go_sem,u0,u1,u2,u3,u4,u5,u6,u7]) rfl ?_;have q:=HBD.out (by rw[HPE.out];decide);exact⟨by rw[q.1 0,q.1 1,q.1 2,q.1 3,q.1 4,q.1 5,q.1 6,q.2,HPE.out],WZ.out.bel⟩
 rw[Classical.not_not]at m16;subst m16;go_wp2_with fail
 have TN:Hid (TSl (w2.alloc (.cells #[.string ⟨#[119,101,105,103,104,116]⟩,.string ⟨#[113,117,97,110,116,117,109]⟩,.string ⟨#[99,108,97,115,115]⟩,.string ⟨#[115,112,97,110]⟩,.string ⟨#[98,117,114,115,116]⟩,.string ⟨#[112,101,114]⟩,.string ⟨#[110,111,100,101]⟩] 9)) (.slice (some ⟨w2.heap.size,0,none⟩) 7 7) nO7):=GB w2 nO7 (by decide);have CI:=E0 (.slice a2 16 cap2) (.slice (some ⟨w2.heap.size,0,none⟩) 7 7) L nO7 0 (w2.alloc (.cells #[.string ⟨#[119,101,105,103,104,116]⟩,.string ⟨#[113,117,97,110,116,117,109]⟩,.string ⟨#[99,108,97,115,115]⟩,.string ⟨#[115,112,97,110]⟩,.string ⟨#[98,117,114,115,116]⟩,.string ⟨#[112,101,114]⟩,.string ⟨#[110,111,100,101]⟩] 9)) (HT.out.go (Af (Aa w2))) TN.out (by rw[HM.out];omega) (by omega) (by decide) HSZ.out;rw[List.drop_zero]at CI;refine Calls.mono CI ?_;rintro e w3 ⟨hb3,hcase⟩;clear CI TN;have hk: ∃v3 ok,e=.returned (.tuple #[v3,.bool ok])∧((ok=false∧Cq L nO7 []=none)∨(ok=true∧ ∃zs,Cq L nO7 []=some zs∧Ir (w2.alloc (.cells #[.string ⟨#[119,101,105,103,104,116]⟩,.string ⟨#[113,117,97,110,116,117,109]⟩,.string ⟨#[99,108,97,115,115]⟩,.string ⟨#[115,112,97,110]⟩,.string ⟨#[98,117,114,115,116]⟩,.string ⟨#[112,101,114]⟩,.string ⟨#[110,111,100,101]⟩] 9)).heap.size w3 v3 zs)):=by
  rcases hcase with⟨q,rfl⟩| ⟨zs,v',q,rfl,r⟩
  ·exact⟨_,_,rfl,.inl ⟨rfl,q⟩⟩
  exact⟨_,_,rfl,.inr ⟨rfl,zs,q,r⟩⟩
 obtain⟨v3,ok,rfl,hok⟩:=hk;have HOK:Hid _:=hok;have B3:Hid (Below w2.heap.size w2 w3):=AU (Af (Aa w2)) hb3;clear hok hcase hb3;have CF:=LY (.slice a2 16 cap2) L 0 ⟨#[114,97,116,101]⟩ w3 (HT.out.go B3.out) (by rw[HM.out];omega) (by omega);rw[List.drop_zero]at CF;have hX:(AA ⟨#[114,97,116,101]⟩ L ⟨#[]⟩ 0).1.size≤9223372036854775807:=by
  rcases Jy ⟨#[114,97,116,101]⟩ L ⟨#[]⟩ 0 with q|q
  ·rw[q];show(0:Nat)≤_;omega
  exact HSZ.out _ q
 obtain⟨p,hp⟩:=nmd (AA ⟨#[114,97,116,101]⟩ L ⟨#[]⟩ 0);rw[hp]at CF hX HFTH;clear hp;obtain⟨X,c⟩:=p;dsimp only at CF hX HFTH;have CFH:Hid _:=CF;clear CF;go_wp2_with fail
 refine Calls.mono CFH.out ?_;rintro e wq ⟨rfl,hw⟩;rw[hw];clear hw wq CFH;have IS:Hid (c=1∨ ¬c=1):=Classical.em _;obtain⟨is,his⟩: ∃b,decide (c=1)=b:=⟨_,rfl⟩;rw[his];have HIS:Hid _:=his;clear his IS;go_wp2_with fail
 refine(Ov X w3 hX).mono ?_;rintro e w4 ⟨v4,rfl,hv,hb4⟩;have hv':=hv;obtain⟨a5,n5,c5,a6,n6,c6,e0,_,_⟩:=hv';subst e0;have S4:Hid _:=((S2.out.go B3.out).go hb4).box2 (.slice a5 n5 c5) (.slice a6 n6 c6) 66 _ rfl;have B4:Hid (Below w3.heap.size w3 (w4.alloc (.cells #[.slice a5 n5 c5,.slice a6 n6 c6] 66))):=Af hb4;have Z4:Hid _:=(Z2.out.go B3.out).go B4.out;have HR4:Hid (RRt (w4.alloc (.cells #[.slice a5 n5 c5,.slice a6 n6 c6] 66)) (.agg #[.slice a5 n5 c5,.slice a6 n6 c6]) (npP X) (npQ X)):=hv.mono (Af (Aa w4));obtain⟨ne,hne⟩:=nmd (npE X);have HNE:Hid _:=hne;rw[hne];clear hne hv hb4 S2 Z2;cases ok with
 |false=>
  have HPE:Hid (E=201):=by
   rcases HFTH.out with⟨q,_⟩| ⟨_,_,_,_,_,_,_,_,q,_⟩
   ·exact HILL.out q
   rcases HOK.out with⟨_,h⟩| ⟨h,_⟩
   ·rw[h]at q;cases q
   cases h
  go_upto_region 13 with fail
  go_wp2_with (refine(id ?_:wpList Tryz.prog _ _ (⟨none,.store 32 (.tmp 4) (.tmp 61),_,_,_,_⟩::_) _ _);refine wpList_store_row rfl 32 (.tmp 4) (.tmp 61) rfl gR zP rfl rfl 32 zP Z4.out.hc (by kernel_rfl) (by kernel_rfl) (by kernel_rfl) ?_;refine Az (fun W=>Bc w W gR 32 zP) (Z4.out.row _) ?_)
  intro wz BZ;have hR:=BZ.hc;obtain⟨u0,u1,u2,u3,u4,u5,u6,u7⟩:=cl8 hR;have WZ:Hid _:=BZ;clear hR BZ;go_wp2_with fail
  refine bodyPost_ret (v:=.tuple #[.agg zP,.int .i64 201]) (by simp[results,Tryz.results7,go_sem,u0,u1,u2,u3,u4,u5,u6,u7]) rfl ?_;have q:=HBD.out (by rw[HPE.out];decide);exact⟨by rw[q.1 0,q.1 1,q.1 2,q.1 3,q.1 4,q.1 5,q.1 6,q.2,HPE.out],WZ.out.bel⟩
 |true=>
  cases is with
  |false=>
   have HPE:Hid (E=201):=by
    rcases HFTH.out with⟨q,_⟩| ⟨_,_,_,_,_,_,_,_,_,q,_⟩
    ·exact HILL.out q
    exact absurd q (of_decide_eq_false HIS.out)
   go_upto_region 13 with fail
   go_wp2_with (refine(id ?_:wpList Tryz.prog _ _ (⟨none,.store 32 (.tmp 4) (.tmp 61),_,_,_,_⟩::_) _ _);refine wpList_store_row rfl 32 (.tmp 4) (.tmp 61) rfl gR zP rfl rfl 32 zP Z4.out.hc (by kernel_rfl) (by kernel_rfl) (by kernel_rfl) ?_;refine Az (fun W=>Bc w W gR 32 zP) (Z4.out.row _) ?_)
   intro wz BZ;have hR:=BZ.hc;obtain⟨u0,u1,u2,u3,u4,u5,u6,u7⟩:=cl8 hR;have WZ:Hid _:=BZ;clear hR BZ;go_wp2_with fail
   refine bodyPost_ret (v:=.tuple #[.agg zP,.int .i64 201]) (by simp[results,Tryz.results7,go_sem,u0,u1,u2,u3,u4,u5,u6,u7]) rfl ?_;have q:=HBD.out (by rw[HPE.out];decide);exact⟨by rw[q.1 0,q.1 1,q.1 2,q.1 3,q.1 4,q.1 5,q.1 6,q.2,HPE.out],WZ.out.bel⟩
  |true=>
   have hc1:c=1:=of_decide_eq_true HIS.out;rcases HFTH.out with⟨_,q⟩| ⟨z1,z2,z3,z4,z5,z6,z7,_,hI,_,hS,hV0,hV1,hV2,hV3,hV4,hV5,hV6,hVR⟩
   ·exfalso;rcases HOK.out with⟨h,_⟩| ⟨_,zs,h,_⟩
    ·cases h
    rcases q with q|q|q
    ·exact q HM.out
    ·rw[h]at q;cases q
    exact q hc1
   have IR:Hid (Ir (w2.alloc (.cells #[.string ⟨#[119,101,105,103,104,116]⟩,.string ⟨#[113,117,97,110,116,117,109]⟩,.string ⟨#[99,108,97,115,115]⟩,.string ⟨#[115,112,97,110]⟩,.string ⟨#[98,117,114,115,116]⟩,.string ⟨#[112,101,114]⟩,.string ⟨#[110,111,100,101]⟩] 9)).heap.size w3 v3 [z1,z2,z3,z4,z5,z6,z7]):=by
    rcases HOK.out with⟨h,_⟩| ⟨_,zs,h,r⟩
    ·cases h
    rw[hI]at h;cases h;exact r
   have HE2:Hid (E=if exE X≠0 then exE X else CO K R M C Fl A G n z1 z2 z3 z4 z5 (exU X) z6 z7):=by
    show _=_;rw[HE1.out,if_neg (by rw[hS];decide),hVR,hV0,hV1,hV2,hV3,hV4,hV5,hV6]
   have HG2:Hid (E=0→(pfV E s 0=z1∧pfV E s 1=z2∧pfV E s 2=z3∧pfV E s 3=z4∧pfV E s 4=z5∧pfV E s 5=z6∧pfV E s 6=z7)∧pfU E s=exU X):=fun h=>by
    have q:=HGD.out h;rw[q.1,q.1,q.1,q.1,q.1,q.1,q.1,q.2,hVR];exact⟨⟨hV0,hV1,hV2,hV3,hV4,hV5,hV6⟩,rfl⟩
   clear hI hS hV0 hV1 hV2 hV3 hV4 hV5 hV6 hVR HE1 HGD HILL HFTH HOK HIS hc1;by_cases ne0: ¬ne=0
   ·have HPE:Hid (E=201):=by
     have q:exE X=201:=by unfold exE;rw[HNE.out,if_pos ne0]
     show _=_;rw[HE2.out,q,if_pos (by decide)]
    have dne:(ne==0)=false:=by simp[ne0]
    go_upto_region 13 with fail
    go_wp2_with (refine(id ?_:wpList Tryz.prog _ _ (⟨none,.store 32 (.tmp 4) (.tmp 61),_,_,_,_⟩::_) _ _);refine wpList_store_row rfl 32 (.tmp 4) (.tmp 61) rfl gR zP rfl rfl 32 zP Z4.out.hc (by kernel_rfl) (by kernel_rfl) (by kernel_rfl) ?_;refine Az (fun W=>Bc w W gR 32 zP) (Z4.out.row _) ?_)
    intro wz BZ;have hR:=BZ.hc;obtain⟨u0,u1,u2,u3,u4,u5,u6,u7⟩:=cl8 hR;have WZ:Hid _:=BZ;clear hR BZ;go_wp2_with fail
    refine bodyPost_ret (v:=.tuple #[.agg zP,.int .i64 201]) (by simp[results,Tryz.results7,go_sem,u0,u1,u2,u3,u4,u5,u6,u7]) rfl ?_;have q:=HBD.out (by rw[HPE.out];decide);exact⟨by rw[q.1 0,q.1 1,q.1 2,q.1 3,q.1 4,q.1 5,q.1 6,q.2,HPE.out],WZ.out.bel⟩
   rw[Classical.not_not]at ne0;subst ne0;obtain⟨gX,egX⟩:=nme w4.heap.size;obtain⟨w5,hw5⟩:=nme (w4.alloc (.cells #[.slice a5 n5 c5,.slice a6 n6 c6] 66));rw[←hw5]at Z4 HR4 B4;rw[←hw5,←egX]at S4;go_upto_region 14 with fail
   rw[←hw5,←egX];clear hw5 egX;have XR:=Pm X;have XQ:=V3 X;have UL:=Sp (npP X) (npQ X);have HEX:Hid (exE X=if BO (npP X) (npQ X)=false then 98 else if AW (ffP (tfV (npP X) (npQ X))*npQ X) (npP X*ffQ (tfV (npP X) (npQ X)))≠0 then 98 else 0):=by show _=_;unfold exE;rw[HNE.out,if_neg (by decide)]
   have HEU:Hid (exE X=0→exU X=tfV (npP X) (npQ X)):=fun h=>by unfold exU;rw[if_pos h]
   obtain⟨P0,hP0⟩:=nmd (npP X);obtain⟨Q0,hQ0⟩:=nmd (npQ X);rw[hP0,hQ0]at XR HR4 UL HEX HEU;rw[hQ0]at XQ;clear hP0 hQ0;have CT:=NM (.agg #[.slice a5 n5 c5,.slice a6 n6 c6]) P0 Q0 w5 HR4.out XR.1 XR.2 XQ;obtain⟨U,hU⟩:=nmd (tfV P0 Q0);obtain⟨ft,hft⟩:=nmd (BO P0 Q0);rw[hU]at UL HEX HEU CT;rw[hft]at HEX CT;have YR:=Lw U UL;have HRS:Hid _:=And.intro XR YR;have HUL:Hid _:=UL;have CTH:Hid _:=CT;clear hU hft CT XR YR;have x0:=S4.out.cel gX 0 (.slice a5 n5 c5);have x1:=S4.out.cel gX 1 (.slice a6 n6 c6);go_wp2_with fail
   refine Calls.mono CTH.out ?_;rintro e w6 ⟨rfl,hb6⟩;have S6:Hid _:=S4.out.go hb6;have Z6:Hid _:=Z4.out.go hb6;have HR6:Hid (RRt w6 (.agg #[.slice a5 n5 c5,.slice a6 n6 c6]) P0 Q0):=HR4.out.mono hb6;have B6:Hid (Below w3.heap.size w3 w6):=AU B4.out hb6;clear hb6 CTH S4 Z4 HR4 B4 x0 x1 XQ;go_wp2_with fail
   refine(Ij U w6 UL).mono ?_;rintro e w7 ⟨v7,rfl,hv,hb7⟩;have hv':=hv;obtain⟨a8,n8,c8,a9,n9,c9,e0,_,_⟩:=hv';subst e0;have S7:Hid _:=(S6.out.go hb7).box2 (.slice a8 n8 c8) (.slice a9 n9 c9) 66 _ rfl;have B7:Hid (Below w3.heap.size w3 (w7.alloc (.cells #[.slice a8 n8 c8,.slice a9 n9 c9] 66))):=AU B6.out (Af hb7);have Z7:Hid _:=Z6.out.go (Af (o:=.cells #[.slice a8 n8 c8,.slice a9 n9 c9] 66) hb7);have HX7:Hid (RRt (w7.alloc (.cells #[.slice a8 n8 c8,.slice a9 n9 c9] 66)) (.agg #[.slice a5 n5 c5,.slice a6 n6 c6]) P0 Q0):=HR6.out.mono (Af hb7);have HY7:Hid (RRt (w7.alloc (.cells #[.slice a8 n8 c8,.slice a9 n9 c9] 66)) (.agg #[.slice a8 n8 c8,.slice a9 n9 c9]) (ffP U) (ffQ U)):=hv.mono (Af (Aa w7));obtain⟨gY,egY⟩:=nme w7.heap.size;obtain⟨w8,hw8⟩:=nme (w7.alloc (.cells #[.slice a8 n8 c8,.slice a9 n9 c9] 66));rw[←hw8]at Z7 HX7 HY7 B7;rw[←hw8,←egY]at S7;clear hv hb7 S6 Z6 HR6 B6;cases ft with
   |false=>
    have HPE:Hid (E=98):=by
     have q:exE X=98:=by rw[HEX.out,if_pos rfl]
     show _=_;rw[HE2.out,q,if_pos (by decide)]
    go_upto_region 16 with fail
    rw[←hw8,←egY];clear hw8 egY;go_upto_region 17 with fail
    go_wp2_with (refine(id ?_:wpList Tryz.prog _ _ (⟨none,.store 32 (.tmp 4) (.tmp 80),_,_,_,_⟩::_) _ _);refine wpList_store_row rfl 32 (.tmp 4) (.tmp 80) rfl gR zP rfl rfl 32 zP Z7.out.hc (by kernel_rfl) (by kernel_rfl) (by kernel_rfl) ?_;refine Az (fun W=>Bc w W gR 32 zP) (Z7.out.row _) ?_)
    intro wz BZ;have hR:=BZ.hc;obtain⟨u0,u1,u2,u3,u4,u5,u6,u7⟩:=cl8 hR;have WZ:Hid _:=BZ;clear hR BZ;go_wp2_with fail
    refine bodyPost_ret (v:=.tuple #[.agg zP,.int .i64 98]) (by simp[results,Tryz.results7,go_sem,u0,u1,u2,u3,u4,u5,u6,u7]) rfl ?_;have q:=HBD.out (by rw[HPE.out];decide);exact⟨by rw[q.1 0,q.1 1,q.1 2,q.1 3,q.1 4,q.1 5,q.1 6,q.2,HPE.out],WZ.out.bel⟩
   |true=>
    go_upto_region 16 with fail
    rw[←hw8,←egY];clear hw8 egY;obtain⟨z,hz⟩:=nmd (AW (P0*ffQ U) (ffP U*Q0));have HZZ:Hid _:=hz;clear hz;have x0:=S7.out.cel gX 0 (.slice a5 n5 c5);have x1:=S7.out.cel gX 1 (.slice a6 n6 c6);have y0:=S7.out.cel gY 0 (.slice a8 n8 c8);have y1:=S7.out.cel gY 1 (.slice a9 n9 c9);go_wp2_with fail
    refine(L7 _ _ P0 Q0 (ffP U) (ffQ U) w8 HX7.out HY7.out HRS.out.1.1 HRS.out.1.2 HRS.out.2.1 HRS.out.2.2 z HZZ.out).mono ?_;rintro e w9 ⟨rfl,hb9⟩;have S9:Hid _:=S7.out.go hb9;have Z9:Hid _:=Z7.out.go hb9;have B9:Hid (Below w3.heap.size w3 w9):=AU B7.out hb9;clear hb9 S7 Z7 B7 HX7 HY7 x0 x1 y0 y1;by_cases z0: ¬z=0
    ·have HPE:Hid (E=98):=by
      have q:exE X=98:=by
       rw[HEX.out,if_neg (by decide),if_pos];intro h;exact z0 (HZZ.out.symm.trans (by rw[Je];have:=(JS.1 h);omega))
      show _=_;rw[HE2.out,q,if_pos (by decide)]
     have dz:(z==0)=false:=by simp[z0]
     go_upto_region 17 with fail
     go_wp2_with (refine(id ?_:wpList Tryz.prog _ _ (⟨none,.store 32 (.tmp 4) (.tmp 80),_,_,_,_⟩::_) _ _);refine wpList_store_row rfl 32 (.tmp 4) (.tmp 80) rfl gR zP rfl rfl 32 zP Z9.out.hc (by kernel_rfl) (by kernel_rfl) (by kernel_rfl) ?_;refine Az (fun W=>Bc w W gR 32 zP) (Z9.out.row _) ?_)
     intro wz BZ;have hR:=BZ.hc;obtain⟨u0,u1,u2,u3,u4,u5,u6,u7⟩:=cl8 hR;have WZ:Hid _:=BZ;clear hR BZ;go_wp2_with fail
     refine bodyPost_ret (v:=.tuple #[.agg zP,.int .i64 98]) (by simp[results,Tryz.results7,go_sem,u0,u1,u2,u3,u4,u5,u6,u7]) rfl ?_;have q:=HBD.out (by rw[HPE.out];decide);exact⟨by rw[q.1 0,q.1 1,q.1 2,q.1 3,q.1 4,q.1 5,q.1 6,q.2,HPE.out],WZ.out.bel⟩
    rw[Classical.not_not]at z0;subst z0;have HX0:Hid (exE X=0):=by
     show _=_;rw[HEX.out,if_neg (by decide),if_neg];rw[Classical.not_not];have:=JS.1 HZZ.out;exact Je (by omega)
    have HE3:Hid (E=CO K R M C Fl A G n z1 z2 z3 z4 z5 U z6 z7):=by
     show _=_;rw[HE2.out,if_neg (by rw[HX0.out];decide),HEU.out HX0.out]
    have HU3:Hid (exU X=U):=HEU.out HX0.out;clear HE2 HEX HEU HX0 HZZ HNE;obtain⟨am,cm,ev,hm2,_⟩:=Ir.sl IR.out;obtain⟨gm,eam,hgm1,hgm2,hcm⟩:=hm2 (by simp);subst eam;subst ev;have i0:w9.cell? ⟨gm,0,none⟩=some (.int .i64 z1):=Ae B9.out (hcm 0 (by simp));have i1:w9.cell? ⟨gm,1,none⟩=some (.int .i64 z2):=Ae B9.out (hcm 1 (by simp));have i2:w9.cell? ⟨gm,2,none⟩=some (.int .i64 z3):=Ae B9.out (hcm 2 (by simp));have i3:w9.cell? ⟨gm,3,none⟩=some (.int .i64 z4):=Ae B9.out (hcm 3 (by simp));have i4:w9.cell? ⟨gm,4,none⟩=some (.int .i64 z5):=Ae B9.out (hcm 4 (by simp));have i5:w9.cell? ⟨gm,5,none⟩=some (.int .i64 z6):=Ae B9.out (hcm 5 (by simp));have i6:w9.cell? ⟨gm,6,none⟩=some (.int .i64 z7):=Ae B9.out (hcm 6 (by simp));have lgm:gm<w9.heap.size:=World.block_lt_of_cell? _ _ i0;have sf:=fun(w:World) (a:Addr) (x:Nat)=>run_store Tryz.prog w a (.float .f64 x) .plain rfl;clear hcm hm2 hgm1 hgm2;go_upto_region 18 with fail
    go_region_held3 (fun w'=>w'.cell? ⟨gm,0,none⟩=some (.int .i64 z1)∧w'.cell? ⟨gm,1,none⟩=some (.int .i64 z2)∧w'.cell? ⟨gm,2,none⟩=some (.int .i64 z3)∧w'.cell? ⟨gm,3,none⟩=some (.int .i64 z4)∧w'.cell? ⟨gm,4,none⟩=some (.int .i64 z5)∧w'.cell? ⟨gm,5,none⟩=some (.int .i64 z6)∧w'.cell? ⟨gm,6,none⟩=some (.int .i64 z7)) (first| (simp[go_sem, *];done)| (trace_state;fail))
     (first
      | (go_at_call 29;refine Calls.mono (Jf U _) ?_;rintro e wq ⟨rfl,rfl⟩))
    all_goals(
     refine Iv (fun W=>Ce w W _∧Bc w W gR 32 zP) ⟨(S9.out.box8 (.int .i64 z1) (.int .i64 z2) (.int .i64 z3) (.int .i64 z4) (.int .i64 z5) (.float .f64 U) (.int .i64 z6) (.int .i64 z7) 32 w9.heap.size rfl).drew 1,(Z9.out.go (Af (Aa w9))).drew 1⟩ ?_;rintro w10 ⟨hS,hZ⟩;have S10:Hid _:=hS;have Z10:Hid (Bc w w10 gR 32 zP):=hZ;clear hS hZ i0 i1 i2 i3 i4 i5 i6 lgm sf S9 Z9 B9 IR;have x0:=S10.out.cel gA 0 (.int .i64 K);have x1:=S10.out.cel gA 1 (.int .i64 R);have x2:=S10.out.cel gA 2 (.int .i64 M);have x3:=S10.out.cel gA 3 (.int .i64 C);have x4:=S10.out.cel gA 4 (.int .i64 Fl);have x5:=S10.out.cel gA 5 (.int .i64 A);have x6:=S10.out.cel gA 6 (.slice a n cap);have y0:=S10.out.cel w9.heap.size 0 (.int .i64 z1);have y1:=S10.out.cel w9.heap.size 1 (.int .i64 z2);have y2:=S10.out.cel w9.heap.size 2 (.int .i64 z3);have y3:=S10.out.cel w9.heap.size 3 (.int .i64 z4);have y4:=S10.out.cel w9.heap.size 4 (.int .i64 z5);have y5:=S10.out.cel w9.heap.size 5 (.float .f64 U);have y6:=S10.out.cel w9.heap.size 6 (.int .i64 z6);have y7:=S10.out.cel w9.heap.size 7 (.int .i64 z7);go_wp2_with fail
     refine(Lz K R M C Fl A a n cap G z1 z2 z3 z4 z5 U z6 z7 w10 (HN.out.go S10.out.bel) HUL.out).mono ?_;rintro e w11 ⟨rfl,hb⟩;have S11:Hid _:=S10.out.go hb;have Z11:Hid (Bc w w11 gR 32 zP):=Z10.out.go hb;obtain⟨fe,hfe⟩:=nmd (CO K R M C Fl A G n z1 z2 z3 z4 z5 U z6 z7);rw[hfe]at HE3;rw[hfe];clear hfe hb S10 Z10 x0 x1 x2 x3 x4 x5 x6 y0 y1 y2 y3 y4 y5 y6 y7;by_cases fe0: ¬fe=0
     ·have HPE:Hid (E=fe):=HE3.out;have dfe:(fe==0)=false:=by simp[fe0]
      go_upto_region 21 with fail
      go_wp2_with (refine(id ?_:wpList Tryz.prog _ _ (⟨none,.store 32 (.tmp 4) (.tmp 110),_,_,_,_⟩::_) _ _);refine wpList_store_row rfl 32 (.tmp 4) (.tmp 110) rfl gR zP rfl rfl 32 zP Z11.out.hc (by kernel_rfl) (by kernel_rfl) (by kernel_rfl) ?_;refine Az (fun W=>Bc w W gR 32 zP) (Z11.out.row _) ?_)
      intro wz BZ;have hR:=BZ.hc;obtain⟨u0,u1,u2,u3,u4,u5,u6,u7⟩:=cl8 hR;have WZ:Hid _:=BZ;clear hR BZ;go_wp2_with fail
      refine bodyPost_ret (v:=.tuple #[.agg zP,.int .i64 fe]) (by simp[results,Tryz.results7,go_sem,u0,u1,u2,u3,u4,u5,u6,u7]) rfl ?_;have q:=HBD.out (by rw[HPE.out];exact fe0);exact⟨by rw[q.1 0,q.1 1,q.1 2,q.1 3,q.1 4,q.1 5,q.1 6,q.2,HPE.out],WZ.out.bel⟩
     rw[Classical.not_not]at fe0;subst fe0;have HPE:Hid (E=0):=HE3.out;have y0:=S11.out.cel w9.heap.size 0 (.int .i64 z1);have y1:=S11.out.cel w9.heap.size 1 (.int .i64 z2);have y2:=S11.out.cel w9.heap.size 2 (.int .i64 z3);have y3:=S11.out.cel w9.heap.size 3 (.int .i64 z4);have y4:=S11.out.cel w9.heap.size 4 (.int .i64 z5);have y5:=S11.out.cel w9.heap.size 5 (.float .f64 U);have y6:=S11.out.cel w9.heap.size 6 (.int .i64 z6);have y7:=S11.out.cel w9.heap.size 7 (.int .i64 z7);go_upto_region 22 with fail
     go_wp2_with (refine(id ?_:wpList Tryz.prog _ _ (⟨none,.store 32 (.tmp 4) (.tmp 112),_,_,_,_⟩::_) _ _);refine wpList_store_row rfl 32 (.tmp 4) (.tmp 112) rfl gR #[.int .i64 z1,.int .i64 z2,.int .i64 z3,.int .i64 z4,.int .i64 z5,.float .f64 U,.int .i64 z6,.int .i64 z7] rfl rfl 32 zP Z11.out.hc (by kernel_rfl) (by kernel_rfl) (by kernel_rfl) ?_;refine Az (fun W=>Bc w W gR 32 #[.int .i64 z1,.int .i64 z2,.int .i64 z3,.int .i64 z4,.int .i64 z5,.float .f64 U,.int .i64 z6,.int .i64 z7]) (Z11.out.row _) ?_)
     intro wz BZ;have hR:=BZ.hc;obtain⟨u0,u1,u2,u3,u4,u5,u6,u7⟩:=cl8 hR;have WZ:Hid _:=BZ;clear hR BZ;go_wp2_with fail
     refine bodyPost_ret (v:=.tuple #[.agg #[.int .i64 z1,.int .i64 z2,.int .i64 z3,.int .i64 z4,.int .i64 z5,.float .f64 U,.int .i64 z6,.int .i64 z7],.int .i64 0]) (by simp[results,Tryz.results7,go_sem,u0,u1,u2,u3,u4,u5,u6,u7]) rfl ?_;have q:=HG2.out HPE.out;exact⟨by rw[q.1.1,q.1.2.1,q.1.2.2.1,q.1.2.2.2.1,q.1.2.2.2.2.1,q.1.2.2.2.2.2.1,q.1.2.2.2.2.2.2,q.2,HU3.out,HPE.out],WZ.out.bel⟩)
end Go.Proofs.YtbikpmmpgbggaaaGreatDoor
