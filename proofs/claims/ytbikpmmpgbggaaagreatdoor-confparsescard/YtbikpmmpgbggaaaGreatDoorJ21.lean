/- Contracts of the program's functions, part 21: own work, joined in build order. -/
import Derived.Test.YtbikpmmpgbggaaaGreatDoorJ20
import Derived.Deep.Cut
import Derived.Deep.WholeRow
namespace Go.Proofs.YtbikpmmpgbggaaaGreatDoor
open Go.RowKit
set_option maxRecDepth 100000
set_option linter.unusedVariables false
set_option maxHeartbeats 16000000
theorem Nq(acc:Nat)(l:List UInt8)(c:UInt8):dv9 acc (l++[c])=dv9 acc l*10+(c.toNat-48):=by unfold dv9;rw[List.foldl_append,List.foldl_cons,List.foldl_nil]
theorem IL(s:ByteArray)(w:World)(hs:s.size≤9223372036854775807):
  Calls Tryz.prog 44 #[.string s] w fun e w'=>e=.returned (.tuple #[.int .i64 ((CH s.data.toList).getD 0),.bool (CH s.data.toList).isSome])∧w'=w:=by
 have hh0:(s.data.toList.headD 0).toNat=sb s 0:=by rw[Ip];cases s.data.toList<;>rfl
 by_cases ng:0<s.size∧sb s 0=45
 ·obtain⟨n1,n45⟩:=ng;have hc:=BI n1;rw[n45]at hc;have ra:decide ((0:Int)<(s.size:Int))=true:=decide_eq_true (by omega);obtain⟨r,hr⟩:=nmd (s.extract 1 s.size);have hrl:r.data.toList=s.data.toList.drop 1:=by
   rw[←hr];simp[ByteArray.data_extract];rw[List.take_of_length_le];rw[List.length_tail,Array.length_toList];exact Nat.le_refl _
  have HI:Hid (CH s.data.toList=match Bn r.data.toList with
   |none=>none
   |some u=>if u=9223372036854775808 then some (-9223372036854775808) else if 9223372036854775807<u then none else some (-(u:Int))):=by
   show _=_;unfold CH;rw[hh0,if_pos n45,←hrl];cases Bn r.data.toList with
   |none=>rfl
   |some u=>simp only[n45,true_and,if_true]
  have hrz:r.size≤9223372036854775807:=by
   have q:r.data.toList.length=r.size:=by rw[Array.length_toList];rfl
   rw[hrl,List.length_drop,Array.length_toList]at q;have:s.data.size=s.size:=rfl;omega
  clear hrl hh0 n45;go_enter Tryz.func44,Tryz.ntmps44
  go_upto_if 15 with(fail)
  go_cut [0] from 7 (fun s0 wx=>s0=.string r∧wx=w)
  case first=>
   go_wp2_with fail
   go_meet
   case rel=>exact⟨by first|rfl|rw[hr],rfl⟩
  case rest=>
   obtain⟨e0,ew⟩:=hcut;subst e0;subst ew;clear hc ra hr;have hsz:r.data.toList.length=r.size:=by rw[Array.length_toList];rfl
   have hhd:(r.data.toList.headD 0).toNat=sb r 0:=by rw[Ip];cases r.data.toList<;>rfl
   have HNONE:Hid (Bn r.data.toList=none→CH s.data.toList=none):=fun h=>by rw[HI.out,h]
   by_cases c0:r.size<1
   ·have HV:Hid (CH s.data.toList=none):=HNONE.out (by unfold Bn;rw[hsz,if_pos (.inl c0)]);have z0:r.size=0:=by omega
    have r0:decide ((r.size:Int)<1)=true:=decide_eq_true (by omega);clear c0;go_wp2_with fail
    exact bodyPost_ret (v:=.tuple #[.int .i64 (0),.bool false]) (by simp[results,Tryz.results44,go_sem]) rfl ⟨by rw[HV.out];rfl,rfl⟩
   by_cases c1:19<r.size
   ·have HV:Hid (CH s.data.toList=none):=HNONE.out (by unfold Bn;rw[hsz,if_pos (.inr (.inl c1))]);have r0:decide ((r.size:Int)<1)=false:=decide_eq_false (by omega);have r1:decide ((19:Int)<(r.size:Int))=true:=decide_eq_true (by omega);clear c0 c1;go_wp2_with fail
    exact bodyPost_ret (v:=.tuple #[.int .i64 (0),.bool false]) (by simp[results,Tryz.results44,go_sem]) rfl ⟨by rw[HV.out];rfl,rfl⟩
   have r0:decide ((r.size:Int)<1)=false:=decide_eq_false (by omega);have r1:decide ((19:Int)<(r.size:Int))=false:=decide_eq_false (by omega);have hc0:=BI (s:=r) (i:=0) (by omega);by_cases c2:1<r.size∧sb r 0=48
   ·have HV:Hid (CH s.data.toList=none):=HNONE.out (by unfold Bn;rw[hsz,hhd,if_pos (.inr (.inr c2))]);have r2:decide ((1:Int)<(r.size:Int))=true:=decide_eq_true (by omega);rw[c2.2]at hc0;clear c2;go_wp2_with fail
    exact bodyPost_ret (v:=.tuple #[.int .i64 (0),.bool false]) (by simp[results,Tryz.results44,go_sem]) rfl ⟨by rw[HV.out];rfl,rfl⟩
   have HMG:Hid (Bn r.data.toList=if∀c∈r.data.toList,Fq c then some (dv9 0 r.data.toList) else none):=by
    show _=_;unfold Bn;rw[hsz,hhd,if_neg (by omega)]
   have L19:Hid (1≤r.size∧r.size≤19):=⟨by omega,by omega⟩;have CUT:Hid (∀P:Prop,((1<r.size→ ¬sb r 0=48)→P)→P):=fun P h=>h (fun q e=>c2 ⟨q,e⟩);go_upto_region 4 with fail
   go_cut [35] from 7 (fun s35 wx=>s35=.bool false∧wx=wc)
   case first=>
    by_cases q1:1<r.size
    ·have r2:decide ((1:Int)<(r.size:Int))=true:=decide_eq_true (by omega);have n48:((sb r 0:Int)==48)=false:=by simp;intro e;exact c2 ⟨q1,by omega⟩
     clear c2;go_wp2_with fail
     go_meet
     case rel=>exact⟨rfl,rfl⟩
    have r2:decide ((1:Int)<(r.size:Int))=false:=decide_eq_false (by omega);clear c2;go_wp2_with fail
    go_meet
    case rel=>exact⟨rfl,rfl⟩
   case rest=>
    obtain⟨e35,ew⟩:=hcut;subst e35;subst ew;clear c2 hc0 r0 r1 hhd;go_wp2_with fail
    go_loopw [6,5] (fun ti tu wr=> ∃i u:Nat,i≤r.size∧ti=.int .i64 (i:Int)∧tu=.int .u64 (u:Int)∧wr=wc∧Hid (u=dv9 0 (r.data.toList.take i)∧ ∀c∈r.data.toList.take i,Fq c)) (fun ti _ _=>r.size- (intOf ti).toNat)
    case atStart=>exact⟨0,0,by omega,rfl,rfl,rfl,⟨rfl,fun c hc=>by simp at hc⟩⟩
    case round=>
     obtain⟨i,u,hi,rfl,rfl,rfl,HU⟩:=hrel;by_cases ei:i=r.size
     ·have eI:r.data.toList.take i=r.data.toList:=List.take_of_length_le (by rw[hsz];omega);have HM:Hid (Bn r.data.toList=some u):=by
       have q:=HU.out;rw[eI]at q;show _=_;rw[HMG.out,if_pos q.2,q.1]
      subst ei;clear eI HU;have hu19:u<10000000000000000000:=Lr HM.out;by_cases e63:u=9223372036854775808
      ·subst e63;have HV:Hid (CH s.data.toList=some (-9223372036854775808)):=by show _=_;rw[HI.out,HM.out];rfl
       go_wp2_with fail
       exact bodyPost_ret (v:=.tuple #[.int .i64 ((-9223372036854775808)),.bool true]) (by simp[results,Tryz.results44,go_sem]) rfl ⟨by rw[HV.out];rfl,rfl⟩
      have d63:((u:Int)==9223372036854775808)=false:=by simp;omega
      by_cases g63:9223372036854775807<u
      ·have HV:Hid (CH s.data.toList=none):=by show _=_;rw[HI.out,HM.out];simp only;rw[if_neg e63,if_pos g63]
       have r9:decide ((9223372036854775807:Int)<(u:Int))=true:=decide_eq_true (by omega);clear g63 hu19 e63;go_wp2_with fail
       exact bodyPost_ret (v:=.tuple #[.int .i64 (0),.bool false]) (by simp[results,Tryz.results44,go_sem]) rfl ⟨by rw[HV.out];rfl,rfl⟩
      have HV:Hid (CH s.data.toList=some (-(u:Int))):=by show _=_;rw[HI.out,HM.out];simp only;rw[if_neg e63,if_neg g63]
      have r9:decide ((9223372036854775807:Int)<(u:Int))=false:=decide_eq_false (by omega);have r8:IntKind.i64.wrap (u:Int)=(u:Int):=by rw[IntKind.wrap_i64];omega
      have r7:IntKind.i64.wrap (-(u:Int))= -(u:Int):=by rw[IntKind.wrap_i64];omega
      clear g63 hu19 e63;go_wp2_with fail
      exact bodyPost_ret (v:=.tuple #[.int .i64 (-(u:Int)),.bool true]) (by simp[results,Tryz.results44,go_sem]) rfl ⟨by rw[HV.out];rfl,rfl⟩
     have lt:i<r.size:=by omega
     have hc:=BI lt;have hc2:=IB r i;have hx:r.data.toList[i]? =some (r.data.toList[i]'(by omega)):=List.getElem?_eq_getElem _;obtain⟨x,hxe⟩:=nmd (r.data.toList[i]'(by omega));rw[hxe]at hx;have hxs:x.toNat=sb r i:=by rw[Ip,List.getD,hx];rfl
     have htk:r.data.toList.take (i+1)=r.data.toList.take i++[x]:=by rw[List.take_add_one,hx];rfl
     by_cases dg:48≤sb r i∧sb r i≤57
     ·have hlt:u<10^18:=by
       have q:=KQ _ 0 HU.out.2;rw[←HU.out.1,List.length_take,hsz,Nat.min_eq_left (by omega),Nat.zero_add,Nat.one_mul]at q;exact Nat.lt_of_lt_of_le q (Nat.pow_le_pow_right (by omega) (by have:=L19.out;omega))
      have h18:(10:Nat)^18=1000000000000000000:=by decide
      obtain⟨y,hy⟩:=nmd (u*10+(sb r i-48));obtain⟨dd,hdd⟩:=nmd (sb r i-48);have HU2:Hid (y=dv9 0 (r.data.toList.take (i+1))∧ ∀c∈r.data.toList.take (i+1),Fq c):=by
       rw[htk];refine⟨by rw[Nq,←HU.out.1,hxs,hy],fun c hc=> ?_⟩;rcases List.mem_append.1 hc with z|z
       ·exact HU.out.2 c z
       have:c=x:=by simpa using z
       subst this;show 48≤c.toNat∧c.toNat≤57;rw[hxs];exact dg
      have t1:decide ((sb r i:Int)<48)=false:=decide_eq_false (by omega);have t2:decide ((57:Int)<(sb r i:Int))=false:=decide_eq_false (by omega);have m1:IntKind.u64.wrap (10*(u:Int))=((10*u:Nat):Int):=by rw[IntKind.wrap_u64];omega
      have m2:IntKind.u8.wrap ((sb r i:Int)-48)=(dd:Int):=by rw[IntKind.wrap_u8];omega
      have m3:IntKind.u64.wrap (dd:Int)=(dd:Int):=by rw[IntKind.wrap_u64];omega
      have m4:IntKind.u64.wrap (((10*u:Nat):Int)+(dd:Int))=(y:Int):=by rw[IntKind.wrap_u64];omega
      obtain⟨tu,htu⟩: ∃t,10*u=t:=⟨_,rfl⟩;rw[htu]at m1 m4;clear dg hlt h18 hy hdd hxs htk hx hxe htu hc2 ei;go_wp2_with fail
      go_roundw
      case rel=>exact⟨i+1,y,by omega,by go_num,rfl,(by trivial),HU2⟩
      case measure=>simp[intOf]<;>omega
     have HV:Hid (CH s.data.toList=none):=HNONE.out (by
      rw[HMG.out,if_neg];intro q;have z:=q x (by rw[←hxe];exact List.getElem_mem _);apply dg;rw[←hxs];exact z)
     by_cases lo:sb r i<48
     ·have t1:decide ((sb r i:Int)<48)=true:=decide_eq_true (by omega);clear dg lo hxs htk hx hxe ei;go_wp2_with fail
      exact bodyPost_ret (v:=.tuple #[.int .i64 (0),.bool false]) (by simp[results,Tryz.results44,go_sem]) rfl ⟨by rw[HV.out];rfl,rfl⟩
     have t1:decide ((sb r i:Int)<48)=false:=decide_eq_false (by omega);have t2:decide ((57:Int)<(sb r i:Int))=true:=decide_eq_true (by omega);clear dg lo hxs htk hx hxe ei;go_wp2_with fail
     exact bodyPost_ret (v:=.tuple #[.int .i64 (0),.bool false]) (by simp[results,Tryz.results44,go_sem]) rfl ⟨by rw[HV.out];rfl,rfl⟩
 have HI:Hid (CH s.data.toList=match Bn s.data.toList with
  |none=>none
  |some u=>if 9223372036854775807<u then none else some (u:Int)):=by
  show _=_;unfold CH;by_cases e45:sb s 0=45
  ·have z:s.size=0:=by omega
   have e:sb s 0=0:=by unfold sb;rw[dif_neg (by omega)]
   omega
  rw[hh0,if_neg e45];cases Bn s.data.toList with
  |none=>rfl
  |some u=>simp only[e45,false_and,if_false]
 have hrz:s.size≤9223372036854775807:=hs;by_cases z:0<s.size
 ·have hc:=BI z;have n45:((sb s 0:Int)==45)=false:=by simp;omega
  have ra:decide ((0:Int)<(s.size:Int))=true:=decide_eq_true (by omega);clear hh0 ng;go_enter Tryz.func44,Tryz.ntmps44
  go_upto_if 15 with(fail)
  go_cut [0] from 7 (fun s0 wx=>s0=.string s∧wx=w)
  case first=>
   go_wp2_with fail
   go_meet
   case rel=>exact⟨rfl,rfl⟩
  case rest=>
   obtain⟨e0,ew⟩:=hcut;subst e0;subst ew;clear ra n45 hc;have hsz:s.data.toList.length=s.size:=by rw[Array.length_toList];rfl
   have hhd:(s.data.toList.headD 0).toNat=sb s 0:=by rw[Ip];cases s.data.toList<;>rfl
   have HNONE:Hid (Bn s.data.toList=none→CH s.data.toList=none):=fun h=>by rw[HI.out,h]
   have c0: ¬s.size<1:=by omega
   by_cases c1:19<s.size
   ·have HV:Hid (CH s.data.toList=none):=HNONE.out (by unfold Bn;rw[hsz,if_pos (.inr (.inl c1))]);have r0:decide ((s.size:Int)<1)=false:=decide_eq_false (by omega);have r1:decide ((19:Int)<(s.size:Int))=true:=decide_eq_true (by omega);clear c0 c1;go_wp2_with fail
    exact bodyPost_ret (v:=.tuple #[.int .i64 (0),.bool false]) (by simp[results,Tryz.results44,go_sem]) rfl ⟨by rw[HV.out];rfl,rfl⟩
   have r0:decide ((s.size:Int)<1)=false:=decide_eq_false (by omega);have r1:decide ((19:Int)<(s.size:Int))=false:=decide_eq_false (by omega);have hc0:=BI (s:=s) (i:=0) (by omega);by_cases c2:1<s.size∧sb s 0=48
   ·have HV:Hid (CH s.data.toList=none):=HNONE.out (by unfold Bn;rw[hsz,hhd,if_pos (.inr (.inr c2))]);have r2:decide ((1:Int)<(s.size:Int))=true:=decide_eq_true (by omega);rw[c2.2]at hc0;clear c2;go_wp2_with fail
    exact bodyPost_ret (v:=.tuple #[.int .i64 (0),.bool false]) (by simp[results,Tryz.results44,go_sem]) rfl ⟨by rw[HV.out];rfl,rfl⟩
   have HMG:Hid (Bn s.data.toList=if∀c∈s.data.toList,Fq c then some (dv9 0 s.data.toList) else none):=by
    show _=_;unfold Bn;rw[hsz,hhd,if_neg (by omega)]
   have L19:Hid (1≤s.size∧s.size≤19):=⟨by omega,by omega⟩;have CUT:Hid (∀P:Prop,((1<s.size→ ¬sb s 0=48)→P)→P):=fun P h=>h (fun q e=>c2 ⟨q,e⟩);go_upto_region 4 with fail
   go_cut [35] from 7 (fun s35 wx=>s35=.bool false∧wx=wc)
   case first=>
    by_cases q1:1<s.size
    ·have r2:decide ((1:Int)<(s.size:Int))=true:=decide_eq_true (by omega);have n48:((sb s 0:Int)==48)=false:=by simp;intro e;exact c2 ⟨q1,by omega⟩
     clear c2;go_wp2_with fail
     go_meet
     case rel=>exact⟨rfl,rfl⟩
    have r2:decide ((1:Int)<(s.size:Int))=false:=decide_eq_false (by omega);clear c2;go_wp2_with fail
    go_meet
    case rel=>exact⟨rfl,rfl⟩
   case rest=>
    obtain⟨e35,ew⟩:=hcut;subst e35;subst ew;clear c2 hc0 r0 r1 hhd;go_wp2_with fail
    go_loopw [6,5] (fun ti tu wr=> ∃i u:Nat,i≤s.size∧ti=.int .i64 (i:Int)∧tu=.int .u64 (u:Int)∧wr=wc∧Hid (u=dv9 0 (s.data.toList.take i)∧ ∀c∈s.data.toList.take i,Fq c)) (fun ti _ _=>s.size- (intOf ti).toNat)
    case atStart=>exact⟨0,0,by omega,rfl,rfl,rfl,⟨rfl,fun c hc=>by simp at hc⟩⟩
    case round=>
     obtain⟨i,u,hi,rfl,rfl,rfl,HU⟩:=hrel;by_cases ei:i=s.size
     ·have eI:s.data.toList.take i=s.data.toList:=List.take_of_length_le (by rw[hsz];omega);have HM:Hid (Bn s.data.toList=some u):=by
       have q:=HU.out;rw[eI]at q;show _=_;rw[HMG.out,if_pos q.2,q.1]
      subst ei;clear eI HU;have hu19:u<10000000000000000000:=Lr HM.out;by_cases g63:9223372036854775807<u
      ·have HV:Hid (CH s.data.toList=none):=by show _=_;rw[HI.out,HM.out];simp only;rw[if_pos g63]
       have r9:decide ((9223372036854775807:Int)<(u:Int))=true:=decide_eq_true (by omega);clear g63 hu19;go_wp2_with fail
       exact bodyPost_ret (v:=.tuple #[.int .i64 (0),.bool false]) (by simp[results,Tryz.results44,go_sem]) rfl ⟨by rw[HV.out];rfl,rfl⟩
      have HV:Hid (CH s.data.toList=some ((u:Int))):=by show _=_;rw[HI.out,HM.out];simp only;rw[if_neg g63]
      have r9:decide ((9223372036854775807:Int)<(u:Int))=false:=decide_eq_false (by omega);have r8:IntKind.i64.wrap (u:Int)=(u:Int):=by rw[IntKind.wrap_i64];omega
      have r7:IntKind.i64.wrap (-(u:Int))= -(u:Int):=by rw[IntKind.wrap_i64];omega
      clear g63 hu19;go_wp2_with fail
      exact bodyPost_ret (v:=.tuple #[.int .i64 ((u:Int)),.bool true]) (by simp[results,Tryz.results44,go_sem]) rfl ⟨by rw[HV.out];rfl,rfl⟩
     have lt:i<s.size:=by omega
     have hc:=BI lt;have hc2:=IB s i;have hx:s.data.toList[i]? =some (s.data.toList[i]'(by omega)):=List.getElem?_eq_getElem _;obtain⟨x,hxe⟩:=nmd (s.data.toList[i]'(by omega));rw[hxe]at hx;have hxs:x.toNat=sb s i:=by rw[Ip,List.getD,hx];rfl
     have htk:s.data.toList.take (i+1)=s.data.toList.take i++[x]:=by rw[List.take_add_one,hx];rfl
     by_cases dg:48≤sb s i∧sb s i≤57
     ·have hlt:u<10^18:=by
       have q:=KQ _ 0 HU.out.2;rw[←HU.out.1,List.length_take,hsz,Nat.min_eq_left (by omega),Nat.zero_add,Nat.one_mul]at q;exact Nat.lt_of_lt_of_le q (Nat.pow_le_pow_right (by omega) (by have:=L19.out;omega))
      have h18:(10:Nat)^18=1000000000000000000:=by decide
      obtain⟨y,hy⟩:=nmd (u*10+(sb s i-48));obtain⟨dd,hdd⟩:=nmd (sb s i-48);have HU2:Hid (y=dv9 0 (s.data.toList.take (i+1))∧ ∀c∈s.data.toList.take (i+1),Fq c):=by
       rw[htk];refine⟨by rw[Nq,←HU.out.1,hxs,hy],fun c hc=> ?_⟩;rcases List.mem_append.1 hc with z|z
       ·exact HU.out.2 c z
       have:c=x:=by simpa using z
       subst this;show 48≤c.toNat∧c.toNat≤57;rw[hxs];exact dg
      have t1:decide ((sb s i:Int)<48)=false:=decide_eq_false (by omega);have t2:decide ((57:Int)<(sb s i:Int))=false:=decide_eq_false (by omega);have m1:IntKind.u64.wrap (10*(u:Int))=((10*u:Nat):Int):=by rw[IntKind.wrap_u64];omega
      have m2:IntKind.u8.wrap ((sb s i:Int)-48)=(dd:Int):=by rw[IntKind.wrap_u8];omega
      have m3:IntKind.u64.wrap (dd:Int)=(dd:Int):=by rw[IntKind.wrap_u64];omega
      have m4:IntKind.u64.wrap (((10*u:Nat):Int)+(dd:Int))=(y:Int):=by rw[IntKind.wrap_u64];omega
      obtain⟨tu,htu⟩: ∃t,10*u=t:=⟨_,rfl⟩;rw[htu]at m1 m4;clear dg hlt h18 hy hdd hxs htk hx hxe htu hc2 ei;go_wp2_with fail
      go_roundw
      case rel=>exact⟨i+1,y,by omega,by go_num,rfl,(by trivial),HU2⟩
      case measure=>simp[intOf]<;>omega
     have HV:Hid (CH s.data.toList=none):=HNONE.out (by
      rw[HMG.out,if_neg];intro q;have z:=q x (by rw[←hxe];exact List.getElem_mem _);apply dg;rw[←hxs];exact z)
     by_cases lo:sb s i<48
     ·have t1:decide ((sb s i:Int)<48)=true:=decide_eq_true (by omega);clear dg lo hxs htk hx hxe ei;go_wp2_with fail
      exact bodyPost_ret (v:=.tuple #[.int .i64 (0),.bool false]) (by simp[results,Tryz.results44,go_sem]) rfl ⟨by rw[HV.out];rfl,rfl⟩
     have t1:decide ((sb s i:Int)<48)=false:=decide_eq_false (by omega);have t2:decide ((57:Int)<(sb s i:Int))=true:=decide_eq_true (by omega);clear dg lo hxs htk hx hxe ei;go_wp2_with fail
     exact bodyPost_ret (v:=.tuple #[.int .i64 (0),.bool false]) (by simp[results,Tryz.results44,go_sem]) rfl ⟨by rw[HV.out];rfl,rfl⟩
 have HV:Hid (CH s.data.toList=none):=by
  show _=_;rw[HI.out];have e:s.data.toList.length=s.size:=by rw[Array.length_toList];rfl
  have m:Bn s.data.toList=none:=by unfold Bn;rw[e,if_pos (.inl (by omega))]
  rw[m]
 have ra:decide ((0:Int)<(s.size:Int))=false:=decide_eq_false (by omega);have z0:s.size=0:=by omega
 have rb:decide ((s.size:Int)<1)=true:=decide_eq_true (by omega);clear z ng hh0;go_enter Tryz.func44,Tryz.ntmps44
 go_wp2_with fail
 exact bodyPost_ret (v:=.tuple #[.int .i64 (0),.bool false]) (by simp[results,Tryz.results44,go_sem]) rfl ⟨by rw[HV.out];rfl,rfl⟩
end Go.Proofs.YtbikpmmpgbggaaaGreatDoor
namespace Go.Proofs.YtbikpmmpgbggaaaGreatDoor.Lay9
set_option maxRecDepth 100000
set_option linter.unusedVariables false
set_option linter.unusedSectionVars false
variable {α:Type} [DecidableEq α]
def arrA(ix:α→Int)(e:α):Nat→List α→List α→Bool→List α×Bool
 |0,V,L,b=>(V++L,b)
 |k+1,V,L,b=>
  if ix (L.headD e)<0 then(L.tail,true)
  else if V.getD (ix (L.headD e)).toNat e≠e then(L.tail,true)
  else arrA ix e k (V.set (ix (L.headD e)).toNat (L.tail.headD e)) L.tail.tail (b||L.isEmpty||L.tail.isEmpty)
def fl9:List (α×α)→List α
 | []=>[]
 |q::r=>q.1::q.2::fl9 r
def up9(ix:α→Int):List α→List (α×α)→List α
 |V,[]=>V
 |V,q::r=>up9 ix (V.set (ix q.1).toNat q.2) r
def ok9(ix:α→Int)(e:α):List α→List (α×α)→Prop
 |_,[]=>True
 |V,q::r=>0≤ix q.1∧V.getD (ix q.1).toNat e=e∧ok9 ix e (V.set (ix q.1).toNat q.2) r
theorem arr_ok(ix:α→Int)(e:α)(rest:List α): ∀(Q:List (α×α)) (V:List α) (b:Bool),ok9 ix e V Q→arrA ix e Q.length V (fl9 Q++rest) b=(up9 ix V Q++rest,b)
 | [],V,b,_=>rfl
 |q::r,V,b,h=>by
  obtain⟨h1,h2,h3⟩:=h;have ih:=arr_ok ix e rest r (V.set (ix q.1).toNat q.2) b h3;show(if ix q.1<0 then _ else if V.getD (ix q.1).toNat e≠e then _ else arrA ix e r.length (V.set (ix q.1).toNat q.2) (fl9 r++rest) (b||false||false))=_;rw[if_neg (by omega),if_neg (by simpa using h2),Bool.or_false,Bool.or_false,ih];rfl
theorem arr_no(ix:α→Int)(e:α)(rest:List α): ∀(Q:List (α×α)) (V:List α) (b:Bool),¬ok9 ix e V Q→(arrA ix e Q.length V (fl9 Q++rest) b).2=true
 | [],V,b,h=>absurd trivial h
 |q::r,V,b,h=>by
  show(if ix q.1<0 then _ else if V.getD (ix q.1).toNat e≠e then _ else arrA ix e r.length (V.set (ix q.1).toNat q.2) (fl9 r++rest) (b||false||false)).2=true;by_cases h1:ix q.1<0
  ·rw[if_pos h1]
  rw[if_neg h1];by_cases h2:V.getD (ix q.1).toNat e≠e
  ·rw[if_pos h2]
  rw[if_neg h2,Bool.or_false,Bool.or_false];exact arr_no ix e rest r _ b fun h3=>h ⟨by omega,by simpa using h2,h3⟩
structure Ix (O:List α) (ix:α→Int):Prop where
 out: ∀x,x ∉ O→ix x<0
 at': ∀(j:Nat) x,O[j]? =some x→ix x=(j:Int)
theorem Ix.mem{O:List α}{ix:α→Int}(h:Ix O ix){x:α}(hx:0≤ix x):x∈O:=by
 by_cases q:x∈O
 ·exact q
 have:=h.out x q;omega
theorem Ix.ex{O:List α}{ix:α→Int}(h:Ix O ix){x:α}(hx:x∈O): ∃j:Nat,O[j]? =some x∧ix x=(j:Int)∧j<O.length:=by
 obtain⟨j,hj,e⟩:=List.getElem_of_mem hx;have q:O[j]? =some x:=by rw[List.getElem?_eq_getElem hj,e]
 exact⟨j,q,h.at' j x q,hj⟩
def Hold(O:List α)(e:α)(V:List α)(S:List α):Prop:=V.length=O.length∧ ∀j x,O[j]? =some x→(V.getD j e=e↔x ∉ S)
theorem ok_iff{O:List α}{ix:α→Int}{e:α}(h:Ix O ix): ∀(Q:List (α×α)) (V S:List α),(∀q∈Q,q.2≠e)→Hold O e V S→(ok9 ix e V Q↔(∀q∈Q,q.1∈O∧q.1 ∉ S)∧(Q.map (·.1)).Nodup)
 | [],V,S,_,_=>by simp[ok9]
 |q::r,V,S,hv,hh=>by
  have hq:=hv q List.mem_cons_self;constructor
  ·rintro⟨h1,h2,h3⟩;have hm:=h.mem h1;obtain⟨j,hj,ej,lj⟩:=h.ex hm;rw[ej,Int.toNat_natCast]at h2 h3;have hns:=(hh.2 j q.1 hj).1 h2;have hh2:Hold O e (V.set j q.2) (q.1::S):=by
    refine⟨by rw[List.length_set];exact hh.1,fun i x hi=> ?_⟩;by_cases eij:i=j
    ·subst eij;have ex:x=q.1:=by rw[hj]at hi;exact(Option.some.inj hi).symm
     subst ex;rw[List.getD,List.getElem?_set_self (by rw[hh.1];exact lj)];exact⟨fun z=>absurd z hq,fun z=>absurd List.mem_cons_self z⟩
    rw[List.getD,List.getElem?_set_ne (by omega)];have hx:x≠q.1:=fun z=>by
     have a1:=h.at' i x hi;have a2:=h.at' j q.1 hj;rw[z]at a1;omega
    have:=hh.2 i x hi;rw[List.getD]at this;rw[this];simp[hx]
   obtain⟨g1,g2⟩:=(ok_iff h r _ _ (fun z hz=>hv z (List.mem_cons_of_mem _ hz)) hh2).1 h3;refine⟨fun z hz=> ?_,?_⟩
   ·rcases List.mem_cons.1 hz with rfl|hz
    ·exact⟨hm,hns⟩
    exact⟨(g1 z hz).1,fun w=>(g1 z hz).2 (List.mem_cons_of_mem _ w)⟩
   rw[List.map_cons,List.nodup_cons];refine⟨fun w=> ?_,g2⟩;obtain⟨z,hz,ez⟩:=List.mem_map.1 w;exact(g1 z hz).2 (by rw[ez];exact List.mem_cons_self)
  rintro⟨h1,h2⟩;obtain⟨hm,hns⟩:=h1 q List.mem_cons_self;obtain⟨j,hj,ej,lj⟩:=h.ex hm;rw[List.map_cons,List.nodup_cons]at h2;have hh2:Hold O e (V.set j q.2) (q.1::S):=by
   refine⟨by rw[List.length_set];exact hh.1,fun i x hi=> ?_⟩;by_cases eij:i=j
   ·subst eij;have ex:x=q.1:=by rw[hj]at hi;exact(Option.some.inj hi).symm
    subst ex;rw[List.getD,List.getElem?_set_self (by rw[hh.1];exact lj)];exact⟨fun z=>absurd z hq,fun z=>absurd List.mem_cons_self z⟩
   rw[List.getD,List.getElem?_set_ne (by omega)];have hx:x≠q.1:=fun z=>by
    have a1:=h.at' i x hi;have a2:=h.at' j q.1 hj;rw[z]at a1;omega
   have:=hh.2 i x hi;rw[List.getD]at this;rw[this];simp[hx]
  refine⟨by omega,by rw[ej,Int.toNat_natCast];exact(hh.2 j q.1 hj).2 hns,?_⟩;rw[ej,Int.toNat_natCast];refine(ok_iff h r _ _ (fun z hz=>hv z (List.mem_cons_of_mem _ hz)) hh2).2 ⟨fun z hz=>⟨(h1 z (List.mem_cons_of_mem _ hz)).1,fun w=> ?_⟩,h2.2⟩;rcases List.mem_cons.1 w with w|w
  ·exact h2.1 (List.mem_map.2 ⟨z,hz,w⟩)
  exact(h1 z (List.mem_cons_of_mem _ hz)).2 w
theorem sub_len: ∀(N O:List α),N.Nodup→(∀x∈N,x∈O)→N.length≤O.length
 | [],O,_,_=>Nat.zero_le _
 |x::N,O,hn,hs=>by
  rw[List.nodup_cons]at hn;have hx:=hs x List.mem_cons_self;have ih:=sub_len N (O.erase x) hn.2 fun y hy=>by
   have hy2:=hs y (List.mem_cons_of_mem _ hy);exact(List.mem_erase_of_ne (fun e=>hn.1 (by rw[←e];exact hy))).2 hy2
  rw[List.length_erase_of_mem hx]at ih;have:0<O.length:=List.length_pos_of_mem hx;rw[List.length_cons];omega
theorem all_in: ∀(O N:List α),O.Nodup→N.Nodup→(∀x∈N,x∈O)→N.length=O.length→ ∀o∈O,o∈N
 | [],N,_,_,_,_,o,ho=>by simp at ho
 |a::O,N,hO,hN,hs,hl,o,ho=>by
  rw[List.nodup_cons]at hO;by_cases ha:a∈N
  ·rcases List.mem_cons.1 ho with rfl|ho
   ·exact ha
   have ih:=all_in O (N.erase a) hO.2 (hN.erase a) (fun x hx=>by
    have h1:=hs x (List.mem_of_mem_erase hx);rcases List.mem_cons.1 h1 with rfl|h1
    ·exact absurd hx (List.Nodup.not_mem_erase hN)
    exact h1) (by rw[List.length_erase_of_mem ha,hl,List.length_cons];omega) o ho
   exact List.mem_of_mem_erase ih
  have:=sub_len N O hN fun x hx=>by
   rcases List.mem_cons.1 (hs x hx)with rfl|h1
   ·exact absurd hx ha
   exact h1
  rw[hl,List.length_cons]at this;omega
theorem Lu{N:List α}(hN:N.Nodup){o:α}(ho:o∈N):N.count o=1:=by
 have h1:=List.nodup_iff_count.1 hN o;have h2:=List.count_pos_iff.2 ho;omega
theorem of_cnt: ∀(O N:List α),O.Nodup→N.length=O.length→(∀o∈O,N.count o=1)→(∀x∈N,x∈O)∧N.Nodup
 | [],N,_,hl,_=>by
  have:N=[]:=List.eq_nil_of_length_eq_zero hl;subst this;simp
 |a::O,N,hO,hl,hc=>by
  rw[List.nodup_cons]at hO;have ca:=hc a List.mem_cons_self;have ha:a∈N:=List.count_pos_iff.1 (by omega);have ih:=of_cnt O (N.erase a) hO.2 (by rw[List.length_erase_of_mem ha,hl,List.length_cons];omega) fun o ho=>by
   have hne:o≠a:=fun e=>hO.1 (e▸ho);rw[List.count_erase_of_ne hne];exact hc o (List.mem_cons_of_mem _ ho)
  have hna:a ∉ N.erase a:=fun h=>by
   have q:=List.count_pos_iff.2 h;rw[List.count_erase_self]at q;omega
  refine⟨fun x hx=> ?_,?_⟩
  ·by_cases e:x=a
   ·subst e;exact List.mem_cons_self
   exact List.mem_cons_of_mem _ (ih.1 x ((List.mem_erase_of_ne e).2 hx))
  exact(List.perm_cons_erase ha).nodup_iff.2 (List.nodup_cons.2 ⟨hna,ih.2⟩)
def fndA(wd:α):List α→α→Nat→α×Nat
 |a::b::r,s,n=>if a=wd then fndA wd r b (n+1) else fndA wd r s n
 |_,s,n=>(s,n)
theorem fnd_cnt(wd:α): ∀(Q:List (α×α)) (s:α) (n:Nat),(fndA wd (fl9 Q) s n).2=n+(Q.map (·.1)).count wd
 | [],s,n=>by simp[fl9,fndA]
 |q::r,s,n=>by
  show(if q.1=wd then fndA wd (fl9 r) q.2 (n+1) else fndA wd (fl9 r) s n).2=_;rw[List.map_cons];by_cases h:q.1=wd
  ·rw[if_pos h,fnd_cnt wd r,←h,List.count_cons_self];omega
  rw[if_neg h,fnd_cnt wd r,List.count_cons_of_ne h]
theorem up_val{O:List α}{ix:α→Int}{e:α}(h:Ix O ix){j:Nat}{x:α}(hj:O[j]? =some x): ∀(Q:List (α×α)) (V:List α) (n:Nat),V.length=O.length→(∀q∈Q,q.1∈O)→(up9 ix V Q).getD j e=(fndA x (fl9 Q) (V.getD j e) n).1
 | [],V,n,_,_=>rfl
 |q::r,V,n,hl,hm=>by
  obtain⟨i,hi,ei,li⟩:=h.ex (hm q List.mem_cons_self);have ih:=up_val (e:=e) h hj r (V.set (ix q.1).toNat q.2) n (by rw[List.length_set];exact hl) fun z hz=>hm z (List.mem_cons_of_mem _ hz);have ih2:=up_val (e:=e) h hj r (V.set (ix q.1).toNat q.2) (n+1) (by rw[List.length_set];exact hl) fun z hz=>hm z (List.mem_cons_of_mem _ hz);show(up9 ix (V.set (ix q.1).toNat q.2) r).getD j e=(if q.1=x then fndA x (fl9 r) q.2 (n+1) else fndA x (fl9 r) (V.getD j e) n).1;by_cases hx:q.1=x
  ·rw[if_pos hx,ih2];have eij:i=j:=by
    have a2:=h.at' j x hj;rw[hx]at ei;omega
   rw[ei,Int.toNat_natCast,eij];congr 2
   rw[List.getD,List.getElem?_set_self (by rw[hl,←eij];exact li)];rfl
  rw[if_neg hx,ih];have nij:i≠j:=fun z=>by
   subst z;rw[hi]at hj;exact hx (Option.some.inj hj)
  rw[ei,Int.toNat_natCast];congr 2
  rw[List.getD,List.getElem?_set_ne nij];rfl
theorem up_len{ix:α→Int}: ∀(Q:List (α×α)) (V:List α),(up9 ix V Q).length=V.length
 | [],V=>rfl
 |q::r,V=>by show(up9 ix (V.set _ q.2) r).length=_;rw[up_len r,List.length_set]
theorem arr_find{O:List α}{ix:α→Int}{e:α}(h:Ix O ix)(hO:O.Nodup)(Q:List (α×α))(hQ:Q.length=O.length)(hv: ∀q∈Q,q.2≠e)(rest:List α)(b:Bool):
  ((∀o∈O,(fndA o (fl9 Q) e 0).2=1)→arrA ix e O.length (List.replicate O.length e) (fl9 Q++rest) b=(O.map (fun o=>(fndA o (fl9 Q) e 0).1)++rest,b))∧(¬(∀o∈O,(fndA o (fl9 Q) e 0).2=1)→(arrA ix e O.length (List.replicate O.length e) (fl9 Q++rest) b).2=true):=by
 have hold:Hold O e (List.replicate O.length e) []:=⟨List.length_replicate,fun j x hj=>by
  have lj:j<O.length:=(List.getElem?_eq_some_iff.1 hj).1;rw[List.getD,List.getElem?_replicate,if_pos lj];simp⟩
 have hiff:ok9 ix e (List.replicate O.length e) Q↔ ∀o∈O,(fndA o (fl9 Q) e 0).2=1:=by
  rw[ok_iff h Q _ [] hv hold];have hlen:(Q.map (·.1)).length=O.length:=by rw[List.length_map,hQ]
  constructor
  ·rintro⟨h1,h2⟩ o ho;rw[fnd_cnt,Nat.zero_add];refine Lu h2 (all_in O _ hO h2 (fun x hx=> ?_) hlen o ho);obtain⟨q,hq,e⟩:=List.mem_map.1 hx;rw[←e];exact(h1 q hq).1
  intro hc;obtain⟨g1,g2⟩:=of_cnt O (Q.map (·.1)) hO hlen fun o ho=>by
   have:=hc o ho;rw[fnd_cnt,Nat.zero_add]at this;exact this
  exact⟨fun q hq=>⟨g1 q.1 (List.mem_map.2 ⟨q,hq,rfl⟩),by simp⟩,g2⟩
 rw[←hiff,←hQ];refine⟨fun hk=> ?_,fun hk=>arr_no ix e rest Q _ b hk⟩;rw[hQ]at hk⊢;rw[←hQ,arr_ok ix e rest Q _ b (by rw[hQ];exact hk)];congr 2
 rw[hQ];have hmem: ∀q∈Q,q.1∈O:=fun q hq=>(((ok_iff h Q _ [] hv hold).1 hk).1 q hq).1;apply List.ext_getElem?;intro j;rcases Nat.lt_or_ge j O.length with lj|lj
 ·have hj:O[j]? =some O[j]:=List.getElem?_eq_getElem lj;have q:=up_val (e:=e) h hj Q (List.replicate O.length e) 0 List.length_replicate hmem;rw[List.getD,List.getD,List.getElem?_replicate,if_pos lj]at q;have l2:j<(up9 ix (List.replicate O.length e) Q).length:=by rw[up_len,List.length_replicate];exact lj
  rw[List.getElem?_eq_getElem l2]at q⊢;rw[List.getElem?_map,hj];simp only[Option.getD_some,Option.map_some]at q⊢;rw[q]
 rw[List.getElem?_eq_none (by rw[up_len,List.length_replicate];exact lj),List.getElem?_eq_none (by rw[List.length_map];exact lj)]
end Go.Proofs.YtbikpmmpgbggaaaGreatDoor.Lay9
namespace Go.Proofs.YtbikpmmpgbggaaaGreatDoor
open Go.RowKit
set_option maxRecDepth 100000
set_option linter.unusedVariables false
theorem Pi(O:List ByteArray): ∀(k:Nat) (V L:List ByteArray) (b:Bool),arr O k V L b=Lay9.arrA (Lib.idxOfS O) ⟨#[]⟩ k V L b
 |0,V,L,b=>rfl
 |k+1,V,L,b=>by
  unfold arr Lay9.arrA;rw[Pi O k];rfl
theorem Lv(wd:ByteArray): ∀(L:List ByteArray) (s:ByteArray) (n:Nat),AA wd L s n=Lay9.fndA wd L s n
 |a::b::r,s,n=>by
  unfold AA Lay9.fndA;rw[Lv wd r,Lv wd r]
 | [a],s,n=>rfl
 | [],s,n=>rfl
theorem Pj(x:ByteArray): ∀(zs:List ByteArray) (i:Nat),x ∉ zs→Lib.idxFromS zs x i= -1
 | [],i,_=>rfl
 |z::zs,i,h=>by
  rw[List.mem_cons,not_or]at h;rw[Lib.idxFromS,if_neg fun e=>h.1 e.symm];exact Pj x zs (i+1) h.2
theorem Sh(x:ByteArray): ∀(zs:List ByteArray) (j i:Nat),zs.Nodup→zs[j]? =some x→Lib.idxFromS zs x i=((i+j:Nat):Int)
 | [],j,i,_,h=>by simp at h
 |z::zs,0,i,_,h=>by
  have e:z=x:=by simpa using h
  rw[Lib.idxFromS,if_pos e];rfl
 |z::zs,j+1,i,hn,h=>by
  rw[List.nodup_cons]at hn;rw[List.getElem?_cons_succ]at h;have hx:x∈zs:=List.mem_of_getElem? h;rw[Lib.idxFromS,if_neg (fun e=>hn.1 (by rw[e];exact hx)),Sh x zs j (i+1) hn.2 h];omega
theorem WM{O:List ByteArray}(hO:O.Nodup):Lay9.Ix O (Lib.idxOfS O):=
 ⟨fun x hx=>by unfold Lib.idxOfS;rw[Pj x O 0 hx];omega,fun j x h=>by unfold Lib.idxOfS;rw[Sh x O j 0 hO h,Nat.zero_add]⟩
theorem VG{O:List ByteArray}(hO:O.Nodup)(Q:List (ByteArray×ByteArray))(hQ:Q.length=O.length)(hv: ∀q∈Q,q.2≠⟨#[]⟩)(rest:List ByteArray)(b:Bool):
  ((∀o∈O,(AA o (Lay9.fl9 Q) ⟨#[]⟩ 0).2=1)→arr O O.length (List.replicate O.length ⟨#[]⟩) (Lay9.fl9 Q++rest) b=(O.map (fun o=>(AA o (Lay9.fl9 Q) ⟨#[]⟩ 0).1)++rest,b))∧(¬(∀o∈O,(AA o (Lay9.fl9 Q) ⟨#[]⟩ 0).2=1)→(arr O O.length (List.replicate O.length ⟨#[]⟩) (Lay9.fl9 Q++rest) b).2=true):=by
 have q:=Lay9.arr_find (e:=⟨#[]⟩) (WM hO) hO Q hQ hv rest b;simp only[Lv];rw[Pi];exact q
def pr9:List ByteArray→List (ByteArray×ByteArray)
 |a::b::r=>(a,b)::pr9 r
 |_=>[]
theorem U1: ∀(m:Nat) (L:List ByteArray),L.length=2*m→Lay9.fl9 (pr9 L)=L∧(pr9 L).length=m
 |0,[],_=>⟨rfl,rfl⟩
 |0,_::_,h=>by simp at h
 |m+1,[],h=>by simp at h
 |m+1,[_],h=>by simp at h;omega
 |m+1,a::b::r,h=>by
  obtain⟨h1,h2⟩:=U1 m r (by simp only[List.length_cons]at h;omega);exact⟨by show a::b::Lay9.fl9 (pr9 r)=_;rw[h1],by show(pr9 r).length+1=_;rw[h2]⟩
theorem Si: ∀(L:List ByteArray) (q:ByteArray×ByteArray),q∈pr9 L→q.1∈L∧q.2∈L
 | [],q,h=>by simp[pr9]at h
 | [_],q,h=>by simp[pr9]at h
 |a::b::r,q,h=>by
  have h':q∈(a,b)::pr9 r:=h;rcases List.mem_cons.1 h' with rfl|h'
  ·exact⟨List.mem_cons_self,List.mem_cons_of_mem _ List.mem_cons_self⟩
  have:=Si r q h';exact⟨List.mem_cons_of_mem _ (List.mem_cons_of_mem _ this.1),List.mem_cons_of_mem _ (List.mem_cons_of_mem _ this.2)⟩
theorem Pk{O:List ByteArray}(hO:O.Nodup)(L:List ByteArray)(hL:2*O.length≤L.length)(hv: ∀x∈L,x≠⟨#[]⟩)(b:Bool):
  ((∀o∈O,(AA o (L.take (2*O.length)) ⟨#[]⟩ 0).2=1)→arr O O.length (List.replicate O.length ⟨#[]⟩) L b=(O.map (fun o=>(AA o (L.take (2*O.length)) ⟨#[]⟩ 0).1)++L.drop (2*O.length),b))∧(¬(∀o∈O,(AA o (L.take (2*O.length)) ⟨#[]⟩ 0).2=1)→(arr O O.length (List.replicate O.length ⟨#[]⟩) L b).2=true):=by
 obtain⟨h1,h2⟩:=U1 O.length (L.take (2*O.length)) (by rw[List.length_take];omega);have q:=VG hO (pr9 (L.take (2*O.length))) h2 (fun z hz=>hv _ (List.mem_of_mem_take (Si _ z hz).2)) (L.drop (2*O.length)) b;rw[h1,List.take_append_drop]at q;exact q
theorem FO(O:List ByteArray): ∀(k:Nat) (V L:List ByteArray),(arr O k V L true).2=true
 |0,V,L=>rfl
 |k+1,V,L=>by
  unfold arr;split
  ·rfl
  split
  ·rfl
  rw[Bool.true_or,Bool.true_or];exact FO O k _ _
theorem Jm{O:List ByteArray}(he:(⟨#[]⟩:ByteArray) ∉ O): ∀(k:Nat) (V L:List ByteArray) (b:Bool),L.length<2*k→(arr O k V L b).2=true
 |0,V,L,b,h=>by omega
 |k+1,V,L,b,h=>by
  unfold arr;split
  ·rfl
  split
  ·rfl
  match L,h with
  | [],_=>simp only[List.isEmpty_nil,List.tail_nil,Bool.or_true];exact FO O k _ _
  | [_],_=>simp only[List.isEmpty_nil,List.tail_cons,Bool.or_true];exact FO O k _ _
  |_::_::r,h=>exact Jm he k _ _ _ (by simp only[List.length_cons]at h;simp only[List.tail_cons];omega)
theorem Sj(wd:ByteArray): ∀(L:List ByteArray) (s:ByteArray) (n:Nat),2*(AA wd L s n).2≤2*n+L.length
 |a::b::r,s,n=>by
  unfold AA;simp only[List.length_cons];split
  ·have:=Sj wd r b (n+1);omega
  have:=Sj wd r s n;omega
 | [a],s,n=>by unfold AA;simp
 | [],s,n=>by unfold AA;simp
theorem Jy(wd:ByteArray): ∀(L:List ByteArray) (s:ByteArray) (n:Nat),(AA wd L s n).1=s∨(AA wd L s n).1∈L
 |a::b::r,s,n=>by
  unfold AA;split
  ·rcases Jy wd r b (n+1)with q|q
   ·exact .inr (by rw[q];exact List.mem_cons_of_mem _ List.mem_cons_self)
   exact .inr (List.mem_cons_of_mem _ (List.mem_cons_of_mem _ q))
  rcases Jy wd r s n with q|q
  ·exact .inl q
  exact .inr (List.mem_cons_of_mem _ (List.mem_cons_of_mem _ q))
 | [a],s,n=>.inl rfl
 | [],s,n=>.inl rfl
def Ir(base:Nat)(W:World)(v:Value)(L:List Int):Prop:=W.ownsRow base 3 1 v L.length (L.map (Value.int .i64))
theorem Ir.nil(base:Nat)(W:World):Ir base W (.slice none 0 0) []:=⟨rfl,.inl ⟨rfl,rfl⟩⟩
theorem Ir.own{base:Nat}{W:World}{v:Value}{L:List Int}(h:Ir base W v L){k:Nat}(hk:v.ownBlock=some k):base≤k∧ ∃cs,W.heap[k]? =some (.cells cs 3):=by
 rcases h.2 with⟨e,_⟩| ⟨g,cap',cur,e,hb',hg,_⟩
 ·rw[e]at hk;cases hk
 rw[e]at hk;cases hk;exact⟨hb',cur,hg⟩
theorem Ir.below{base:Nat}{W W':World}{v:Value}{L:List Int}(h:Ir base W v L)(hB:Below W.heap.size W W'):Ir base W' v L:=JP h fun k hk=>by
 obtain⟨_,cs,e⟩:=h.own hk;exact hB.block _ (Array.getElem?_eq_some_iff.1 e).1
theorem Ir.sl{base:Nat}{W:World}{v:Value}{L:List Int}(h:Ir base W v L): ∃a cap,v=.slice a L.length cap∧(0<L.length→ ∃g,a=some ⟨g,0,none⟩∧base≤g∧g<W.heap.size∧ ∀i,i<L.length→W.cell? ⟨g,i,none⟩=some (.int .i64 (L.getD i 0)))∧(a=none→cap=0):=by
 rcases h.2 with⟨e,e0⟩| ⟨g,cap,cur,e,hb',hg,h1,h2,h3,h4⟩
 ·exact⟨none,0,by rw[e];congr 1;omega,fun h=>by omega,fun _=>rfl⟩
 refine⟨_,cap,e,fun _=>⟨g,rfl,hb',(Array.getElem?_eq_some_iff.1 hg).1,fun i hi=> ?_⟩,fun e=>by cases e⟩;have q4:=congrArg (fun l=>l[i]?) h4;rw[List.getElem?_take_of_lt (by omega),Array.getElem?_toList,List.getElem?_map,List.getElem?_eq_getElem hi]at q4;simp[World.cell?,hg,q4,List.getElem?_eq_getElem hi]
theorem Tryz.infoI9:(Tryz.prog.info? 3).map (fun i=>(i.zero,i.size,i.bytes))=some (some (.int .i64 0),1,8):=by kernel_rfl
theorem VH{w:World}{ops:Array Oper}{rest:List Oper}{o:Oper}{a:Act}{Q:Exit→Act→World→Prop}(hgd:o.guard=none)(s x:Operand)
  (ho:o.op=.call {callee:=.builtin .append,args:= #[s,x],argTypes:= #[49,49]}) (base:Nat) (v:Value) (xs:List Int) (k:Int) (hs:a.eval s=v) (hown:Ir base w v xs)
  (b:Nat) (hx:a.eval x=.slice (some ⟨b,0,none⟩) 1 1) (hc:w.cell? ⟨b,0,none⟩=some (.int .i64 k)) (hlim:xs.length≤1000000) (hb:base≤w.heap.size)
  (h: ∀v' w',Hid (Ir base w' v' (xs++[k])∧Below base w w')→wpList Tryz.prog ops Q rest (a.put o.dst v') w'):wpList Tryz.prog ops Q (o::rest) a w:=by
 obtain⟨i,hi,hz,hsz,hby⟩:=info_parts Tryz.infoI9;refine wpList_append_own_at w hgd s x 49 ho base 3 i _ 1 8 Tryz.underlying49 hi hz hsz hby rfl (by omega) v _ _ hs hown ⟨b,0,none⟩ 1 1 [.int .i64 k] hx rfl (fun j u' hj=> ?_) (fun u' hu'=> ?_) (by simp only[maxLen];omega) (by omega) hb ?_
 ·have hj0:j=0:=by
   have:=(List.getElem?_eq_some_iff.1 hj).1;simp at this;exact this
  subst hj0;rw[Pe];cases hj;exact hc
 ·simp at hu';subst hu';rfl
 intro v' w' q1 q2 _ _;refine h v' w' ⟨?_,?_⟩
 ·show w'.ownsRow _ _ _ _ _ _;rw[List.length_append,List.map_append];exact q1
 refine(Below.refl base w).grown q2 hb fun k hk=> ?_;exact(hown.own hk).1
theorem Sk{b:Nat}{w w1 w2:World}(h:Below b w w1)(k:Below b w1 w2):Below b w w2:=⟨k.os.trans h.os,k.tape.trans h.tape,k.output.trans h.output,Nat.le_trans h.size k.size,fun x hx=>(k.block x hx).trans (h.block x hx)⟩
def ig9(L:List ByteArray)(o:ByteArray):Option Int:=if(AA o L ⟨#[]⟩ 0).2=1 then CH (AA o L ⟨#[]⟩ 0).1.data.toList else none
def Cq(L:List ByteArray):List ByteArray→List Int→Option (List Int)
 | [],acc=>some acc
 |o::r,acc=>match ig9 L o with
  |none=>none
  |some z=>Cq L r (acc++[z])
theorem Qo{L NL:List ByteArray}{i:Nat}(h:i<NL.length)(acc:List Int):Cq L (NL.drop i) acc=match ig9 L (NL.getD i ⟨#[]⟩)with|none=>none|some z=>Cq L (NL.drop (i+1)) (acc++[z]):=by
 have e:NL.drop i=NL.getD i ⟨#[]⟩::NL.drop (i+1):=by
  rw[List.drop_eq_getElem_cons h];simp[List.getD,List.getElem?_eq_getElem h]
 rw[e,Cq]
theorem E0(v u:Value)(L NL:List ByteArray)(i0:Nat)(w:World)(h:TSl w v L)(hn:TSl w u NL)(hl:L.length≤100000)(hi:i0≤100000)(hnl:NL.length≤1000)(hsz: ∀x∈L,x.size≤9223372036854775807):
  Calls Tryz.prog 18 #[v,.int .i64 (i0:Int),u] w fun e w'=>Below w.heap.size w w'∧((Cq (L.drop i0) NL []=none∧e=.returned (.tuple #[.slice none 0 0,.bool false]))∨ ∃zs v',Cq (L.drop i0) NL []=some zs∧e=.returned (.tuple #[v',.bool true])∧Ir w.heap.size w' v' zs):=by
 have HT:Hid _:=h;have HZ:Hid _:=hsz;clear h hsz;obtain⟨a,cap,rfl,hc1,hc2,hc3⟩:=hn;have HC:Hid _:=hc3;obtain⟨m,hm⟩:=nmd NL.length;have HM:Hid _:=hm;rw[hm]at hc1 hnl;rw[hm];clear hc3 hm;go_enter Tryz.func18,Tryz.ntmps18
 go_wp2_with fail
 go_loopw [8,9] (fun t8 t9 wr=> ∃(i:Nat) (acc:List Int),i≤m∧t9=.int .i64 (i:Int)∧Hid (Below w.heap.size w wr∧Ir w.heap.size wr t8 acc∧acc.length=i∧Cq (L.drop i0) NL []=Cq (L.drop i0) (NL.drop i) acc)) (fun _ t9 _=>m+1- (intOf t9).toNat)
 case atStart=>exact⟨0,[],by omega,rfl,Below.refl _ _,Ir.nil _ _,rfl,rfl⟩
 case round=>
  obtain⟨i,acc,him,rfl,HH⟩:=hrel;by_cases q:i<m
  ·have r0:decide ((i:Int)<(m:Int))=true:=decide_eq_true (by omega);obtain⟨b,o,ea,hcell⟩:=HC.out (by have:=HM.out;omega);subst ea;have x0:=Ae HH.out.1 (hcell i (by have:=HM.out;omega));unfold tx at x0;have HST:Hid _:=Qo (L:=L.drop i0) (NL:=NL) (i:=i) (by have:=HM.out;omega) acc;obtain⟨O,hO⟩:=nmd (NL.getD i ⟨#[]⟩);rw[hO]at x0 HST;clear hO hcell;have CF:=LY v L i0 O wr (TSl.go HT.out HH.out.1) hl hi;have HIG:Hid (ig9 (L.drop i0) O=if(AA O (L.drop i0) ⟨#[]⟩ 0).2=1 then CH (AA O (L.drop i0) ⟨#[]⟩ 0).1.data.toList else none):=rfl;have hX:(AA O (L.drop i0) ⟨#[]⟩ 0).1.size≤9223372036854775807:=by
    rcases Jy O (L.drop i0) ⟨#[]⟩ 0 with e|e
    ·rw[e];show(0:Nat)≤_;omega
    exact HZ.out _ (List.mem_of_mem_drop e)
   obtain⟨p,hp⟩:=nmd (AA O (L.drop i0) ⟨#[]⟩ 0);rw[hp]at CF HIG hX;clear hp;obtain⟨X,c⟩:=p;dsimp only at CF HIG hX;have CI:=IL X wr hX;have CFH:Hid _:=CF;obtain⟨y,hy⟩:=nmd (CH X.data.toList);rw[hy]at CI HIG;have CIH:Hid _:=CI;clear hy CI CF hX;have BAD:Hid ((if c=1 then y else none)=none→Cq (L.drop i0) NL []=none):=fun e=>by rw[HH.out.2.2.2,HST.out,HIG.out,e]
   go_wp2_with fail
   refine Calls.mono CFH.out ?_;rintro e w1 ⟨rfl,hw⟩;rw[hw];clear hw w1;by_cases z:c=1
   ·rw[decide_eq_true z];cases y with
    |none=>
     go_wp2_with fail
     refine Calls.mono CIH.out ?_;rintro e w1 ⟨rfl,hw⟩;rw[hw];clear hw w1;have HB:Hid _:=BAD.out (by split<;>rfl);simp only[Option.getD_none,Option.isSome_none];clear z;go_wp2_with fail
     exact bodyPost_ret (v:=.tuple #[.slice none 0 0,.bool false]) (by simp[results,Tryz.results18,go_sem]) rfl ⟨HH.out.1,.inl ⟨HB.out,rfl⟩⟩
    |some k=>
     go_wp2_with fail
     refine Calls.mono CIH.out ?_;rintro e w1 ⟨rfl,hw⟩;rw[hw];clear hw w1;have HG:Hid (Cq (L.drop i0) NL []=Cq (L.drop i0) (NL.drop (i+1)) (acc++[k])):=by show _=_;rw[HH.out.2.2.2,HST.out,HIG.out,if_pos z]
     simp only[Option.getD_some,Option.isSome_some];have ROW:Hid (Ir w.heap.size (wr.alloc (.cells #[.int .i64 k] 3)) u8 acc):=HH.out.2.1.below (Af (Aa wr));have BB:Hid (Below w.heap.size w (wr.alloc (.cells #[.int .i64 k] 3))):=Af HH.out.1;clear z;go_wp2_with (refine(id ?_:wpList Tryz.prog _ _ (⟨some 44,_,_,_,_,_⟩::_) _ _);refine VH rfl (.tmp 41) (.tmp 43) rfl w.heap.size _ acc k rfl ROW.out wr.heap.size rfl (by simp[go_sem]) (by have:=HH.out.2.2.1;omega) BB.out.size ?_)
     intro v' w2 HQ;go_wp2_with fail
     go_roundw
     case rel=>exact⟨i+1,acc++[k],by omega,by go_num,Sk BB.out HQ.out.2,HQ.out.1,by rw[List.length_append,HH.out.2.2.1];rfl,HG.out⟩
     case measure=>simp[intOf]<;>omega
   rw[decide_eq_false z];have HB:Hid _:=BAD.out (by rw[if_neg z]);clear z;go_wp2_with fail
   refine Calls.mono CIH.out ?_;rintro e w1 ⟨rfl,hw⟩;rw[hw];clear hw w1;go_wp2_with fail
   exact bodyPost_ret (v:=.tuple #[.slice none 0 0,.bool false]) (by simp[results,Tryz.results18,go_sem]) rfl ⟨HH.out.1,.inl ⟨HB.out,rfl⟩⟩
  have r0:decide (i<m)=false:=decide_eq_false q;have e0:NL.drop i=[]:=List.drop_eq_nil_of_le (by have:=HM.out;omega);have HG:Hid (Cq (L.drop i0) NL []=some acc):=by show _=_;rw[HH.out.2.2.2,e0,Cq]
  clear e0 q;go_wp2_with fail
  refine bodyPost_ret (v:=.tuple #[u8,.bool true]) (by simp[results,Tryz.results18,go_sem]) rfl ?_;exact⟨HH.out.1,.inr ⟨acc,u8,HG.out,rfl,HH.out.2.1⟩⟩
def Ev:List ByteArray→List Nd→Option (List Nd)
 | [],N=>some N
 |a::k::x::y::z::r,N=>
  if a≠⟨#[110,111,100,101]⟩∨kdV k=0 then none
  else if(nvV x).isNone∨(nvV y).isNone∨(nvV z).isNone then none
  else Ev r (N++[(kdV k,(nvV x).getD 0,(nvV y).getD 0,(nvV z).getD 0)])
 |_,_=>none
theorem VI(L:List ByteArray):(ndS (L,true)).2=true:=by simp[ndS,nmS,kdS,naS]
theorem Fa: ∀(m:Nat) (p:List ByteArray×Bool),p.2=true→(nds m p).2.2=true
 |0,p,h=>h
 |m+1,p,h=>by
  rw[nds];split
  ·exact h
  refine Fa m _ ?_;obtain⟨L,b⟩:=p;cases h;exact VI L
theorem Kc(a k x y z:ByteArray)(r:List ByteArray):ndS (a::k::x::y::z::r,false)=(r,decide (a≠⟨#[110,111,100,101]⟩)||decide (kdV k=0)||(nvV x).isNone||(nvV y).isNone||(nvV z).isNone):=by
 simp[ndS,nmS,kdS,naS,hdT]
theorem Ui(a k x y z:ByteArray)(r:List ByteArray)(b:Bool):ndV (a::k::x::y::z::r,b)=(kdV k,(nvV x).getD 0,(nvV y).getD 0,(nvV z).getD 0):=by
 simp[ndV,nmI,nmS,kdS,naS,hdT]
theorem Jz(L:List ByteArray)(h:L.length<5):(ndS (L,false)).2=true:=by
 match L,h with
 | [],_=>simp[ndS,nmS,kdS,naS]
 | [_],_=>simp[ndS,nmS,kdS,naS]
 | [_,_],_=>simp[ndS,nmS,kdS,naS]
 | [_,_,_],_=>simp[ndS,nmS,kdS,naS]
 | [_,_,_,_],_=>simp[ndS,nmS,kdS,naS]
theorem JA: ∀(m:Nat) (L:List ByteArray) (N:List Nd),L.length≤m→(Ev L N=none∧(nds m (L,false)).2.2=true)∨(Ev L N=some (N++(nds m (L,false)).1)∧(nds m (L,false)).2=([],false))
 |m,[],N,_=>.inr (by rw[Pg m _ rfl,Ev,List.append_nil];exact⟨rfl,rfl⟩)
 |0,_::_,N,h=>by simp at h
 |m+1,[a],N,h=>.inl ⟨rfl,by rw[nds,if_neg (by simp)];exact Fa m _ (Jz _ (by simp))⟩
 |m+1,[a,k],N,h=>.inl ⟨rfl,by rw[nds,if_neg (by simp)];exact Fa m _ (Jz _ (by simp))⟩
 |m+1,[a,k,x],N,h=>.inl ⟨rfl,by rw[nds,if_neg (by simp)];exact Fa m _ (Jz _ (by simp))⟩
 |m+1,[a,k,x,y],N,h=>.inl ⟨rfl,by rw[nds,if_neg (by simp)];exact Fa m _ (Jz _ (by simp))⟩
 |m+1,a::k::x::y::z::r,N,h=>by
  rw[nds,if_neg (by simp),Ev];by_cases c1:a≠⟨#[110,111,100,101]⟩∨kdV k=0
  ·rw[if_pos c1];refine .inl ⟨rfl,Fa m _ ?_⟩;rw[Kc];rcases c1 with c|c
   ·simp[c]
   simp[c]
  rw[if_neg c1];by_cases c2:(nvV x).isNone∨(nvV y).isNone∨(nvV z).isNone
  ·rw[if_pos c2];refine .inl ⟨rfl,Fa m _ ?_⟩;rw[Kc];rcases c2 with c|c|c
   ·rw[c];simp
   ·rw[c];simp
   rw[c];simp
  rw[if_neg c2,Ui];rw[not_or,not_or]at c2;rw[not_or]at c1;have e:ndS (a::k::x::y::z::r,false)=(r,false):=by
   rw[Kc];simp only[Bool.not_eq_true]at c2;rw[c2.1,c2.2.1,c2.2.2,decide_eq_false c1.1,decide_eq_false c1.2];rfl
  rw[e];rcases JA m r (N++[(kdV k,(nvV x).getD 0,(nvV y).getD 0,(nvV z).getD 0)]) (by simp only[List.length_cons]at h;omega)with⟨h1,h2⟩| ⟨h1,h2⟩
  ·exact .inl ⟨h1,h2⟩
  refine .inr ⟨?_,h2⟩;rw[h1,List.append_assoc];rfl
theorem Uj{L:List ByteArray}(N:List Nd)(h0:0<L.length)(h:L.length<5):Ev L N=none:=by
 match L,h0,h with
 | [_],_,_=>rfl
 | [_,_],_,_=>rfl
 | [_,_,_],_,_=>rfl
 | [_,_,_,_],_,_=>rfl
theorem Sn{L:List ByteArray}{i:Nat}(h:i+4<L.length):L.drop i=L.getD i ⟨#[]⟩::L.getD (i+1) ⟨#[]⟩::L.getD (i+2) ⟨#[]⟩::L.getD (i+3) ⟨#[]⟩::L.getD (i+4) ⟨#[]⟩::L.drop (i+5):=by
 have g: ∀j,j<L.length→L.drop j=L.getD j ⟨#[]⟩::L.drop (j+1):=fun j hj=>by
  rw[List.drop_eq_getElem_cons hj];simp[List.getD,List.getElem?_eq_getElem hj]
 rw[g i (by omega),g (i+1) (by omega),g (i+2) (by omega),g (i+3) (by omega),g (i+4) h]
theorem IM(v:Value)(L:List ByteArray)(i0:Nat)(w:World)(h:TSl w v L)(hl:L.length≤100000)(hi:i0≤L.length)(hsz: ∀x∈L,x.size≤9223372036854775807):
  Calls Tryz.prog 19 #[v,.int .i64 (i0:Int)] w fun e w'=>Below w.heap.size w w'∧((Ev (L.drop i0) [(6,0,0,0)]=none∧e=.returned (.tuple #[.slice none 0 0,.bool false]))∨ ∃N v',Ev (L.drop i0) [(6,0,0,0)]=some N∧e=.returned (.tuple #[v',.bool true])∧Nr w.heap.size w' v' N):=by
 obtain⟨a,cap,rfl,hc1,hc2,hc3⟩:=h;have HC:Hid _:=hc3;have HZ:Hid _:=hsz;obtain⟨m,hm⟩:=nmd L.length;have HM:Hid _:=hm;rw[hm]at hc1 hl hi;rw[hm];clear hc3 hm hsz;obtain⟨R,hR⟩:=nmd (Ev (L.drop i0) [(6,0,0,0)]);have HR:Hid _:=hR;rw[hR];clear hR;go_enter Tryz.func19,Tryz.ntmps19
 go_wp2_with fail
 go_loopw [1,6] (fun t1 t6 wr=> ∃(i:Nat) (acc:List Nd),i≤m+4∧t1=.int .i64 (i:Int)∧Hid (Below w.heap.size w wr∧Nr w.heap.size wr t6 acc∧acc.length≤i+1∧R=Ev (L.drop i) acc)) (fun t1 _ _=>m+5- (intOf t1).toNat)
 case atStart=>exact⟨i0,[(6,0,0,0)],by omega,rfl,Af (Aa w),KO w (6,0,0,0),by simp,HR.out.symm⟩
 case round=>
  obtain⟨i,acc,him,rfl,HH⟩:=hrel;by_cases q:i<m
  ·have r0:decide ((i:Int)<(m:Int))=true:=decide_eq_true (by omega);by_cases q5:i+4<m
   ·have r1:decide ((m:Int)≤(i:Int)+4)=false:=decide_eq_false (by omega);obtain⟨b,o,ea,hcell⟩:=HC.out (by have:=HM.out;omega);subst ea;have HCE:Hid (∀W,Below w.heap.size w W→ ∀j,j<m→W.cell? ⟨b,o+j,none⟩=some (.string (L.getD j ⟨#[]⟩))):=fun W hW j hj=>Ae hW (hcell j (by have:=HM.out;omega));have HSZ:Hid (∀j,j<m→(L.getD j ⟨#[]⟩).size≤9223372036854775807):=fun j hj=>by
     have e:L.getD j ⟨#[]⟩=L[j]'(by have:=HM.out;omega):=by simp[List.getD,List.getElem?_eq_getElem (show j<L.length by have:=HM.out;omega)]
     rw[e];exact HZ.out _ (List.getElem_mem _)
    have hX:=HSZ.out (i+2) (by omega);have hY:=HSZ.out (i+3) (by omega);have hZ:=HSZ.out (i+4) (by omega);have D:=Sn (L:=L) (i:=i) (by have:=HM.out;omega);have HST0:=HH.out.2.2.2;rw[D,Ev]at HST0;have HST:Hid _:=HST0;clear hcell D HST0;have x0:=HCE.out wr HH.out.1 i (by omega);have x1:=HCE.out wr HH.out.1 (i+1) (by omega);have HX1:Hid (∀W,Below w.heap.size w W→W.cell? ⟨b,o+(i+1),none⟩=some (.string (L.getD (i+1) ⟨#[]⟩))):=fun W hW=>HCE.out W hW _ (by omega);have HX2:Hid (∀W,Below w.heap.size w W→W.cell? ⟨b,o+(i+2),none⟩=some (.string (L.getD (i+2) ⟨#[]⟩))):=fun W hW=>HCE.out W hW _ (by omega);have HX3:Hid (∀W,Below w.heap.size w W→W.cell? ⟨b,o+(i+3),none⟩=some (.string (L.getD (i+3) ⟨#[]⟩))):=fun W hW=>HCE.out W hW _ (by omega);have HX4:Hid (∀W,Below w.heap.size w W→W.cell? ⟨b,o+(i+4),none⟩=some (.string (L.getD (i+4) ⟨#[]⟩))):=fun W hW=>HCE.out W hW _ (by omega);clear HCE HSZ;obtain⟨A,hA⟩:=nmd (L.getD i ⟨#[]⟩);obtain⟨Kk,hK⟩:=nmd (L.getD (i+1) ⟨#[]⟩);obtain⟨X,hX'⟩: ∃x,L.getD (i+2) ⟨#[]⟩=x:=⟨_,rfl⟩;obtain⟨Y,hY'⟩: ∃x,L.getD (i+3) ⟨#[]⟩=x:=⟨_,rfl⟩;obtain⟨Z,hZ'⟩: ∃x,L.getD (i+4) ⟨#[]⟩=x:=⟨_,rfl⟩;rw[hA]at x0 HST;rw[hK]at x1 HST HX1;rw[hX']at hX HST HX2;rw[hY']at hY HST HX3;rw[hZ']at hZ HST HX4;clear hA hK hX' hY' hZ';obtain⟨y1,hy1⟩:=nmd (nvV X);obtain⟨y2,hy2⟩:=nmd (nvV Y);obtain⟨y3,hy3⟩:=nmd (nvV Z);have C1:Hid (∀W,Calls Tryz.prog 44 #[.string X] W fun e w'=>e=.returned (.tuple #[.int .i64 (y1.getD 0),.bool y1.isSome])∧w'=W):=fun W=>by
     have q:=IL X W hX;rw[←KT,hy1]at q;exact q
    have C2:Hid (∀W,Calls Tryz.prog 44 #[.string Y] W fun e w'=>e=.returned (.tuple #[.int .i64 (y2.getD 0),.bool y2.isSome])∧w'=W):=fun W=>by
     have q:=IL Y W hY;rw[←KT,hy2]at q;exact q
    have C3:Hid (∀W,Calls Tryz.prog 44 #[.string Z] W fun e w'=>e=.returned (.tuple #[.int .i64 (y3.getD 0),.bool y3.isSome])∧w'=W):=fun W=>by
     have q:=IL Z W hZ;rw[←KT,hy3]at q;exact q
    rw[hy1,hy2,hy3]at HST;clear hy1 hy2 hy3 hX hY hZ;have BB0:Hid (Below w.heap.size w wr):=HH.out.1;have tle:=Hp (x:=A) (y:=⟨#[110,111,100,101]⟩);by_cases z:A=⟨#[110,111,100,101]⟩
    ·subst z;clear tle;go_wp2_with fail
     refine(D8 Kk wr).mono ?_;rintro e w1 ⟨rfl,hb⟩;have BB:Hid (Below w.heap.size w w1):=AU HH.out.1 hb;have N1:Hid (Nr w.heap.size w1 u6 acc):=HH.out.2.1.below hb;clear hb x0 x1;by_cases z2:kdV Kk=0
     ·rw[z2];have HB:Hid (R=none):=by show _=_;rw[HST.out,if_pos (.inr z2)]
      clear HST;go_wp2_with fail
      exact bodyPost_ret (v:=.tuple #[.slice none 0 0,.bool false]) (by simp[results,Tryz.results19,go_sem]) rfl ⟨BB.out,.inl ⟨HB.out,rfl⟩⟩
     have d2:(kdV Kk==0)=false:=by simp[z2]
     have x2:=HX2.out w1 BB.out;have x3:=HX3.out w1 BB.out;have x4:=HX4.out w1 BB.out;have z2: ¬((⟨#[110,111,100,101]⟩:ByteArray)≠⟨#[110,111,100,101]⟩∨kdV Kk=0):=by simp[z2]
     go_wp2_with fail
     refine Calls.mono (C1.out w1) ?_;rintro e wz ⟨rfl,hw⟩;rw[hw];clear hw wz;go_wp2_with fail
     refine Calls.mono (C2.out w1) ?_;rintro e wz ⟨rfl,hw⟩;rw[hw];clear hw wz;go_wp2_with fail
     refine Calls.mono (C3.out w1) ?_;rintro e wz ⟨rfl,hw⟩;rw[hw];clear hw wz;cases b1:y1.isSome with
     |false=>
      have HB:Hid (R=none):=by show _=_;rw[HST.out,if_neg z2,if_pos (.inl (by rw[←Option.not_isSome,b1];rfl))]
      clear HST;go_wp2_with fail
      exact bodyPost_ret (v:=.tuple #[.slice none 0 0,.bool false]) (by simp[results,Tryz.results19,go_sem]) rfl ⟨BB.out,.inl ⟨HB.out,rfl⟩⟩
     |true=>
      cases b2:y2.isSome with
      |false=>
       have HB:Hid (R=none):=by show _=_;rw[HST.out,if_neg z2,if_pos (.inr (.inl (by rw[←Option.not_isSome,b2];rfl)))]
       clear HST;go_wp2_with fail
       exact bodyPost_ret (v:=.tuple #[.slice none 0 0,.bool false]) (by simp[results,Tryz.results19,go_sem]) rfl ⟨BB.out,.inl ⟨HB.out,rfl⟩⟩
      |true=>
       cases b3:y3.isSome with
       |false=>
        have HB:Hid (R=none):=by show _=_;rw[HST.out,if_neg z2,if_pos (.inr (.inr (by rw[←Option.not_isSome,b3];rfl)))]
        clear HST;go_wp2_with fail
        exact bodyPost_ret (v:=.tuple #[.slice none 0 0,.bool false]) (by simp[results,Tryz.results19,go_sem]) rfl ⟨BB.out,.inl ⟨HB.out,rfl⟩⟩
       |true=>
        have HG:Hid (R=Ev (L.drop (i+5)) (acc++[(kdV Kk,y1.getD 0,y2.getD 0,y3.getD 0)])):=by show _=_;rw[HST.out,if_neg z2,if_neg (by rw[←Option.not_isSome,←Option.not_isSome,←Option.not_isSome,b1,b2,b3];simp)]
        clear HST;have x1:=HX1.out w1 BB.out;go_wp2_with fail
        refine(D8 Kk w1).mono ?_;rintro e w5 ⟨rfl,hb⟩;have B5:Hid (Below w.heap.size w w5):=AU BB.out hb;have ND:Hid (Nr w.heap.size w5 u6 acc):=N1.out.below hb;clear hb x1 x2 x3 x4;obtain⟨nd,hnd⟩:=nme ((kdV Kk,y1.getD 0,y2.getD 0,y3.getD 0):Nd);have ROW:Hid (Nr w.heap.size (w5.alloc (.cells #[.int .i64 (kdV Kk),.int .i64 (y1.getD 0),.int .i64 (y2.getD 0),.int .i64 (y3.getD 0)] 78)) u6 acc):=ND.out.below (Af (Aa w5));have NEW:Hid _:=KO w5 (kdV Kk,y1.getD 0,y2.getD 0,y3.getD 0);have hlim:acc.length+[(kdV Kk,y1.getD 0,y2.getD 0,y3.getD 0)].length≤1000000:=by have:=HH.out.2.2.1;simp only[List.length_cons,List.length_nil];omega
        have szw:=B5.out.size;go_wp2_with (refine(id ?_:wpList Tryz.prog _ _ (⟨some 91,_,_,_,_,_⟩::_) _ _);refine Pf rfl (.tmp 79) (.tmp 90) rfl w.heap.size _ acc rfl ROW.out w5.heap.size (.slice (some ⟨w5.heap.size,0,none⟩) 1 1) [(kdV Kk,y1.getD 0,y2.getD 0,y3.getD 0)] rfl NEW.out hlim (by rw[World.size_alloc];omega) ?_)
        intro v' w6 HQ;go_wp2_with fail
        go_roundw
        case rel=>exact⟨i+5,acc++[(kdV Kk,y1.getD 0,y2.getD 0,y3.getD 0)],by omega,by go_num,Sk (Af B5.out) HQ.out.2,HQ.out.1,by have:=HH.out.2.2.1;simp only[List.length_append,List.length_cons,List.length_nil];omega,HG.out⟩
        case measure=>simp[intOf]<;>omega
    rw[decide_eq_false z]at tle;have tl2: ¬A.toList=[110,111,100,101]:=fun h=>by
     rw[h]at tle;exact absurd tle (by decide+kernel)
    clear tle;have BB:Hid (Below w.heap.size w wr):=HH.out.1;have HB:Hid (R=none):=by show _=_;rw[HST.out,if_pos (.inl z)]
    clear HST;go_wp2_with fail
    exact bodyPost_ret (v:=.tuple #[.slice none 0 0,.bool false]) (by simp[results,Tryz.results19,go_sem]) rfl ⟨BB.out,.inl ⟨HB.out,rfl⟩⟩
   have r1:decide ((m:Int)≤(i:Int)+4)=true:=decide_eq_true (by omega);have BB:Hid (Below w.heap.size w wr):=HH.out.1;have HST:Hid _:=HH.out.2.2.2;have HB:Hid (R=none):=by show _=_;rw[HST.out];exact Uj _ (by rw[List.length_drop,HM.out];omega) (by rw[List.length_drop,HM.out];omega)
   clear HST;go_wp2_with fail
   exact bodyPost_ret (v:=.tuple #[.slice none 0 0,.bool false]) (by simp[results,Tryz.results19,go_sem]) rfl ⟨BB.out,.inl ⟨HB.out,rfl⟩⟩
  have r0:decide (i<m)=false:=decide_eq_false q;have e0:L.drop i=[]:=List.drop_eq_nil_of_le (by have:=HM.out;omega);have HG:Hid (R=some acc):=by show _=_;rw[HH.out.2.2.2,e0,Ev]
  clear e0 q;go_wp2_with fail
  refine bodyPost_ret (v:=.tuple #[u6,.bool true]) (by simp[results,Tryz.results19,go_sem]) rfl ?_;exact⟨HH.out.1,.inr ⟨acc,u6,HG.out,rfl,HH.out.2.1⟩⟩
def flV(p:List ByteArray×Bool)(i:Nat):Int:=match i with
 |0=>nmI (arS ⟨#[119,101,105,103,104,116,32,113,117,97,110,116,117,109,32,99,108,97,115,115,32,115,112,97,110,32,98,117,114,115,116,32,114,97,116,101,32,112,101,114,32,110,111,100,101]⟩ p)
 |1=>nmI (nmS (arS ⟨#[119,101,105,103,104,116,32,113,117,97,110,116,117,109,32,99,108,97,115,115,32,115,112,97,110,32,98,117,114,115,116,32,114,97,116,101,32,112,101,114,32,110,111,100,101]⟩ p))
 |2=>nmI (nmS (nmS (arS ⟨#[119,101,105,103,104,116,32,113,117,97,110,116,117,109,32,99,108,97,115,115,32,115,112,97,110,32,98,117,114,115,116,32,114,97,116,101,32,112,101,114,32,110,111,100,101]⟩ p)))
 |3=>nmI (nmS (nmS (nmS (arS ⟨#[119,101,105,103,104,116,32,113,117,97,110,116,117,109,32,99,108,97,115,115,32,115,112,97,110,32,98,117,114,115,116,32,114,97,116,101,32,112,101,114,32,110,111,100,101]⟩ p))))
 |4=>nmI (nmS (nmS (nmS (nmS (arS ⟨#[119,101,105,103,104,116,32,113,117,97,110,116,117,109,32,99,108,97,115,115,32,115,112,97,110,32,98,117,114,115,116,32,114,97,116,101,32,112,101,114,32,110,111,100,101]⟩ p)))))
 |5=>nmI (woS (nmS (nmS (nmS (nmS (nmS (arS ⟨#[119,101,105,103,104,116,32,113,117,97,110,116,117,109,32,99,108,97,115,115,32,115,112,97,110,32,98,117,114,115,116,32,114,97,116,101,32,112,101,114,32,110,111,100,101]⟩ p)))))))
 |6=>nmI (nmS (woS (nmS (nmS (nmS (nmS (nmS (arS ⟨#[119,101,105,103,104,116,32,113,117,97,110,116,117,109,32,99,108,97,115,115,32,115,112,97,110,32,98,117,114,115,116,32,114,97,116,101,32,112,101,114,32,110,111,100,101]⟩ p))))))))
 |_=>0
def flR(p:List ByteArray×Bool):ByteArray:=hdT (nmS (nmS (nmS (nmS (nmS (arS ⟨#[119,101,105,103,104,116,32,113,117,97,110,116,117,109,32,99,108,97,115,115,32,115,112,97,110,32,98,117,114,115,116,32,114,97,116,101,32,112,101,114,32,110,111,100,101]⟩ p)))))).1
def flS(p:List ByteArray×Bool):List ByteArray×Bool:=(nmS (nmS (woS (nmS (nmS (nmS (nmS (nmS (arS ⟨#[119,101,105,103,104,116,32,113,117,97,110,116,117,109,32,99,108,97,115,115,32,115,112,97,110,32,98,117,114,115,116,32,114,97,116,101,32,112,101,114,32,110,111,100,101]⟩ p)))))))))
theorem Uk{lm:Nat}(rb:Nat)(p:List ByteArray×Bool)(w:World)(h:Rp lm w rb p)(hl:p.1.length≤50000):
  Calls Tryz.prog 21 #[.pointer (some ⟨rb,0,none⟩)] w fun e w'=>e=.returned (.tuple #[.agg #[.int .i64 (flV p 0),.int .i64 (flV p 1),.int .i64 (flV p 2),.int .i64 (flV p 3),.int .i64 (flV p 4),.float .f64 0,.int .i64 (flV p 5),.int .i64 (flV p 6)],.string (flR p)])∧(∃lm',Rp lm' w' rb (flS p))∧Ob rb w w':=
 Se rb p _ _ _ _ _ _ _ _ _ _ _ _ _ _ _ _ _ rfl rfl rfl rfl rfl rfl rfl rfl rfl rfl rfl rfl rfl rfl rfl rfl rfl w h hl
end Go.Proofs.YtbikpmmpgbggaaaGreatDoor
