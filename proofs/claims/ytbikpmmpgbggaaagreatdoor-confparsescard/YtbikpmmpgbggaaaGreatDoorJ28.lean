/- Contracts of the program's functions, part 28: own work, joined in build order. -/
import Derived.Test.YtbikpmmpgbggaaaGreatDoorJ27
import Derived.Handy
import Derived.Deep.Cut
import Derived.OpenShut
import Derived.LaidMore
import Derived.WalkKit
import Derived.ChangeOld
import Derived.Deep.Slices
import Derived.Test.YtbikpmmpgbggaaaGreatDoorRows
import Derived.Lib.LaidTab
import Derived.Lib.LaidU8
import Derived.Stop.LaidErr
namespace Go.Proofs.YtbikpmmpgbggaaaGreatDoor
open Go.RowKit
set_option maxRecDepth 100000
set_option linter.unusedVariables false
set_option maxHeartbeats 16000000
theorem Xw{p q:Nat}{f e:Int}(h:At p q f)(hq:0<q):upN p e/dnN q e<9007199254740992↔f-52≤e:=by
 rw[Nat.div_lt_iff_lt_mul (Ee hq e)];constructor
 ·intro hlt;rcases Int.lt_or_le e (f-52)with g|g
  ·exfalso;obtain⟨k,hk⟩: ∃k:Nat,f=e+k:=⟨(f-e).toNat,by omega⟩;have a1:=(OQ (p:=p) hq e k 1).1 (by rw[←hk,Nat.one_mul];exact h.1);rw[Nat.one_mul]at a1;have a2:(2:Nat)^53≤2^k:=Nat.pow_le_pow_right (by omega) (by omega);have a3:=Nat.mul_le_mul_right (dnN q e) a2;omega
  exact g
 intro hle;rcases Int.lt_or_le f e with g|g
 ·obtain⟨k,hk⟩: ∃k:Nat,e=f+k:=⟨(e-f).toNat,by omega⟩;rw[hk];refine(FJ (p:=p) hq f k 9007199254740992).2 ?_;have a2:1≤2^k:=Nat.one_le_two_pow;have a3:=Nat.mul_le_mul_right (dnN q f) (Nat.mul_le_mul_left 9007199254740992 a2);have a4:=h.2;omega
 obtain⟨k,hk⟩: ∃k:Nat,f=e+k:=⟨(f-e).toNat,by omega⟩;have a1:=(FJ (p:=p) hq e k 2).1 (by rw[←hk];exact h.2);have a2:(2:Nat)^k≤2^52:=Nat.pow_le_pow_right (by omega) (by omega);have a3:=Nat.mul_le_mul_right (dnN q e) (Nat.mul_le_mul_left 2 a2);omega
theorem Jo{x:Nat}:x<9007199254740992↔bitLen x≤53:=by
 constructor
 ·intro hx;exact Jd (m:=53) (by omega)
 intro hx;have a1:(2:Nat)^bitLen x≤2^53:=Nat.pow_le_pow_right (by omega) hx;have:=C4 x;omega
structure Doc (p q:Nat) (u:Int) (ct:Nat):Prop where
 top:ct=9007199254740992→(970<u→tfV p q=0∧BO p q=false)∧(u≤970→tfV p q=(u+1076).toNat*4503599627370496∧BO p q=true)
 far:ct<9007199254740992→971<u→tfV p q=0∧BO p q=false
 low:ct<4503599627370496→u≤971→tfV p q=ct∧BO p q=true
 mid:ct<9007199254740992→4503599627370496≤ct→u≤971→tfV p q=(u+1074).toNat*4503599627370496+ct∧BO p q=true
 le:ct≤9007199254740992
theorem Xa{p q:Nat}(hp:0<p)(hq:0<q){u:Int}{ct:Nat}(hu:u=unI (flI p q (szI p q)))(hc:ct=ctN p q u):Doc p q u ct:=by
 have hA:=KC hp hq;have h1:=hA.ct hq;have h2:unI (flI p q (szI p q))=flI p q (szI p q)-52→4503599627370496≤ctN p q (unI (flI p q (szI p q))):=hA.ct_ge hq;have hb:tfB p q=(u+1074).toNat*4503599627370496+ct:=by unfold tfB GV;rw[←hu,←hc]
 have hlo: -1074≤u∧(u= -1074∨u=flI p q (szI p q)-52):=by rw[hu];unfold unI;split<;>omega
 rw[←hu,←hc]at h1 h2;have h3: -1074<u→4503599627370496≤ct:=fun h=>h2 (by omega);have yes:tfB p q<9218868437227405312→tfV p q=tfB p q∧BO p q=true:=fun h=>PY hp h;have no: ¬tfB p q<9218868437227405312→tfV p q=0∧BO p q=false:=fun h=>Li hp h;refine⟨fun h=>⟨fun g=>no (by omega),fun g=> ?_⟩,fun h g=>no (by have:=h3 (by omega);omega),fun h g=> ?_,fun h k g=> ?_,h1⟩
 ·have:=yes (by omega);rw[this.1,hb];exact⟨by omega,this.2⟩
 ·have e:u= -1074:=by
   rcases Int.lt_or_le (-1074) u with x|x
   ·have:=h3 x;omega
   omega
  have:=yes (by rw[hb,e];simp;omega);rw[this.1,hb,e];exact⟨by simp,this.2⟩
 have:=yes (by omega);rw[this.1,hb];exact⟨rfl,this.2⟩
theorem Hq{u1:Int}{y y1 B1 ct d B:Nat}(hy:y=(u1+1074).toNat)(hy1:y1=y+1)(hB1:B1=y1*4503599627370496)(hd:d=ct-4503599627370496)(hB:B=B1+d)(h1: -1074≤u1)(h2:u1≤971)(h3:4503599627370496≤ct)(h4:ct≤9007199254740992):
  wrap64 (u1+1074)=(y:Int)∧wrap64 (u1- -1074)=(y:Int)∧wrap64 ((y:Int)+1)=(y1:Int)∧IntKind.u64.wrap (y1:Int)=(y1:Int)∧IntKind.u64.wrap ((y1:Int)*4503599627370496)=(B1:Int)∧IntKind.u64.wrap ((ct:Int)-4503599627370496)=(d:Int)∧IntKind.u64.wrap ((B1:Int)+(d:Int))=(B:Int)∧IntKind.u64.wrap (B:Int)=(B:Int):=
 ⟨by rw[IntWalk.wrap64_in _ ⟨by omega,by omega⟩];omega,by rw[IntWalk.wrap64_in _ ⟨by omega,by omega⟩];omega,by rw[IntWalk.wrap64_in _ ⟨by omega,by omega⟩];omega,by rw[IntKind.wrap_u64];omega,by rw[IntKind.wrap_u64];omega,by rw[IntKind.wrap_u64];omega,by rw[IntKind.wrap_u64];omega,by rw[IntKind.wrap_u64];omega⟩
theorem UD{U N:Nat}(hN:0<N):(atH U N=1∧upB U N=true)∨(atH U N=0∧upB U N=decide (U/N%2=1))∨(atH U N= -1∧upB U N=false)∨(atH U N= -2∧upB U N=false):=by
 unfold atH upB;by_cases h0:U%N=0
 ·rw[if_pos h0];refine .inr (.inr (.inr ⟨rfl,?_⟩));rw[decide_eq_false (by omega),decide_eq_false (by omega)];rfl
 rw[if_neg h0];rcases Nat.lt_trichotomy (U%N*2) N with h|h|h
 ·refine .inr (.inr (.inl ⟨Ew h,?_⟩));rw[decide_eq_false (by omega),decide_eq_false (by omega)];rfl
 ·refine .inr (.inl ⟨SD.2 h,?_⟩);rw[decide_eq_false (by omega),decide_eq_true (by omega)];rfl
 refine .inl ⟨ER h,?_⟩;rw[decide_eq_true (by omega)];rfl
theorem NM(v:Value)(p q:Nat)(w:World)(h:RRt w v p q)(hp:RS p)(hq:RS q)(hq0:0<q):
  Calls Tryz.prog 26 #[v] w fun e w'=>e=.returned (.tuple #[.int .u64 ((tfV p q:Nat):Int),.bool (BO p q)])∧Below w.heap.size w w':=by
 have h':=h;obtain⟨a1,n1,c1,a2,n2,c2,ev,hP,hQ⟩:=h';subst ev;have HH:Hid (RS p∧RS q∧0<q):=⟨hp,hq,hq0⟩;have S1:Hid _:=((((Bp w).addG h).addM hP).addM hQ).box (.slice a1 n1 c1) (.slice a2 n2 c2) 66 _ rfl;clear hP hQ hp hq hq0 h;by_cases h0:p=0
 ·have HV:Hid (tfV p q=0∧BO p q=true):=by constructor<;>simp[tfV,BO,h0]
  have HS:Hid _:=IQ (.agg #[.slice a1 n1 c1,.slice a2 n2 c2]) p q;go_enter Tryz.func26,Tryz.ntmps26
  go_wp2_with fail
  refine(IQ _ p q _ (S1.out.rfr (.agg #[.slice a1 n1 c1,.slice a2 n2 c2]) p q) HH.out.1.rfits 0 (by rw[if_pos h0])).mono ?_;rintro e w2 ⟨rfl,hb⟩;have HB:Hid (Below w.heap.size w w2):=(S1.out.go hb).bel;clear hb S1 HS;go_wp2_with fail
  exact bodyPost_ret (v:=.tuple #[.int .u64 0,.bool true]) (by simp[results,Tryz.results26,go_sem]) rfl ⟨by rw[HV.out.1,HV.out.2];rfl,HB.out⟩
 have hp0:0<p:=by omega
 obtain⟨f,hf⟩:=nme (flI p q (szI p q):Int);obtain⟨u,hu⟩:=nme (unI f:Int);obtain⟨ct,hct⟩:=nme (ctN p q u);have hA:=KC hp0 HH.out.2.2;rw[←hf]at hA;obtain⟨e0,he0⟩:=nme (if szI p q-54< -1074 then -1074 else szI p q-54:Int);have lp:bitLen p≤5760:=by have:=GP HH.out.1.lt;omega
 have lq:bitLen q≤5760:=by have:=GP HH.out.2.1.lt;omega
 have fl:=KE p q (szI p q);rw[←hf]at fl;have hsz:szI p q=(bitLen p:Int)- (bitLen q:Int):=rfl;have hbd: -1074≤e0∧e0≤u∧u≤5710:=by rw[he0,hu];unfold unI;split<;>split<;>omega
 have HU:Hid (-1074≤u∧u≤5710):=⟨by omega,hbd.2.2⟩;have HL:Hid (∀e:Int, -1074≤e→e≤u→(bitLen (upN p e/dnN q e)≤53↔u≤e)):=fun e h1 h2=>by
  rw[←Jo,Xw hA HH.out.2.2,hu];unfold unI at hu⊢;split<;>omega
 have DC:Hid (Doc p q u ct):=Xa hp0 HH.out.2.2 (by rw[hu,hf]) hct;have pN:0<dnN q u:=Ee HH.out.2.2 u;obtain⟨UB,hUB⟩:=nmd (upB (upN p u) (dnN q u));have AC:Hid _:=UD (U:=upN p u) pN;rw[hUB]at AC;have HN:Hid (ct=if UB then upN p u/dnN q u+1 else upN p u/dnN q u):=by show _=_;rw[hct,ctN,V0,hUB]
 have RF:Hid (∀e:Int, -1074≤e→e≤5710→AG (upN p e/dnN q e)):=fun e h1 h2=>BL (n:=180) (Nat.lt_of_le_of_lt (Nat.div_le_self _ _) (PZ (n:=90) (m:=90) HH.out.1.lt (by omega) (by omega))) (by omega);have b1:IntKind.i64.wrap ((bitLen p:Int)- (bitLen q:Int))=szI p q:=by rw[IntKind.wrap_i64];omega
 obtain⟨sz,esz⟩:=nmd (szI p q);rw[esz]at b1 he0 hsz;obtain⟨s4,es4⟩:=nme (sz-54);have b2:IntKind.i64.wrap (sz-54)=s4:=by rw[IntKind.wrap_i64];omega
 rw[←es4]at he0;have b3:(if s4< -1074 then(-1074:Int) else s4)=e0:=he0.symm;have b4:max s4 (-1074)=e0:=by rw[he0];split<;>omega
 have HE:Hid (-1074≤e0∧e0≤u):=⟨hbd.1,hbd.2.1⟩;have XA:Hid (∀v w (e:Int),RRt w v p q→ -1074≤e→e≤5710→Calls Tryz.prog 65 #[v,.int .i64 e] w (SE w (upN p e/dnN q e) (atH (upN p e) (dnN q e)))):=fun v w e h h1 h2=>UC v p q e w h HH.out.1 HH.out.2.1 HH.out.2.2 (by omega) (by omega);have H1:Hid (¬p=0):=h0;clear hp0 hf hu hct hA he0 lp lq fl hbd pN hUB hsz es4 esz h0;go_enter Tryz.func26,Tryz.ntmps26
 go_wp2_with fail
 refine(IQ _ p q _ (S1.out.rfr (.agg #[.slice a1 n1 c1,.slice a2 n2 c2]) p q) HH.out.1.rfits 1 (by rw[if_neg H1.out])).mono ?_;rintro e w2 ⟨rfl,hb⟩;have S2:Hid _:=S1.out.go hb;clear hb S1 H1;obtain⟨g,eg⟩:=nme w.heap.size;rw[←eg]at S2;rw[←eg];have GW:Hid (g<w2.heap.size):=S2.out.lt g;clear eg;go_wp2_with fail
 refine Bg (JB w2 [sEq (.pointer (some ⟨g,0,none⟩)),sR (p),sEq (.int .i64 ((bitLen p:Nat):Int)),sEq (.pointer (some ⟨g,1,none⟩)),sR (q),sEq (.int .i64 ((bitLen q:Nat):Int)),sEq (.int .i64 sz),sEq (.int .i64 s4),sEq (.int .i64 e0),sEq (.int .i64 e0)] []) 73 (by kernel_rfl) rfl (by kernel_rfl) (JB.start _ _ _) (fun HG HN=>⟨?_,?_,?_,?_,?_,?_,?_,?_,?_,?_,trivial⟩) ?_
 ·intro L vs a w' hJ hF hP hL;have q1:(a.tmps[1]?).getD undef=.pointer (some ⟨g,0,none⟩):=hF.old 1 rfl;exact Av (v:=.pointer (some ⟨g,0,none⟩)) rfl (by simp[execOp,go_sem,q1]) ⟨_,rfl,hJ.step hL rfl (Below.refl _ _) (by exact rfl)⟩
 ·intro L vs a w' hJ hF hP hL;have p0:L 0=true:=hP ⟨0,.data⟩ (by simp) rfl;have s0:vs 0=.pointer (some ⟨g,0,none⟩):=hJ.sp 0 p0;have q12:=hF.slot 0 12 rfl p0;have cb:=cell_later hJ.bel (S2.out.cel (g) 0 (.slice a1 n1 c1));exact Av (v:=.agg #[.slice a1 n1 c1]) rfl (by simp[execOp,go_sem,q12,s0,cb]) ⟨_,rfl,hJ.step hL rfl (Below.refl _ _) (by exact((S2.out.rat (.agg #[.slice a1 n1 c1]) (p)).mono hJ.bel))⟩
 ·intro L vs a w' hJ hF hP hL;have p1:L 1=true:=hP ⟨1,.data⟩ (by simp) rfl;have s1:Ai w' (vs 1) (p):=hJ.sp 1 p1;have q13:=hF.slot 1 13 rfl p1;refine AO (f:=64) (args:= #[vs 1]) rfl (by simp[go_sem,q13]) (IF _ p _ s1 HH.out.1.rfits) ?_;rintro e w2 ⟨rfl,hb⟩;exact⟨_,rfl,_,rfl,hJ.step hL rfl hb (by exact rfl)⟩
 ·intro L vs a w' hJ hF hP hL;have q1:(a.tmps[1]?).getD undef=.pointer (some ⟨g,0,none⟩):=hF.old 1 rfl;exact Av (v:=.pointer (some ⟨g,1,none⟩)) rfl (by simp[execOp,go_sem,q1]) ⟨_,rfl,hJ.step hL rfl (Below.refl _ _) (by exact rfl)⟩
 ·intro L vs a w' hJ hF hP hL;have p3:L 3=true:=hP ⟨3,.data⟩ (by simp) rfl;have s3:vs 3=.pointer (some ⟨g,1,none⟩):=hJ.sp 3 p3;have q15:=hF.slot 3 15 rfl p3;have cb:=cell_later hJ.bel (S2.out.cel (g) 1 (.slice a2 n2 c2));exact Av (v:=.agg #[.slice a2 n2 c2]) rfl (by simp[execOp,go_sem,q15,s3,cb]) ⟨_,rfl,hJ.step hL rfl (Below.refl _ _) (by exact((S2.out.rat (.agg #[.slice a2 n2 c2]) (q)).mono hJ.bel))⟩
 ·intro L vs a w' hJ hF hP hL;have p4:L 4=true:=hP ⟨4,.data⟩ (by simp) rfl;have s4:Ai w' (vs 4) (q):=hJ.sp 4 p4;have q16:=hF.slot 4 16 rfl p4;refine AO (f:=64) (args:= #[vs 4]) rfl (by simp[go_sem,q16]) (IF _ q _ s4 HH.out.2.1.rfits) ?_;rintro e w2 ⟨rfl,hb⟩;exact⟨_,rfl,_,rfl,hJ.step hL rfl hb (by exact rfl)⟩
 ·intro L vs a w' hJ hF hP hL;have p2:L 2=true:=hP ⟨2,.data⟩ (by simp) rfl;have s2:vs 2=.int .i64 ((bitLen p:Nat):Int):=hJ.sp 2 p2;have q14:=hF.slot 2 14 rfl p2;have p5:L 5=true:=hP ⟨5,.data⟩ (by simp) rfl;have s5:vs 5=.int .i64 ((bitLen q:Nat):Int):=hJ.sp 5 p5;have q17:=hF.slot 5 17 rfl p5;exact Av (v:=.int .i64 sz) rfl (by simp[execOp,go_sem,q14,s2,q17,s5,b1]) ⟨_,rfl,hJ.step hL rfl (Below.refl _ _) (by exact rfl)⟩
 ·intro L vs a w' hJ hF hP hL;have p6:L 6=true:=hP ⟨6,.data⟩ (by simp) rfl;have s6:vs 6=.int .i64 sz:=hJ.sp 6 p6;have q18:=hF.slot 6 18 rfl p6;exact Av (v:=.int .i64 s4) rfl (by simp[execOp,go_sem,q18,s6,b2]) ⟨_,rfl,hJ.step hL rfl (Below.refl _ _) (by exact rfl)⟩
 ·intro L vs a w' hJ hF hP hL;have p7:L 7=true:=hP ⟨7,.data⟩ (by simp) rfl;have s7:vs 7=.int .i64 s4:=hJ.sp 7 p7;have q19:=hF.slot 7 19 rfl p7;exact Av (v:=.int .i64 e0) rfl (by simp[go_sem,q19,s7];first|exact b3|exact b4) ⟨_,rfl,hJ.step hL rfl (Below.refl _ _) (by exact rfl)⟩
 ·intro L vs a w' hJ hF hP hL;have p8:L 8=true:=hP ⟨8,.data⟩ (by simp) rfl;have s8:vs 8=.int .i64 e0:=hJ.sp 8 p8;have q20:=hF.slot 8 20 rfl p8;exact Av (v:=.int .i64 e0) rfl (by simp[execOp,go_sem,q20,s8]) ⟨_,rfl,hJ.step hL rfl (Below.refl _ _) (by exact rfl)⟩
 intro L vs w' hA hJ;have s9:vs 9=.int .i64 e0:=hJ.sp 9 (hA 9 (by simp));simp only[DU,Act.put,List.setIfInBounds_toArray,List.set_cons_zero,List.set_cons_succ,Nat.reduceAdd];simp only[s9];obtain⟨w3,ew⟩:=nme w';have S3:Hid _:=S2.out.go hJ.bel;rw[←ew]at S3;rw[←ew];clear ew s9 hJ hA S2 b1 b2 b3 b4 GW;have x0:=S3.out.cel g 0 (.slice a1 n1 c1);have x1:=S3.out.cel g 1 (.slice a2 n2 c2);go_wp2_with fail
 refine(XA.out _ _ e0 (S3.out.rfr (.agg #[.slice a1 n1 c1,.slice a2 n2 c2]) p q) HE.out.1 (by have:=HE.out;have:=HU.out;omega)).mono ?_;rintro e w4 ⟨v4,rfl,hv,hb⟩;obtain⟨am,nm,cm,rfl⟩:=hv.isAgg;have S4:Hid _:=((S3.out.go hb).addM hv).box1 (.slice am nm cm) 64 _ rfl;have GW:Hid (g<w4.heap.size):=(S3.out.go hb).lt g;clear hv hb S3 x0 x1;go_wp2_with fail
 obtain⟨bm,eb⟩:=nme w4.heap.size;obtain⟨w5,ew⟩:=nme (w4.alloc (.cells #[.slice am nm cm] 64));rw[←ew,←eb]at S4;rw[←ew,←eb];have NE:Hid (¬g=bm):=by rw[eb];have:=GW.out;show¬_;omega
 clear ew eb GW;have SA:Hid (SY w w5 [] [(.agg #[.slice am nm cm],upN p e0/dnN q e0)] [] [(.agg #[.slice a1 n1 c1,.slice a2 n2 c2],p,q)] [(bm,0,.slice am nm cm),(g,0,.slice a1 n1 c1),(g,1,.slice a2 n2 c2)] [bm]):=S4.out.sub _ _ _ _ _ _ (by simp) (by simp) (by simp) (by simp) (by simp) (by simp);clear S4;go_loopw [4,6] (fun t4 t6 wr=> ∃(e:Int) (am:Option Addr) (nm cm:Nat),t4=.int .i64 e∧t6=.int .i64 (atH (upN p e) (dnN q e))∧ -1074≤e∧e≤u∧SY w wr [] [(.agg #[.slice am nm cm],upN p e/dnN q e)] [] [(.agg #[.slice a1 n1 c1,.slice a2 n2 c2],p,q)] [(bm,0,.slice am nm cm),(g,0,.slice a1 n1 c1),(g,1,.slice a2 n2 c2)] [bm]) (fun t4 _ _=>(u-intOf t4).toNat)
 case atStart=>exact⟨e0,_,_,_,rfl,rfl,HE.out.1,HE.out.2,SA.out⟩
 case round=>
  clear SA;obtain⟨e,am,nm,cm,rfl,rfl,h1,h2,hS⟩:=hrel;have SI:Hid _:=hS;clear hS;have x0:=SI.out.cel g 0 (.slice a1 n1 c1);have x1:=SI.out.cel g 1 (.slice a2 n2 c2);have x2:=SI.out.cel bm 0 (.slice am nm cm);have f2:=SI.out.fz bm 0;obtain⟨Q,hQ⟩:=nmd (upN p e/dnN q e);have HQ:Hid (upN p e/dnN q e=Q):=hQ;have hL:=HL.out e h1 h2;have HF:Hid (AG Q):=by rw[←hQ];exact RF.out e h1 (by have:=HU.out;omega)
  rw[hQ]at hL SI;have HR:Hid (-1074≤e∧e≤u):=⟨h1,h2⟩;clear hQ;go_wp2_with fail
  refine(IF _ Q _ (SI.out.rat (.agg #[.slice am nm cm]) Q) HF.out).mono ?_;rintro e9 w6 ⟨rfl,hb⟩;have SJ:Hid _:=SI.out.go hb;obtain⟨L,hl⟩:=nmd (bitLen Q);rw[hl]at hL;rw[hl];clear hb SI hl x0 x1 x2 f2;have x0:=SJ.out.cel g 0 (.slice a1 n1 c1);have x1:=SJ.out.cel g 1 (.slice a2 n2 c2);have x2:=SJ.out.cel bm 0 (.slice am nm cm);have f2:=SJ.out.fz bm 0;by_cases h0:e<u
  ·have l1:53<L:=by have:=hL.1;omega
   obtain⟨e1,he1⟩:=nme (e+1:Int);have w1:wrap64 (e+1)=e1:=by rw[IntWalk.wrap64_in _ ⟨by omega,by have:=HU.out;omega⟩,he1]
   have H2:Hid (e1=e+1∧ -1074≤e1∧e1≤u∧e<u):=⟨he1,by omega,by omega,h0⟩;clear hL h0 he1 h1 h2;go_wp2_with fail
   refine(XA.out _ _ e1 (SJ.out.rfr (.agg #[.slice a1 n1 c1,.slice a2 n2 c2]) p q) H2.out.2.1 (by have:=H2.out;have:=HU.out;omega)).mono ?_;rintro e9 w7 ⟨v7,rfl,hv,hb⟩;obtain⟨a7,n7,c7,rfl⟩:=hv.isAgg;have SK:Hid _:=(SJ.out.go hb).addM hv;clear hv hb SJ x0 x1 x2 f2;have x2:=SK.out.cel bm 0 (.slice am nm cm);have f2:=SK.out.fz bm 0;have SM:Hid _:=((SK.out.set (b:=bm) (i:=0) x2 (SK.out.lo bm) [(g,0,.slice a1 n1 c1),(g,1,.slice a2 n2 c2)] (by have:=NE.out;simp;exact this) (.slice a7 n7 c7)).addC (b:=bm) (i:=0) (v:=.slice a7 n7 c7) (by simp[go_sem,x2])).sub [] [(.agg #[.slice a7 n7 c7],upN p e1/dnN q e1)] [] [(.agg #[.slice a1 n1 c1,.slice a2 n2 c2],p,q)] [(bm,0,.slice a7 n7 c7),(g,0,.slice a1 n1 c1),(g,1,.slice a2 n2 c2)] [bm] (by simp) (by simp) (by simp) (by simp) (by simp) (by simp);go_wp2_with fail
   go_roundw
   case rel=>exact⟨e1,_,_,_,rfl,rfl,H2.out.2.1,H2.out.2.2.1,SM.out⟩
   case measure=>
    have:=H2.out;have:=HR.out;simp[intOf];omega
  obtain rfl:e=u:=by omega
  have l1: ¬ 53<L:=by have:=hL.2 (by omega);omega
  clear hL h0 h1 h2 x0 x1;go_wp2_with fail
  refine(Rn _ Q _ (SJ.out.rat (.agg #[.slice am nm cm]) Q) (by
   have:=(Jo (x:=upN p e/dnN q e)).2 ((HL.out e HR.out.1 (by omega)).2 (by omega));rw[HQ.out]at this;omega)).mono ?_
  rintro e9 w7 ⟨rfl,hb⟩;have HB:Hid (Below w.heap.size w w7):=(SJ.out.go hb).bel;have HQ2:Hid (Q<9007199254740992):=by
   have:=(Jo (x:=upN p e/dnN q e)).2 ((HL.out e HR.out.1 (by omega)).2 (by omega));rw[HQ.out]at this;exact this
  clear hb SJ x2 f2;obtain⟨H0,hH0⟩:=nmd (atH (upN p e) (dnN q e));rw[hH0]at AC;rw[HQ.out]at AC HN;rw[hH0];clear hH0;obtain⟨u,eu⟩:=nme (e:Int);rw[←eu]at DC HU;rw[←eu];clear eu;go_upto_region 9 with fail
  go_cut [53] from 43 to 53 (fun s53 wx=>wx=w7∧s53=.bool UB)
  case first=>
   rcases AC.out with⟨rfl,rfl⟩| ⟨rfl,hU⟩| ⟨rfl,rfl⟩| ⟨rfl,rfl⟩
   ·go_wp2_with fail
    go_meet
    exact⟨rfl,rfl⟩
   ·by_cases hodd:Q%2=1
    ·rw[decide_eq_true hodd]at hU;have o1:(Q:Int)%2=1:=by omega
     have o2:(Q:Int).tmod 2=1:=by rw[Int.tmod_eq_emod_of_nonneg (by omega)];exact o1
     subst hU;go_wp2_with fail
     go_meet
     exact⟨rfl,rfl⟩
    rw[decide_eq_false hodd]at hU;have o1:(Q:Int)%2=0:=by omega
    have o2:(Q:Int).tmod 2=0:=by rw[Int.tmod_eq_emod_of_nonneg (by omega)];exact o1
    subst hU;go_wp2_with fail
    go_meet
    exact⟨rfl,rfl⟩
   ·go_wp2_with fail
    go_meet
    exact⟨rfl,rfl⟩
   go_wp2_with fail
   go_meet
   exact⟨rfl,rfl⟩
  case rest=>
   obtain⟨hw,rfl⟩:=hcut;have HB:Hid (Below w.heap.size w wc):=by rw[hw];exact HB
   clear hw;cases UB
   ·have HE2:Hid (ct=Q):=HN.out;rw[←HE2.out];clear HE2;by_cases c1:ct=9007199254740992
    ·obtain⟨d1,d2⟩:=DC.out.top c1;subst c1;obtain⟨u1,hu1⟩:=nme (u+1:Int);have X1:Hid (wrap64 (u+1)=u1):=by show _=_;rw[IntWalk.wrap64_in _ ⟨by have:=HU.out;omega,by have:=HU.out;omega⟩,hu1]
     by_cases c2:970<u
     ·have HV:Hid _:=d1 c2;have t5:decide (971<u1)=true:=decide_eq_true (by omega);clear c2 d1 d2 hu1;have x1:=X1.out;go_wp2_with fail
      exact bodyPost_ret (v:=.tuple #[.int .u64 0,.bool false]) (by simp[results,Tryz.results26,go_sem]) rfl ⟨by rw[HV.out.1,HV.out.2];rfl,HB.out⟩
     have HV:Hid _:=d2 (by omega);have t5:decide (971<u1)=false:=decide_eq_false (by omega);obtain⟨y,hy⟩:=nme ((u1+1074).toNat:Nat);obtain⟨y1,hy1⟩:=nme (y+1:Nat);obtain⟨B,hB⟩:=nme (y1*4503599627370496:Nat);have HW:Hid (tfV p q=B∧BO p q=true):=⟨by rw[HV.out.1,hB];have:=HU.out;omega,HV.out.2⟩;have RU:Hid _:=Hq (u1:=u1) (ct:=4503599627370496) (d:=0) (B:=B) hy hy1 hB (by omega) (by omega) (by have:=HU.out;omega) (by omega) (by omega) (by omega);clear c2 d1 d2 hu1 hy hy1 hB HV;have x1:=X1.out;obtain⟨x2,x2',x3,x4,x5,x6,x7,x8⟩:=RU.out;go_wp2_with fail
     exact bodyPost_ret (v:=.tuple #[.int .u64 (B:Int),.bool true]) (by simp[results,Tryz.results26,go_sem]) rfl ⟨by rw[HW.out.1,HW.out.2],HB.out⟩
    have ctl:ct<9007199254740992:=by have:=DC.out.le;omega
    have c3:((ct:Int)==9007199254740992)=false:=by simp;omega
    by_cases c2:971<u
    ·have HV:Hid _:=DC.out.far ctl c2;have t5:decide (971<u)=true:=decide_eq_true c2;have c5:decide (ct=9007199254740992)=false:=decide_eq_false c1;clear c2 ctl c1;go_wp2_with fail
     exact bodyPost_ret (v:=.tuple #[.int .u64 0,.bool false]) (by simp[results,Tryz.results26,go_sem]) rfl ⟨by rw[HV.out.1,HV.out.2];rfl,HB.out⟩
    have t5:decide (971<u)=false:=decide_eq_false c2;have c5:decide (ct=9007199254740992)=false:=decide_eq_false c1;by_cases c4:ct<4503599627370496
    ·have HV:Hid _:=DC.out.low c4 (by omega);have c6:decide (ct<4503599627370496)=true:=decide_eq_true c4;have c7:decide ((ct:Int)<4503599627370496)=true:=decide_eq_true (by omega);clear c2 ctl c4 c1;go_wp2_with fail
     exact bodyPost_ret (v:=.tuple #[.int .u64 (ct:Int),.bool true]) (by simp[results,Tryz.results26,go_sem]) rfl ⟨by rw[HV.out.1,HV.out.2],HB.out⟩
    have HV:Hid _:=DC.out.mid ctl (by omega) (by omega);obtain⟨y,hy⟩:=nme ((u+1074).toNat:Nat);obtain⟨y1,hy1⟩:=nme (y+1:Nat);obtain⟨B1,hB1⟩:=nme (y1*4503599627370496:Nat);obtain⟨d,hd⟩:=nme (ct-4503599627370496:Nat);obtain⟨B,hB⟩:=nme (B1+d:Nat);have HW:Hid (tfV p q=B∧BO p q=true):=⟨by rw[HV.out.1,hB,hB1,hd,hy1,hy];omega,HV.out.2⟩;have RU:Hid _:=Hq (u1:=u) hy hy1 hB1 hd hB (by have:=HU.out;omega) (by omega) (by omega) (by omega);have c6:decide (ct<4503599627370496)=false:=decide_eq_false c4;have c7:decide ((ct:Int)<4503599627370496)=false:=decide_eq_false (by omega);clear c2 hy hy1 hB hB1 hd HV ctl c4 c1;obtain⟨x2,x2',x3,x4,x5,x6,x7,x8⟩:=RU.out;go_wp2_with fail
    exact bodyPost_ret (v:=.tuple #[.int .u64 (B:Int),.bool true]) (by simp[results,Tryz.results26,go_sem]) rfl ⟨by rw[HW.out.1,HW.out.2],HB.out⟩
   have HE2:Hid (ct=Q+1):=HN.out;have xq:IntKind.u64.wrap ((Q:Int)+1)=(ct:Int):=by rw[IntKind.wrap_u64,HE2.out];have:=HQ2.out;omega
   go_upto_region 11 with fail
   clear xq HE2;by_cases c1:ct=9007199254740992
   ·obtain⟨d1,d2⟩:=DC.out.top c1;subst c1;obtain⟨u1,hu1⟩:=nme (u+1:Int);have X1:Hid (wrap64 (u+1)=u1):=by show _=_;rw[IntWalk.wrap64_in _ ⟨by have:=HU.out;omega,by have:=HU.out;omega⟩,hu1]
    by_cases c2:970<u
    ·have HV:Hid _:=d1 c2;have t5:decide (971<u1)=true:=decide_eq_true (by omega);clear c2 d1 d2 hu1;have x1:=X1.out;go_wp2_with fail
     exact bodyPost_ret (v:=.tuple #[.int .u64 0,.bool false]) (by simp[results,Tryz.results26,go_sem]) rfl ⟨by rw[HV.out.1,HV.out.2];rfl,HB.out⟩
    have HV:Hid _:=d2 (by omega);have t5:decide (971<u1)=false:=decide_eq_false (by omega);obtain⟨y,hy⟩:=nme ((u1+1074).toNat:Nat);obtain⟨y1,hy1⟩:=nme (y+1:Nat);obtain⟨B,hB⟩:=nme (y1*4503599627370496:Nat);have HW:Hid (tfV p q=B∧BO p q=true):=⟨by rw[HV.out.1,hB];have:=HU.out;omega,HV.out.2⟩;have RU:Hid _:=Hq (u1:=u1) (ct:=4503599627370496) (d:=0) (B:=B) hy hy1 hB (by omega) (by omega) (by have:=HU.out;omega) (by omega) (by omega) (by omega);clear c2 d1 d2 hu1 hy hy1 hB HV;have x1:=X1.out;obtain⟨x2,x2',x3,x4,x5,x6,x7,x8⟩:=RU.out;go_wp2_with fail
    exact bodyPost_ret (v:=.tuple #[.int .u64 (B:Int),.bool true]) (by simp[results,Tryz.results26,go_sem]) rfl ⟨by rw[HW.out.1,HW.out.2],HB.out⟩
   have ctl:ct<9007199254740992:=by have:=DC.out.le;omega
   have c3:((ct:Int)==9007199254740992)=false:=by simp;omega
   by_cases c2:971<u
   ·have HV:Hid _:=DC.out.far ctl c2;have t5:decide (971<u)=true:=decide_eq_true c2;have c5:decide (ct=9007199254740992)=false:=decide_eq_false c1;clear c2 ctl c1;go_wp2_with fail
    exact bodyPost_ret (v:=.tuple #[.int .u64 0,.bool false]) (by simp[results,Tryz.results26,go_sem]) rfl ⟨by rw[HV.out.1,HV.out.2];rfl,HB.out⟩
   have t5:decide (971<u)=false:=decide_eq_false c2;have c5:decide (ct=9007199254740992)=false:=decide_eq_false c1;by_cases c4:ct<4503599627370496
   ·have HV:Hid _:=DC.out.low c4 (by omega);have c6:decide (ct<4503599627370496)=true:=decide_eq_true c4;have c7:decide ((ct:Int)<4503599627370496)=true:=decide_eq_true (by omega);clear c2 ctl c4 c1;go_wp2_with fail
    exact bodyPost_ret (v:=.tuple #[.int .u64 (ct:Int),.bool true]) (by simp[results,Tryz.results26,go_sem]) rfl ⟨by rw[HV.out.1,HV.out.2],HB.out⟩
   have HV:Hid _:=DC.out.mid ctl (by omega) (by omega);obtain⟨y,hy⟩:=nme ((u+1074).toNat:Nat);obtain⟨y1,hy1⟩:=nme (y+1:Nat);obtain⟨B1,hB1⟩:=nme (y1*4503599627370496:Nat);obtain⟨d,hd⟩:=nme (ct-4503599627370496:Nat);obtain⟨B,hB⟩:=nme (B1+d:Nat);have HW:Hid (tfV p q=B∧BO p q=true):=⟨by rw[HV.out.1,hB,hB1,hd,hy1,hy];omega,HV.out.2⟩;have RU:Hid _:=Hq (u1:=u) hy hy1 hB1 hd hB (by have:=HU.out;omega) (by omega) (by omega) (by omega);have c6:decide (ct<4503599627370496)=false:=decide_eq_false c4;have c7:decide ((ct:Int)<4503599627370496)=false:=decide_eq_false (by omega);clear c2 hy hy1 hB hB1 hd HV ctl c4 c1;obtain⟨x2,x2',x3,x4,x5,x6,x7,x8⟩:=RU.out;go_wp2_with fail
   exact bodyPost_ret (v:=.tuple #[.int .u64 (B:Int),.bool true]) (by simp[results,Tryz.results26,go_sem]) rfl ⟨by rw[HW.out.1,HW.out.2],HB.out⟩
def stS:ByteArray:=⟨#[119,101,105,103,104,116,32,49,32,113,117,97,110,116,117,109,32,48,32,99,108,97,115,115,32,48,32,115,112,97,110,32,48,32,98,117,114,115,116,32,49,48,48,32,114,97,116,101,32,49,47,50,32,112,101,114,32,51,32,110,111,100,101,32,48]⟩
theorem Xx:pfE (A4 1 100 50 10 2 0 (fun _ _=>0) 0) (fun b0 b1 b2 b3 b4 bu b5 b6=>CO 1 100 50 10 2 0 (fun _ _=>0) 0 b0 b1 b2 b3 b4 bu b5 b6) stS=0∧pfV 0 stS 0=1∧pfV 0 stS 1=0∧pfV 0 stS 2=0∧pfV 0 stS 3=0∧pfV 0 stS 4=100∧pfV 0 stS 5=3∧pfV 0 stS 6=0∧pfU 0 stS=4602678819172646912:=by decide+kernel
theorem Qw(w:World)(h:Vs9 w):Calls Tryz.prog 6 #[.agg #[.int .i64 1,.int .i64 100,.int .i64 50,.int .i64 10,.int .i64 2,.int .i64 0,.slice none 0 0],.string ⟨#[119,101,105,103,104,116,32,49,32,113,117,97,110,116,117,109,32,48,32,99,108,97,115,115,32,48,32,115,112,97,110,32,48,32,98,117,114,115,116,32,49,48,48,32,114,97,116,101,32,49,47,50,32,112,101,114,32,51,32,110,111,100,101,32,48]⟩] w fun e w'=>e=.returned (.tuple #[.agg #[.int .i64 1,.int .i64 0,.int .i64 0,.int .i64 0,.int .i64 100,.float .f64 4602678819172646912,.int .i64 3,.int .i64 0],.int .i64 0])∧Below w.heap.size w w':=by
 obtain⟨h0,k0,k1,k2,k3,k4,k5,k6,k7⟩:=Xx;have q:=IW 1 100 50 10 2 0 none 0 0 (fun _ _=>0) stS 0 w (FN w) (by decide) h.ev h.kn h.tab h0;rw[k0,k1,k2,k3,k4,k5,k6,k7]at q;exact q
theorem Mn(w:World)(h:Vs9 w):Calls Tryz.prog 11 #[] w fun e w'=>e=.returned (.bool true)∧Below w.heap.size w w':=by
 have HV:Hid _:=h;clear h;have sf:=fun(w:World) (a:Addr) (x:Nat)=>run_store Tryz.prog w a (.float .f64 x) .plain rfl;go_enter Tryz.func11,Tryz.ntmps11
 go_wp2_with fail
 have S0:Hid _:=((CG w).box7 (.int .i64 1) (.int .i64 100) (.int .i64 50) (.int .i64 10) (.int .i64 2) (.int .i64 0) (.slice none 0 0) 24 _ rfl).box8 (.int .i64 1) (.int .i64 0) (.int .i64 0) (.int .i64 0) (.int .i64 100) (.float .f64 4602678819172646912) (.int .i64 3) (.int .i64 0) 32 (w.heap.size+1) (by rw[World.size_alloc]);refine(Up _ (HV.out.go S0.out.bel)).mono ?_;rintro e w1 ⟨rfl,hb1⟩;obtain⟨gp,egp⟩:=nme (w.heap.size+1);obtain⟨gc,egc⟩:=nme w.heap.size;rw[←egp,←egc]at S0;rw[←egp,←egc];have S1:Hid _:=S0.out.go hb1;clear hb1 S0 egp egc;have x0:=S1.out.cel gc 0 (.int .i64 1);have x1:=S1.out.cel gc 1 (.int .i64 100);have x2:=S1.out.cel gc 2 (.int .i64 50);have x3:=S1.out.cel gc 3 (.int .i64 10);have x4:=S1.out.cel gc 4 (.int .i64 2);have x5:=S1.out.cel gc 5 (.int .i64 0);have x6:=S1.out.cel gc 6 (.slice none 0 0);have y0:=S1.out.cel gp 0 (.int .i64 1);have y1:=S1.out.cel gp 1 (.int .i64 0);have y2:=S1.out.cel gp 2 (.int .i64 0);have y3:=S1.out.cel gp 3 (.int .i64 0);have y4:=S1.out.cel gp 4 (.int .i64 100);have y5:=S1.out.cel gp 5 (.float .f64 4602678819172646912);have y6:=S1.out.cel gp 6 (.int .i64 3);have y7:=S1.out.cel gp 7 (.int .i64 0);go_wp2_with fail
 refine(Su _ (HV.out.go S1.out.bel)).mono ?_;rintro e w2 ⟨rfl,hb2⟩;have S2:Hid _:=S1.out.go hb2;replace x0:=Ae hb2 x0;replace x1:=Ae hb2 x1;replace x2:=Ae hb2 x2;replace x3:=Ae hb2 x3;replace x4:=Ae hb2 x4;replace x5:=Ae hb2 x5;replace x6:=Ae hb2 x6;replace y0:=Ae hb2 y0;replace y1:=Ae hb2 y1;replace y2:=Ae hb2 y2;replace y3:=Ae hb2 y3;replace y4:=Ae hb2 y4;replace y5:=Ae hb2 y5;replace y6:=Ae hb2 y6;replace y7:=Ae hb2 y7;clear hb2 S1;go_wp2_with fail
 refine(Uq _ (HV.out.go S2.out.bel)).mono ?_;rintro e w3 ⟨rfl,hb3⟩;have S3:Hid _:=(S2.out.go hb3).box7 (.int .i64 1) (.int .i64 100) (.int .i64 50) (.int .i64 10) (.int .i64 2) (.int .i64 0) (.slice none 0 0) 24 _ rfl;replace x0:=Ae hb3 x0;replace x1:=Ae hb3 x1;replace x2:=Ae hb3 x2;replace x3:=Ae hb3 x3;replace x4:=Ae hb3 x4;replace x5:=Ae hb3 x5;replace x6:=Ae hb3 x6;have lc:=World.block_lt_of_cell? _ _ x0;clear hb3 S2 y0 y1 y2 y3 y4 y5 y6 y7;go_wp2_with fail
 refine(Qw _ (HV.out.go S3.out.bel)).mono ?_;rintro e w4 ⟨rfl,hb4⟩;have S4:Hid _:=S3.out.go hb4;obtain⟨gd,egd⟩:=nme w3.heap.size;rw[←egd]at S4;rw[←egd];clear x0 x1 x2 x3 x4 x5 x6 hb4 S3 egd;have x0:=S4.out.cel gc 0 (.int .i64 1);have x1:=S4.out.cel gc 1 (.int .i64 100);have x2:=S4.out.cel gc 2 (.int .i64 50);have x3:=S4.out.cel gc 3 (.int .i64 10);have x4:=S4.out.cel gc 4 (.int .i64 2);have x5:=S4.out.cel gc 5 (.int .i64 0);have x6:=S4.out.cel gc 6 (.slice none 0 0);have lc4:=World.block_lt_of_cell? _ _ x0;clear lc;go_wp2_with fail
 have S5:Hid _:=((S4.out.box8 (.int .i64 1) (.int .i64 0) (.int .i64 0) (.int .i64 0) (.int .i64 100) (.float .f64 4602678819172646912) (.int .i64 3) (.int .i64 0) 32 _ rfl).go (Af (o:=.cells #[.int .i64 6,.int .i64 100,.int .i64 50,.int .i64 10,.int .i64 2,.int .i64 0,.slice (some ⟨w4.heap.size+1+1,0,none⟩) 4 4] 24) (Aa _))).go (Af (o:=.cells #[.int .i64 6,.int .i64 0,.int .i64 0,.int .i64 0,.int .i64 4,.int .i64 0,.int .i64 5,.int .i64 7,.int .i64 6,.int .i64 0,.int .i64 9,.int .i64 0,.int .i64 2,.int .i64 2,.int .i64 1,.int .i64 0] 78) (Aa _));refine(Sv _ (w4.heap.size+1+1) (HV.out.go S5.out.bel) (WU _ _ (by rw[World.size_alloc,World.size_alloc]))).mono ?_;rintro e w6 ⟨rfl,hb6⟩;have S6:Hid _:=S5.out.go hb6;obtain⟨gq,egq⟩:=nme w4.heap.size;rw[←egq]at S6;rw[←egq];clear x0 x1 x2 x3 x4 x5 x6 hb6 S5 S4 egq lc4;go_wp2_with fail
 refine(Et 0 0 0 0 0 0 none 0 0 (fun _ _=>0) _ (FN _)).mono ?_;rintro e w7 ⟨rfl,hb7⟩;rw[VO];have S7:Hid _:=S6.out.go hb7;clear hb7 S6;go_wp2_with fail
 refine(Ea 90 _).mono ?_;rintro e w8 ⟨rfl,rfl⟩;have x0:=S7.out.cel gc 0 (.int .i64 1);have x1:=S7.out.cel gc 1 (.int .i64 100);have x2:=S7.out.cel gc 2 (.int .i64 50);have x3:=S7.out.cel gc 3 (.int .i64 10);have x4:=S7.out.cel gc 4 (.int .i64 2);have x5:=S7.out.cel gc 5 (.int .i64 0);have x6:=S7.out.cel gc 6 (.slice none 0 0);go_wp2_with fail
 refine(Gp 1 100 50 10 2 0 none 0 0 (fun _ _=>0) 0 0 0 0 0 0 0 0 _ (FN _)).mono ?_;rintro e w9 ⟨rfl,hb9⟩;rw[VP];have S9:Hid _:=S7.out.go hb9;clear x0 x1 x2 x3 x4 x5 x6 hb9 S7;go_wp2_with fail
 refine(Ea 93 _).mono ?_;rintro e w10 ⟨rfl,rfl⟩;go_wp2_with fail
 refine(Ea 0 _).mono ?_;rintro e w11 ⟨rfl,rfl⟩;go_wp2_with fail
 refine(Ea 0 _).mono ?_;rintro e w12 ⟨rfl,rfl⟩;go_wp2_with fail
 refine(Ea 0 _).mono ?_;rintro e w13 ⟨rfl,rfl⟩;go_wp2_with fail
 refine(Ea 0 _).mono ?_;rintro e w14 ⟨rfl,rfl⟩;go_wp2_with fail
 refine(Ea 0 _).mono ?_;rintro e w15 ⟨rfl,rfl⟩;have x0:=S9.out.cel gc 0 (.int .i64 1);have x1:=S9.out.cel gc 1 (.int .i64 100);have x2:=S9.out.cel gc 2 (.int .i64 50);have x3:=S9.out.cel gc 3 (.int .i64 10);have x4:=S9.out.cel gc 4 (.int .i64 2);have x5:=S9.out.cel gc 5 (.int .i64 0);have x6:=S9.out.cel gc 6 (.slice none 0 0);have y0:=S9.out.cel gd 0 (.int .i64 1);have y1:=S9.out.cel gd 1 (.int .i64 100);have y2:=S9.out.cel gd 2 (.int .i64 50);have y3:=S9.out.cel gd 3 (.int .i64 10);have y4:=S9.out.cel gd 4 (.int .i64 2);have y5:=S9.out.cel gd 5 (.int .i64 0);have y6:=S9.out.cel gd 6 (.slice none 0 0);go_wp2_with fail
 refine(St _).mono ?_;rintro e w20 ⟨rfl,hb20⟩;have S20:Hid _:=S9.out.go hb20;clear x0 y0 x1 y1 x2 y2 x3 y3 x4 y4 x5 y5 x6 y6 hb20 S9;have x0:=S20.out.cel gq 0 (.int .i64 1);have x1:=S20.out.cel gq 1 (.int .i64 0);have x2:=S20.out.cel gq 2 (.int .i64 0);have x3:=S20.out.cel gq 3 (.int .i64 0);have x4:=S20.out.cel gq 4 (.int .i64 100);have x5:=S20.out.cel gq 5 (.float .f64 4602678819172646912);have x6:=S20.out.cel gq 6 (.int .i64 3);have x7:=S20.out.cel gq 7 (.int .i64 0);have y0:=S20.out.cel gp 0 (.int .i64 1);have y1:=S20.out.cel gp 1 (.int .i64 0);have y2:=S20.out.cel gp 2 (.int .i64 0);have y3:=S20.out.cel gp 3 (.int .i64 0);have y4:=S20.out.cel gp 4 (.int .i64 100);have y5:=S20.out.cel gp 5 (.float .f64 4602678819172646912);have y6:=S20.out.cel gp 6 (.int .i64 3);have y7:=S20.out.cel gp 7 (.int .i64 0);have eqp: ∀w,(binOp .eql 32 (.agg #[.int .i64 1,.int .i64 0,.int .i64 0,.int .i64 0,.int .i64 100,.float .f64 4602678819172646912,.int .i64 3,.int .i64 0]) (.agg #[.int .i64 1,.int .i64 0,.int .i64 0,.int .i64 0,.int .i64 100,.float .f64 4602678819172646912,.int .i64 3,.int .i64 0])).run Tryz.prog w=.ok (.bool true) w:=fun _=>by kernel_rfl
 go_wp2_with fail
 go_ret
 exact⟨rfl,S20.out.bel⟩
theorem Qx(pw pq pc ps pb:Int)(pr:Nat)(pp pn:Int)(w:World):
  Calls Tryz.prog 10 #[.agg #[.int .i64 pw,.int .i64 pq,.int .i64 pc,.int .i64 ps,.int .i64 pb,.float .f64 pr,.int .i64 pp,.int .i64 pn],.agg #[.int .i64 pw,.int .i64 pq,.int .i64 pc,.int .i64 ps,.int .i64 pb,.float .f64 pr,.int .i64 pp,.int .i64 pn]] w fun e w'=>e=.returned (.bool true)∧Below w.heap.size w w':=by
 have sf:=fun(w:World) (a:Addr) (x:Nat)=>run_store Tryz.prog w a (.float .f64 x) .plain rfl;have ef: ∀w:World,(Op.equalIn 9999 30 (.float .f64 0) (.float .f64 0)).run Tryz.prog w=.ok true w:=fun _=>by kernel_rfl
 go_enter Tryz.func10,Tryz.ntmps10
 go_wp2_with fail
 go_quiet ((go_at_call 31;exact Calls.quiet_of_same (GY _ _)))
 go_wp2_with fail
 go_ret
 refine⟨rfl,?_⟩;exact F4 (F4 (C8 (Af (Af (Aa w))) _) (by simp)) (by simp)
end Go.Proofs.YtbikpmmpgbggaaaGreatDoor
namespace Go.Proofs.YtbikpmmpgbggaaaGreatDoor
open Go.RowKit Go.ChangeShapes Go.WideShapes Go.ChangeAt
set_option linter.unusedVariables false
set_option maxRecDepth 100000
theorem XD:ownKnob Tryz.prog.godebug=none:=by kernel_rfl
theorem UE:laidOutB Tryz.prog=true:=by kernel_rfl
theorem wf9{x:Int}(h:(Lit.int .i64 x).wf=true): -9223372036854775808≤x∧x≤9223372036854775807:=bounds_i64 h
theorem Mc(b off i:Nat):(⟨b,off,none⟩:Addr).add i=⟨b,off+i,none⟩:=by
 unfold Addr.add;rcases Nat.eq_zero_or_pos i with e|e
 ·subst e;simp
 rw[if_neg (by omega)]
theorem SG(a:Addr)(m j:Nat):(a.add m).add j=a.add (m+j):=by
 unfold Addr.add;rcases Nat.eq_zero_or_pos m with e|e
 ·subst e;simp
 rcases Nat.eq_zero_or_pos j with e2|e2
 ·subst e2;simp
 rw[if_neg (by omega),if_neg (by omega),if_neg (by omega)];simp[Nat.add_assoc]
theorem SL{K:Nat}{H:Type}{enc:TypeId×Value→H}{P:Program}{w:World}{base:Nat}{spare:Nat→Bool}{held:Bool}{t e:TypeId}{fuel:Nat}{cs:List Value}{x:DataW H×List MemPlace}{fs:Array Field}
  (ht:P.underlying t=some (.slice e)) (he:P.underlying e=some (.struct fs)) (ce:P.cellsOf e=K) (hsz:fs.size=K)
  (hf: ∀j,j<K→ ∃f,fs[j]? =some f∧f.offset=j∧P.cellsOf f.type=1∧P.underlying f.type=some (.int .i64)) (h:DataW.trod enc P w base spare held fuel t cs=some x):
  cs=[.slice none 0 0]∨ ∃(a:Addr) (len cap:Nat),cs=[.slice (some a) len cap]∧len≤cap∧cap≤maxLen∧ ∀i j,i<len→j<K→ ∃v,w.cell? (a.add (i*K+j))=some (.int .i64 v)∧(Lit.int .i64 v).wf=true:=by
 rcases Deep.open_slice ht h with⟨h0,_⟩| ⟨a,len,cap,m,n,D,Pl,rfl,hb,hl,hm,hmm,_,hx⟩
 ·exact .inl h0
 refine .inr ⟨a,len,cap,rfl,hl,hm,fun i j hi hj=> ?_⟩;have hlm:len≤m:=by rw[hmm];split<;>omega
 obtain⟨cs',h1,h2⟩:=hx i (by omega);rw[ce]at h1;obtain⟨_,hlen,hcell⟩:=World.cells?_some h1;obtain⟨xs,k,_,_,_,hxl,hff⟩:=DataW.trod_struct he h2;obtain⟨f,f1,f2,f3,f4⟩:=hf j hj;have g:=hff j f f1;rw[f2,f3]at g;have hxj: ∃y,xs[j]? =some y:=⟨_,List.getElem?_eq_getElem (by omega)⟩;obtain⟨y,hy⟩:=hxj;rw[hy]at g;obtain⟨v,hv,_,hw⟩:=DataW.trod_int f4 g;refine⟨v,?_,hw⟩;have e1:=hcell j hj;rw[SG]at e1;rw[e1];have e2:=congrArg (fun l=>l[0]?) hv;simpa using e2
theorem Xb{w:World}{a:Addr}{len cap:Nat}(hl:len≤cap)(hm:cap≤maxLen)(h: ∀i j,i<len→j<4→ ∃v,w.cell? (a.add (i*4+j))=some (.int .i64 v)∧(Lit.int .i64 v).wf=true):
  ∃F,NSl w (some a) len cap F:=by
 refine⟨fun i j=>intOf ((w.cell? (a.add (i*4+j))).getD undef),hl,by simp only[maxLen]at hm;omega,fun i j hi hj=> ?_,?_⟩
 ·obtain⟨v,hv,hw⟩:=h i j hi hj;show -9223372036854775808≤intOf ((w.cell? (a.add (i*4+j))).getD undef)∧_;rw[hv];exact wf9 hw
 rcases Nat.eq_zero_or_pos len with e|e
 ·exact .inl e
 obtain⟨b,off,spot⟩:=a;obtain⟨v,hc,_⟩:=h 0 0 e (by omega);have hspot:spot=none:=by simpa[Addr.add]using World.cell?_spot hc
 subst hspot;refine .inr ⟨b,off,rfl,fun i j hi hj=> ?_⟩;obtain⟨v,hv,_⟩:=h i j hi hj;rw[Mc]at hv;have e3:off+i*4+j=off+(i*4+j):=by omega
 rw[e3,hv,Mc,hv];rfl
theorem UF{H:Type}{enc:TypeId×Value→H}{w:World}{base:Nat}{held:Bool}{fuel:Nat}{cs:List Value}{x:DataW H×List MemPlace}(h:DataW.trod enc Tryz.prog w base (fun _=>true) held fuel 22 cs=some x): ∃a n c F,cs=[.slice a n c]∧NSl w a n c F:=by
 rcases SL (K:=4) Tryz.underlying22 Tryz.underlying78 (by kernel_rfl) rfl (fun j hj=>match j,hj with
  |0,_=>⟨_,rfl,rfl,by kernel_rfl,by kernel_rfl⟩
  |1,_=>⟨_,rfl,rfl,by kernel_rfl,by kernel_rfl⟩
  |2,_=>⟨_,rfl,rfl,by kernel_rfl,by kernel_rfl⟩
  |3,_=>⟨_,rfl,rfl,by kernel_rfl,by kernel_rfl⟩) h with hcs| ⟨y,l,c,hcs,hl,hm,hcell⟩
 ·exact⟨none,0,0,fun _ _=>0,hcs,FN w⟩
 obtain⟨F,hF⟩:=Xb hl hm hcell;exact⟨_,_,_,F,hcs,hF⟩
theorem Fd{cs:List Value}{i:Nat}{v:Value}(h:(cs.drop i).take 1=[v]):cs[i]? =some v:=by
 have e:=congrArg (fun l=>l[0]?) h;simpa using e
theorem SO{H:Type}{enc:TypeId×Value→H}{w:World}{base0 base:Nat}{held:Bool}{v:Value}{d:DataW H}{ps:List MemPlace}(hv:Value.okWide Tryz.prog w .any base0 24 v)(h:DataW.Trod enc Tryz.prog w base (fun _=>true) held 24 v d ps): ∃K R M C Fl A a n c F,v=.agg #[.int .i64 K,.int .i64 R,.int .i64 M,.int .i64 C,.int .i64 Fl,.int .i64 A,.slice a n c]∧NSl w a n c F:=by
 obtain⟨cs,rfl,hsz⟩:=okWide_struct Tryz.underlying24 hv;obtain⟨fuel,hf⟩:=h;obtain⟨xs,k,_,_,hlen,hxl,hff⟩:=DataW.trod_struct Tryz.underlying24 hf;have hl:cs.toList.length=7:=by
  have e:Tryz.prog.cellsOf 24=7:=by kernel_rfl
  rw[e]at hlen;exact hlen
 have hl2:cs.size=7:=by simpa using hl
 have hcl:(Value.agg cs).cells.toList=cs.toList:=rfl;rw[hcl]at hff;have g0:DataW.trod enc Tryz.prog w base (fun _=>true) held k 3 ((cs.toList.drop 0).take (Tryz.prog.cellsOf 3))=xs[0]? :=hff 0 _ rfl;rw[show Tryz.prog.cellsOf 3=1 by kernel_rfl]at g0;obtain⟨y0,hy0⟩: ∃y,xs[0]? =some y:=⟨_,List.getElem?_eq_getElem (by rw[hxl];decide)⟩;rw[hy0]at g0;obtain⟨a0,e0,_,w0⟩:=DataW.trod_int Tryz.underlying3 g0;have z0:=Fd e0;have g1:DataW.trod enc Tryz.prog w base (fun _=>true) held k 3 ((cs.toList.drop 1).take (Tryz.prog.cellsOf 3))=xs[1]? :=hff 1 _ rfl;rw[show Tryz.prog.cellsOf 3=1 by kernel_rfl]at g1;obtain⟨y1,hy1⟩: ∃y,xs[1]? =some y:=⟨_,List.getElem?_eq_getElem (by rw[hxl];decide)⟩;rw[hy1]at g1;obtain⟨a1,e1,_,w1⟩:=DataW.trod_int Tryz.underlying3 g1;have z1:=Fd e1;have g2:DataW.trod enc Tryz.prog w base (fun _=>true) held k 3 ((cs.toList.drop 2).take (Tryz.prog.cellsOf 3))=xs[2]? :=hff 2 _ rfl;rw[show Tryz.prog.cellsOf 3=1 by kernel_rfl]at g2;obtain⟨y2,hy2⟩: ∃y,xs[2]? =some y:=⟨_,List.getElem?_eq_getElem (by rw[hxl];decide)⟩;rw[hy2]at g2;obtain⟨a2,e2,_,w2⟩:=DataW.trod_int Tryz.underlying3 g2;have z2:=Fd e2;have g3:DataW.trod enc Tryz.prog w base (fun _=>true) held k 3 ((cs.toList.drop 3).take (Tryz.prog.cellsOf 3))=xs[3]? :=hff 3 _ rfl;rw[show Tryz.prog.cellsOf 3=1 by kernel_rfl]at g3;obtain⟨y3,hy3⟩: ∃y,xs[3]? =some y:=⟨_,List.getElem?_eq_getElem (by rw[hxl];decide)⟩;rw[hy3]at g3;obtain⟨a3,e3,_,w3⟩:=DataW.trod_int Tryz.underlying3 g3;have z3:=Fd e3;have g4:DataW.trod enc Tryz.prog w base (fun _=>true) held k 3 ((cs.toList.drop 4).take (Tryz.prog.cellsOf 3))=xs[4]? :=hff 4 _ rfl;rw[show Tryz.prog.cellsOf 3=1 by kernel_rfl]at g4;obtain⟨y4,hy4⟩: ∃y,xs[4]? =some y:=⟨_,List.getElem?_eq_getElem (by rw[hxl];decide)⟩;rw[hy4]at g4;obtain⟨a4,e4,_,w4⟩:=DataW.trod_int Tryz.underlying3 g4;have z4:=Fd e4;have g5:DataW.trod enc Tryz.prog w base (fun _=>true) held k 3 ((cs.toList.drop 5).take (Tryz.prog.cellsOf 3))=xs[5]? :=hff 5 _ rfl;rw[show Tryz.prog.cellsOf 3=1 by kernel_rfl]at g5;obtain⟨y5,hy5⟩: ∃y,xs[5]? =some y:=⟨_,List.getElem?_eq_getElem (by rw[hxl];decide)⟩;rw[hy5]at g5;obtain⟨a5,e5,_,w5⟩:=DataW.trod_int Tryz.underlying3 g5;have z5:=Fd e5;have g6:DataW.trod enc Tryz.prog w base (fun _=>true) held k 22 ((cs.toList.drop 6).take (Tryz.prog.cellsOf 22))=xs[6]? :=hff 6 _ rfl;rw[show Tryz.prog.cellsOf 22=1 by kernel_rfl]at g6;obtain⟨y6,hy6⟩: ∃y,xs[6]? =some y:=⟨_,List.getElem?_eq_getElem (by rw[hxl];decide)⟩;rw[hy6]at g6;obtain⟨a6,m6,c6,F6,e6,w6⟩:=UF g6;have z6:=Fd e6;have hcs:cs= #[.int .i64 a0,.int .i64 a1,.int .i64 a2,.int .i64 a3,.int .i64 a4,.int .i64 a5,.slice a6 m6 c6]:=by
  apply Array.ext_getElem?;intro i;rw[←Array.getElem?_toList];by_cases hi:i<7
  ·match i,hi with
   |0,_=>rw[z0];rfl
   |1,_=>rw[z1];rfl
   |2,_=>rw[z2];rfl
   |3,_=>rw[z3];rfl
   |4,_=>rw[z4];rfl
   |5,_=>rw[z5];rfl
   |6,_=>rw[z6];rfl
  rw[List.getElem?_eq_none (by omega),Array.getElem?_eq_none (by simp;omega)]
 subst hcs;exact⟨a0,a1,a2,a3,a4,a5,a6,m6,c6,F6,rfl,w6⟩
end Go.Proofs.YtbikpmmpgbggaaaGreatDoor
namespace Go.Proofs.YtbikpmmpgbggaaaGreatDoor
open Go.RowKit Go.ChangeShapes
set_option maxRecDepth 100000
set_option linter.unusedVariables false
def Qy:List Int:=[0,1,56,2,57,49,28,3,61,58,42,50,38,29,17,4,62,47,59,36,45,43,51,22,53,39,33,30,24,18,12,5,63,55,48,27,60,41,37,16,46,35,44,21,52,32,23,11,54,26,40,15,34,20,31,10,25,14,19,9,13,8,7,6]
theorem UG: ∀j,j<64→Qy.getD j 0=((Lib.deBruijn64tab.getD j 0:Nat):Int):=by decide+kernel
theorem UH(i:Nat)(s:ByteArray)(h:s.data.toList=(Ag i).data.toList):s=Ag i:=by
 cases s;generalize Ag i=k at h;cases k;congr
 exact Array.toList_inj.1 h
theorem UI{H:Type}{enc:TypeId×Value→H}{P:Program}{w:World}{base:Nat}{spare:Nat→Bool}{held:Bool}{t:TypeId}{fuel:Nat}{cs:List Value}{x:DataW H×List MemPlace}{ms:Array (String×TypeId)}(ht:P.underlying t=some (.interface ms))(h:DataW.trod enc P w base spare held fuel t cs=some x): ∃ev,cs=[ev]∧(ev=.nilIface∨ ∃te pe,ev=.iface te pe):=by
 cases fuel with
 |zero=>simp[DataW.trod]at h
 |succ n=>
  unfold DataW.trod at h;rw[ht]at h;split at h<;>simp_all
theorem Xy{W:World}(h:laidMet Tryz.prog [("math/bits.deBruijn32tab",Rows.laid_math_bits_deBruijn32tab),("math/bits.deBruijn64tab",Rows.laid_math_bits_deBruijn64tab),("internal/strconv.uint64pow10",Rows.laid_internal_strconv_uint64pow10),("strconv.ErrRange",Rows.laid_strconv_ErrRange),("strconv.ErrSyntax",Rows.laid_strconv_ErrSyntax),("millrace/conf.kindNames",Rows.laid_millrace_conf_kindNames)] W):Vs9 W:=by
 have h1:=laidMet.tail h;have h2:=laidMet.tail h1;have h3:=laidMet.tail h2;have h4:=laidMet.tail h3;have h5:=laidMet.tail h4;have gT:Tryz.prog.globalNamed "math/bits.deBruijn64tab" =some 7:=by kernel_rfl
 have hT:=Lib.tabIs_of_head (k:=.u8) (zs:=Qy) gT (by kernel_rfl) Tryz.underlying249 Tryz.underlying5 (by kernel_rfl) (by kernel_rfl) h1;have hP:=Lib.tabIs_of_head (k:=.u64) (zs:=Lib.pow10Tab) (show Tryz.prog.globalNamed "internal/strconv.uint64pow10" =some 8 by kernel_rfl) (by kernel_rfl) Tryz.underlying254 Tryz.underlying69 (by kernel_rfl) (by kernel_rfl) h2;have gS:Tryz.prog.globalNamed "strconv.ErrSyntax" =some 2:=by kernel_rfl
 have gR:Tryz.prog.globalNamed "strconv.ErrRange" =some 3:=by kernel_rfl
 have gK:Tryz.prog.globalNamed "millrace/conf.kindNames" =some 0:=by kernel_rfl
 have one: ∀(n:String) (d:DataW Unit) (r:List (String×DataW Unit)) (g:Nat),laidMet Tryz.prog ((n,d)::r) W→Tryz.prog.globalNamed n=some g→(Tryz.prog.globals[g]?).map (·.type)=some 143→ ∃ev,W.cell? ⟨g,0,none⟩=some ev∧(ev=.nilIface∨ ∃te pe,ev=.iface te pe):=by
  intro n d r g hl hg ht;obtain⟨ps,⟨g0,t0,cs,fuel,p,q,hg0,ht0,hv,hd,_,_⟩,_⟩:=hl;obtain rfl:=Option.some.inj (hg.symm.trans hg0);obtain rfl:=Option.some.inj (ht.symm.trans ht0);obtain⟨ev,he,hk⟩:=UI Tryz.underlying143 hd;refine⟨ev,?_,hk⟩;have c:=World.var?_cell hg hv 0;have e:cs[0]? =some ev:=by
   rw[←Array.getElem?_toList,he];rfl
  exact(c.trans e)
 have tS:(Tryz.prog.globals[2]?).map (·.type)=some 143:=by kernel_rfl
 have tR:(Tryz.prog.globals[3]?).map (·.type)=some 143:=by kernel_rfl
 refine⟨?_,⟨one _ _ _ _ h4 gS tS,one _ _ _ _ h3 gR tR⟩,?_,hP⟩
 ·obtain⟨ps,⟨g0,t0,cs,fuel,p,q,hg0,ht0,hv,hd,_,_⟩,_⟩:=h5;obtain rfl:=Option.some.inj (gK.symm.trans hg0);obtain rfl:=Option.some.inj ((show(Tryz.prog.globals[0]?).map (·.type)=some 136 by kernel_rfl).symm.trans ht0);intro i hi;obtain⟨fuel',d,q',hd1,hd2⟩:=Lib.array_elem Tryz.underlying136 hd i hi;rw[show Tryz.prog.cellsOf 9=1 by kernel_rfl,Nat.mul_one]at hd2;obtain⟨s,hs1,hs2,_⟩:=DataW.trod_string Tryz.underlying9 hd2;have c:=World.var?_cell gK hv i;have e:=Fd hs1;rw[Array.getElem?_toList]at e;rw[c.trans e];have hd3:d=.lit (.string s.data.toList):=congrArg Prod.fst hs2;rw[hd3]at hd1;congr 2
  refine UH i s ?_;match i,hi,hd1 with
  |0,_,hd1=>injection hd1 with hd1;injection hd1 with hd1;injection hd1 with hd1;exact hd1.symm
  |1,_,hd1=>injection hd1 with hd1;injection hd1 with hd1;injection hd1 with hd1;exact hd1.symm
  |2,_,hd1=>injection hd1 with hd1;injection hd1 with hd1;injection hd1 with hd1;exact hd1.symm
  |3,_,hd1=>injection hd1 with hd1;injection hd1 with hd1;injection hd1 with hd1;exact hd1.symm
  |4,_,hd1=>injection hd1 with hd1;injection hd1 with hd1;injection hd1 with hd1;exact hd1.symm
  |5,_,hd1=>injection hd1 with hd1;injection hd1 with hd1;injection hd1 with hd1;exact hd1.symm
  |6,_,hd1=>injection hd1 with hd1;injection hd1 with hd1;injection hd1 with hd1;exact hd1.symm
 intro j hj;have hj2:j<64:=hj;have hc:=hT.cell gT j (show j<Qy.length from hj2);rw[←UG j hj2];exact hc
end Go.Proofs.YtbikpmmpgbggaaaGreatDoor
