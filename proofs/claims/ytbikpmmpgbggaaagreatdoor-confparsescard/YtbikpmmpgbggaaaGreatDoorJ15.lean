/- Contracts of the program's functions, part 15: own work, joined in build order. -/
import Derived.Test.YtbikpmmpgbggaaaGreatDoorJ14
import Derived.Handy
namespace Go.Proofs.YtbikpmmpgbggaaaGreatDoor
open Go.RowKit
set_option maxRecDepth 100000
set_option linter.unusedVariables false
set_option maxHeartbeats 16000000
theorem Oe(s:ByteArray)(i:Nat)(w:World)(hi:i≤s.size)(hs:s.size≤1099511627776):
  Calls Tryz.prog 112 #[.string s,.int .i64 (i:Int)] w fun e w'=>e=.returned (.bool (isD s i))∧w'=w:=by
 by_cases h:i<s.size
 ·have hc:=BI h;have hc2:=IB s i;by_cases h1:48≤sb s i
  ·have t1:decide (48≤((sb s i:Nat):Int))=true:=decide_eq_true (by omega);by_cases h2:sb s i≤57
   ·have t2:decide (((sb s i:Nat):Int)≤57)=true:=decide_eq_true (by omega);have HV:Hid (isD s i=true):=by show _=_;unfold isD;simp;omega
    clear h1 h2;go_enter Tryz.func112,Tryz.ntmps112
    go_wp2_with fail
    go_ret
    rw[HV.out];exact⟨rfl,rfl⟩
   have t2:decide (((sb s i:Nat):Int)≤57)=false:=decide_eq_false (by omega);have HV:Hid (isD s i=false):=by show _=_;unfold isD;simp;omega
   clear h1 h2;go_enter Tryz.func112,Tryz.ntmps112
   go_wp2_with fail
   go_ret
   rw[HV.out];exact⟨rfl,rfl⟩
  have t1:decide (48≤((sb s i:Nat):Int))=false:=decide_eq_false (by omega);have HV:Hid (isD s i=false):=by show _=_;unfold isD;simp;omega
  clear h1;go_enter Tryz.func112,Tryz.ntmps112
  go_wp2_with fail
  go_ret
  rw[HV.out];exact⟨rfl,rfl⟩
 have HV:Hid (isD s i=false):=by show _=_;unfold isD;simp;omega
 have t1:decide ((i:Int)<(s.size:Int))=false:=decide_eq_false (by omega);go_enter Tryz.func112,Tryz.ntmps112
 go_wp2_with fail
 go_ret
 rw[HV.out];exact⟨rfl,rfl⟩
theorem CU{s:ByteArray}{i:Nat}(h:AF s i)(hi:i≤3):decVal s i≤999:=by
 have h1:=DP h;have h2:10^i≤10^3:=Nat.pow_le_pow_right (by omega) hi;omega
theorem Ik{x d y:Nat}(hx:x≤999)(hd:d<10)(hy:y=x*10+d):wrap64 (10*(x:Int))=10*(x:Int)∧wrap64 (10*(x:Int)+(d:Int))=(y:Int)∧IntKind.i64.wrap (d:Int)=(d:Int)∧IntKind.u8.wrap ((((d+48:Nat):Int))-48)=(d:Int)∧(d:Int)%256=(d:Int):=
 ⟨IntWalk.wrap64_in _ ⟨by omega,by omega⟩,by rw[IntWalk.wrap64_in _ ⟨by omega,by omega⟩];omega,by rw[IntKind.wrap_i64];omega,by rw[IntKind.wrap_u8];omega,by omega⟩
theorem Ho(s:ByteArray)(w:World)(hd:AF s s.size)(hs:s.size≤3):
  Calls Tryz.prog 114 #[.string s] w fun e w'=>e=.returned (.int .i64 ((decVal s s.size:Nat):Int))∧w'=w:=by
 have HD:Hid (AF s s.size):=hd;clear hd;go_enter Tryz.func114,Tryz.ntmps114
 go_wp2_with fail
 go_loop [3,7] (fun v t=> ∃i:Nat,i≤s.size∧t=.int .i64 (i:Int)∧v=.int .i64 ((decVal s i:Nat):Int)) (fun _ t=>s.size- (intOf t).toNat)
 case atStart=>exact⟨0,by omega,rfl,rfl⟩
 case round=>
  obtain⟨i,hi,rfl,rfl⟩:=hrel;by_cases h:i<s.size
  ·have hc:=BI h;have hd:=HD.out i h;obtain⟨d,ed⟩: ∃d,sb s i=d+48:=⟨sb s i-48,by omega⟩;obtain⟨x,ex⟩:=nmd (decVal s i);obtain⟨y,ey⟩:=nmd (decVal s (i+1));have hy:y=x*10+d:=by rw[←ey,decVal,ex,ed];omega
   have hx:x≤999:=by rw[←ex];exact CU (fun j hj=>HD.out j (by omega)) (by omega)
   rw[ex];rw[ed]at hc;have hd9:d<10:=by omega
   obtain⟨e2,e3,e4,e5,e7⟩:=Ik hx hd9 hy;have HE:Hid (decVal s (i+1)=y):=ey;have HD2:Hid (d<10):=hd9;clear ex ey hy hx ed hd hd9;go_wp2_with fail
   go_round
   case rel=>exact⟨i+1,by omega,by go_num,by rw[HE.out,e3]⟩
   case measure=>simp[intOf];omega
  obtain rfl:i=s.size:=by omega
  go_wp2_with fail
  go_ret
  exact⟨rfl,rfl⟩
structure PtS where
 whole:ByteArray
 below:ByteArray
 places:ByteArray
 power:ByteArray
 minus:Bool
def em:ByteArray:=⟨#[]⟩
def AR(s:ByteArray)(i f:Nat)(p:PtS):Option PtS:=if f<i∧i=s.size then some p else none
def AH(s:ByteArray)(i f:Nat)(p:PtS):Option PtS:=if 3<Al s i-f then none else AR s (Al s i) f {p with power:=s.extract f (Al s i)}
def Fj(s:ByteArray)(i:Nat):Bool:=decide (i<s.size)&&(sb s i==43||sb s i==45)
def Cc(s:ByteArray)(i:Nat)(p:PtS):Option PtS:=if Fj s i then AH s (i+1) (i+1) {p with minus:=sb s i==45} else AH s i i p
def Fk(s:ByteArray)(i f:Nat)(p:PtS):Option PtS:=AR s (Al s i) f {p with below:=s.extract f (Al s i)}
def Dx(s:ByteArray)(i f:Nat)(p:PtS):Option PtS:=if Al s i=f∨Al s i=s.size∨sb s (Al s i)≠101 then AR s (Al s i) f {p with places:=s.extract f (Al s i)} else Cc s (Al s i+1) {p with places:=s.extract f (Al s i)}
def DY(s:ByteArray)(i f:Nat)(p:PtS):Option PtS:=
 if Al s i=f∨Al s i=s.size then AR s (Al s i) f {p with whole:=s.extract f (Al s i)}
 else if sb s (Al s i)=47 then Fk s (Al s i+1) (Al s i+1) {p with whole:=s.extract f (Al s i)}
 else if sb s (Al s i)=46 then Dx s (Al s i+1) (Al s i+1) {p with whole:=s.extract f (Al s i)}
 else if sb s (Al s i)=101 then Cc s (Al s i+1) {p with whole:=s.extract f (Al s i)}
 else none
def pt0:PtS:=⟨em,em,em,em,false⟩
def Ap(s:ByteArray):Option PtS:=DY s 0 0 pt0
def WE(l:Nat)(s:ByteArray)(i f:Nat)(p:PtS):Option PtS:=
 match l with
 |0=>DY s i f p
 |1=>AR s i f p
 |2=>Fk s i f p
 |3=>Dx s i f p
 |4=>Cc s i p
 |_=>AH s i f p
theorem T1{s:ByteArray}{i f:Nat}{p:PtS}(h:isD s i=true):DY s i f p=DY s (i+1) f p:=by unfold DY;rw[FK h]
theorem T5{s:ByteArray}{i f:Nat}{p:PtS}(h:isD s i=true):Fk s i f p=Fk s (i+1) f p:=by unfold Fk;rw[FK h]
theorem T6{s:ByteArray}{i f:Nat}{p:PtS}(h:isD s i=true):Dx s i f p=Dx s (i+1) f p:=by unfold Dx;rw[FK h]
theorem DZ{s:ByteArray}{i f:Nat}{p:PtS}(h:isD s i=true):AH s i f p=AH s (i+1) f p:=by unfold AH;rw[FK h]
structure PtB (w0 W:World) (b:Nat) (p:PtS):Prop where
 c0:W.cell? ⟨b,0,none⟩=some (.string p.whole)
 c1:W.cell? ⟨b,1,none⟩=some (.string p.below)
 c2:W.cell? ⟨b,2,none⟩=some (.string p.places)
 c3:W.cell? ⟨b,3,none⟩=some (.string p.power)
 c4:W.cell? ⟨b,4,none⟩=some (.bool p.minus)
 fz: ∀i,W.frozen? ⟨b,i,none⟩=false
 bel:Below w0.heap.size w0 W
 lo:w0.heap.size≤b
theorem PtB.kf{w0 W:World}{b:Nat}{p:PtS}(h:PtB w0 W b p):W.cell? ⟨b,0,none⟩=some (.string p.whole)∧W.cell? ⟨b,1,none⟩=some (.string p.below)∧W.cell? ⟨b,2,none⟩=some (.string p.places)∧W.cell? ⟨b,3,none⟩=some (.string p.power)∧W.cell? ⟨b,4,none⟩=some (.bool p.minus)∧W.frozen? ⟨b,0,none⟩=false∧W.frozen? ⟨b,1,none⟩=false∧W.frozen? ⟨b,2,none⟩=false∧W.frozen? ⟨b,3,none⟩=false∧W.frozen? ⟨b,4,none⟩=false:=⟨h.c0,h.c1,h.c2,h.c3,h.c4,h.fz 0,h.fz 1,h.fz 2,h.fz 3,h.fz 4⟩
def AD(p:PtS)(b:Bool):Value:=.tuple #[.agg #[.string p.whole,.string p.below,.string p.places,.string p.power,.bool p.minus],.bool b]
theorem PtB.set0{w0 W:World}{b:Nat}{p:PtS}(h:PtB w0 W b p)(x:ByteArray):PtB w0 (W.setCell ⟨b,0,none⟩ (.string x)) b {p with whole:=x}:=
 ⟨by simp[go_sem,h.c0],by simp[go_sem,h.c1],by simp[go_sem,h.c2],by simp[go_sem,h.c3],by simp[go_sem,h.c4],fun i=>by rw[World.frozen?_setCell];exact h.fz i,h.bel.setCell (p:=⟨b,0,none⟩) h.lo _,h.lo⟩
theorem PtB.set1{w0 W:World}{b:Nat}{p:PtS}(h:PtB w0 W b p)(x:ByteArray):PtB w0 (W.setCell ⟨b,1,none⟩ (.string x)) b {p with below:=x}:=
 ⟨by simp[go_sem,h.c0],by simp[go_sem,h.c1],by simp[go_sem,h.c2],by simp[go_sem,h.c3],by simp[go_sem,h.c4],fun i=>by rw[World.frozen?_setCell];exact h.fz i,h.bel.setCell (p:=⟨b,1,none⟩) h.lo _,h.lo⟩
theorem PtB.set2{w0 W:World}{b:Nat}{p:PtS}(h:PtB w0 W b p)(x:ByteArray):PtB w0 (W.setCell ⟨b,2,none⟩ (.string x)) b {p with places:=x}:=
 ⟨by simp[go_sem,h.c0],by simp[go_sem,h.c1],by simp[go_sem,h.c2],by simp[go_sem,h.c3],by simp[go_sem,h.c4],fun i=>by rw[World.frozen?_setCell];exact h.fz i,h.bel.setCell (p:=⟨b,2,none⟩) h.lo _,h.lo⟩
theorem PtB.set3{w0 W:World}{b:Nat}{p:PtS}(h:PtB w0 W b p)(x:ByteArray):PtB w0 (W.setCell ⟨b,3,none⟩ (.string x)) b {p with power:=x}:=
 ⟨by simp[go_sem,h.c0],by simp[go_sem,h.c1],by simp[go_sem,h.c2],by simp[go_sem,h.c3],by simp[go_sem,h.c4],fun i=>by rw[World.frozen?_setCell];exact h.fz i,h.bel.setCell (p:=⟨b,3,none⟩) h.lo _,h.lo⟩
theorem PtB.set4{w0 W:World}{b:Nat}{p:PtS}(h:PtB w0 W b p)(x:Bool):PtB w0 (W.setCell ⟨b,4,none⟩ (.bool x)) b {p with minus:=x}:=
 ⟨by simp[go_sem,h.c0],by simp[go_sem,h.c1],by simp[go_sem,h.c2],by simp[go_sem,h.c3],by simp[go_sem,h.c4],fun i=>by rw[World.frozen?_setCell];exact h.fz i,h.bel.setCell (p:=⟨b,4,none⟩) h.lo _,h.lo⟩
theorem PtB.again{w0 W:World}{b:Nat}{p:PtS}(h:PtB w0 W b p):PtB w0 (((((W.setCell ⟨b,0,none⟩ (.string p.whole)).setCell ⟨b,1,none⟩ (.string p.below)).setCell ⟨b,2,none⟩ (.string p.places)).setCell ⟨b,3,none⟩ (.string p.power)).setCell ⟨b,4,none⟩ (.bool p.minus)) b p:=
 ((((h.set0 p.whole).set1 p.below).set2 p.places).set3 p.power).set4 p.minus
def FC(s:ByteArray)(b i f:Nat)(u:Nat→Value):Act:={tmps:= #[.string s,u 1,.pointer (some ⟨b,0,none⟩),u 3,.int .i64 (i:Int),.int .i64 (f:Int),u 6,u 7,u 8,u 9,u 10,u 11,u 12,u 13,u 14,u 15,u 16,u 17,u 18,u 19,u 20,u 21,u 22,u 23,u 24,u 25,u 26,u 27,u 28,u 29,u 30,u 31,u 32,u 33,u 34,u 35,u 36,u 37,u 38,u 39,u 40,u 41,u 42,u 43,u 44,u 45,u 46,u 47,u 48,u 49,u 50,u 51,u 52,u 53,u 54,u 55,u 56,u 57,u 58,u 59,u 60,u 61,u 62,u 63,u 64,u 65,u 66,u 67,u 68,u 69,u 70,u 71,u 72,u 73,u 74,u 75,u 76,u 77,u 78,u 79,u 80,u 81,u 82,u 83,u 84,u 85,u 86,u 87,u 88,u 89,u 90,u 91,u 92,u 93,u 94,u 95,u 96,u 97,u 98,u 99,u 100,u 101,u 102,u 103,u 104,u 105,u 106,u 107,u 108,u 109,u 110,u 111,u 112,u 113,u 114,u 115,u 116,u 117,u 118,u 119,u 120,u 121,u 122,u 123,u 124],defers:=[]}
theorem Cw{s:ByteArray}{b i f:Nat}(a:Act)(h:a=FC s b i f (fun j=>a.tmps.getD j undef)): ∃u,a=FC s b i f u:=⟨_,h⟩
theorem Gf{R:Act→World→Prop}{s:ByteArray}{b j:Nat}{a:Act}{W:World}(h:a=FC s b j j (fun k=>a.tmps.getD k undef))(H: ∀u f5,f5=j→R (FC s b j f5 u) W):R a W:=by
 have h1:=H (fun k=>a.tmps.getD k undef) j rfl;rw[←h]at h1;exact h1
structure JC5 (w0:World) (s:ByteArray) (b:Nat) (l:Nat) (a:Act) (W:World):Prop where
 lab:l=0∨l=1∨l=2∨l=3∨l=4∨l=5
 ex: ∃i f p,(∃u,a=FC s b i f u)∧i≤s.size∧f≤i∧PtB w0 W b p∧Ap s=WE l s i f p
def rk:Nat→Nat
 |0=>6
 |1=>0
 |2=>5
 |3=>5
 |4=>4
 |_=>3
def mC(s:ByteArray)(l:Nat)(a:Act)(_:World):Nat:=8*(s.size- (intOf (a.tmps.getD 4 undef)).toNat)+rk l
def Xr(w:World)(s:ByteArray)(e:Ending)(w':World):Prop:= ∃p ok,e=.returned (.tuple #[.agg #[.string p.whole,.string p.below,.string p.places,.string p.power,.bool p.minus],.bool ok])∧Ap s=(if ok then some p else none)∧Below w.heap.size w w'
theorem C5(s:ByteArray)(f i:Nat)(h1:f≤i)(h2:i≤s.size)(w:World):(Instr.slice 9 (.string s) (some (.int .i64 (f:Int))) (some (.int .i64 (i:Int))) none).run Tryz.prog w=.ok (.string (s.extract f i)) w:=by
 rw[run_slice_string_if _ _ _ _ _ _ _ (by kernel_rfl),if_pos ⟨by omega,by omega⟩,if_pos ⟨by omega,by omega⟩];rfl
theorem Dq{i f:Nat}(h:i=f):((i:Int)==(f:Int))=true∧decide ((i:Int)=(f:Int))=true∧(i==f)=true∧decide (i=f)=true:=⟨by simp;omega,decide_eq_true (by omega),by simp;exact h,decide_eq_true h⟩
theorem Ck{i f:Nat}(h: ¬i=f):((i:Int)==(f:Int))=false∧decide ((i:Int)=(f:Int))=false:=⟨by simp;omega,decide_eq_false (by omega)⟩
theorem Dr{x:Nat}{y:Int}(h: ¬(x:Int)=y):((x:Int)==y)=false∧decide ((x:Int)=y)=false:=⟨by simp;omega,decide_eq_false (by omega)⟩
theorem T7(s:ByteArray)(w:World)(hs:s.size≤400):
  Calls Tryz.prog 86 #[.string s] w (Xr w s):=by
 have DG:Hid (∀(i:Nat) (w:World),i≤s.size→Calls Tryz.prog 112 #[.string s,.int .i64 (i:Int)] w fun e w'=>e=.returned (.bool (isD s i))∧w'=w):=fun i w hi=>Oe s i w hi (by omega);obtain⟨w0,hw0⟩:=nme (w.alloc (.cells #[.string em,.string em,.string em,.string em,.bool false] 152));have B0:Hid (PtB w w0 w.heap.size pt0):=by
  rw[hw0];exact⟨by simp[go_sem,pt0],by simp[go_sem,pt0],by simp[go_sem,pt0],by simp[go_sem,pt0],by simp[go_sem,pt0],fun i=>by simp[go_sem],Ah (Aa w),Nat.le_refl _⟩
 obtain⟨b,hb⟩:=nme w.heap.size;rw[←hb]at B0;have HS:Hid (s.size≤400):=hs;clear hs;go_enter Tryz.func86,Tryz.ntmps86
 go_wp2_with fail
 have hw0':w.alloc (.cells #[.string ⟨#[]⟩,.string ⟨#[]⟩,.string ⟨#[]⟩,.string ⟨#[]⟩,.bool false] 152)=w0:=hw0.symm;rw[hw0',←hb];clear hw0' hw0 hb;refine Lm 0 (JC5 w s b) (mC s) rfl ?_ ?_ ?_
 ·go_wp2_with fail
  exact⟨by simp,0,0,pt0,Cw _ rfl,by omega,by omega,B0.out,rfl⟩
 ·rintro a W ⟨hl,i,f,p,⟨u,rfl⟩,hi,hf,hB,hC⟩;have HB:Hid (PtB w W b p):=hB;have LE:Hid (i≤s.size∧s.size≤400):=⟨hi,HS.out⟩;have HC:Hid (Ap s=DY s i f p):=hC;clear hB hi hC hl B0;unfold FC;go_wp2_with fail
  refine(DG.out i _ (by have:=LE.out;omega)).mono ?_;rintro e wx ⟨rfl,hwx⟩;rw[hwx];clear hwx;cases hd:isD s i with
  |true=>
   obtain⟨j9,hj9⟩:=nme (i+1);have lt9:=C9 hd;have r1:(i:Int)+1=(j9:Int):=by omega
   have i400:i≤400:=by have:=LE.out;omega
   have HJ:Hid (j9=i+1∧i<s.size∧(i:Int)+1=(j9:Int)):=⟨hj9,lt9,r1⟩;clear hj9 lt9 r1;go_wp2_with fail
   rw[HJ.out.2.2];go_step3
   refine⟨⟨by simp,j9,f,p,Cw _ rfl,by have:=HJ.out;omega,by have:=HJ.out;omega,HB.out,by rw[HC.out];show DY s i f (p)=DY s j9 f (p);rw[HJ.out.1];exact T1 hd⟩,?_⟩;simp[mC,rk,intOf]<;>(have:=HJ.out;have:=LE.out;omega)
  |false=>
   have sl:=C5 s f i (by omega) (by have:=LE.out;omega);have HE:Hid (Al s i=i):=Cj hd;clear hd;have HB9:Hid _:=HB.out.set0 (s.extract f i);by_cases g1:i=f
   ·obtain⟨t1,t1',t1a,t1b⟩:=Dq g1;have HC9:Hid (Ap s=AR s i f ({p with whole:=s.extract f i})):=by show _=_;rw[HC.out];show DY s i f (p)=_;unfold DY;rw[HE.out,if_pos (.inl g1)]
    have HG:Hid (i=f):=g1;clear g1;obtain⟨k0,k1,k2,k3,k4,f0,f1,f2,f3,f4⟩:=HB.out.kf;go_wp2_with fail
    go_step3
    refine⟨⟨by simp,i,f,{p with whole:=s.extract f i},Cw _ rfl,by have:=LE.out;omega,by omega,HB9.out,HC9.out⟩,?_⟩;simp[mC,rk,intOf]<;>(have:=LE.out;omega)
   obtain⟨t1,t1'⟩:=Ck g1;by_cases g2:i=s.size
   ·obtain⟨t2,t2',t2a,t2b⟩:=Dq g2;have HC9:Hid (Ap s=AR s i f ({p with whole:=s.extract f i})):=by show _=_;rw[HC.out];show DY s i f (p)=_;unfold DY;rw[HE.out,if_pos (.inr g2)]
    clear g2;obtain⟨k0,k1,k2,k3,k4,f0,f1,f2,f3,f4⟩:=HB.out.kf;go_wp2_with fail
    go_step3
    refine⟨⟨by simp,i,f,{p with whole:=s.extract f i},Cw _ rfl,by have:=LE.out;omega,by omega,HB9.out,HC9.out⟩,?_⟩;simp[mC,rk,intOf]<;>(have:=LE.out;omega)
   obtain⟨t2,t2'⟩:=Ck g2;have g3:i<s.size:=by have:=LE.out;omega
   have hc:=BI g3;obtain⟨j7,hj7⟩:=nme (i+1);have r1:(i:Int)+1=(j7:Int):=by omega
   have i400:i≤400:=by have:=LE.out;omega
   have LE2:Hid (j7=i+1∧i<s.size∧(i:Int)+1=(j7:Int)):=⟨hj7,g3,r1⟩;clear r1;have HC3:Hid (Ap s=if sb s i=47 then Fk s j7 j7 ({p with whole:=s.extract f i}) else if sb s i=46 then Dx s j7 j7 ({p with whole:=s.extract f i}) else if sb s i=101 then Cc s j7 ({p with whole:=s.extract f i}) else none):=by
    show _=_;rw[HC.out];show DY s i f (p)=_;unfold DY;rw[HE.out,if_neg (by simp[g1,g2]),hj7]
   clear hj7;by_cases g4:sb s i=47
   ·have HC9:Hid (Ap s=Fk s j7 j7 ({p with whole:=s.extract f i})):=by show _=_;rw[HC3.out];simp[g4]
    rw[g4]at hc;clear g4;obtain⟨k0,k1,k2,k3,k4,f0,f1,f2,f3,f4⟩:=HB.out.kf;go_wp2_with fail
    rw[LE2.out.2.2];go_step3
    refine⟨⟨by simp,j7,j7,{p with whole:=s.extract f i},Cw _ rfl,by have:=LE2.out;omega,by omega,HB9.out,HC9.out⟩,?_⟩;simp[mC,rk,intOf]<;>(have:=LE2.out;omega)
   have n1: ¬((sb s i:Nat):Int)=47:=fun e=>g4 (by omega);obtain⟨x1,x2⟩:=Dr n1;have HC3:Hid (Ap s=if sb s i=46 then Dx s j7 j7 ({p with whole:=s.extract f i}) else if sb s i=101 then Cc s j7 ({p with whole:=s.extract f i}) else none):=by show _=_;rw[HC3.out,if_neg g4]
   clear n1;have m91:=g4;clear g4;by_cases g4:sb s i=46
   ·have HC9:Hid (Ap s=Dx s j7 j7 ({p with whole:=s.extract f i})):=by show _=_;rw[HC3.out];simp[g4]
    rw[g4]at hc;clear g4;obtain⟨k0,k1,k2,k3,k4,f0,f1,f2,f3,f4⟩:=HB.out.kf;go_wp2_with fail
    rw[LE2.out.2.2];go_step3
    refine⟨⟨by simp,j7,j7,{p with whole:=s.extract f i},Cw _ rfl,by have:=LE2.out;omega,by omega,HB9.out,HC9.out⟩,?_⟩;simp[mC,rk,intOf]<;>(have:=LE2.out;omega)
   have n1: ¬((sb s i:Nat):Int)=46:=fun e=>g4 (by omega);obtain⟨x3,x4⟩:=Dr n1;have HC3:Hid (Ap s=if sb s i=101 then Cc s j7 ({p with whole:=s.extract f i}) else none):=by show _=_;rw[HC3.out,if_neg g4]
   clear n1;have m92:=g4;clear g4;by_cases g4:sb s i=101
   ·have HC9:Hid (Ap s=Cc s j7 ({p with whole:=s.extract f i})):=by show _=_;rw[HC3.out];simp[g4]
    rw[g4]at hc;clear g4;obtain⟨k0,k1,k2,k3,k4,f0,f1,f2,f3,f4⟩:=HB.out.kf;go_wp2_with fail
    rw[LE2.out.2.2];go_step3
    refine⟨⟨by simp,j7,j7,{p with whole:=s.extract f i},Cw _ rfl,by have:=LE2.out;omega,by omega,HB9.out,HC9.out⟩,?_⟩;simp[mC,rk,intOf]<;>(have:=LE2.out;omega)
   have n1: ¬((sb s i:Nat):Int)=101:=fun e=>g4 (by omega);obtain⟨x5,x6⟩:=Dr n1;have HR:Hid (Ap s=none):=by show _=_;rw[HC3.out,if_neg g4]
   clear n1;have m93:=g4;clear g4;obtain⟨k0,k1,k2,k3,k4,f0,f1,f2,f3,f4⟩:=HB.out.kf;go_wp2_with fail
   rw[Au];refine bodyPost_ret (v:=AD ({p with whole:=s.extract f i}) false) (by simp[AD,results,Tryz.results86,go_sem,k0,k1,k2,k3,k4]) rfl ⟨{p with whole:=s.extract f i},false,rfl,by rw[HR.out];rfl,?_⟩;exact HB9.out.again.bel
 rintro l a W hl0 ⟨hl,i,f,p,⟨u,rfl⟩,hi,hf,hB,hC⟩;have HB:Hid (PtB w W b p):=hB;have LE:Hid (i≤s.size∧s.size≤400):=⟨hi,HS.out⟩;have HC:Hid (Ap s=WE l s i f p):=hC;clear hB hi hC B0;unfold FC;rcases hl with rfl|rfl|rfl|rfl|rfl|rfl
 ·exact absurd rfl hl0
 ·refine⟨_,rfl,?_⟩;replace HC:Hid (Ap s=AR s i f p):=HC;by_cases g1:f<i
  ·by_cases g2:i=s.size
   ·obtain⟨t2,t3,t4,t5⟩:=Dq g2;have HR:Hid (Ap s=some (p)):=by show _=_;rw[HC.out];unfold AR;rw[if_pos ⟨g1,g2⟩]
    clear g2;obtain⟨k0,k1,k2,k3,k4,f0,f1,f2,f3,f4⟩:=HB.out.kf;go_wp2_with fail
    rw[Au];refine bodyPost_ret (v:=AD (p) true) (by simp[AD,results,Tryz.results86,go_sem,k0,k1,k2,k3,k4]) rfl ⟨p,true,rfl,by rw[HR.out];rfl,?_⟩;exact HB.out.again.bel
   obtain⟨t2,t3⟩:=Ck g2;have HR:Hid (Ap s=none):=by show _=_;rw[HC.out];unfold AR;rw[if_neg (fun hh=>g2 hh.2)]
   obtain⟨k0,k1,k2,k3,k4,f0,f1,f2,f3,f4⟩:=HB.out.kf;go_wp2_with fail
   rw[Au];refine bodyPost_ret (v:=AD (p) false) (by simp[AD,results,Tryz.results86,go_sem,k0,k1,k2,k3,k4]) rfl ⟨p,false,rfl,by rw[HR.out];rfl,?_⟩;exact HB.out.again.bel
  have HR:Hid (Ap s=none):=by show _=_;rw[HC.out];unfold AR;rw[if_neg (fun hh=>g1 hh.1)]
  obtain⟨k0,k1,k2,k3,k4,f0,f1,f2,f3,f4⟩:=HB.out.kf;go_wp2_with fail
  rw[Au];refine bodyPost_ret (v:=AD (p) false) (by simp[AD,results,Tryz.results86,go_sem,k0,k1,k2,k3,k4]) rfl ⟨p,false,rfl,by rw[HR.out];rfl,?_⟩;exact HB.out.again.bel
 ·refine⟨_,rfl,?_⟩;replace HC:Hid (Ap s=Fk s i f p):=HC;go_wp2_with fail
  refine(DG.out i _ (by have:=LE.out;omega)).mono ?_;rintro e wx ⟨rfl,hwx⟩;rw[hwx];clear hwx;cases hd:isD s i with
  |true=>
   obtain⟨j9,hj9⟩:=nme (i+1);have lt9:=C9 hd;have r1:(i:Int)+1=(j9:Int):=by omega
   have i400:i≤400:=by have:=LE.out;omega
   have HJ:Hid (j9=i+1∧i<s.size∧(i:Int)+1=(j9:Int)):=⟨hj9,lt9,r1⟩;clear hj9 lt9 r1;go_wp2_with fail
   rw[HJ.out.2.2];go_step3
   refine⟨⟨by simp,j9,f,p,Cw _ rfl,by have:=HJ.out;omega,by have:=HJ.out;omega,HB.out,by rw[HC.out];show Fk s i f (p)=Fk s j9 f (p);rw[HJ.out.1];exact T5 hd⟩,?_⟩;simp[mC,rk,intOf]<;>(have:=HJ.out;have:=LE.out;omega)
  |false=>
   have sl:=C5 s f i (by omega) (by have:=LE.out;omega);have HE:Hid (Al s i=i):=Cj hd;clear hd;have HB9:Hid _:=HB.out.set1 (s.extract f i);obtain⟨k0,k1,k2,k3,k4,f0,f1,f2,f3,f4⟩:=HB.out.kf;go_wp2_with fail
   go_step3
   refine⟨⟨by simp,i,f,{p with below:=s.extract f i},Cw _ rfl,by have:=LE.out;omega,by omega,HB9.out,by rw[HC.out];show Fk s i f (p)=_;unfold Fk;rw[HE.out];rfl⟩,?_⟩;simp[mC,rk,intOf]<;>(have:=LE.out;omega)
 ·refine⟨_,rfl,?_⟩;replace HC:Hid (Ap s=Dx s i f p):=HC;go_wp2_with fail
  refine(DG.out i _ (by have:=LE.out;omega)).mono ?_;rintro e wx ⟨rfl,hwx⟩;rw[hwx];clear hwx;cases hd:isD s i with
  |true=>
   obtain⟨j9,hj9⟩:=nme (i+1);have lt9:=C9 hd;have r1:(i:Int)+1=(j9:Int):=by omega
   have i400:i≤400:=by have:=LE.out;omega
   have HJ:Hid (j9=i+1∧i<s.size∧(i:Int)+1=(j9:Int)):=⟨hj9,lt9,r1⟩;clear hj9 lt9 r1;go_wp2_with fail
   rw[HJ.out.2.2];go_step3
   refine⟨⟨by simp,j9,f,p,Cw _ rfl,by have:=HJ.out;omega,by have:=HJ.out;omega,HB.out,by rw[HC.out];show Dx s i f (p)=Dx s j9 f (p);rw[HJ.out.1];exact T6 hd⟩,?_⟩;simp[mC,rk,intOf]<;>(have:=HJ.out;have:=LE.out;omega)
  |false=>
   have sl:=C5 s f i (by omega) (by have:=LE.out;omega);have HE:Hid (Al s i=i):=Cj hd;clear hd;have HB9:Hid _:=HB.out.set2 (s.extract f i);by_cases g1:i=f
   ·obtain⟨t1,t1',t1a,t1b⟩:=Dq g1;have HC9:Hid (Ap s=AR s i f ({p with places:=s.extract f i})):=by show _=_;rw[HC.out];show Dx s i f (p)=_;unfold Dx;rw[HE.out,if_pos (.inl g1)]
    have HG:Hid (i=f):=g1;clear g1;obtain⟨k0,k1,k2,k3,k4,f0,f1,f2,f3,f4⟩:=HB.out.kf;go_wp2_with fail
    go_step3
    refine⟨⟨by simp,i,f,{p with places:=s.extract f i},Cw _ rfl,by have:=LE.out;omega,by omega,HB9.out,HC9.out⟩,?_⟩;simp[mC,rk,intOf]<;>(have:=LE.out;omega)
   obtain⟨t1,t1'⟩:=Ck g1;by_cases g2:i=s.size
   ·obtain⟨t2,t2',t2a,t2b⟩:=Dq g2;have HC9:Hid (Ap s=AR s i f ({p with places:=s.extract f i})):=by show _=_;rw[HC.out];show Dx s i f (p)=_;unfold Dx;rw[HE.out,if_pos (.inr (.inl g2))]
    clear g2;obtain⟨k0,k1,k2,k3,k4,f0,f1,f2,f3,f4⟩:=HB.out.kf;go_wp2_with fail
    go_step3
    refine⟨⟨by simp,i,f,{p with places:=s.extract f i},Cw _ rfl,by have:=LE.out;omega,by omega,HB9.out,HC9.out⟩,?_⟩;simp[mC,rk,intOf]<;>(have:=LE.out;omega)
   obtain⟨t2,t2'⟩:=Ck g2;have g3:i<s.size:=by have:=LE.out;omega
   have hc:=BI g3;by_cases g4:sb s i=101
   ·have HC:Hid (Ap s=Cc s (i+1) ({p with places:=s.extract f i})):=by
     show _=_;rw[HC.out];show Dx s i f (p)=_;unfold Dx;rw[HE.out,if_neg (by simp[g1,g2,g4])]
    rw[g4]at hc;obtain⟨j7,hj7⟩:=nme (i+1);rw[←hj7]at HC;have r1:(i:Int)+1=(j7:Int):=by omega
    have i400:i≤400:=by have:=LE.out;omega
    have HR1:Hid ((i:Int)+1=(j7:Int)):=r1;have LE2:Hid (j7≤s.size∧s.size≤400∧i≤j7∧i+1≤j7):=⟨by omega,by have:=LE.out;omega,by omega,by omega⟩;clear r1 g4 hj7;obtain⟨k0,k1,k2,k3,k4,f0,f1,f2,f3,f4⟩:=HB.out.kf;go_wp2_with fail
    rw[HR1.out];go_step3
    obtain⟨W7,hW7⟩:=nme (W.setCell ⟨b,2,none⟩ (.string (s.extract f i)));rw[←hW7]at HB9;rw[←hW7];clear k0 k1 k2 k3 k4 f0 f1 f2 f3 f4 hW7 hc t1 t1' t2 t2' sl g1 g2 i400;have LE:Hid (_∧_):=⟨LE2.out,LE.out⟩;by_cases g0:j7<s.size∧(sb s j7=43∨sb s j7=45)
    ·obtain⟨g1,g2⟩:=g0;have hc:=BI g1;obtain⟨j,hj⟩:=nme (j7+1);have r1:(j7:Int)+1=(j:Int):=by omega
     have i400:j7≤400:=by have:=LE.out;omega
     have HJ5:Hid (j=j7+1∧j7<s.size∧(j7:Int)+1=(j:Int)):=⟨hj,g1,r1⟩;clear r1;rcases g2 with g2|g2
     ·have HC:Hid (Ap s=AH s j j ({{p with places:=s.extract f i}with minus:=false})):=by
       show _=_;rw[HC.out];unfold Cc Fj;rw[hj,g2];simp[g1]
      rw[g2]at hc;have HB5:Hid _:=HB9.out.set4 false;clear g2 hj;obtain⟨k0,k1,k2,k3,k4,f0,f1,f2,f3,f4⟩:=HB9.out.kf;go_wp2_with fail
      rw[HJ5.out.2.2];go_step3
      obtain⟨W5,hW5⟩:=nme (W7.setCell ⟨b,4,none⟩ (.bool false));rw[←hW5]at HB5;rw[←hW5];clear k0 k1 k2 k3 k4 f0 f1 f2 f3 f4 hW5 hc g1 i400;have LE:Hid ((j≤s.size∧s.size≤400∧j7<j)∧_):=⟨⟨by have:=HJ5.out;omega,by have:=LE.out;omega,by have:=HJ5.out;omega⟩,LE.out⟩;refine Gf (R:=Exit.then _ _ Exit.normal) rfl ?_;intro u5 f5 hf5;have HC:Hid (Ap s=AH s j f5 ({{p with places:=s.extract f i}with minus:=false})):=by show _=_;rw[hf5];exact HC.out
      have hf9:f5≤j:=by omega
      clear hf5;unfold FC;go_wp2_with fail
      refine(DG.out j _ (by have:=LE.out;omega)).mono ?_;rintro e wx ⟨rfl,hwx⟩;rw[hwx];clear hwx;cases hd:isD s j with
      |true=>
       obtain⟨j9,hj9⟩:=nme (j+1);have lt9:=C9 hd;have r1:(j:Int)+1=(j9:Int):=by omega
       have i400:j≤400:=by have:=LE.out;omega
       have HJ:Hid (j9=j+1∧j<s.size∧(j:Int)+1=(j9:Int)):=⟨hj9,lt9,r1⟩;clear hj9 lt9 r1;go_wp2_with fail
       rw[HJ.out.2.2];go_step3
       refine⟨⟨by simp,j9,f5,{{p with places:=s.extract f i}with minus:=false},Cw _ rfl,by have:=HJ.out;omega,by have:=HJ.out;omega,HB5.out,by rw[HC.out];show AH s j f5 ({{p with places:=s.extract f i}with minus:=false})=AH s j9 f5 ({{p with places:=s.extract f i}with minus:=false});rw[HJ.out.1];exact DZ hd⟩,?_⟩;simp[mC,rk,intOf]<;>(have:=HJ.out;have:=LE.out;omega)
      |false=>
       have sl:=C5 s f5 j (by omega) (by have:=LE.out;omega);have se:(s.extract f5 j).size=j-f5:=Bj (by have:=LE.out;omega);have HE:Hid (Al s j=j):=Cj hd;clear hd;have HBq:Hid _:=HB5.out.set3 (s.extract f5 j);obtain⟨z9,hz9⟩:=nme ((s.extract f5 j).size);rw[←hz9]at se;by_cases g0:3<j-f5
       ·have t1:3<z9:=by omega
        have HR:Hid (Ap s=none):=by show _=_;rw[HC.out];unfold AH;rw[HE.out,if_pos g0]
        have sz9:(s.extract f5 j).size=z9:=hz9.symm;clear g0 se hz9;obtain⟨k0,k1,k2,k3,k4,f0,f1,f2,f3,f4⟩:=HB5.out.kf;go_wp2_with fail
        rw[Au];refine bodyPost_ret (v:=AD ({{{p with places:=s.extract f i}with minus:=false}with power:=s.extract f5 j}) false) (by simp[AD,results,Tryz.results86,go_sem,k0,k1,k2,k3,k4]) rfl ⟨{{{p with places:=s.extract f i}with minus:=false}with power:=s.extract f5 j},false,rfl,by rw[HR.out];rfl,?_⟩;exact HBq.out.again.bel
       have t1: ¬ 3<z9:=by omega
       have HC:Hid (Ap s=AR s j f5 ({{{p with places:=s.extract f i}with minus:=false}with power:=s.extract f5 j})):=by show _=_;rw[HC.out];unfold AH;rw[HE.out,if_neg g0]
       have sz9:(s.extract f5 j).size=z9:=hz9.symm;clear g0 se hz9;obtain⟨k0,k1,k2,k3,k4,f0,f1,f2,f3,f4⟩:=HB5.out.kf;go_wp2_with fail
       go_step3
       obtain⟨W9,hW9⟩:=nme (W5.setCell ⟨b,3,none⟩ (.string (s.extract f5 j)));rw[←hW9]at HBq;rw[←hW9];clear hW9 sz9 t1 k0 k1 k2 k3 k4 f0 f1 f2 f3 f4;by_cases g1:f5<j
       ·by_cases g2:j=s.size
        ·obtain⟨t2,t3,t4,t5⟩:=Dq g2;have HR:Hid (Ap s=some ({{{p with places:=s.extract f i}with minus:=false}with power:=s.extract f5 j})):=by show _=_;rw[HC.out];unfold AR;rw[if_pos ⟨g1,g2⟩]
         clear g2;obtain⟨k0,k1,k2,k3,k4,f0,f1,f2,f3,f4⟩:=HBq.out.kf;go_wp2_with fail
         rw[Au];refine bodyPost_ret (v:=AD ({{{p with places:=s.extract f i}with minus:=false}with power:=s.extract f5 j}) true) (by simp[AD,results,Tryz.results86,go_sem,k0,k1,k2,k3,k4]) rfl ⟨{{{p with places:=s.extract f i}with minus:=false}with power:=s.extract f5 j},true,rfl,by rw[HR.out];rfl,?_⟩;exact HBq.out.again.bel
        obtain⟨t2,t3⟩:=Ck g2;have HR:Hid (Ap s=none):=by show _=_;rw[HC.out];unfold AR;rw[if_neg (fun hh=>g2 hh.2)]
        obtain⟨k0,k1,k2,k3,k4,f0,f1,f2,f3,f4⟩:=HBq.out.kf;go_wp2_with fail
        rw[Au];refine bodyPost_ret (v:=AD ({{{p with places:=s.extract f i}with minus:=false}with power:=s.extract f5 j}) false) (by simp[AD,results,Tryz.results86,go_sem,k0,k1,k2,k3,k4]) rfl ⟨{{{p with places:=s.extract f i}with minus:=false}with power:=s.extract f5 j},false,rfl,by rw[HR.out];rfl,?_⟩;exact HBq.out.again.bel
       have HR:Hid (Ap s=none):=by show _=_;rw[HC.out];unfold AR;rw[if_neg (fun hh=>g1 hh.1)]
       obtain⟨k0,k1,k2,k3,k4,f0,f1,f2,f3,f4⟩:=HBq.out.kf;go_wp2_with fail
       rw[Au];refine bodyPost_ret (v:=AD ({{{p with places:=s.extract f i}with minus:=false}with power:=s.extract f5 j}) false) (by simp[AD,results,Tryz.results86,go_sem,k0,k1,k2,k3,k4]) rfl ⟨{{{p with places:=s.extract f i}with minus:=false}with power:=s.extract f5 j},false,rfl,by rw[HR.out];rfl,?_⟩;exact HBq.out.again.bel
     have HC:Hid (Ap s=AH s j j ({{p with places:=s.extract f i}with minus:=true})):=by
      show _=_;rw[HC.out];unfold Cc Fj;rw[hj,g2];simp[g1]
     rw[g2]at hc;have HB5:Hid _:=HB9.out.set4 true;clear g2 hj;obtain⟨k0,k1,k2,k3,k4,f0,f1,f2,f3,f4⟩:=HB9.out.kf;go_wp2_with fail
     rw[HJ5.out.2.2];go_step3
     obtain⟨W5,hW5⟩:=nme (W7.setCell ⟨b,4,none⟩ (.bool true));rw[←hW5]at HB5;rw[←hW5];clear k0 k1 k2 k3 k4 f0 f1 f2 f3 f4 hW5 hc g1 i400;have LE:Hid ((j≤s.size∧s.size≤400∧j7<j)∧_):=⟨⟨by have:=HJ5.out;omega,by have:=LE.out;omega,by have:=HJ5.out;omega⟩,LE.out⟩;refine Gf (R:=Exit.then _ _ Exit.normal) rfl ?_;intro u5 f5 hf5;have HC:Hid (Ap s=AH s j f5 ({{p with places:=s.extract f i}with minus:=true})):=by show _=_;rw[hf5];exact HC.out
     have hf9:f5≤j:=by omega
     clear hf5;unfold FC;go_wp2_with fail
     refine(DG.out j _ (by have:=LE.out;omega)).mono ?_;rintro e wx ⟨rfl,hwx⟩;rw[hwx];clear hwx;cases hd:isD s j with
     |true=>
      obtain⟨j9,hj9⟩:=nme (j+1);have lt9:=C9 hd;have r1:(j:Int)+1=(j9:Int):=by omega
      have i400:j≤400:=by have:=LE.out;omega
      have HJ:Hid (j9=j+1∧j<s.size∧(j:Int)+1=(j9:Int)):=⟨hj9,lt9,r1⟩;clear hj9 lt9 r1;go_wp2_with fail
      rw[HJ.out.2.2];go_step3
      refine⟨⟨by simp,j9,f5,{{p with places:=s.extract f i}with minus:=true},Cw _ rfl,by have:=HJ.out;omega,by have:=HJ.out;omega,HB5.out,by rw[HC.out];show AH s j f5 ({{p with places:=s.extract f i}with minus:=true})=AH s j9 f5 ({{p with places:=s.extract f i}with minus:=true});rw[HJ.out.1];exact DZ hd⟩,?_⟩;simp[mC,rk,intOf]<;>(have:=HJ.out;have:=LE.out;omega)
     |false=>
      have sl:=C5 s f5 j (by omega) (by have:=LE.out;omega);have se:(s.extract f5 j).size=j-f5:=Bj (by have:=LE.out;omega);have HE:Hid (Al s j=j):=Cj hd;clear hd;have HBq:Hid _:=HB5.out.set3 (s.extract f5 j);obtain⟨z9,hz9⟩:=nme ((s.extract f5 j).size);rw[←hz9]at se;by_cases g0:3<j-f5
      ·have t1:3<z9:=by omega
       have HR:Hid (Ap s=none):=by show _=_;rw[HC.out];unfold AH;rw[HE.out,if_pos g0]
       have sz9:(s.extract f5 j).size=z9:=hz9.symm;clear g0 se hz9;obtain⟨k0,k1,k2,k3,k4,f0,f1,f2,f3,f4⟩:=HB5.out.kf;go_wp2_with fail
       rw[Au];refine bodyPost_ret (v:=AD ({{{p with places:=s.extract f i}with minus:=true}with power:=s.extract f5 j}) false) (by simp[AD,results,Tryz.results86,go_sem,k0,k1,k2,k3,k4]) rfl ⟨{{{p with places:=s.extract f i}with minus:=true}with power:=s.extract f5 j},false,rfl,by rw[HR.out];rfl,?_⟩;exact HBq.out.again.bel
      have t1: ¬ 3<z9:=by omega
      have HC:Hid (Ap s=AR s j f5 ({{{p with places:=s.extract f i}with minus:=true}with power:=s.extract f5 j})):=by show _=_;rw[HC.out];unfold AH;rw[HE.out,if_neg g0]
      have sz9:(s.extract f5 j).size=z9:=hz9.symm;clear g0 se hz9;obtain⟨k0,k1,k2,k3,k4,f0,f1,f2,f3,f4⟩:=HB5.out.kf;go_wp2_with fail
      go_step3
      obtain⟨W9,hW9⟩:=nme (W5.setCell ⟨b,3,none⟩ (.string (s.extract f5 j)));rw[←hW9]at HBq;rw[←hW9];clear hW9 sz9 t1 k0 k1 k2 k3 k4 f0 f1 f2 f3 f4;by_cases g1:f5<j
      ·by_cases g2:j=s.size
       ·obtain⟨t2,t3,t4,t5⟩:=Dq g2;have HR:Hid (Ap s=some ({{{p with places:=s.extract f i}with minus:=true}with power:=s.extract f5 j})):=by show _=_;rw[HC.out];unfold AR;rw[if_pos ⟨g1,g2⟩]
        clear g2;obtain⟨k0,k1,k2,k3,k4,f0,f1,f2,f3,f4⟩:=HBq.out.kf;go_wp2_with fail
        rw[Au];refine bodyPost_ret (v:=AD ({{{p with places:=s.extract f i}with minus:=true}with power:=s.extract f5 j}) true) (by simp[AD,results,Tryz.results86,go_sem,k0,k1,k2,k3,k4]) rfl ⟨{{{p with places:=s.extract f i}with minus:=true}with power:=s.extract f5 j},true,rfl,by rw[HR.out];rfl,?_⟩;exact HBq.out.again.bel
       obtain⟨t2,t3⟩:=Ck g2;have HR:Hid (Ap s=none):=by show _=_;rw[HC.out];unfold AR;rw[if_neg (fun hh=>g2 hh.2)]
       obtain⟨k0,k1,k2,k3,k4,f0,f1,f2,f3,f4⟩:=HBq.out.kf;go_wp2_with fail
       rw[Au];refine bodyPost_ret (v:=AD ({{{p with places:=s.extract f i}with minus:=true}with power:=s.extract f5 j}) false) (by simp[AD,results,Tryz.results86,go_sem,k0,k1,k2,k3,k4]) rfl ⟨{{{p with places:=s.extract f i}with minus:=true}with power:=s.extract f5 j},false,rfl,by rw[HR.out];rfl,?_⟩;exact HBq.out.again.bel
      have HR:Hid (Ap s=none):=by show _=_;rw[HC.out];unfold AR;rw[if_neg (fun hh=>g1 hh.1)]
      obtain⟨k0,k1,k2,k3,k4,f0,f1,f2,f3,f4⟩:=HBq.out.kf;go_wp2_with fail
      rw[Au];refine bodyPost_ret (v:=AD ({{{p with places:=s.extract f i}with minus:=true}with power:=s.extract f5 j}) false) (by simp[AD,results,Tryz.results86,go_sem,k0,k1,k2,k3,k4]) rfl ⟨{{{p with places:=s.extract f i}with minus:=true}with power:=s.extract f5 j},false,rfl,by rw[HR.out];rfl,?_⟩;exact HBq.out.again.bel
    have HC:Hid (Ap s=AH s j7 j7 ({p with places:=s.extract f i})):=by
     show _=_;rw[HC.out];unfold Cc Fj;rw[if_neg (by simp;intro h1;have h2: ¬(sb s j7=43∨sb s j7=45):=fun h2=>g0 ⟨h1,h2⟩;omega)]
    by_cases g1:j7<s.size
    ·have hc:=BI g1;have m43: ¬sb s j7=43:=fun e=>g0 ⟨g1,.inl e⟩;have m45: ¬sb s j7=45:=fun e=>g0 ⟨g1,.inr e⟩;have n43: ¬((sb s j7:Nat):Int)=43:=fun e=>g0 ⟨g1,.inl (by omega)⟩;have n45: ¬((sb s j7:Nat):Int)=45:=fun e=>g0 ⟨g1,.inr (by omega)⟩;obtain⟨x1,x2⟩:=Dr n43;obtain⟨x3,x4⟩:=Dr n45;clear g0;go_wp2_with fail
     go_step3
     clear n43 n45 x1 x2 x3 x4 hc g1 m43 m45;refine Gf (R:=Exit.then _ _ Exit.normal) rfl ?_;intro u5 f5 hf5;have HC:Hid (Ap s=AH s j7 f5 ({p with places:=s.extract f i})):=by show _=_;rw[hf5];exact HC.out
     have hf9:f5≤j7:=by omega
     clear hf5;unfold FC;go_wp2_with fail
     refine(DG.out j7 _ (by have:=LE.out;omega)).mono ?_;rintro e wx ⟨rfl,hwx⟩;rw[hwx];clear hwx;cases hd:isD s j7 with
     |true=>
      obtain⟨j9,hj9⟩:=nme (j7+1);have lt9:=C9 hd;have r1:(j7:Int)+1=(j9:Int):=by omega
      have i400:j7≤400:=by have:=LE.out;omega
      have HJ:Hid (j9=j7+1∧j7<s.size∧(j7:Int)+1=(j9:Int)):=⟨hj9,lt9,r1⟩;clear hj9 lt9 r1;go_wp2_with fail
      rw[HJ.out.2.2];go_step3
      refine⟨⟨by simp,j9,f5,{p with places:=s.extract f i},Cw _ rfl,by have:=HJ.out;omega,by have:=HJ.out;omega,HB9.out,by rw[HC.out];show AH s j7 f5 ({p with places:=s.extract f i})=AH s j9 f5 ({p with places:=s.extract f i});rw[HJ.out.1];exact DZ hd⟩,?_⟩;simp[mC,rk,intOf]<;>(have:=HJ.out;have:=LE.out;omega)
     |false=>
      have sl:=C5 s f5 j7 (by omega) (by have:=LE.out;omega);have se:(s.extract f5 j7).size=j7-f5:=Bj (by have:=LE.out;omega);have HE:Hid (Al s j7=j7):=Cj hd;clear hd;have HBq:Hid _:=HB9.out.set3 (s.extract f5 j7);obtain⟨z9,hz9⟩:=nme ((s.extract f5 j7).size);rw[←hz9]at se;by_cases g0:3<j7-f5
      ·have t1:3<z9:=by omega
       have HR:Hid (Ap s=none):=by show _=_;rw[HC.out];unfold AH;rw[HE.out,if_pos g0]
       have sz9:(s.extract f5 j7).size=z9:=hz9.symm;clear g0 se hz9;obtain⟨k0,k1,k2,k3,k4,f0,f1,f2,f3,f4⟩:=HB9.out.kf;go_wp2_with fail
       rw[Au];refine bodyPost_ret (v:=AD ({{p with places:=s.extract f i}with power:=s.extract f5 j7}) false) (by simp[AD,results,Tryz.results86,go_sem,k0,k1,k2,k3,k4]) rfl ⟨{{p with places:=s.extract f i}with power:=s.extract f5 j7},false,rfl,by rw[HR.out];rfl,?_⟩;exact HBq.out.again.bel
      have t1: ¬ 3<z9:=by omega
      have HC:Hid (Ap s=AR s j7 f5 ({{p with places:=s.extract f i}with power:=s.extract f5 j7})):=by show _=_;rw[HC.out];unfold AH;rw[HE.out,if_neg g0]
      have sz9:(s.extract f5 j7).size=z9:=hz9.symm;clear g0 se hz9;obtain⟨k0,k1,k2,k3,k4,f0,f1,f2,f3,f4⟩:=HB9.out.kf;go_wp2_with fail
      go_step3
      obtain⟨W9,hW9⟩:=nme (W7.setCell ⟨b,3,none⟩ (.string (s.extract f5 j7)));rw[←hW9]at HBq;rw[←hW9];clear hW9 sz9 t1 k0 k1 k2 k3 k4 f0 f1 f2 f3 f4;by_cases g1:f5<j7
      ·by_cases g2:j7=s.size
       ·obtain⟨t2,t3,t4,t5⟩:=Dq g2;have HR:Hid (Ap s=some ({{p with places:=s.extract f i}with power:=s.extract f5 j7})):=by show _=_;rw[HC.out];unfold AR;rw[if_pos ⟨g1,g2⟩]
        clear g2;obtain⟨k0,k1,k2,k3,k4,f0,f1,f2,f3,f4⟩:=HBq.out.kf;go_wp2_with fail
        rw[Au];refine bodyPost_ret (v:=AD ({{p with places:=s.extract f i}with power:=s.extract f5 j7}) true) (by simp[AD,results,Tryz.results86,go_sem,k0,k1,k2,k3,k4]) rfl ⟨{{p with places:=s.extract f i}with power:=s.extract f5 j7},true,rfl,by rw[HR.out];rfl,?_⟩;exact HBq.out.again.bel
       obtain⟨t2,t3⟩:=Ck g2;have HR:Hid (Ap s=none):=by show _=_;rw[HC.out];unfold AR;rw[if_neg (fun hh=>g2 hh.2)]
       obtain⟨k0,k1,k2,k3,k4,f0,f1,f2,f3,f4⟩:=HBq.out.kf;go_wp2_with fail
       rw[Au];refine bodyPost_ret (v:=AD ({{p with places:=s.extract f i}with power:=s.extract f5 j7}) false) (by simp[AD,results,Tryz.results86,go_sem,k0,k1,k2,k3,k4]) rfl ⟨{{p with places:=s.extract f i}with power:=s.extract f5 j7},false,rfl,by rw[HR.out];rfl,?_⟩;exact HBq.out.again.bel
      have HR:Hid (Ap s=none):=by show _=_;rw[HC.out];unfold AR;rw[if_neg (fun hh=>g1 hh.1)]
      obtain⟨k0,k1,k2,k3,k4,f0,f1,f2,f3,f4⟩:=HBq.out.kf;go_wp2_with fail
      rw[Au];refine bodyPost_ret (v:=AD ({{p with places:=s.extract f i}with power:=s.extract f5 j7}) false) (by simp[AD,results,Tryz.results86,go_sem,k0,k1,k2,k3,k4]) rfl ⟨{{p with places:=s.extract f i}with power:=s.extract f5 j7},false,rfl,by rw[HR.out];rfl,?_⟩;exact HBq.out.again.bel
    clear g0;go_wp2_with fail
    go_step3
    clear g1;refine Gf (R:=Exit.then _ _ Exit.normal) rfl ?_;intro u5 f5 hf5;have HC:Hid (Ap s=AH s j7 f5 ({p with places:=s.extract f i})):=by show _=_;rw[hf5];exact HC.out
    have hf9:f5≤j7:=by omega
    clear hf5;unfold FC;go_wp2_with fail
    refine(DG.out j7 _ (by have:=LE.out;omega)).mono ?_;rintro e wx ⟨rfl,hwx⟩;rw[hwx];clear hwx;cases hd:isD s j7 with
    |true=>
     obtain⟨j9,hj9⟩:=nme (j7+1);have lt9:=C9 hd;have r1:(j7:Int)+1=(j9:Int):=by omega
     have i400:j7≤400:=by have:=LE.out;omega
     have HJ:Hid (j9=j7+1∧j7<s.size∧(j7:Int)+1=(j9:Int)):=⟨hj9,lt9,r1⟩;clear hj9 lt9 r1;go_wp2_with fail
     rw[HJ.out.2.2];go_step3
     refine⟨⟨by simp,j9,f5,{p with places:=s.extract f i},Cw _ rfl,by have:=HJ.out;omega,by have:=HJ.out;omega,HB9.out,by rw[HC.out];show AH s j7 f5 ({p with places:=s.extract f i})=AH s j9 f5 ({p with places:=s.extract f i});rw[HJ.out.1];exact DZ hd⟩,?_⟩;simp[mC,rk,intOf]<;>(have:=HJ.out;have:=LE.out;omega)
    |false=>
     have sl:=C5 s f5 j7 (by omega) (by have:=LE.out;omega);have se:(s.extract f5 j7).size=j7-f5:=Bj (by have:=LE.out;omega);have HE:Hid (Al s j7=j7):=Cj hd;clear hd;have HBq:Hid _:=HB9.out.set3 (s.extract f5 j7);obtain⟨z9,hz9⟩:=nme ((s.extract f5 j7).size);rw[←hz9]at se;by_cases g0:3<j7-f5
     ·have t1:3<z9:=by omega
      have HR:Hid (Ap s=none):=by show _=_;rw[HC.out];unfold AH;rw[HE.out,if_pos g0]
      have sz9:(s.extract f5 j7).size=z9:=hz9.symm;clear g0 se hz9;obtain⟨k0,k1,k2,k3,k4,f0,f1,f2,f3,f4⟩:=HB9.out.kf;go_wp2_with fail
      rw[Au];refine bodyPost_ret (v:=AD ({{p with places:=s.extract f i}with power:=s.extract f5 j7}) false) (by simp[AD,results,Tryz.results86,go_sem,k0,k1,k2,k3,k4]) rfl ⟨{{p with places:=s.extract f i}with power:=s.extract f5 j7},false,rfl,by rw[HR.out];rfl,?_⟩;exact HBq.out.again.bel
     have t1: ¬ 3<z9:=by omega
     have HC:Hid (Ap s=AR s j7 f5 ({{p with places:=s.extract f i}with power:=s.extract f5 j7})):=by show _=_;rw[HC.out];unfold AH;rw[HE.out,if_neg g0]
     have sz9:(s.extract f5 j7).size=z9:=hz9.symm;clear g0 se hz9;obtain⟨k0,k1,k2,k3,k4,f0,f1,f2,f3,f4⟩:=HB9.out.kf;go_wp2_with fail
     go_step3
     obtain⟨W9,hW9⟩:=nme (W7.setCell ⟨b,3,none⟩ (.string (s.extract f5 j7)));rw[←hW9]at HBq;rw[←hW9];clear hW9 sz9 t1 k0 k1 k2 k3 k4 f0 f1 f2 f3 f4;by_cases g1:f5<j7
     ·by_cases g2:j7=s.size
      ·obtain⟨t2,t3,t4,t5⟩:=Dq g2;have HR:Hid (Ap s=some ({{p with places:=s.extract f i}with power:=s.extract f5 j7})):=by show _=_;rw[HC.out];unfold AR;rw[if_pos ⟨g1,g2⟩]
       clear g2;obtain⟨k0,k1,k2,k3,k4,f0,f1,f2,f3,f4⟩:=HBq.out.kf;go_wp2_with fail
       rw[Au];refine bodyPost_ret (v:=AD ({{p with places:=s.extract f i}with power:=s.extract f5 j7}) true) (by simp[AD,results,Tryz.results86,go_sem,k0,k1,k2,k3,k4]) rfl ⟨{{p with places:=s.extract f i}with power:=s.extract f5 j7},true,rfl,by rw[HR.out];rfl,?_⟩;exact HBq.out.again.bel
      obtain⟨t2,t3⟩:=Ck g2;have HR:Hid (Ap s=none):=by show _=_;rw[HC.out];unfold AR;rw[if_neg (fun hh=>g2 hh.2)]
      obtain⟨k0,k1,k2,k3,k4,f0,f1,f2,f3,f4⟩:=HBq.out.kf;go_wp2_with fail
      rw[Au];refine bodyPost_ret (v:=AD ({{p with places:=s.extract f i}with power:=s.extract f5 j7}) false) (by simp[AD,results,Tryz.results86,go_sem,k0,k1,k2,k3,k4]) rfl ⟨{{p with places:=s.extract f i}with power:=s.extract f5 j7},false,rfl,by rw[HR.out];rfl,?_⟩;exact HBq.out.again.bel
     have HR:Hid (Ap s=none):=by show _=_;rw[HC.out];unfold AR;rw[if_neg (fun hh=>g1 hh.1)]
     obtain⟨k0,k1,k2,k3,k4,f0,f1,f2,f3,f4⟩:=HBq.out.kf;go_wp2_with fail
     rw[Au];refine bodyPost_ret (v:=AD ({{p with places:=s.extract f i}with power:=s.extract f5 j7}) false) (by simp[AD,results,Tryz.results86,go_sem,k0,k1,k2,k3,k4]) rfl ⟨{{p with places:=s.extract f i}with power:=s.extract f5 j7},false,rfl,by rw[HR.out];rfl,?_⟩;exact HBq.out.again.bel
   have n1: ¬((sb s i:Nat):Int)=101:=fun e=>g4 (by omega);obtain⟨x1,x2⟩:=Dr n1;have HC9:Hid (Ap s=AR s i f ({p with places:=s.extract f i})):=by show _=_;rw[HC.out];show Dx s i f (p)=_;unfold Dx;rw[HE.out,if_pos (.inr (.inr g4))]
   clear n1;obtain⟨k0,k1,k2,k3,k4,f0,f1,f2,f3,f4⟩:=HB.out.kf;go_wp2_with fail
   go_step3
   refine⟨⟨by simp,i,f,{p with places:=s.extract f i},Cw _ rfl,by have:=LE.out;omega,by omega,HB9.out,HC9.out⟩,?_⟩;simp[mC,rk,intOf]<;>(have:=LE.out;omega)
 ·refine⟨_,rfl,?_⟩;replace HC:Hid (Ap s=Cc s i p):=HC;by_cases g0:i<s.size∧(sb s i=43∨sb s i=45)
  ·obtain⟨g1,g2⟩:=g0;have hc:=BI g1;obtain⟨j,hj⟩:=nme (i+1);have r1:(i:Int)+1=(j:Int):=by omega
   have i400:i≤400:=by have:=LE.out;omega
   have HJ5:Hid (j=i+1∧i<s.size∧(i:Int)+1=(j:Int)):=⟨hj,g1,r1⟩;clear r1;rcases g2 with g2|g2
   ·have HC:Hid (Ap s=AH s j j ({p with minus:=false})):=by
     show _=_;rw[HC.out];unfold Cc Fj;rw[hj,g2];simp[g1]
    rw[g2]at hc;have HB5:Hid _:=HB.out.set4 false;clear g2 hj;obtain⟨k0,k1,k2,k3,k4,f0,f1,f2,f3,f4⟩:=HB.out.kf;go_wp2_with fail
    rw[HJ5.out.2.2];go_step3
    obtain⟨W5,hW5⟩:=nme (W.setCell ⟨b,4,none⟩ (.bool false));rw[←hW5]at HB5;rw[←hW5];clear k0 k1 k2 k3 k4 f0 f1 f2 f3 f4 hW5 hc g1 i400;have LE:Hid ((j≤s.size∧s.size≤400∧i<j)∧_):=⟨⟨by have:=HJ5.out;omega,by have:=LE.out;omega,by have:=HJ5.out;omega⟩,LE.out⟩;refine Gf (R:=Exit.then _ _ Exit.normal) rfl ?_;intro u5 f5 hf5;have HC:Hid (Ap s=AH s j f5 ({p with minus:=false})):=by show _=_;rw[hf5];exact HC.out
    have hf9:f5≤j:=by omega
    clear hf5;unfold FC;go_wp2_with fail
    refine(DG.out j _ (by have:=LE.out;omega)).mono ?_;rintro e wx ⟨rfl,hwx⟩;rw[hwx];clear hwx;cases hd:isD s j with
    |true=>
     obtain⟨j9,hj9⟩:=nme (j+1);have lt9:=C9 hd;have r1:(j:Int)+1=(j9:Int):=by omega
     have i400:j≤400:=by have:=LE.out;omega
     have HJ:Hid (j9=j+1∧j<s.size∧(j:Int)+1=(j9:Int)):=⟨hj9,lt9,r1⟩;clear hj9 lt9 r1;go_wp2_with fail
     rw[HJ.out.2.2];go_step3
     refine⟨⟨by simp,j9,f5,{p with minus:=false},Cw _ rfl,by have:=HJ.out;omega,by have:=HJ.out;omega,HB5.out,by rw[HC.out];show AH s j f5 ({p with minus:=false})=AH s j9 f5 ({p with minus:=false});rw[HJ.out.1];exact DZ hd⟩,?_⟩;simp[mC,rk,intOf]<;>(have:=HJ.out;have:=LE.out;omega)
    |false=>
     have sl:=C5 s f5 j (by omega) (by have:=LE.out;omega);have se:(s.extract f5 j).size=j-f5:=Bj (by have:=LE.out;omega);have HE:Hid (Al s j=j):=Cj hd;clear hd;have HBq:Hid _:=HB5.out.set3 (s.extract f5 j);obtain⟨z9,hz9⟩:=nme ((s.extract f5 j).size);rw[←hz9]at se;by_cases g0:3<j-f5
     ·have t1:3<z9:=by omega
      have HR:Hid (Ap s=none):=by show _=_;rw[HC.out];unfold AH;rw[HE.out,if_pos g0]
      have sz9:(s.extract f5 j).size=z9:=hz9.symm;clear g0 se hz9;obtain⟨k0,k1,k2,k3,k4,f0,f1,f2,f3,f4⟩:=HB5.out.kf;go_wp2_with fail
      rw[Au];refine bodyPost_ret (v:=AD ({{p with minus:=false}with power:=s.extract f5 j}) false) (by simp[AD,results,Tryz.results86,go_sem,k0,k1,k2,k3,k4]) rfl ⟨{{p with minus:=false}with power:=s.extract f5 j},false,rfl,by rw[HR.out];rfl,?_⟩;exact HBq.out.again.bel
     have t1: ¬ 3<z9:=by omega
     have HC:Hid (Ap s=AR s j f5 ({{p with minus:=false}with power:=s.extract f5 j})):=by show _=_;rw[HC.out];unfold AH;rw[HE.out,if_neg g0]
     have sz9:(s.extract f5 j).size=z9:=hz9.symm;clear g0 se hz9;obtain⟨k0,k1,k2,k3,k4,f0,f1,f2,f3,f4⟩:=HB5.out.kf;go_wp2_with fail
     go_step3
     obtain⟨W9,hW9⟩:=nme (W5.setCell ⟨b,3,none⟩ (.string (s.extract f5 j)));rw[←hW9]at HBq;rw[←hW9];clear hW9 sz9 t1 k0 k1 k2 k3 k4 f0 f1 f2 f3 f4;by_cases g1:f5<j
     ·by_cases g2:j=s.size
      ·obtain⟨t2,t3,t4,t5⟩:=Dq g2;have HR:Hid (Ap s=some ({{p with minus:=false}with power:=s.extract f5 j})):=by show _=_;rw[HC.out];unfold AR;rw[if_pos ⟨g1,g2⟩]
       clear g2;obtain⟨k0,k1,k2,k3,k4,f0,f1,f2,f3,f4⟩:=HBq.out.kf;go_wp2_with fail
       rw[Au];refine bodyPost_ret (v:=AD ({{p with minus:=false}with power:=s.extract f5 j}) true) (by simp[AD,results,Tryz.results86,go_sem,k0,k1,k2,k3,k4]) rfl ⟨{{p with minus:=false}with power:=s.extract f5 j},true,rfl,by rw[HR.out];rfl,?_⟩;exact HBq.out.again.bel
      obtain⟨t2,t3⟩:=Ck g2;have HR:Hid (Ap s=none):=by show _=_;rw[HC.out];unfold AR;rw[if_neg (fun hh=>g2 hh.2)]
      obtain⟨k0,k1,k2,k3,k4,f0,f1,f2,f3,f4⟩:=HBq.out.kf;go_wp2_with fail
      rw[Au];refine bodyPost_ret (v:=AD ({{p with minus:=false}with power:=s.extract f5 j}) false) (by simp[AD,results,Tryz.results86,go_sem,k0,k1,k2,k3,k4]) rfl ⟨{{p with minus:=false}with power:=s.extract f5 j},false,rfl,by rw[HR.out];rfl,?_⟩;exact HBq.out.again.bel
     have HR:Hid (Ap s=none):=by show _=_;rw[HC.out];unfold AR;rw[if_neg (fun hh=>g1 hh.1)]
     obtain⟨k0,k1,k2,k3,k4,f0,f1,f2,f3,f4⟩:=HBq.out.kf;go_wp2_with fail
     rw[Au];refine bodyPost_ret (v:=AD ({{p with minus:=false}with power:=s.extract f5 j}) false) (by simp[AD,results,Tryz.results86,go_sem,k0,k1,k2,k3,k4]) rfl ⟨{{p with minus:=false}with power:=s.extract f5 j},false,rfl,by rw[HR.out];rfl,?_⟩;exact HBq.out.again.bel
   have HC:Hid (Ap s=AH s j j ({p with minus:=true})):=by
    show _=_;rw[HC.out];unfold Cc Fj;rw[hj,g2];simp[g1]
   rw[g2]at hc;have HB5:Hid _:=HB.out.set4 true;clear g2 hj;obtain⟨k0,k1,k2,k3,k4,f0,f1,f2,f3,f4⟩:=HB.out.kf;go_wp2_with fail
   rw[HJ5.out.2.2];go_step3
   obtain⟨W5,hW5⟩:=nme (W.setCell ⟨b,4,none⟩ (.bool true));rw[←hW5]at HB5;rw[←hW5];clear k0 k1 k2 k3 k4 f0 f1 f2 f3 f4 hW5 hc g1 i400;have LE:Hid ((j≤s.size∧s.size≤400∧i<j)∧_):=⟨⟨by have:=HJ5.out;omega,by have:=LE.out;omega,by have:=HJ5.out;omega⟩,LE.out⟩;refine Gf (R:=Exit.then _ _ Exit.normal) rfl ?_;intro u5 f5 hf5;have HC:Hid (Ap s=AH s j f5 ({p with minus:=true})):=by show _=_;rw[hf5];exact HC.out
   have hf9:f5≤j:=by omega
   clear hf5;unfold FC;go_wp2_with fail
   refine(DG.out j _ (by have:=LE.out;omega)).mono ?_;rintro e wx ⟨rfl,hwx⟩;rw[hwx];clear hwx;cases hd:isD s j with
   |true=>
    obtain⟨j9,hj9⟩:=nme (j+1);have lt9:=C9 hd;have r1:(j:Int)+1=(j9:Int):=by omega
    have i400:j≤400:=by have:=LE.out;omega
    have HJ:Hid (j9=j+1∧j<s.size∧(j:Int)+1=(j9:Int)):=⟨hj9,lt9,r1⟩;clear hj9 lt9 r1;go_wp2_with fail
    rw[HJ.out.2.2];go_step3
    refine⟨⟨by simp,j9,f5,{p with minus:=true},Cw _ rfl,by have:=HJ.out;omega,by have:=HJ.out;omega,HB5.out,by rw[HC.out];show AH s j f5 ({p with minus:=true})=AH s j9 f5 ({p with minus:=true});rw[HJ.out.1];exact DZ hd⟩,?_⟩;simp[mC,rk,intOf]<;>(have:=HJ.out;have:=LE.out;omega)
   |false=>
    have sl:=C5 s f5 j (by omega) (by have:=LE.out;omega);have se:(s.extract f5 j).size=j-f5:=Bj (by have:=LE.out;omega);have HE:Hid (Al s j=j):=Cj hd;clear hd;have HBq:Hid _:=HB5.out.set3 (s.extract f5 j);obtain⟨z9,hz9⟩:=nme ((s.extract f5 j).size);rw[←hz9]at se;by_cases g0:3<j-f5
    ·have t1:3<z9:=by omega
     have HR:Hid (Ap s=none):=by show _=_;rw[HC.out];unfold AH;rw[HE.out,if_pos g0]
     have sz9:(s.extract f5 j).size=z9:=hz9.symm;clear g0 se hz9;obtain⟨k0,k1,k2,k3,k4,f0,f1,f2,f3,f4⟩:=HB5.out.kf;go_wp2_with fail
     rw[Au];refine bodyPost_ret (v:=AD ({{p with minus:=true}with power:=s.extract f5 j}) false) (by simp[AD,results,Tryz.results86,go_sem,k0,k1,k2,k3,k4]) rfl ⟨{{p with minus:=true}with power:=s.extract f5 j},false,rfl,by rw[HR.out];rfl,?_⟩;exact HBq.out.again.bel
    have t1: ¬ 3<z9:=by omega
    have HC:Hid (Ap s=AR s j f5 ({{p with minus:=true}with power:=s.extract f5 j})):=by show _=_;rw[HC.out];unfold AH;rw[HE.out,if_neg g0]
    have sz9:(s.extract f5 j).size=z9:=hz9.symm;clear g0 se hz9;obtain⟨k0,k1,k2,k3,k4,f0,f1,f2,f3,f4⟩:=HB5.out.kf;go_wp2_with fail
    go_step3
    obtain⟨W9,hW9⟩:=nme (W5.setCell ⟨b,3,none⟩ (.string (s.extract f5 j)));rw[←hW9]at HBq;rw[←hW9];clear hW9 sz9 t1 k0 k1 k2 k3 k4 f0 f1 f2 f3 f4;by_cases g1:f5<j
    ·by_cases g2:j=s.size
     ·obtain⟨t2,t3,t4,t5⟩:=Dq g2;have HR:Hid (Ap s=some ({{p with minus:=true}with power:=s.extract f5 j})):=by show _=_;rw[HC.out];unfold AR;rw[if_pos ⟨g1,g2⟩]
      clear g2;obtain⟨k0,k1,k2,k3,k4,f0,f1,f2,f3,f4⟩:=HBq.out.kf;go_wp2_with fail
      rw[Au];refine bodyPost_ret (v:=AD ({{p with minus:=true}with power:=s.extract f5 j}) true) (by simp[AD,results,Tryz.results86,go_sem,k0,k1,k2,k3,k4]) rfl ⟨{{p with minus:=true}with power:=s.extract f5 j},true,rfl,by rw[HR.out];rfl,?_⟩;exact HBq.out.again.bel
     obtain⟨t2,t3⟩:=Ck g2;have HR:Hid (Ap s=none):=by show _=_;rw[HC.out];unfold AR;rw[if_neg (fun hh=>g2 hh.2)]
     obtain⟨k0,k1,k2,k3,k4,f0,f1,f2,f3,f4⟩:=HBq.out.kf;go_wp2_with fail
     rw[Au];refine bodyPost_ret (v:=AD ({{p with minus:=true}with power:=s.extract f5 j}) false) (by simp[AD,results,Tryz.results86,go_sem,k0,k1,k2,k3,k4]) rfl ⟨{{p with minus:=true}with power:=s.extract f5 j},false,rfl,by rw[HR.out];rfl,?_⟩;exact HBq.out.again.bel
    have HR:Hid (Ap s=none):=by show _=_;rw[HC.out];unfold AR;rw[if_neg (fun hh=>g1 hh.1)]
    obtain⟨k0,k1,k2,k3,k4,f0,f1,f2,f3,f4⟩:=HBq.out.kf;go_wp2_with fail
    rw[Au];refine bodyPost_ret (v:=AD ({{p with minus:=true}with power:=s.extract f5 j}) false) (by simp[AD,results,Tryz.results86,go_sem,k0,k1,k2,k3,k4]) rfl ⟨{{p with minus:=true}with power:=s.extract f5 j},false,rfl,by rw[HR.out];rfl,?_⟩;exact HBq.out.again.bel
  have HC:Hid (Ap s=AH s i i (p)):=by
   show _=_;rw[HC.out];unfold Cc Fj;rw[if_neg (by simp;intro h1;have h2: ¬(sb s i=43∨sb s i=45):=fun h2=>g0 ⟨h1,h2⟩;omega)]
  by_cases g1:i<s.size
  ·have hc:=BI g1;have m43: ¬sb s i=43:=fun e=>g0 ⟨g1,.inl e⟩;have m45: ¬sb s i=45:=fun e=>g0 ⟨g1,.inr e⟩;have n43: ¬((sb s i:Nat):Int)=43:=fun e=>g0 ⟨g1,.inl (by omega)⟩;have n45: ¬((sb s i:Nat):Int)=45:=fun e=>g0 ⟨g1,.inr (by omega)⟩;obtain⟨x1,x2⟩:=Dr n43;obtain⟨x3,x4⟩:=Dr n45;clear g0;go_wp2_with fail
   go_step3
   clear n43 n45 x1 x2 x3 x4 hc g1 m43 m45;refine Gf (R:=Exit.then _ _ Exit.normal) rfl ?_;intro u5 f5 hf5;have HC:Hid (Ap s=AH s i f5 (p)):=by show _=_;rw[hf5];exact HC.out
   have hf9:f5≤i:=by omega
   clear hf5;unfold FC;go_wp2_with fail
   refine(DG.out i _ (by have:=LE.out;omega)).mono ?_;rintro e wx ⟨rfl,hwx⟩;rw[hwx];clear hwx;cases hd:isD s i with
   |true=>
    obtain⟨j9,hj9⟩:=nme (i+1);have lt9:=C9 hd;have r1:(i:Int)+1=(j9:Int):=by omega
    have i400:i≤400:=by have:=LE.out;omega
    have HJ:Hid (j9=i+1∧i<s.size∧(i:Int)+1=(j9:Int)):=⟨hj9,lt9,r1⟩;clear hj9 lt9 r1;go_wp2_with fail
    rw[HJ.out.2.2];go_step3
    refine⟨⟨by simp,j9,f5,p,Cw _ rfl,by have:=HJ.out;omega,by have:=HJ.out;omega,HB.out,by rw[HC.out];show AH s i f5 (p)=AH s j9 f5 (p);rw[HJ.out.1];exact DZ hd⟩,?_⟩;simp[mC,rk,intOf]<;>(have:=HJ.out;have:=LE.out;omega)
   |false=>
    have sl:=C5 s f5 i (by omega) (by have:=LE.out;omega);have se:(s.extract f5 i).size=i-f5:=Bj (by have:=LE.out;omega);have HE:Hid (Al s i=i):=Cj hd;clear hd;have HBq:Hid _:=HB.out.set3 (s.extract f5 i);obtain⟨z9,hz9⟩:=nme ((s.extract f5 i).size);rw[←hz9]at se;by_cases g0:3<i-f5
    ·have t1:3<z9:=by omega
     have HR:Hid (Ap s=none):=by show _=_;rw[HC.out];unfold AH;rw[HE.out,if_pos g0]
     have sz9:(s.extract f5 i).size=z9:=hz9.symm;clear g0 se hz9;obtain⟨k0,k1,k2,k3,k4,f0,f1,f2,f3,f4⟩:=HB.out.kf;go_wp2_with fail
     rw[Au];refine bodyPost_ret (v:=AD ({p with power:=s.extract f5 i}) false) (by simp[AD,results,Tryz.results86,go_sem,k0,k1,k2,k3,k4]) rfl ⟨{p with power:=s.extract f5 i},false,rfl,by rw[HR.out];rfl,?_⟩;exact HBq.out.again.bel
    have t1: ¬ 3<z9:=by omega
    have HC:Hid (Ap s=AR s i f5 ({p with power:=s.extract f5 i})):=by show _=_;rw[HC.out];unfold AH;rw[HE.out,if_neg g0]
    have sz9:(s.extract f5 i).size=z9:=hz9.symm;clear g0 se hz9;obtain⟨k0,k1,k2,k3,k4,f0,f1,f2,f3,f4⟩:=HB.out.kf;go_wp2_with fail
    go_step3
    obtain⟨W9,hW9⟩:=nme (W.setCell ⟨b,3,none⟩ (.string (s.extract f5 i)));rw[←hW9]at HBq;rw[←hW9];clear hW9 sz9 t1 k0 k1 k2 k3 k4 f0 f1 f2 f3 f4;by_cases g1:f5<i
    ·by_cases g2:i=s.size
     ·obtain⟨t2,t3,t4,t5⟩:=Dq g2;have HR:Hid (Ap s=some ({p with power:=s.extract f5 i})):=by show _=_;rw[HC.out];unfold AR;rw[if_pos ⟨g1,g2⟩]
      clear g2;obtain⟨k0,k1,k2,k3,k4,f0,f1,f2,f3,f4⟩:=HBq.out.kf;go_wp2_with fail
      rw[Au];refine bodyPost_ret (v:=AD ({p with power:=s.extract f5 i}) true) (by simp[AD,results,Tryz.results86,go_sem,k0,k1,k2,k3,k4]) rfl ⟨{p with power:=s.extract f5 i},true,rfl,by rw[HR.out];rfl,?_⟩;exact HBq.out.again.bel
     obtain⟨t2,t3⟩:=Ck g2;have HR:Hid (Ap s=none):=by show _=_;rw[HC.out];unfold AR;rw[if_neg (fun hh=>g2 hh.2)]
     obtain⟨k0,k1,k2,k3,k4,f0,f1,f2,f3,f4⟩:=HBq.out.kf;go_wp2_with fail
     rw[Au];refine bodyPost_ret (v:=AD ({p with power:=s.extract f5 i}) false) (by simp[AD,results,Tryz.results86,go_sem,k0,k1,k2,k3,k4]) rfl ⟨{p with power:=s.extract f5 i},false,rfl,by rw[HR.out];rfl,?_⟩;exact HBq.out.again.bel
    have HR:Hid (Ap s=none):=by show _=_;rw[HC.out];unfold AR;rw[if_neg (fun hh=>g1 hh.1)]
    obtain⟨k0,k1,k2,k3,k4,f0,f1,f2,f3,f4⟩:=HBq.out.kf;go_wp2_with fail
    rw[Au];refine bodyPost_ret (v:=AD ({p with power:=s.extract f5 i}) false) (by simp[AD,results,Tryz.results86,go_sem,k0,k1,k2,k3,k4]) rfl ⟨{p with power:=s.extract f5 i},false,rfl,by rw[HR.out];rfl,?_⟩;exact HBq.out.again.bel
  clear g0;go_wp2_with fail
  go_step3
  clear g1;refine Gf (R:=Exit.then _ _ Exit.normal) rfl ?_;intro u5 f5 hf5;have HC:Hid (Ap s=AH s i f5 (p)):=by show _=_;rw[hf5];exact HC.out
  have hf9:f5≤i:=by omega
  clear hf5;unfold FC;go_wp2_with fail
  refine(DG.out i _ (by have:=LE.out;omega)).mono ?_;rintro e wx ⟨rfl,hwx⟩;rw[hwx];clear hwx;cases hd:isD s i with
  |true=>
   obtain⟨j9,hj9⟩:=nme (i+1);have lt9:=C9 hd;have r1:(i:Int)+1=(j9:Int):=by omega
   have i400:i≤400:=by have:=LE.out;omega
   have HJ:Hid (j9=i+1∧i<s.size∧(i:Int)+1=(j9:Int)):=⟨hj9,lt9,r1⟩;clear hj9 lt9 r1;go_wp2_with fail
   rw[HJ.out.2.2];go_step3
   refine⟨⟨by simp,j9,f5,p,Cw _ rfl,by have:=HJ.out;omega,by have:=HJ.out;omega,HB.out,by rw[HC.out];show AH s i f5 (p)=AH s j9 f5 (p);rw[HJ.out.1];exact DZ hd⟩,?_⟩;simp[mC,rk,intOf]<;>(have:=HJ.out;have:=LE.out;omega)
  |false=>
   have sl:=C5 s f5 i (by omega) (by have:=LE.out;omega);have se:(s.extract f5 i).size=i-f5:=Bj (by have:=LE.out;omega);have HE:Hid (Al s i=i):=Cj hd;clear hd;have HBq:Hid _:=HB.out.set3 (s.extract f5 i);obtain⟨z9,hz9⟩:=nme ((s.extract f5 i).size);rw[←hz9]at se;by_cases g0:3<i-f5
   ·have t1:3<z9:=by omega
    have HR:Hid (Ap s=none):=by show _=_;rw[HC.out];unfold AH;rw[HE.out,if_pos g0]
    have sz9:(s.extract f5 i).size=z9:=hz9.symm;clear g0 se hz9;obtain⟨k0,k1,k2,k3,k4,f0,f1,f2,f3,f4⟩:=HB.out.kf;go_wp2_with fail
    rw[Au];refine bodyPost_ret (v:=AD ({p with power:=s.extract f5 i}) false) (by simp[AD,results,Tryz.results86,go_sem,k0,k1,k2,k3,k4]) rfl ⟨{p with power:=s.extract f5 i},false,rfl,by rw[HR.out];rfl,?_⟩;exact HBq.out.again.bel
   have t1: ¬ 3<z9:=by omega
   have HC:Hid (Ap s=AR s i f5 ({p with power:=s.extract f5 i})):=by show _=_;rw[HC.out];unfold AH;rw[HE.out,if_neg g0]
   have sz9:(s.extract f5 i).size=z9:=hz9.symm;clear g0 se hz9;obtain⟨k0,k1,k2,k3,k4,f0,f1,f2,f3,f4⟩:=HB.out.kf;go_wp2_with fail
   go_step3
   obtain⟨W9,hW9⟩:=nme (W.setCell ⟨b,3,none⟩ (.string (s.extract f5 i)));rw[←hW9]at HBq;rw[←hW9];clear hW9 sz9 t1 k0 k1 k2 k3 k4 f0 f1 f2 f3 f4;by_cases g1:f5<i
   ·by_cases g2:i=s.size
    ·obtain⟨t2,t3,t4,t5⟩:=Dq g2;have HR:Hid (Ap s=some ({p with power:=s.extract f5 i})):=by show _=_;rw[HC.out];unfold AR;rw[if_pos ⟨g1,g2⟩]
     clear g2;obtain⟨k0,k1,k2,k3,k4,f0,f1,f2,f3,f4⟩:=HBq.out.kf;go_wp2_with fail
     rw[Au];refine bodyPost_ret (v:=AD ({p with power:=s.extract f5 i}) true) (by simp[AD,results,Tryz.results86,go_sem,k0,k1,k2,k3,k4]) rfl ⟨{p with power:=s.extract f5 i},true,rfl,by rw[HR.out];rfl,?_⟩;exact HBq.out.again.bel
    obtain⟨t2,t3⟩:=Ck g2;have HR:Hid (Ap s=none):=by show _=_;rw[HC.out];unfold AR;rw[if_neg (fun hh=>g2 hh.2)]
    obtain⟨k0,k1,k2,k3,k4,f0,f1,f2,f3,f4⟩:=HBq.out.kf;go_wp2_with fail
    rw[Au];refine bodyPost_ret (v:=AD ({p with power:=s.extract f5 i}) false) (by simp[AD,results,Tryz.results86,go_sem,k0,k1,k2,k3,k4]) rfl ⟨{p with power:=s.extract f5 i},false,rfl,by rw[HR.out];rfl,?_⟩;exact HBq.out.again.bel
   have HR:Hid (Ap s=none):=by show _=_;rw[HC.out];unfold AR;rw[if_neg (fun hh=>g1 hh.1)]
   obtain⟨k0,k1,k2,k3,k4,f0,f1,f2,f3,f4⟩:=HBq.out.kf;go_wp2_with fail
   rw[Au];refine bodyPost_ret (v:=AD ({p with power:=s.extract f5 i}) false) (by simp[AD,results,Tryz.results86,go_sem,k0,k1,k2,k3,k4]) rfl ⟨{p with power:=s.extract f5 i},false,rfl,by rw[HR.out];rfl,?_⟩;exact HBq.out.again.bel
 refine⟨_,rfl,?_⟩;replace HC:Hid (Ap s=AH s i f p):=HC;go_wp2_with fail
 refine(DG.out i _ (by have:=LE.out;omega)).mono ?_;rintro e wx ⟨rfl,hwx⟩;rw[hwx];clear hwx;cases hd:isD s i with
 |true=>
  obtain⟨j9,hj9⟩:=nme (i+1);have lt9:=C9 hd;have r1:(i:Int)+1=(j9:Int):=by omega
  have i400:i≤400:=by have:=LE.out;omega
  have HJ:Hid (j9=i+1∧i<s.size∧(i:Int)+1=(j9:Int)):=⟨hj9,lt9,r1⟩;clear hj9 lt9 r1;go_wp2_with fail
  rw[HJ.out.2.2];go_step3
  refine⟨⟨by simp,j9,f,p,Cw _ rfl,by have:=HJ.out;omega,by have:=HJ.out;omega,HB.out,by rw[HC.out];show AH s i f (p)=AH s j9 f (p);rw[HJ.out.1];exact DZ hd⟩,?_⟩;simp[mC,rk,intOf]<;>(have:=HJ.out;have:=LE.out;omega)
 |false=>
  have sl:=C5 s f i (by omega) (by have:=LE.out;omega);have se:(s.extract f i).size=i-f:=Bj (by have:=LE.out;omega);have HE:Hid (Al s i=i):=Cj hd;clear hd;have HBq:Hid _:=HB.out.set3 (s.extract f i);obtain⟨z9,hz9⟩:=nme ((s.extract f i).size);rw[←hz9]at se;by_cases g0:3<i-f
  ·have t1:3<z9:=by omega
   have HR:Hid (Ap s=none):=by show _=_;rw[HC.out];unfold AH;rw[HE.out,if_pos g0]
   have sz9:(s.extract f i).size=z9:=hz9.symm;clear g0 se hz9;obtain⟨k0,k1,k2,k3,k4,f0,f1,f2,f3,f4⟩:=HB.out.kf;go_wp2_with fail
   rw[Au];refine bodyPost_ret (v:=AD ({p with power:=s.extract f i}) false) (by simp[AD,results,Tryz.results86,go_sem,k0,k1,k2,k3,k4]) rfl ⟨{p with power:=s.extract f i},false,rfl,by rw[HR.out];rfl,?_⟩;exact HBq.out.again.bel
  have t1: ¬ 3<z9:=by omega
  have HC:Hid (Ap s=AR s i f ({p with power:=s.extract f i})):=by show _=_;rw[HC.out];unfold AH;rw[HE.out,if_neg g0]
  have sz9:(s.extract f i).size=z9:=hz9.symm;clear g0 se hz9;obtain⟨k0,k1,k2,k3,k4,f0,f1,f2,f3,f4⟩:=HB.out.kf;go_wp2_with fail
  go_step3
  obtain⟨W9,hW9⟩:=nme (W.setCell ⟨b,3,none⟩ (.string (s.extract f i)));rw[←hW9]at HBq;rw[←hW9];clear hW9 sz9 t1 k0 k1 k2 k3 k4 f0 f1 f2 f3 f4;by_cases g1:f<i
  ·by_cases g2:i=s.size
   ·obtain⟨t2,t3,t4,t5⟩:=Dq g2;have HR:Hid (Ap s=some ({p with power:=s.extract f i})):=by show _=_;rw[HC.out];unfold AR;rw[if_pos ⟨g1,g2⟩]
    clear g2;obtain⟨k0,k1,k2,k3,k4,f0,f1,f2,f3,f4⟩:=HBq.out.kf;go_wp2_with fail
    rw[Au];refine bodyPost_ret (v:=AD ({p with power:=s.extract f i}) true) (by simp[AD,results,Tryz.results86,go_sem,k0,k1,k2,k3,k4]) rfl ⟨{p with power:=s.extract f i},true,rfl,by rw[HR.out];rfl,?_⟩;exact HBq.out.again.bel
   obtain⟨t2,t3⟩:=Ck g2;have HR:Hid (Ap s=none):=by show _=_;rw[HC.out];unfold AR;rw[if_neg (fun hh=>g2 hh.2)]
   obtain⟨k0,k1,k2,k3,k4,f0,f1,f2,f3,f4⟩:=HBq.out.kf;go_wp2_with fail
   rw[Au];refine bodyPost_ret (v:=AD ({p with power:=s.extract f i}) false) (by simp[AD,results,Tryz.results86,go_sem,k0,k1,k2,k3,k4]) rfl ⟨{p with power:=s.extract f i},false,rfl,by rw[HR.out];rfl,?_⟩;exact HBq.out.again.bel
  have HR:Hid (Ap s=none):=by show _=_;rw[HC.out];unfold AR;rw[if_neg (fun hh=>g1 hh.1)]
  obtain⟨k0,k1,k2,k3,k4,f0,f1,f2,f3,f4⟩:=HBq.out.kf;go_wp2_with fail
  rw[Au];refine bodyPost_ret (v:=AD ({p with power:=s.extract f i}) false) (by simp[AD,results,Tryz.results86,go_sem,k0,k1,k2,k3,k4]) rfl ⟨{p with power:=s.extract f i},false,rfl,by rw[HR.out];rfl,?_⟩;exact HBq.out.again.bel
end Go.Proofs.YtbikpmmpgbggaaaGreatDoor
