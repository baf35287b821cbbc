/- Contracts of the program's functions, part 20: own work, joined in build order. -/
import Derived.Test.YtbikpmmpgbggaaaGreatDoorJ19
import Derived.Lib.AtoiAll
namespace Go.Proofs.YtbikpmmpgbggaaaGreatDoor
open Go.RowKit
set_option maxRecDepth 100000
set_option linter.unusedVariables false
set_option maxHeartbeats 16000000
theorem Ue{x:ByteArray}(h: ∀i,i<7→1≤i→x≠Ag i):kdV x=0:=by
 unfold kdV;rw[if_neg (h 1 (by omega) (by omega)),if_neg (h 2 (by omega) (by omega)),if_neg (h 3 (by omega) (by omega)),if_neg (h 4 (by omega) (by omega)),if_neg (h 5 (by omega) (by omega)),if_neg (h 6 (by omega) (by omega))]
theorem Hp{x y:ByteArray}:(x.toList==y.toList)=decide (x=y):=Dd x y
theorem VE(c:Nat):((c:Int)==1)=decide (c=1):=by
 by_cases h:c=1
 ·subst h;rfl
 rw[decide_eq_false h];simp;omega
theorem D8(s:ByteArray)(w:World):Calls Tryz.prog 17 #[.string s] w fun e w'=>e=.returned (.int .i64 (kdV s))∧Below w.heap.size w w':=by
 go_enter Tryz.func17,Tryz.ntmps17
 go_wp2_with fail
 go_loopw [3] (fun t wr=> ∃k:Nat,1≤k∧k≤7∧t=.int .i64 (k:Int)∧Hid (Below w.heap.size w wr)∧Hid (∀i,i<k→1≤i→s≠Ag i)) (fun t _=>7- (intOf t).toNat)
 case atStart=>exact⟨1,by omega,by omega,rfl,Aa w,fun i h1 h2=>by omega⟩
 case round=>
  obtain⟨k,h1,h7,rfl,BR,HS⟩:=hrel;by_cases ek:k=7
  ·subst ek;have HV:Hid (kdV s=0):=Ue HS.out;go_wp2_with fail
   go_ret
   exact⟨by rw[HV.out];rfl,BR.out⟩
  have lk:k<7:=by omega
  have r0:decide ((k:Int)≤6)=true:=decide_eq_true (by omega);go_wp2_with fail
  refine(RY k _ lk).mono ?_;rintro e w1 ⟨rfl,hb1⟩;have B1:Hid (Below w.heap.size w w1):=AU BR.out hb1;clear hb1;obtain⟨T,hT⟩:=nmd (Ag k);rw[hT];have tle:=Hp (x:=s) (y:=T);by_cases q:s=T
  ·have HV:Hid (kdV s=(k:Int)):=G9 HS.out (q.trans hT.symm) h1 lk;subst q;clear hT tle;go_wp2_with fail
   go_ret
   exact⟨by rw[HV.out];rfl,B1.out⟩
  rw[decide_eq_false q]at tle;have HS2:Hid (∀i,i<k+1→1≤i→s≠Ag i):=fun i hi h1=>by
   by_cases e:i=k
   ·subst e;rw[hT];exact q
   exact HS.out i (by omega) h1
  clear q hT;go_wp2_with fail
  go_roundw
  case rel=>exact⟨k+1,by omega,by omega,by go_num,B1,HS2⟩
  case measure=>simp[intOf]<;>omega
def TSl(w:World)(v:Value)(L:List ByteArray):Prop:= ∃a cap,v=.slice a L.length cap∧L.length≤cap∧cap≤9223372036854775807∧(0<L.length→ ∃b o,a=some ⟨b,o,none⟩∧ ∀j,j<L.length→w.cell? ⟨b,o+j,none⟩=some (tx L j))
theorem TSl.go{w W:World}{v:Value}{L:List ByteArray}(h:TSl w v L)(k:Below w.heap.size w W):TSl W v L:=by
 obtain⟨a,cap,e,h1,h2,h3⟩:=h;exact⟨a,cap,e,h1,h2,fun q=>by obtain⟨b,o,ea,hc⟩:=h3 q;exact⟨b,o,ea,fun j hj=>Ae k (hc j hj)⟩⟩
def AA(wd:ByteArray):List ByteArray→ByteArray→Nat→ByteArray×Nat
 |a::b::r,s,n=>if a=wd then AA wd r b (n+1) else AA wd r s n
 |_,s,n=>(s,n)
theorem RZ{wd:ByteArray}{L:List ByteArray}{i:Nat}(h:i+1<L.length)(s:ByteArray)(n:Nat):AA wd (L.drop i) s n=if L.getD i ⟨#[]⟩=wd then AA wd (L.drop (i+2)) (L.getD (i+1) ⟨#[]⟩) (n+1) else AA wd (L.drop (i+2)) s n:=by
 have e:L.drop i=L.getD i ⟨#[]⟩::L.getD (i+1) ⟨#[]⟩::L.drop (i+2):=by
  rw[List.drop_eq_getElem_cons (by omega),List.drop_eq_getElem_cons (by omega)];simp[List.getD,List.getElem?_eq_getElem h,List.getElem?_eq_getElem (show i<L.length by omega)]
 rw[e,AA]
theorem Uf{wd:ByteArray}{L:List ByteArray}{i:Nat}(h: ¬i+1<L.length)(s:ByteArray)(n:Nat):AA wd (L.drop i) s n=(s,n):=by
 rcases Nat.lt_or_ge i L.length with q|q
 ·rw[List.drop_eq_getElem_cons q,List.drop_eq_nil_of_le (by omega),AA];intro a b r hh;cases hh
 rw[List.drop_eq_nil_of_le q,AA];intro a b r hh;cases hh
theorem LY(v:Value)(L:List ByteArray)(i0:Nat)(wd:ByteArray)(w:World)(h:TSl w v L)(hl:L.length≤100000)(hi:i0≤100000):
  Calls Tryz.prog 24 #[v,.int .i64 (i0:Int),.string wd] w fun e w'=>e=.returned (.tuple #[.string (AA wd (L.drop i0) ⟨#[]⟩ 0).1,.bool (decide ((AA wd (L.drop i0) ⟨#[]⟩ 0).2=1))])∧w'=w:=by
 obtain⟨a,cap,rfl,hc1,hc2,hc3⟩:=h;have HC:Hid _:=hc3;obtain⟨m,hm⟩:=nmd L.length;have HM:Hid _:=hm;rw[hm]at hc1 hl;rw[hm];clear hc3 hm;go_enter Tryz.func24,Tryz.ntmps24
 go_wp2_with fail
 go_loopw [1,8,9] (fun t1 t8 t9 wr=> ∃(i:Nat) (s:ByteArray) (c:Nat),i≤100002∧c≤i∧t1=.int .i64 (i:Int)∧t8=.string s∧t9=.int .i64 (c:Int)∧wr=w∧Hid (AA wd (L.drop i0) ⟨#[]⟩ 0=AA wd (L.drop i) s c)) (fun t1 _ _ _=>100004- (intOf t1).toNat)
 case atStart=>exact⟨i0,⟨#[]⟩,0,by omega,by omega,rfl,rfl,rfl,rfl,rfl⟩
 case round=>
  obtain⟨i,s,c,hi1,hci,rfl,rfl,rfl,rfl,HF⟩:=hrel;by_cases q:i+1<m
  ·have r0:decide ((i:Int)+1<(m:Int))=true:=decide_eq_true (by omega);obtain⟨b,o,ea,hcell⟩:=HC.out (by have:=HM.out;omega);subst ea;have x0:=hcell i (by have:=HM.out;omega);have x1:=hcell (i+1) (by have:=HM.out;omega);unfold tx at x0 x1;have HST:Hid _:=RZ (wd:=wd) (L:=L) (i:=i) (by have:=HM.out;omega) s c;obtain⟨A,hA⟩:=nmd (L.getD i ⟨#[]⟩);obtain⟨B,hB⟩:=nmd (L.getD (i+1) ⟨#[]⟩);rw[hA]at x0 HST;rw[hB]at x1 HST;have tle:=Hp (x:=A) (y:=wd);clear hA hB hcell;by_cases z:A=wd
   ·have HF2:Hid (AA wd (L.drop i0) ⟨#[]⟩ 0=AA wd (L.drop (i+2)) B (c+1)):=by show _=_;rw[HF.out,HST.out,if_pos z]
    subst z;clear tle HST;go_wp2_with fail
    go_roundw
    case rel=>exact⟨i+2,B,c+1,by omega,by omega,by go_num,rfl,by go_num,(by trivial),HF2⟩
    case measure=>simp[intOf]<;>omega
   rw[decide_eq_false z]at tle;have HF2:Hid (AA wd (L.drop i0) ⟨#[]⟩ 0=AA wd (L.drop (i+2)) s c):=by show _=_;rw[HF.out,HST.out,if_neg z]
   clear z HST;go_wp2_with fail
   go_roundw
   case rel=>exact⟨i+2,s,c,by omega,by omega,by go_num,rfl,rfl,(by trivial),HF2⟩
   case measure=>simp[intOf]<;>omega
  have r0:decide ((i:Int)+1<(m:Int))=false:=decide_eq_false (by omega);have HF2:Hid (AA wd (L.drop i0) ⟨#[]⟩ 0=(s,c)):=by show _=_;rw[HF.out];exact Uf (by have:=HM.out;omega) s c
  clear q;go_wp2_with fail
  refine bodyPost_ret (v:=.tuple #[.string s,.bool (decide (c=1))]) (by simp[results,Tryz.results24,go_sem,VE]) rfl ?_;rw[HF2.out];exact⟨rfl,rfl⟩
def dv9(acc:Nat)(l:List UInt8):Nat:=l.foldl (fun a c=>a*10+(c.toNat-48)) acc
theorem Jx(acc:Nat):dv9 acc []=acc:=by unfold dv9;rw[List.foldl_nil]
theorem Ha(acc:Nat)(c:UInt8)(r:List UInt8):dv9 acc (c::r)=dv9 (acc*10+(c.toNat-48)) r:=by unfold dv9;rw[List.foldl_cons]
abbrev Fq(c:UInt8):Prop:=48≤c.toNat∧c.toNat≤57
theorem KQ: ∀(l:List UInt8) (acc:Nat),(∀c∈l,Fq c)→dv9 acc l<(acc+1)*10^l.length
 | [],acc,_=>by rw[Jx];simp
 |c::r,acc,h=>by
  have h1:=h c List.mem_cons_self;have ih:=KQ r (acc*10+(c.toNat-48)) fun x hx=>h x (List.mem_cons_of_mem _ hx);rw[Ha,List.length_cons,Nat.pow_succ];unfold Fq at h1;refine Nat.lt_of_lt_of_le ih ?_;have:acc*10+(c.toNat-48)+1≤(acc+1)*10:=by omega
  calc (acc*10+(c.toNat-48)+1)*10^r.length≤((acc+1)*10)*10^r.length:=Nat.mul_le_mul_right _ this
   _=(acc+1)*(10^r.length*10):=by rw[Nat.mul_assoc,Nat.mul_comm 10]
theorem Nn: ∀(l:List UInt8) (acc:Nat),acc*10^l.length≤dv9 acc l
 | [],acc=>by rw[Jx];simp
 |c::r,acc=>by
  rw[Ha,List.length_cons,Nat.pow_succ];refine Nat.le_trans ?_ (Nn r _);rw[show acc*(10^r.length*10)=acc*10*10^r.length by rw[Nat.mul_comm (10^r.length),Nat.mul_assoc]];exact Nat.mul_le_mul_right _ (by omega)
theorem Ql: ∀(l:List UInt8) (acc u:Nat),Lib.parseUint10 acc l=.ok u→(∀c∈l,Fq c)∧u=dv9 acc l
 | [],acc,u,h=>by
  simp only[Lib.parseUint10]at h;injection h with h
  exact⟨fun c hc=>by simp at hc,by rw[Jx];exact h.symm⟩
 |c::r,acc,u,h=>by
  simp only[Lib.parseUint10]at h;split at h
  ·rename_i hd;split at h
   ·cases h
   split at h
   ·cases h
   obtain⟨h1,h2⟩:=Ql r _ u h;exact⟨fun x hx=>by
    rcases List.mem_cons.1 hx with rfl|q
    ·exact hd
    exact h1 x q,by rw[Ha];exact h2⟩
  cases h
theorem Sa: ∀(l:List UInt8) (acc:Nat),(∀c∈l,Fq c)→dv9 acc l<18446744073709551616→Lib.parseUint10 acc l=.ok (dv9 acc l)
 | [],acc,_,_=>by rw[Jx];rfl
 |c::r,acc,h,hl=>by
  have h1:48≤c.toNat∧c.toNat≤57:=h c List.mem_cons_self;rw[Ha]at hl⊢;have h2:=Nn r (acc*10+(c.toNat-48));have h3:acc*10+(c.toNat-48)≤(acc*10+(c.toNat-48))*10^r.length:=Nat.le_mul_of_pos_right _ (Nat.pow_pos (by omega));simp only[Lib.parseUint10];rw[if_pos h1,if_neg (by omega),if_neg (by omega)];exact Sa r _ (fun x hx=>h x (List.mem_cons_of_mem _ hx)) hl
def Bn(l:List UInt8):Option Nat:=if l.length<1∨19<l.length∨(1<l.length∧(l.headD 0).toNat=48) then none else if∀c∈l,Fq c then some (dv9 0 l) else none
theorem Lr{l:List UInt8}{u:Nat}(h:Bn l=some u):u<10000000000000000000:=by
 unfold Bn at h;split at h
 ·cases h
 rename_i q;split at h
 ·rename_i hd;injection h with h
  have:=KQ l 0 hd;have h2:10^l.length≤10^19:=Nat.pow_le_pow_right (by omega) (by omega);have h3:(10:Nat)^19=10000000000000000000:=by decide
  rw[Nat.zero_add,Nat.one_mul]at this;omega
 cases h
def CH(l:List UInt8):Option Int:=match Bn (if(l.headD 0).toNat=45 then l.drop 1 else l)with
 |none=>none
 |some u=>if(l.headD 0).toNat=45∧u=9223372036854775808 then some (-9223372036854775808) else if 9223372036854775807<u then none else some (if(l.headD 0).toNat=45 then -(u:Int) else u)
theorem Sb{l:List UInt8}(h0:1≤l.length)(h1: ¬(1<l.length∧(l.headD 0).toNat=48)):(match Lib.parseMag l with| .ok u=>if u≤9223372036854775808 then some u else none|_=>none)=(match Bn l with|some u=>if u≤9223372036854775808 then some u else none|none=>none):=by
 have hne:l≠[]:=by intro e;rw[e]at h0;simp at h0
 unfold Lib.parseMag;rw[if_neg hne];by_cases hl:19<l.length
 ·have hm:Bn l=none:=by unfold Bn;rw[if_pos (by omega)]
  rw[hm];cases hp:Lib.parseUint10 0 l with
  |«syntax»=>rfl
  |range=>rfl
  |ok u=>
   obtain⟨hd,hu⟩:=Ql l 0 u hp;have hbig:9223372036854775808<u:=by
    cases l with
    |nil=>simp at hne
    |cons c r=>
     have hc:=hd c List.mem_cons_self;unfold Fq at hc;have h48:c.toNat≠48:=fun e=>h1 ⟨by simp at hl⊢;omega,e⟩;rw[Ha]at hu;have g:=Nn r (0*10+(c.toNat-48));have h19:10^19≤10^r.length:=Nat.pow_le_pow_right (by omega) (by simp at hl;omega);have h3:(10:Nat)^19=10000000000000000000:=by decide
     have h4:1*10^r.length≤(0*10+(c.toNat-48))*10^r.length:=Nat.mul_le_mul_right _ (by omega);omega
   simp only;rw[if_neg (by omega)]
 by_cases hd: ∀c∈l,Fq c
 ·have hm:Bn l=some (dv9 0 l):=by unfold Bn;rw[if_neg (by omega),if_pos hd]
  have hlt:=Lr hm;rw[hm,Sa l 0 hd (by omega)]
 have hm:Bn l=none:=by unfold Bn;rw[if_neg (by omega),if_neg hd]
 rw[hm];cases hp:Lib.parseUint10 0 l with
 |«syntax»=>rfl
 |range=>rfl
 |ok u=>exact absurd (Ql l 0 u hp).1 hd
def Lt(l:List UInt8):List UInt8:=if(l.headD 0).toNat=45 then l.drop 1 else l
def nv9(l:List UInt8):Option Int:=match Lib.atoiAll l with
 | .ok v=>if(l.headD 0).toNat=43∨(((Lt l).headD 0).toNat=48∧1<(Lt l).length) then none else some v
 |_=>none
def f63(o:Option Nat):Option Nat:=match o with
 |some u=>if u≤9223372036854775808 then some u else none
 |none=>none
def pm9(l:List UInt8):Option Nat:=match Lib.parseMag l with
 | .ok u=>some u
 |_=>none
theorem KS{l:List UInt8}(h0:1≤l.length)(h1: ¬(1<l.length∧(l.headD 0).toNat=48)):f63 (pm9 l)=f63 (Bn l):=by
 have q:=Sb h0 h1;unfold f63 pm9;cases hp:Lib.parseMag l with
 |«syntax»=>rw[hp]at q;exact q
 |range=>rw[hp]at q;exact q
 |ok u=>rw[hp]at q;exact q
theorem Xs(c:UInt8)(r:List UInt8):Lib.atoiAll (c::r)=match Lib.parseMag (if c.toNat=43∨c.toNat=45 then r else c::r)with
  | .syntax=>.syntax
  | .range=>.range
  | .ok u=>if¬c.toNat=45∧9223372036854775808≤u then .range else if c.toNat=45∧9223372036854775808<u then .range else .ok (if c.toNat=45 then -(u:Int) else u):=rfl
theorem Ug(l:List UInt8):nv9 l=CH l:=by
 cases l with
 |nil=>rfl
 |cons c r=>
  have hh:((c::r).headD 0)=c:=rfl;unfold nv9 CH Lt;rw[hh,Xs];by_cases c45:c.toNat=45
  ·rw[if_pos (.inr c45),if_pos c45];have hd:(c::r).drop 1=r:=rfl;rw[hd];by_cases hr:r.length<1
   ·have er:r=[]:=List.eq_nil_of_length_eq_zero (by omega);subst er;rfl
   by_cases hz:1<r.length∧(r.headD 0).toNat=48
   ·have hm:Bn r=none:=by unfold Bn;rw[if_pos (.inr (.inr hz))]
    rw[hm];have hc:c.toNat=43∨((r.headD 0).toNat=48∧1<r.length):=.inr ⟨hz.2,hz.1⟩;cases hp:Lib.parseMag r with
    |«syntax»=>rfl
    |range=>rfl
    |ok u=>
     simp only;rw[if_neg (fun q=>q.1 c45)];by_cases hu:9223372036854775808<u
     ·rw[if_pos ⟨c45,hu⟩]
     rw[if_neg (fun q=>hu q.2)];simp only;rw[if_pos hc]
   have q:=KS (l:=r) (by omega) hz;have hc: ¬(c.toNat=43∨((r.headD 0).toNat=48∧1<r.length)):=by
    rintro(q|q)
    ·omega
    exact hz ⟨q.2,q.1⟩
   unfold pm9 at q;cases hp:Lib.parseMag r with
   |«syntax»=>
    rw[hp]at q;cases hm:Bn r with
    |none=>rfl
    |some u=>
     rw[hm]at q;simp only[f63]at q;split at q
     ·cases q
     simp only;rw[if_neg (by omega),if_pos (by omega)]
   |range=>
    rw[hp]at q;cases hm:Bn r with
    |none=>rfl
    |some u=>
     rw[hm]at q;simp only[f63]at q;split at q
     ·cases q
     simp only;rw[if_neg (by omega),if_pos (by omega)]
   |ok u=>
    rw[hp]at q;simp only;rw[if_neg (fun q=>q.1 c45)];by_cases hu:9223372036854775808<u
    ·rw[if_pos ⟨c45,hu⟩];cases hm:Bn r with
     |none=>rfl
     |some t=>
      rw[hm]at q;simp only[f63]at q;rw[if_neg (by omega)]at q;split at q
      ·cases q
      simp only;rw[if_neg (by omega),if_pos (by omega)]
    rw[if_neg (fun q=>hu q.2)];simp only;rw[if_neg hc,if_pos c45];cases hm:Bn r with
    |none=>
     rw[hm]at q;simp only[f63]at q;rw[if_pos (by omega)]at q;cases q
    |some t=>
     rw[hm]at q;simp only[f63]at q;rw[if_pos (by omega)]at q;split at q
     ·injection q with q
      subst q;simp only;by_cases e:u=9223372036854775808
      ·subst e;rw[if_pos ⟨c45,rfl⟩];rfl
      rw[if_neg (fun z=>e z.2),if_neg (by omega),if_pos c45]
     cases q
  rw[if_neg c45];by_cases c43:c.toNat=43
  ·rw[if_pos (.inl c43)];have hm:Bn (c::r)=none:=by
    unfold Bn;split
    ·rfl
    rw[if_neg];intro q;have:=q c List.mem_cons_self;unfold Fq at this;omega
   rw[hm];cases hp:Lib.parseMag r with
   |«syntax»=>rfl
   |range=>rfl
   |ok u=>
    simp only;by_cases hu:9223372036854775808≤u
    ·rw[if_pos ⟨c45,hu⟩]
    rw[if_neg (fun q=>hu q.2),if_neg (fun q=>c45 q.1)];simp only;rw[if_pos (.inl c43)]
  rw[if_neg (by omega)];by_cases hz:1<(c::r).length∧((c::r).headD 0).toNat=48
  ·have hm:Bn (c::r)=none:=by unfold Bn;rw[if_pos (.inr (.inr hz))]
   rw[hm];have hc:c.toNat=43∨(((c::r).headD 0).toNat=48∧1<(c::r).length):=.inr ⟨hz.2,hz.1⟩;cases hp:Lib.parseMag (c::r)with
   |«syntax»=>rfl
   |range=>rfl
   |ok u=>
    simp only;by_cases hu:9223372036854775808≤u
    ·rw[if_pos ⟨c45,hu⟩]
    rw[if_neg (fun q=>hu q.2),if_neg (fun q=>c45 q.1)];simp only;rw[if_pos hc]
  have q:=KS (l:=c::r) (by simp) hz;have hc: ¬(c.toNat=43∨(((c::r).headD 0).toNat=48∧1<(c::r).length)):=by
   rintro(q|q)
   ·exact c43 q
   exact hz ⟨q.2,q.1⟩
  unfold pm9 at q;cases hp:Lib.parseMag (c::r)with
  |«syntax»=>
   rw[hp]at q;cases hm:Bn (c::r)with
   |none=>rfl
   |some u=>
    rw[hm]at q;simp only[f63]at q;split at q
    ·cases q
    simp only;rw[if_neg (fun z=>c45 z.1),if_pos (by omega)]
  |range=>
   rw[hp]at q;cases hm:Bn (c::r)with
   |none=>rfl
   |some u=>
    rw[hm]at q;simp only[f63]at q;split at q
    ·cases q
    simp only;rw[if_neg (fun z=>c45 z.1),if_pos (by omega)]
  |ok u=>
   rw[hp]at q;simp only;by_cases hu:9223372036854775808≤u
   ·rw[if_pos ⟨c45,hu⟩];cases hm:Bn (c::r)with
    |none=>rfl
    |some t=>
     rw[hm]at q;simp only[f63]at q;simp only;have ht:9223372036854775807<t:=by
      split at q
      ·split at q
       ·injection q with q;omega
       cases q
      split at q
      ·cases q
      omega
     rw[if_neg (fun z=>c45 z.1),if_pos ht]
   rw[if_neg (fun q=>hu q.2),if_neg (fun q=>c45 q.1)];simp only;rw[if_neg hc,if_neg c45];cases hm:Bn (c::r)with
   |none=>
    rw[hm]at q;simp only[f63]at q;rw[if_pos (by omega)]at q;cases q
   |some t=>
    rw[hm]at q;simp only[f63]at q;rw[if_pos (by omega)]at q;split at q
    ·injection q with q
     subst q;simp only;rw[if_neg (fun z=>c45 z.1),if_neg (by omega),if_neg c45]
    cases q
theorem Sc(x:ByteArray):(EM x).data.toList=Lt x.data.toList:=by
 unfold EM Lt;show(Lib.trimPrefix x.data.toList [45]).toArray.toList=_;rw[List.toList_toArray];unfold Lib.trimPrefix;cases h:x.data.toList with
 |nil=>rfl
 |cons c r=>
  by_cases e:c.toNat=45
  ·have ec:c=45:=UInt8.toNat_inj.1 e;subst ec;have hp:Lib.hasPrefix (45::r) [45]=true:=by simp[Lib.hasPrefix]
   simp[hp]
  have ec: ¬c=45:=fun q=>e (by rw[q];rfl);have ec2: ¬(45:UInt8)=c:=fun q=>ec q.symm;have hp:Lib.hasPrefix (c::r) [45]=false:=by
   show((45:UInt8)==c&&_)=false;rw[show((45:UInt8)==c)=false from beq_eq_false_iff_ne.2 ec2];rfl
  simp[hp,e]
theorem KT(x:ByteArray):nvV x=CH x.data.toList:=by
 rw[←Ug];unfold nvV nv9 Gk;have h1:(EM x).size=(Lt x.data.toList).length:=by rw[←Sc,Array.length_toList];rfl
 rw[Sc,h1];rfl
def ndS(p:List ByteArray×Bool):List ByteArray×Bool:=nmS (nmS (nmS (kdS (naS ⟨#[110,111,100,101]⟩ p))))
def ndV(p:List ByteArray×Bool):Nd:=(kdV (hdT (naS ⟨#[110,111,100,101]⟩ p).1),nmI (kdS (naS ⟨#[110,111,100,101]⟩ p)),nmI (nmS (kdS (naS ⟨#[110,111,100,101]⟩ p))),nmI (nmS (nmS (kdS (naS ⟨#[110,111,100,101]⟩ p)))))
def nds:Nat→List ByteArray×Bool→List Nd×(List ByteArray×Bool)
 |0,p=>([],p)
 |k+1,p=>if p.1=[] then([],p) else(ndV p::(nds k (ndS p)).1,(nds k (ndS p)).2)
theorem Pg(k:Nat)(p:List ByteArray×Bool)(h:p.1=[]):nds k p=([],p):=by
 cases k with
 |zero=>rfl
 |succ k=>rw[nds,if_pos h]
theorem Ph(p:List ByteArray×Bool):(ndS p).1.length=p.1.length-5:=by
 show p.1.tail.tail.tail.tail.tail.length=_;simp only[List.length_tail];omega
theorem Rp.keep{lm M:Nat}{W W':World}{rb:Nat}{p:List ByteArray×Bool}(h:Rp lm W rb p)(hk: ∀k,k<M→W'.heap[k]? =W.heap[k]?)(hs:W.heap.size≤W'.heap.size)(h1:rb<M)(h2:lm≤M)(w0:World)(he:EV w0)(hn:KN w0)(h0:w0.heap.size≤M):Rp lm W' rb p:=by
 refine⟨h.rd.keep hk h1 h2,Nat.le_trans h.lm' hs,h.sm,?_,fun i hi=> ?_,h.len⟩
 ·obtain⟨⟨e1,a1,b1⟩,⟨e2,a2,b2⟩⟩:=h.ev;obtain⟨⟨f1,c1,_⟩,⟨f2,c2,_⟩⟩:=he;have l1:=World.block_lt_of_cell? _ _ c1;have l2:=World.block_lt_of_cell? _ _ c2;exact⟨⟨e1,(World.cell?_of_block (w:=W) (hk _ (Nat.lt_of_lt_of_le l1 h0))).trans a1,b1⟩,⟨e2,(World.cell?_of_block (w:=W) (hk _ (Nat.lt_of_lt_of_le l2 h0))).trans a2,b2⟩⟩
 have l:=World.block_lt_of_cell? _ _ (hn i hi);exact(World.cell?_of_block (w:=W) (hk _ (Nat.lt_of_lt_of_le l h0))).trans (h.kn i hi)
structure Nds (w wr:World) (lm rb:Nat) (p0:List ByteArray×Bool) (v:Value) (m:Nat) (N:List Nd) (p:List ByteArray×Bool):Prop where
 len:p.1.length≤m
 eq1:(6,0,0,0)::(nds p0.1.length p0).1=N++(nds m p).1
 eq2:(nds p0.1.length p0).2=(nds m p).2
 cnt:N.length+m≤p0.1.length+1
 rp:Rp lm wr rb p
 row:Nr w.heap.size wr v N
 ob:Ob rb w wr
theorem Sd{lm:Nat}(rb:Nat)(p:List ByteArray×Bool)(w:World)(h:Rp lm w rb p):
  Calls Tryz.prog 38 #[.pointer (some ⟨rb,0,none⟩)] w fun e w'=> ∃v,e=.returned v∧Nr w.heap.size w' v ((6,0,0,0)::(nds p.1.length p).1)∧Rp lm w' rb (nds p.1.length p).2∧Ob rb w w':=by
 have HR:Hid _:=h;have hlen:=h.len;clear h;go_enter Tryz.func38,Tryz.ntmps38
 go_wp2_with fail
 go_loopw [3] (fun v wr=> ∃(m:Nat) (N:List Nd) (q:List ByteArray×Bool),Hid (Nds w wr lm rb p v m N q)) (fun v wr=>(match wr.cell? ⟨rb,0,none⟩with|some (.slice _ n _)=>n|_=>0))
 case atStart=>
  exact⟨p.1.length,[(6,0,0,0)],p,⟨Nat.le_refl _,rfl,rfl,by simp;omega,HR.out.go (Af (Aa w)),(KO w (6,0,0,0)),Ob.of (Af (Aa w))⟩⟩
 case round=>
  obtain⟨m,N,q,HH⟩:=hrel;obtain⟨a,cap,x0,x1,f0,f1,hcap,hc⟩:=HH.out.rp.rd.cells;clear hc;by_cases e0:q.1=[]
  ·have z0:q.1.length=0:=by rw[e0];rfl
   rw[z0]at x0;have HE:Hid (N=(6,0,0,0)::(nds p.1.length p).1∧(nds p.1.length p).2=q):=by
    have h1:=HH.out.eq1;have h2:=HH.out.eq2;rw[Pg m q e0]at h1 h2;exact⟨by rw[h1];simp,h2⟩
   clear e0 z0;go_wp2_with fail
   refine bodyPost_ret (v:=_) (by simp[results,Tryz.results38,go_sem];rfl) rfl ⟨_,rfl,?_,?_,HH.out.ob⟩
   ·rw[←HE.out.1];exact HH.out.row
   rw[HE.out.2];exact HH.out.rp
  obtain⟨L,hL⟩:=nmd q.1.length;have l0:0<L:=by rw[←hL];exact List.length_pos_iff.2 e0
  rw[hL]at x0;have HLL:Hid _:=hL;have HX0:Hid _:=x0;obtain⟨m',rfl⟩: ∃m',m=m'+1:=⟨m-1,by have:=HH.out.len;omega⟩;have HE:Hid ((6,0,0,0)::(nds p.1.length p).1=(N++[ndV q])++(nds m' (ndS q)).1∧(nds p.1.length p).2=(nds m' (ndS q)).2):=by
   have h1:=HH.out.eq1;have h2:=HH.out.eq2;rw[nds,if_neg e0]at h1 h2;exact⟨by rw[h1,List.append_assoc];rfl,h2⟩
  have dpos:(0:Int)<(L:Int):=by omega
  clear e0 hL;go_wp2_with fail
  refine(HH.out.rp.name ⟨#[110,111,100,101]⟩).mono ?_;rintro e w1 ⟨rfl,hr1,ho1⟩;have R1:Hid _:=hr1;have O1:Hid _:=HH.out.ob.trans ho1;have Q1:Hid (Ob rb wr w1):=ho1;clear hr1 ho1 x0 x1 f0 f1;go_wp2_with fail
  refine(R1.out.kind).mono ?_;rintro e w2 ⟨rfl,hr2,ho2⟩;have R2:Hid _:=hr2;have Q2:Hid (Ob rb wr w2):=Q1.out.trans ho2;clear hr2 ho2 R1 Q1;go_wp2_with fail
  refine(R2.out.number).mono ?_;rintro e w3 ⟨rfl,hr3,ho3⟩;have R3:Hid _:=hr3;have Q3:Hid (Ob rb wr w3):=Q2.out.trans ho3;clear hr3 ho3 R2 Q2;go_wp2_with fail
  refine(R3.out.number).mono ?_;rintro e w4 ⟨rfl,hr4,ho4⟩;have R4:Hid _:=hr4;have Q4:Hid (Ob rb wr w4):=Q3.out.trans ho4;clear hr4 ho4 R3 Q3;go_wp2_with fail
  refine(R4.out.number).mono ?_;rintro e w5 ⟨rfl,hr5,ho5⟩;have R5:Hid (Rp lm w5 rb (ndS q)):=hr5;have Q5:Hid (Ob rb wr w5):=Q4.out.trans ho5;clear hr5 ho5 R4 Q4;have lrb:=HR.out.rd.lt;have szr:=HH.out.ob.size;have sz5:=Q5.out.size;have ROW:Hid (Nr w.heap.size (w5.alloc (.cells #[.int .i64 (ndV q).1,.int .i64 (ndV q).2.1,.int .i64 (ndV q).2.2.1,.int .i64 (ndV q).2.2.2] 78)) u3 N):=by
   refine HH.out.row.kept fun k hk=> ?_;obtain⟨hb,cs,hcs⟩:=HH.out.row.own hk;have lk:=(Array.getElem?_eq_some_iff.1 hcs).1;exact((Af (Aa w5)).block k (by omega)).trans (Q5.out.block k lk (by omega))
  have NEW:Hid _:=KO w5 (ndV q);have HCNT:=HH.out.cnt;have hlim:N.length+[ndV q].length≤1000000:=by simp only[List.length_cons,List.length_nil];omega
  go_wp2_with (refine(id ?_:wpList Tryz.prog _ _ (⟨some 25,_,_,_,_,_⟩::_) _ _);refine Pf rfl (.tmp 14) (.tmp 24) rfl w.heap.size _ N rfl ROW.out w5.heap.size (.slice (some ⟨w5.heap.size,0,none⟩) 1 1) [ndV q] rfl NEW.out hlim (by rw[World.size_alloc];omega) ?_)
  intro v' w6 HQ;have K6:Hid (∀k,k<w.heap.size→w6.heap[k]? =w5.heap[k]?):=fun k hk=>(HQ.out.2.block k hk).trans ((Af (Aa w5)).block k (by omega));have sz6:w5.heap.size≤w6.heap.size:=by have:=HQ.out.2.size;rw[World.size_alloc]at this;omega
  have R6:Hid (Rp lm w6 rb (ndS q)):=R5.out.keep K6.out sz6 lrb HR.out.lm' w HR.out.ev HR.out.kn (Nat.le_refl _);have O6:Hid (Ob rb w w6):=by
   have q1:=HH.out.ob.trans Q5.out;exact⟨HQ.out.2.os.trans q1.os,HQ.out.2.tape.trans q1.tape,HQ.out.2.output.trans q1.output,by omega,fun k hk hne=>(K6.out k hk).trans (q1.block k hk hne)⟩
  obtain⟨a6,cap6,y0,_,_,_,_,_⟩:=R6.out.rd.cells;have M6:Hid _:=y0;clear y0;go_wp2_with fail
  go_roundw
  case rel=>
   refine⟨m',N++[ndV q],ndS q,⟨?_,HE.out.1,HE.out.2,?_,R6.out,HQ.out.1,O6.out⟩⟩
   ·have h1:=HH.out.len;rw[Ph];omega
   rw[List.length_append,List.length_cons,List.length_nil];omega
  case measure=>
   rw[M6.out,HX0.out];have h1:=HLL.out;have h2:=Ph q;show(ndS q).1.length<L;omega
def KU:ByteArray:=⟨#[119,101,105,103,104,116,32,113,117,97,110,116,117,109,32,99,108,97,115,115,32,115,112,97,110,32,98,117,114,115,116,32,114,97,116,101,32,112,101,114,32,110,111,100,101]⟩
theorem Eg:Ab KU=[⟨#[119,101,105,103,104,116]⟩,⟨#[113,117,97,110,116,117,109]⟩,⟨#[99,108,97,115,115]⟩,⟨#[115,112,97,110]⟩,⟨#[98,117,114,115,116]⟩,⟨#[114,97,116,101]⟩,⟨#[112,101,114]⟩,⟨#[110,111,100,101]⟩]:=by decide+kernel
theorem L3:0<(Ab ⟨#[119,101,105,103,104,116,32,113,117,97,110,116,117,109,32,99,108,97,115,115,32,115,112,97,110,32,98,117,114,115,116,32,114,97,116,101,32,112,101,114,32,110,111,100,101]⟩).length∧(Ab ⟨#[119,101,105,103,104,116,32,113,117,97,110,116,117,109,32,99,108,97,115,115,32,115,112,97,110,32,98,117,114,115,116,32,114,97,116,101,32,112,101,114,32,110,111,100,101]⟩).length≤100:=by
 have e:Ab ⟨#[119,101,105,103,104,116,32,113,117,97,110,116,117,109,32,99,108,97,115,115,32,115,112,97,110,32,98,117,114,115,116,32,114,97,116,101,32,112,101,114,32,110,111,100,101]⟩=_:=Eg;rw[e];decide
theorem Bx1.row{w0 W:World}{g:Nat}{tg:TypeId}{c:Array Value}(h:Bx1 w0 W g tg c)(cs:Array Value):Bx1 w0 (W.setRow g cs) g tg cs:=
 ⟨setRow_heap W g c cs tg _ h.hc,fun k hk=>(setRow_other W g k cs hk).trans (h.ot k hk),h.os,h.tape,h.output,by rw[size_setRow];exact h.size⟩
theorem Uh{f:Nat}{args:Array Value}{w:World}{Q:Ending→World→Prop}(P:World→Prop)(hP:P w)(h: ∀w',P w'→Calls Tryz.prog f args w' Q):Calls Tryz.prog f args w Q:=h w hP
theorem Se{lm:Nat}(rb:Nat)(p p1 p2 p3 p4 p5 p6 p7 p8 p9:List ByteArray×Bool)(n0 n1 n2 n3 n4 n5 n6:Int)(rt:ByteArray)(e1:arS ⟨#[119,101,105,103,104,116,32,113,117,97,110,116,117,109,32,99,108,97,115,115,32,115,112,97,110,32,98,117,114,115,116,32,114,97,116,101,32,112,101,114,32,110,111,100,101]⟩ p=p1)(e2:nmS p1=p2)(e3:nmS p2=p3)(e4:nmS p3=p4)(e5:nmS p4=p5)(e6:nmS p5=p6)(e7:woS p6=p7)(e8:nmS p7=p8)(e9:nmS p8=p9)(k0:nmI p1=n0)(k1:nmI p2=n1)(k2:nmI p3=n2)(k3:nmI p4=n3)(k4:nmI p5=n4)(k5:nmI p7=n5)(k6:nmI p8=n6)(kr:hdT p6.1=rt)(w:World)(h:Rp lm w rb p)(hl:p.1.length≤50000):
  Calls Tryz.prog 21 #[.pointer (some ⟨rb,0,none⟩)] w fun e w'=>e=.returned (.tuple #[.agg #[.int .i64 n0,.int .i64 n1,.int .i64 n2,.int .i64 n3,.int .i64 n4,.float .f64 0,.int .i64 n5,.int .i64 n6],.string rt])∧(∃lm',Rp lm' w' rb p9)∧Ob rb w w':=by
 have lrb:=h.rd.lt;have HR:Hid _:=h;clear h;have HL:Hid _:=hl;have E1:Hid _:=e1;have E2:Hid _:=e2;have E3:Hid _:=e3;have E4:Hid _:=e4;have E5:Hid _:=e5;have E6:Hid _:=e6;have E7:Hid _:=e7;have E8:Hid _:=e8;have E9:Hid _:=e9;have K0:Hid _:=k0;have K1:Hid _:=k1;have K2:Hid _:=k2;have K3:Hid _:=k3;have K4:Hid _:=k4;have K5:Hid _:=k5;have K6:Hid _:=k6;have KR:Hid _:=kr;clear e1 e2 e3 e4 e5 e6 e7 e8 e9 k0 k1 k2 k3 k4 k5 k6 kr;go_enter Tryz.func21,Tryz.ntmps21
 go_wp2_with fail
 refine((HR.out.go (Af (Aa _))).arrange ⟨#[119,101,105,103,104,116,32,113,117,97,110,116,117,109,32,99,108,97,115,115,32,115,112,97,110,32,98,117,114,115,116,32,114,97,116,101,32,112,101,114,32,110,111,100,101]⟩ (by decide) L3.1 L3.2 HL.out).mono ?_;rintro e w1 ⟨rfl,⟨lm1,hr1⟩,ho1⟩;rw[E1.out]at hr1;have R1:Hid _:=hr1;have O1:Hid (Ob rb (w.alloc (.cells #[.int .i64 0,.int .i64 0,.int .i64 0,.int .i64 0,.int .i64 0,.float .f64 0,.int .i64 0,.int .i64 0] 32)) w1):=ho1;clear hr1 ho1;go_wp2_with fail
 refine(R1.out.number).mono ?_;rintro e w2 ⟨rfl,hr2,ho2⟩;rw[E2.out]at hr2;have R2:Hid _:=hr2;have O2:Hid (Ob rb (w.alloc (.cells #[.int .i64 0,.int .i64 0,.int .i64 0,.int .i64 0,.int .i64 0,.float .f64 0,.int .i64 0,.int .i64 0] 32)) w2):=O1.out.trans ho2;clear hr2 ho2 R1 O1;rw[K0.out];go_wp2_with fail
 refine(R2.out.number).mono ?_;rintro e w3 ⟨rfl,hr3,ho3⟩;rw[E3.out]at hr3;have R3:Hid _:=hr3;have O3:Hid (Ob rb (w.alloc (.cells #[.int .i64 0,.int .i64 0,.int .i64 0,.int .i64 0,.int .i64 0,.float .f64 0,.int .i64 0,.int .i64 0] 32)) w3):=O2.out.trans ho3;clear hr3 ho3 R2 O2;rw[K1.out];go_wp2_with fail
 refine(R3.out.number).mono ?_;rintro e w4 ⟨rfl,hr4,ho4⟩;rw[E4.out]at hr4;have R4:Hid _:=hr4;have O4:Hid (Ob rb (w.alloc (.cells #[.int .i64 0,.int .i64 0,.int .i64 0,.int .i64 0,.int .i64 0,.float .f64 0,.int .i64 0,.int .i64 0] 32)) w4):=O3.out.trans ho4;clear hr4 ho4 R3 O3;rw[K2.out];go_wp2_with fail
 refine(R4.out.number).mono ?_;rintro e w5 ⟨rfl,hr5,ho5⟩;rw[E5.out]at hr5;have R5:Hid _:=hr5;have O5:Hid (Ob rb (w.alloc (.cells #[.int .i64 0,.int .i64 0,.int .i64 0,.int .i64 0,.int .i64 0,.float .f64 0,.int .i64 0,.int .i64 0] 32)) w5):=O4.out.trans ho5;clear hr5 ho5 R4 O4;rw[K3.out];go_wp2_with fail
 refine(R5.out.number).mono ?_;rintro e w6 ⟨rfl,hr6,ho6⟩;rw[E6.out]at hr6;have R6:Hid _:=hr6;have O6:Hid (Ob rb (w.alloc (.cells #[.int .i64 0,.int .i64 0,.int .i64 0,.int .i64 0,.int .i64 0,.float .f64 0,.int .i64 0,.int .i64 0] 32)) w6):=O5.out.trans ho6;clear hr6 ho6 R5 O5;rw[K4.out];obtain⟨gR,eR⟩:=nme w.heap.size;have hR:w6.heap[gR]? =some (.cells #[.int .i64 0,.int .i64 0,.int .i64 0,.int .i64 0,.int .i64 0,.float .f64 0,.int .i64 0,.int .i64 0] 32):=(O6.out.block gR (by rw[World.size_alloc];omega) (by omega)).trans (by rw[eR];exact CZ _ _);have H6:Hid _:=hR;obtain⟨y0,y1,y2,y3,y4,y5,y6,y7⟩:=cl8 hR;have fr0:=fzAt hR 0;have fr1:=fzAt hR 1;have fr2:=fzAt hR 2;have fr3:=fzAt hR 3;have fr4:=fzAt hR 4;have fr5:=fzAt hR 5;have fr6:=fzAt hR 6;have fr7:=fzAt hR 7;have nrb:Hid (gR≠rb):=by show gR≠rb;omega
 have OW:Hid (Ob rb w w6):=(Ob.of (Af (Aa w))).trans O6.out;have B6:Hid (Bx1 w6 w6 gR 32 #[.int .i64 0,.int .i64 0,.int .i64 0,.int .i64 0,.int .i64 0,.float .f64 0,.int .i64 0,.int .i64 0]):=⟨hR,fun _ _=>rfl,rfl,rfl,rfl,rfl⟩;clear hR O6;rw[←eR];have HER:Hid _:=eR;clear eR;go_wp2_with fail
 refine Uh (fun W=>Bx1 w6 W gR 32 #[.int .i64 n0,.int .i64 n1,.int .i64 n2,.int .i64 n3,.int .i64 n4,.float .f64 0,.int .i64 0,.int .i64 0]) (((((B6.out.set 0 (.int .i64 n0)).set 1 (.int .i64 n1)).set 2 (.int .i64 n2)).set 3 (.int .i64 n3)).set 4 (.int .i64 n4)) ?_;intro v6 B7;have Q6:Hid (Rp lm1 v6 rb p6):=R6.out.one B7 H6.out rfl nrb.out;have A6:Hid _:=B7;have G6:Hid _:=B7.hc;clear B7 y0 fr0 y1 fr1 y2 fr2 y3 fr3 y4 fr4 y5 fr5 y6 fr6 y7 fr7;refine(Q6.out.word).mono ?_;rintro e w7 ⟨rfl,hr7,ho7⟩;rw[E7.out]at hr7;have R7:Hid _:=hr7;have O7:Hid (Ob rb v6 w7):=ho7;clear hr7 ho7;rw[KR.out];go_wp2_with fail
 refine(R7.out.number).mono ?_;rintro e w8 ⟨rfl,hr8,ho8⟩;rw[E8.out]at hr8;have R8:Hid _:=hr8;have O8:Hid (Ob rb v6 w8):=O7.out.trans ho8;clear hr8 ho8 R7 O7;rw[K5.out];go_wp2_with fail
 refine(R8.out.number).mono ?_;rintro e w9 ⟨rfl,hr9,ho9⟩;rw[E9.out]at hr9;have R9:Hid _:=hr9;have O9:Hid (Ob rb v6 w9):=O8.out.trans ho9;clear hr9 ho9 R8 O8;rw[K6.out];have hR:w9.heap[gR]? =some (.cells #[.int .i64 n0,.int .i64 n1,.int .i64 n2,.int .i64 n3,.int .i64 n4,.float .f64 0,.int .i64 0,.int .i64 0] 32):=(O9.out.block gR (Array.getElem?_eq_some_iff.1 G6.out).1 nrb.out).trans G6.out;have H9:Hid _:=hR;obtain⟨y0,y1,y2,y3,y4,y5,y6,y7⟩:=cl8 hR;have fr0:=fzAt hR 0;have fr1:=fzAt hR 1;have fr2:=fzAt hR 2;have fr3:=fzAt hR 3;have fr4:=fzAt hR 4;have fr5:=fzAt hR 5;have fr6:=fzAt hR 6;have fr7:=fzAt hR 7;have B9:Hid (Bx1 w9 w9 gR 32 #[.int .i64 n0,.int .i64 n1,.int .i64 n2,.int .i64 n3,.int .i64 n4,.float .f64 0,.int .i64 0,.int .i64 0]):=⟨hR,fun _ _=>rfl,rfl,rfl,rfl,rfl⟩;clear hR;go_wp2_with (refine(id ?_:wpList Tryz.prog _ _ (⟨some 29,_,_,_,_,_⟩::_) _ _);refine Az (fun W=>Bx1 w9 W gR 32 #[.int .i64 n0,.int .i64 n1,.int .i64 n2,.int .i64 n3,.int .i64 n4,.float .f64 0,.int .i64 n5,.int .i64 n6]) ((B9.out.set 6 (.int .i64 n5)).set 7 (.int .i64 n6)) ?_)
 intro v9 B10;clear y0 fr0 y1 fr1 y2 fr2 y3 fr3 y4 fr4 y5 fr5 y6 fr6 y7 fr7;have hR:=B10.hc;obtain⟨y0,y1,y2,y3,y4,y5,y6,y7⟩:=cl8 hR;have fr0:=fzAt hR 0;have fr1:=fzAt hR 1;have fr2:=fzAt hR 2;have fr3:=fzAt hR 3;have fr4:=fzAt hR 4;have fr5:=fzAt hR 5;have fr6:=fzAt hR 6;have fr7:=fzAt hR 7;have A9:Hid _:=B10;clear hR B10;go_wp2_with (refine(id ?_:wpList Tryz.prog _ _ (⟨none,.store 32 (.tmp 2) (.tmp 29),_,_,_,_⟩::_) _ _);refine wpList_store_row rfl 32 (.tmp 2) (.tmp 29) rfl gR #[.int .i64 n0,.int .i64 n1,.int .i64 n2,.int .i64 n3,.int .i64 n4,.float .f64 0,.int .i64 n5,.int .i64 n6] rfl rfl 32 #[.int .i64 n0,.int .i64 n1,.int .i64 n2,.int .i64 n3,.int .i64 n4,.float .f64 0,.int .i64 n5,.int .i64 n6] A9.out.hc (by kernel_rfl) (by kernel_rfl) (by kernel_rfl) ?_;refine Az (fun W=>Bx1 w9 W gR 32 #[.int .i64 n0,.int .i64 n1,.int .i64 n2,.int .i64 n3,.int .i64 n4,.float .f64 0,.int .i64 n5,.int .i64 n6]) (A9.out.row _) ?_)
 intro w10 B10;clear y0 fr0 y1 fr1 y2 fr2 y3 fr3 y4 fr4 y5 fr5 y6 fr6 y7 fr7;go_wp2_with fail
 have hR:=B10.hc;obtain⟨y0,y1,y2,y3,y4,y5,y6,y7⟩:=cl8 hR;refine bodyPost_ret (v:=.tuple #[.agg #[.int .i64 n0,.int .i64 n1,.int .i64 n2,.int .i64 n3,.int .i64 n4,.float .f64 0,.int .i64 n5,.int .i64 n6],.string rt]) (by simp[results,Tryz.results21,go_sem,y0,y1,y2,y3,y4,y5,y6,y7]) rfl ⟨rfl,⟨lm1,R9.out.one B10 H9.out rfl nrb.out⟩,?_⟩;have X:=A6.out;refine⟨B10.os.trans (O9.out.os.trans (X.os.trans OW.out.os)),B10.tape.trans (O9.out.tape.trans (X.tape.trans OW.out.tape)),B10.output.trans (O9.out.output.trans (X.output.trans OW.out.output)),?_,fun k hk hne=> ?_⟩
 ·have q1:=B10.size;have q2:=O9.out.size;have q3:=X.size;have q4:=OW.out.size;omega
 have q1:=HER.out;have q3:=X.size;have q4:=OW.out.size;exact(B10.ot k (by omega)).trans ((O9.out.block k (by omega) hne).trans ((X.ot k (by omega)).trans (OW.out.block k hk hne)))
theorem KV{lm:Nat}(rb:Nat)(p p1 p2 p3 p4 p5 p6 p7 p8:List ByteArray×Bool)(n0 n1 n2 n3 n4:Int)(e1:naS ⟨#[107,105,110,100]⟩ p=p1)(e2:kdS p1=p2)(e3:arS ⟨#[114,111,111,109,32,109,111,115,116,32,99,97,112,32,102,108,111,119,115,32,97,103,101]⟩ p2=p3)(e4:nmS p3=p4)(e5:nmS p4=p5)(e6:nmS p5=p6)(e7:nmS p6=p7)(e8:nmS p7=p8)(k0:kdV (hdT p1.1)=6)(k1:nmI p3=n0)(k2:nmI p4=n1)(k3:nmI p5=n2)(k4:nmI p6=n3)(k5:nmI p7=n4)(w:World)(h:Rp lm w rb p)(hl:p2.1.length≤50000):
  Calls Tryz.prog 13 #[.pointer (some ⟨rb,0,none⟩)] w fun e w'=> ∃v base,e=.returned (.agg #[.int .i64 6,.int .i64 n0,.int .i64 n1,.int .i64 n2,.int .i64 n3,.int .i64 n4,v])∧w.heap.size≤base∧Nr base w' v ((6,0,0,0)::(nds p8.1.length p8).1)∧(∃lm',Rp lm' w' rb (nds p8.1.length p8).2)∧Ob rb w w':=by
 have lrb:=h.rd.lt;have HR:Hid _:=h;clear h;have HL:Hid _:=hl;have E1:Hid _:=e1;have E2:Hid _:=e2;have E3:Hid _:=e3;have E4:Hid _:=e4;have E5:Hid _:=e5;have E6:Hid _:=e6;have E7:Hid _:=e7;have E8:Hid _:=e8;have K0:Hid _:=k0;have K1:Hid _:=k1;have K2:Hid _:=k2;have K3:Hid _:=k3;have K4:Hid _:=k4;have K5:Hid _:=k5;clear e1 e2 e3 e4 e5 e6 e7 e8 k0 k1 k2 k3 k4 k5;go_enter Tryz.func13,Tryz.ntmps13
 go_wp2_with fail
 refine((HR.out.go (Af (Aa _))).name ⟨#[107,105,110,100]⟩).mono ?_;rintro e w1 ⟨rfl,hr1,ho1⟩;rw[E1.out]at hr1;have R1:Hid _:=hr1;have O1:Hid _:=ho1;clear hr1 ho1;go_wp2_with fail
 refine(R1.out.kind).mono ?_;rintro e w2 ⟨rfl,hr2,ho2⟩;rw[E2.out]at hr2;have R2:Hid _:=hr2;have O2:Hid (Ob rb (w.alloc (.cells #[.int .i64 0,.int .i64 0,.int .i64 0,.int .i64 0,.int .i64 0,.int .i64 0,.slice none 0 0] 24)) w2):=O1.out.trans ho2;have hsz2:=O2.out.size;rw[World.size_alloc]at hsz2;clear hr2 ho2 O1 R1;rw[K0.out];go_wp2_with fail
 refine((R2.out.go (Af (Aa _))).arrange ⟨#[114,111,111,109,32,109,111,115,116,32,99,97,112,32,102,108,111,119,115,32,97,103,101]⟩ (by decide) Gw.1 Gw.2 HL.out).mono ?_;rintro e w3 ⟨rfl,⟨lm3,hr3⟩,ho3⟩;rw[E3.out]at hr3;have R3:Hid _:=hr3;have O3:Hid (Ob rb (w2.alloc (.cells #[.int .i64 6,.int .i64 0,.int .i64 0,.int .i64 0,.int .i64 0,.int .i64 0,.slice none 0 0] 24)) w3):=ho3;clear hr3 ho3 R2;go_wp2_with fail
 refine(R3.out.number).mono ?_;rintro e w4 ⟨rfl,hr4,ho4⟩;rw[E4.out]at hr4;have R4:Hid _:=hr4;have O4:Hid (Ob rb (w2.alloc (.cells #[.int .i64 6,.int .i64 0,.int .i64 0,.int .i64 0,.int .i64 0,.int .i64 0,.slice none 0 0] 24)) w4):=O3.out.trans ho4;clear hr4 ho4 R3 O3;rw[K1.out];go_wp2_with fail
 refine(R4.out.number).mono ?_;rintro e w5 ⟨rfl,hr5,ho5⟩;rw[E5.out]at hr5;have R5:Hid _:=hr5;have O5:Hid (Ob rb (w2.alloc (.cells #[.int .i64 6,.int .i64 0,.int .i64 0,.int .i64 0,.int .i64 0,.int .i64 0,.slice none 0 0] 24)) w5):=O4.out.trans ho5;clear hr5 ho5 R4 O4;rw[K2.out];go_wp2_with fail
 refine(R5.out.number).mono ?_;rintro e w6 ⟨rfl,hr6,ho6⟩;rw[E6.out]at hr6;have R6:Hid _:=hr6;have O6:Hid (Ob rb (w2.alloc (.cells #[.int .i64 6,.int .i64 0,.int .i64 0,.int .i64 0,.int .i64 0,.int .i64 0,.slice none 0 0] 24)) w6):=O5.out.trans ho6;clear hr6 ho6 R5 O5;rw[K3.out];go_wp2_with fail
 refine(R6.out.number).mono ?_;rintro e w7 ⟨rfl,hr7,ho7⟩;rw[E7.out]at hr7;have R7:Hid _:=hr7;have O7:Hid (Ob rb (w2.alloc (.cells #[.int .i64 6,.int .i64 0,.int .i64 0,.int .i64 0,.int .i64 0,.int .i64 0,.slice none 0 0] 24)) w7):=O6.out.trans ho7;clear hr7 ho7 R6 O6;rw[K4.out];go_wp2_with fail
 refine(R7.out.number).mono ?_;rintro e w8 ⟨rfl,hr8,ho8⟩;rw[E8.out]at hr8;have R8:Hid _:=hr8;have O8:Hid (Ob rb (w2.alloc (.cells #[.int .i64 6,.int .i64 0,.int .i64 0,.int .i64 0,.int .i64 0,.int .i64 0,.slice none 0 0] 24)) w8):=O7.out.trans ho8;clear hr8 ho8 R7 O7;rw[K5.out];obtain⟨gR,eR⟩:=nme w.heap.size;obtain⟨gC,eC⟩:=nme w2.heap.size;have hC:w8.heap[gC]? =some (.cells #[.int .i64 6,.int .i64 0,.int .i64 0,.int .i64 0,.int .i64 0,.int .i64 0,.slice none 0 0] 24):=(O8.out.block gC (by rw[World.size_alloc];omega) (by omega)).trans (by rw[eC];exact CZ _ _);have hR:w8.heap[gR]? =some (.cells #[.int .i64 0,.int .i64 0,.int .i64 0,.int .i64 0,.int .i64 0,.int .i64 0,.slice none 0 0] 24):=(O8.out.block gR (by rw[World.size_alloc];omega) (by omega)).trans (((Af (Aa w2)).block gR (by omega)).trans ((O2.out.block gR (by rw[World.size_alloc];omega) (by omega)).trans (by rw[eR];exact CZ _ _)));have HC:Hid _:=hC;have HRR:Hid _:=hR;obtain⟨x0,x1,x2,x3,x4,x5,x6⟩:=cl7 hC;obtain⟨y0,y1,y2,y3,y4,y5,y6⟩:=cl7 hR;have fC: ∀i,w8.frozen? ⟨gC,i,none⟩=false:=fun i=>by simp[World.frozen?,hC]
 have fR: ∀i,w8.frozen? ⟨gR,i,none⟩=false:=fun i=>by simp[World.frozen?,hR]
 have fc0:=fC 0;have fr0:=fR 0;have fc1:=fC 1;have fr1:=fR 1;have fc2:=fC 2;have fr2:=fR 2;have fc3:=fC 3;have fr3:=fR 3;have fc4:=fC 4;have fr4:=fR 4;have fc5:=fC 5;have fr5:=fR 5;have fc6:=fC 6;have fr6:=fR 6;have neg:gC≠gR:=by omega
 have lR:gR<w8.heap.size:=World.block_lt_of_cell? _ _ y0;have lC:gC<w8.heap.size:=World.block_lt_of_cell? _ _ x0;clear hC hR fC fR;rw[←eC,←eR];have HER:Hid _:=eR;have HEC:Hid _:=eC;clear eC eR;have B8:Hid (Bx2 w8 w8 gC gR 24 24 #[.int .i64 6,.int .i64 0,.int .i64 0,.int .i64 0,.int .i64 0,.int .i64 0,.slice none 0 0] #[.int .i64 0,.int .i64 0,.int .i64 0,.int .i64 0,.int .i64 0,.int .i64 0,.slice none 0 0]):=⟨HC.out,HRR.out,fun _ _ _=>rfl,rfl,rfl,rfl,rfl⟩;have negH:Hid (gC≠gR):=neg;go_wp2_with (refine(id ?_:wpList Tryz.prog _ _ (⟨some 26,_,_,_,_,_⟩::_) _ _);refine Az (fun W=>Bx2 w8 W gC gR 24 24 #[.int .i64 6,.int .i64 n0,.int .i64 n1,.int .i64 n2,.int .i64 n3,.int .i64 n4,.slice none 0 0] #[.int .i64 0,.int .i64 0,.int .i64 0,.int .i64 0,.int .i64 0,.int .i64 0,.slice none 0 0]) (((((B8.out.setC negH.out 1 (.int .i64 n0)).setC negH.out 2 (.int .i64 n1)).setC negH.out 3 (.int .i64 n2)).setC negH.out 4 (.int .i64 n3)).setC negH.out 5 (.int .i64 n4)) ?_)
 intro w9 B9;clear x0 y0 fc0 fr0 x1 y1 fc1 fr1 x2 y2 fc2 fr2 x3 y3 fc3 fr3 x4 y4 fc4 fr4 x5 y5 fc5 fr5 x6 y6 fc6 fr6;have hC:=B9.hc;have hR:=B9.hr;obtain⟨x0,x1,x2,x3,x4,x5,x6⟩:=cl7 hC;obtain⟨y0,y1,y2,y3,y4,y5,y6⟩:=cl7 hR;have fr0:=fzAt hR 0;have fr1:=fzAt hR 1;have fr2:=fzAt hR 2;have fr3:=fzAt hR 3;have fr4:=fzAt hR 4;have fr5:=fzAt hR 5;have fr6:=fzAt hR 6;have K9:Hid _:=B9;have R9:Hid (Rp lm3 w9 rb p8):=R8.out.two B9 HC.out HRR.out rfl rfl (by have:=HEC.out;omega) (by have:=HER.out;omega);have OW:Hid (Ob rb w w8):=((Ob.of (Af (Aa w))).trans O2.out).trans ((Ob.of (Af (Aa w2))).trans O8.out);have OW9:Hid (Ob rb w w9):=⟨B9.os.trans OW.out.os,B9.tape.trans OW.out.tape,B9.output.trans OW.out.output,by rw[B9.size];exact OW.out.size,fun k hk hne=>(B9.ot k (by have:=HEC.out;omega) (by have:=HER.out;omega)).trans (OW.out.block k hk hne)⟩;clear B9 hC hR;go_wp2_with fail
 refine(Sd rb p8 w9 R9.out).mono ?_;rintro e w10 ⟨v,rfl,hN,hr10,ho10⟩;have R10:Hid _:=hr10;have nrb:Hid (gC≠rb∧gR≠rb):=⟨by have:=HEC.out;omega,by have:=HER.out;omega⟩;have hC:w10.heap[gC]? =some (.cells #[.int .i64 6,.int .i64 n0,.int .i64 n1,.int .i64 n2,.int .i64 n3,.int .i64 n4,.slice none 0 0] 24):=(ho10.block gC (by rw[K9.out.size];omega) nrb.out.1).trans K9.out.hc;have hR:w10.heap[gR]? =some (.cells #[.int .i64 0,.int .i64 0,.int .i64 0,.int .i64 0,.int .i64 0,.int .i64 0,.slice none 0 0] 24):=(ho10.block gR (by rw[K9.out.size];omega) nrb.out.2).trans K9.out.hr;have O10:Hid _:=OW9.out.trans ho10;have hs9:=K9.out.size;obtain⟨av,cv,ev,_,_⟩:=hN.sl;subst ev;obtain⟨nv,env⟩:=nmd (((6,0,0,0)::(nds p8.1.length p8).1:List Nd).length);have NR:Hid (Nr w9.heap.size w10 (.slice av nv cv) ((6,0,0,0)::(nds p8.1.length p8).1)):=by rw[←env];exact hN
 rw[env];have B10:Hid (Bx2 w10 w10 gC gR 24 24 #[.int .i64 6,.int .i64 n0,.int .i64 n1,.int .i64 n2,.int .i64 n3,.int .i64 n4,.slice none 0 0] #[.int .i64 0,.int .i64 0,.int .i64 0,.int .i64 0,.int .i64 0,.int .i64 0,.slice none 0 0]):=⟨hC,hR,fun _ _ _=>rfl,rfl,rfl,rfl,rfl⟩;have HC10:Hid _:=hC;have HR10:Hid _:=hR;clear x0 y0 x1 y1 x2 y2 x3 y3 x4 y4 x5 y5 x6 y6 fr0 fr1 fr2 fr3 fr4 fr5 fr6;obtain⟨x0,x1,x2,x3,x4,x5,x6⟩:=cl7 hC;have fc6:=fzAt hC 6;clear hC hR hN hr10 ho10 env;go_wp2_with (refine(id ?_:wpList Tryz.prog _ _ (⟨some 32,_,_,_,_,_⟩::_) _ _);refine Az (fun W=>Bx2 w10 W gC gR 24 24 #[.int .i64 6,.int .i64 n0,.int .i64 n1,.int .i64 n2,.int .i64 n3,.int .i64 n4,.slice av nv cv] #[.int .i64 0,.int .i64 0,.int .i64 0,.int .i64 0,.int .i64 0,.int .i64 0,.slice none 0 0]) (B10.out.setC negH.out 6 (.slice av nv cv)) ?_)
 intro w11 B11;clear x0 x1 x2 x3 x4 x5 x6 fc6;have hC:=B11.hc;obtain⟨x0,x1,x2,x3,x4,x5,x6⟩:=cl7 hC;have K11:Hid _:=B11;have GR:Hid _:=B11.hr;clear B11 hC;go_wp2_with (refine(id ?_:wpList Tryz.prog _ _ (⟨none,.store 24 (.tmp 2) (.tmp 32),_,_,_,_⟩::_) _ _);refine wpList_store_row rfl 24 (.tmp 2) (.tmp 32) rfl gR #[.int .i64 6,.int .i64 n0,.int .i64 n1,.int .i64 n2,.int .i64 n3,.int .i64 n4,.slice av nv cv] rfl rfl 24 #[.int .i64 0,.int .i64 0,.int .i64 0,.int .i64 0,.int .i64 0,.int .i64 0,.slice none 0 0] GR.out (by kernel_rfl) (by kernel_rfl) (by kernel_rfl) ?_;refine Az (fun W=>Bx2 w10 W gC gR 24 24 #[.int .i64 6,.int .i64 n0,.int .i64 n1,.int .i64 n2,.int .i64 n3,.int .i64 n4,.slice av nv cv] #[.int .i64 6,.int .i64 n0,.int .i64 n1,.int .i64 n2,.int .i64 n3,.int .i64 n4,.slice av nv cv]) ⟨(setRow_other _ _ _ _ negH.out).trans K11.out.hc,setRow_heap _ _ _ _ _ _ GR.out,fun k h1 h2=>(setRow_other _ _ _ _ h2).trans (K11.out.ot k h1 h2),K11.out.os,K11.out.tape,K11.out.output,by rw[size_setRow];exact K11.out.size⟩ ?_)
 intro w12 B12;clear x0 x1 x2 x3 x4 x5 x6;have hR:=B12.hr;obtain⟨y0,y1,y2,y3,y4,y5,y6⟩:=cl7 hR;have K12:Hid _:=B12;clear B12 hR;go_wp2_with fail
 refine bodyPost_ret (v:=.agg #[.int .i64 6,.int .i64 n0,.int .i64 n1,.int .i64 n2,.int .i64 n3,.int .i64 n4,.slice av nv cv]) (by simp[results,Tryz.results13,go_sem,y0,y1,y2,y3,y4,y5,y6]) rfl ⟨.slice av nv cv,w9.heap.size,rfl,OW9.out.size,?_,⟨lm3,R10.out.two K12.out HC10.out HR10.out rfl rfl nrb.out.1 nrb.out.2⟩,?_⟩
 ·refine Nr.kept NR.out fun k hk=> ?_;obtain⟨hb,_,_⟩:=Nr.own NR.out hk;exact K12.out.ot k (by omega) (by omega)
 have q:=O10.out;exact⟨K12.out.os.trans q.os,K12.out.tape.trans q.tape,K12.out.output.trans q.output,by rw[K12.out.size];exact q.size,fun k hk hne=>(K12.out.ot k (by have:=HEC.out;omega) (by have:=HER.out;omega)).trans (q.block k hk hne)⟩
theorem Qm{lm:Nat}(rb:Nat)(p:List ByteArray×Bool)(w:World)(h:Rp lm w rb p)(hl:p.1.length≤40000)(h6:Aq p 0=6):
  Calls Tryz.prog 13 #[.pointer (some ⟨rb,0,none⟩)] w fun e w'=> ∃v base,e=.returned (.agg #[.int .i64 6,.int .i64 (Aq p 1),.int .i64 (Aq p 2),.int .i64 (Aq p 3),.int .i64 (Aq p 4),.int .i64 (Aq p 5),v])∧w.heap.size≤base∧Nr base w' v ((6,0,0,0)::(nds (De p).1.length (De p)).1)∧(∃lm',Rp lm' w' rb (nds (De p).1.length (De p)).2)∧Ob rb w w':=
 KV rb p _ _ _ _ _ _ _ _ _ _ _ _ _ rfl rfl rfl rfl rfl rfl rfl rfl h6 rfl rfl rfl rfl rfl w h (by simp only[kdS,naS,List.length_tail];omega)
theorem U0(s:ByteArray)(i:Nat)(hi:i≤s.size): ∀x∈(ws s i).2,x.size≤s.size:=by
 induction i with
 |zero=>intro x hx;simp[ws]at hx
 |succ i ih=>
  intro x hx;rw[ws]at hx;split at hx
  ·split at hx
   ·rcases List.mem_append.1 hx with q|q
    ·exact ih (by omega) x q
    simp only[List.mem_singleton]at q;rw[q,ByteArray.size_extract];omega
   exact ih (by omega) x hx
  exact ih (by omega) x hx
theorem Eu(s:ByteArray)(x:ByteArray)(hx:x∈Ab s):x.size≤s.size:=by
 unfold Ab at hx;split at hx
 ·rcases List.mem_append.1 hx with q|q
  ·exact U0 s _ (Nat.le_refl _) x q
  simp only[List.mem_singleton]at q;rw[q,ByteArray.size_extract];omega
 exact U0 s _ (Nat.le_refl _) x hx
theorem Ds(s:ByteArray):(Ab s).length≤s.size+1:=by
 have h:=(Ms s s.size).2;unfold Ab;split
 ·rw[List.length_append];simp;omega
 omega
theorem WK{W:World}{base:Nat}{v:Value}{L:List ByteArray}(h:OR W 9 base v L.length (tx L)):Rst W.heap.size W v L:=by
 rcases h with⟨rfl,q⟩| ⟨g,cap,f,rfl,h1,h2,h3,h4,h5⟩
 ·have e:L=[]:=List.length_eq_zero_iff.1 q;subst e;exact⟨none,0,rfl,Nat.le_refl _,.inl ⟨rfl,rfl,rfl⟩⟩
 refine⟨_,cap,rfl,h2,.inr ⟨g,0,rfl,fun i hi=> ?_⟩⟩;have c:=h4.cell (show i<cap by omega);rw[h5 i hi]at c;rw[Nat.zero_add];exact⟨World.block_lt_of_cell? _ _ c,c⟩
theorem Ka{W W0:World}{v:Value}{s:ByteArray}{base:Nat}(hs:s.size≤4096)(h:OR W 9 base v (Ab s).length (tx (Ab s)))(he:EV W)(hk:KN W):Rp (W.heap.size+1) (W.alloc (.cells #[v,.bool false] 45)) W.heap.size (Ab s,false):=by
 have B:=Af (o:=.cells #[v,.bool false] 45) (Aa W);refine⟨⟨⟨v,CZ _ _,?_⟩⟩,by rw[World.size_alloc];omega,fun x hx=>Nat.le_trans (Eu s x hx) hs,he.go B,hk.go B,?_⟩
 ·obtain⟨a,cap,e,h1,h2⟩:=WK h;refine⟨a,cap,e,h1,h2.imp id ?_⟩;rintro⟨g,o,ha,hc⟩;exact⟨g,o,ha,fun i hi=>⟨Nat.lt_succ_of_lt (hc i hi).1,Ae B (hc i hi).2⟩⟩
 have:=Ds s;show(Ab s).length≤_;omega
theorem FN(w:World):NSl w none 0 0 (fun _ _=>0):=⟨Nat.le_refl _,by omega,fun i j hi=>by omega,.inl rfl⟩
theorem Qn(s:ByteArray)(KD n0 n1 n2 n3 n4:Int)(w:World)(hs:s.size≤4096)(he:EV w)(hk:KN w)(h6:KD≠6)(k0:Aq (Ab s,false) 0=KD)(k1:Aq (Ab s,false) 1=n0)(k2:Aq (Ab s,false) 2=n1)(k3:Aq (Ab s,false) 3=n2)(k4:Aq (Ab s,false) 4=n3)(k5:Aq (Ab s,false) 5=n4)(hd:De (Ab s,false)=([],false))(hc:A4 KD n0 n1 n2 n3 n4 (fun _ _=>0) 0=0):
  Calls Tryz.prog 4 #[.string s] w fun e w'=>e=.returned (.tuple #[.agg #[.int .i64 KD,.int .i64 n0,.int .i64 n1,.int .i64 n2,.int .i64 n3,.int .i64 n4,.slice none 0 0],.int .i64 0])∧Below w.heap.size w w':=by
 have HS:Hid _:=hs;have HE:Hid _:=he;have HK:Hid (KN w):=hk;have HD:Hid _:=hd;have HC:Hid _:=hc;have HV:Hid (∀e:Ending,e=Ending.returned (.agg #[.int .i64 (Aq (Ab s,false) 0),.int .i64 (Aq (Ab s,false) 1),.int .i64 (Aq (Ab s,false) 2),.int .i64 (Aq (Ab s,false) 3),.int .i64 (Aq (Ab s,false) 4),.int .i64 (Aq (Ab s,false) 5),.slice none 0 0])→e=.returned (.agg #[.int .i64 KD,.int .i64 n0,.int .i64 n1,.int .i64 n2,.int .i64 n3,.int .i64 n4,.slice none 0 0])):=by
  intro e q;rw[q,k0,k1,k2,k3,k4,k5]
 have H6:Hid (Aq (Ab s,false) 0≠6):=by show _≠_;rw[k0];exact h6
 clear he hk hd hc k0 k1 k2 k3 k4 k5 h6;have d0: ¬(4096:Int)<(s.size:Int):=by omega
 go_enter Tryz.func4,Tryz.ntmps4
 go_wp2_with fail
 refine(Gi s _ (by omega)).mono ?_;rintro e w1 ⟨v1,rfl,hO,hb1⟩;have B1:Hid (Below w.heap.size w w1):=AU (Af (Aa w)) hb1;have BA:Hid (Below (w.alloc (.cells #[.int .i64 0,.int .i64 0,.int .i64 0,.int .i64 0,.int .i64 0,.int .i64 0,.slice none 0 0] 24)).heap.size (w.alloc (.cells #[.int .i64 0,.int .i64 0,.int .i64 0,.int .i64 0,.int .i64 0,.int .i64 0,.slice none 0 0] 24)) w1):=hb1;have R1:Hid _:=Ka (W0:=w) hs hO (HE.out.go B1.out) (HK.out.go B1.out);have hsz1:=hb1.size;rw[World.size_alloc]at hsz1;have e1: ∃a n c,v1=.slice a n c:=by
  rcases hO with⟨q,_⟩| ⟨g,cap,f,q,_⟩
  ·exact⟨_,_,_,q⟩
  exact⟨_,_,_,q⟩
 obtain⟨a1,m1,c1,rfl⟩:=e1;clear hO hb1;go_wp2_with fail
 refine(KM w1.heap.size (Ab s,false) _ R1.out (by have:=Ds s;show(Ab s).length≤_;omega) H6.out).mono ?_;rintro e w2 ⟨he2,⟨lm2,hr2⟩,ho2⟩;have he3:=HV.out e he2;subst he3;rw[HD.out]at hr2;have R2:Hid _:=hr2;have O2:Hid _:=ho2;clear he2 hr2 ho2;go_wp2_with fail
 refine(J9 w1.heap.size [] false _ (R2.out.rd.go (Af (Aa w2)))).mono ?_;rintro e w3 ⟨rfl,rfl⟩;obtain⟨gC,eC⟩:=nme w2.heap.size;obtain⟨gR,eR⟩:=nme w.heap.size;obtain⟨w4,hw4⟩:=nme (w2.alloc (.cells #[.int .i64 KD,.int .i64 n0,.int .i64 n1,.int .i64 n2,.int .i64 n3,.int .i64 n4,.slice none 0 0] 24));have hsz2:=O2.out.size;rw[World.size_alloc]at hsz2;have hC:w4.heap[gC]? =some (.cells #[.int .i64 KD,.int .i64 n0,.int .i64 n1,.int .i64 n2,.int .i64 n3,.int .i64 n4,.slice none 0 0] 24):=by rw[hw4,eC];exact CZ _ _
 have hR:w4.heap[gR]? =some (.cells #[.int .i64 0,.int .i64 0,.int .i64 0,.int .i64 0,.int .i64 0,.int .i64 0,.slice none 0 0] 24):=by
  rw[hw4];refine((Af (Aa w2)).block gR (by omega)).trans ((O2.out.block gR (by rw[World.size_alloc];omega) (by omega)).trans (((Af (Aa w1)).block gR (by omega)).trans ((BA.out.block gR (by rw[World.size_alloc];omega)).trans ?_)));rw[eR];exact CZ _ _
 have W4:Hid (Below w.heap.size w w4):=by
  have q:Below w.heap.size (w1.alloc (.cells #[.slice a1 m1 c1,.bool false] 45)) w2:=O2.out.below (by rw[World.size_alloc];omega) (by omega);rw[hw4];exact Af ((Af B1.out).trans q)
 rw[←hw4,←eC,←eR];obtain⟨x0,x1,x2,x3,x4,x5,x6⟩:=cl7 hC;have G4:Hid _:=hR;have GC:Hid _:=hC;have lC:gC<w4.heap.size:=World.block_lt_of_cell? _ _ x0;have neg:Hid (gC≠gR):=by show gC≠gR;omega
 have HEQ:Hid _:=eR;clear hC hR hw4 eC eR;go_wp2_with fail
 refine(Et KD n0 n1 n2 n3 n4 none 0 0 (fun _ _=>0) _ (FN _)).mono ?_;rintro e w5 ⟨rfl,hb5⟩;rw[HC.out];have z0:=Ae hb5 x0;have z1:=Ae hb5 x1;have z2:=Ae hb5 x2;have z3:=Ae hb5 x3;have z4:=Ae hb5 x4;have z5:=Ae hb5 x5;have z6:=Ae hb5 x6;have G5:Hid (w5.heap[gR]? =some (.cells #[.int .i64 0,.int .i64 0,.int .i64 0,.int .i64 0,.int .i64 0,.int .i64 0,.slice none 0 0] 24)):=(hb5.block gR (Array.getElem?_eq_some_iff.1 G4.out).1).trans G4.out;have W5:Hid _:=AU W4.out hb5;clear x0 x1 x2 x3 x4 x5 x6 hb5;go_wp2_with (refine(id ?_:wpList Tryz.prog _ _ (⟨none,.store 24 (.tmp 2) (.tmp 24),_,_,_,_⟩::_) _ _);refine wpList_store_row rfl 24 (.tmp 2) (.tmp 24) rfl gR #[.int .i64 KD,.int .i64 n0,.int .i64 n1,.int .i64 n2,.int .i64 n3,.int .i64 n4,.slice none 0 0] rfl rfl 24 #[.int .i64 0,.int .i64 0,.int .i64 0,.int .i64 0,.int .i64 0,.int .i64 0,.slice none 0 0] G5.out (by kernel_rfl) (by kernel_rfl) (by kernel_rfl) ?_;refine Az (fun W=>W.heap[gR]? =some (.cells #[.int .i64 KD,.int .i64 n0,.int .i64 n1,.int .i64 n2,.int .i64 n3,.int .i64 n4,.slice none 0 0] 24)∧Below w.heap.size w W) ⟨setRow_heap _ _ _ _ _ _ G5.out,?_⟩ ?_)
 ·exact⟨W5.out.os,W5.out.tape,W5.out.output,by rw[size_setRow];exact W5.out.size,fun k hk=>(setRow_other _ _ _ _ (by have:=HEQ.out;omega)).trans (W5.out.block k hk)⟩
 intro w6 hR hB;have W6:Hid _:=hB;obtain⟨y0,y1,y2,y3,y4,y5,y6⟩:=cl7 hR;clear hB hR;go_wp2_with fail
 exact bodyPost_ret (v:=.tuple #[.agg #[.int .i64 KD,.int .i64 n0,.int .i64 n1,.int .i64 n2,.int .i64 n3,.int .i64 n4,.slice none 0 0],.int .i64 0]) (by simp[results,Tryz.results4,go_sem,y0,y1,y2,y3,y4,y5,y6]) rfl ⟨rfl,W6.out⟩
def suN(p:List ByteArray×Bool):List Nd:=if Aq p 0=6 then(6,0,0,0)::(nds (De p).1.length (De p)).1 else[]
def suS(p:List ByteArray×Bool):List ByteArray×Bool:=if Aq p 0=6 then(nds (De p).1.length (De p)).2 else De p
theorem Sf{lm:Nat}(rb:Nat)(p:List ByteArray×Bool)(w:World)(h:Rp lm w rb p)(hl:p.1.length≤40000):
  Calls Tryz.prog 13 #[.pointer (some ⟨rb,0,none⟩)] w fun e w'=> ∃v,e=.returned (.agg #[.int .i64 (Aq p 0),.int .i64 (Aq p 1),.int .i64 (Aq p 2),.int .i64 (Aq p 3),.int .i64 (Aq p 4),.int .i64 (Aq p 5),v])∧Nr w.heap.size w' v (suN p)∧(∃lm',Rp lm' w' rb (suS p))∧Ob rb w w':=by
 unfold suN suS;by_cases e:Aq p 0=6
 ·rw[if_pos e,if_pos e];refine(Qm rb p w h hl e).mono ?_;rintro en w' ⟨v,base,rfl,hb,hN,hr,ho⟩;rw[e];exact⟨v,rfl,Nr.weak hN hb,hr,ho⟩
 rw[if_neg e,if_neg e];refine(KM rb p w h hl e).mono ?_;rintro en w' ⟨rfl,hr,ho⟩;exact⟨_,rfl,Nr.nil _ _,hr,ho⟩
theorem WL{x:ByteArray}{v:Int}(h:nvV x=some v): -9223372036854775808≤v∧v≤9223372036854775807:=by
 unfold nvV at h;split at h
 ·rename_i u hu;split at h
  ·cases h
  cases h;unfold Lib.atoiAll at hu;split at hu
  ·cases hu
  split at hu
  ·cases hu
  ·cases hu
  dsimp only at hu;split at hu
  ·cases hu
  split at hu
  ·cases hu
  rename_i c1 c2;cases hu;split<;>omega
 cases h
theorem Np(p:List ByteArray×Bool): -9223372036854775808≤nmI p∧nmI p≤9223372036854775807:=by
 unfold nmI;cases e:nvV (hdT p.1)with
 |none=>simp
 |some v=>exact WL e
theorem Im(x:ByteArray):0≤kdV x∧kdV x≤6:=by
 unfold kdV;repeat' split
 all_goals omega
def Kb(x:Nd):Prop:=(-9223372036854775808≤x.1∧x.1≤9223372036854775807)∧(-9223372036854775808≤x.2.1∧x.2.1≤9223372036854775807)∧(-9223372036854775808≤x.2.2.1∧x.2.2.1≤9223372036854775807)∧(-9223372036854775808≤x.2.2.2∧x.2.2.2≤9223372036854775807)
theorem Sg: ∀(k:Nat) (p:List ByteArray×Bool),∀x∈(nds k p).1,Kb x
 |0,p,x,hx=>by cases hx
 |k+1,p,x,hx=>by
  unfold nds at hx;split at hx
  ·cases hx
  rcases List.mem_cons.1 hx with rfl|q
  ·exact⟨by have:=Im (hdT (naS ⟨#[110,111,100,101]⟩ p).1);show _≤kdV _∧kdV _≤_;omega,Np _,Np _,Np _⟩
  exact Sg k _ x q
theorem KW(p:List ByteArray×Bool): ∀x∈suN p,Kb x:=by
 intro x hx;unfold suN at hx;split at hx
 ·rcases List.mem_cons.1 hx with rfl|q
  ·exact⟨by decide,by decide,by decide,by decide⟩
  exact Sg _ _ x q
 cases hx
def gOf(L:List Nd)(i j:Nat):Int:=match j with
 |0=>(L.getD i nd0).1
 |1=>(L.getD i nd0).2.1
 |2=>(L.getD i nd0).2.2.1
 |_=>(L.getD i nd0).2.2.2
theorem Io{base:Nat}{W:World}{a:Option Addr}{n cap:Nat}{L:List Nd}(h:Nr base W (.slice a n cap) L)(hi: ∀x∈L,Kb x):n=L.length∧NSl W a n cap (gOf L):=by
 have hw: ∀i j,i<L.length→j<4→ -9223372036854775808≤gOf L i j∧gOf L i j≤9223372036854775807:=fun i j h1 h2=>by
  have q:=hi (L.getD i nd0) (by rw[List.getD,List.getElem?_eq_getElem h1];exact List.getElem_mem _);unfold gOf;match j,h2 with
  |0,_=>exact q.1
  |1,_=>exact q.2.1
  |2,_=>exact q.2.2.1
  |3,_=>exact q.2.2.2
 obtain⟨a',cap',e,hs,hz⟩:=Nr.sl h;have e1:n=L.length:=by cases e;rfl
 have lc:n≤cap∧cap≤9223372036854775807:=by
  rcases h.2 with⟨q,q0⟩| ⟨g,c2,cur,q,_,_,q1,q2,_,_⟩
  ·cases q;exact⟨by omega,by omega⟩
  cases q;exact⟨q1,by simp only[maxLen]at q2;omega⟩
 refine⟨e1,lc.1,lc.2,fun i j h1 h2=>hw i j (by omega) h2,?_⟩;rcases Nat.eq_zero_or_pos n with q|q
 ·exact .inl q
 obtain⟨g,ha,_,_,hc⟩:=hs (by omega);cases e;refine .inr ⟨g,0,ha,fun i j h1 h2=> ?_⟩;obtain⟨c0,c1,c2,c3⟩:=hc i h1;match j,h2 with
 |0,_=>rw[Nat.zero_add,Nat.add_zero];exact c0
 |1,_=>rw[Nat.zero_add];exact c1
 |2,_=>rw[Nat.zero_add];exact c2
 |3,_=>rw[Nat.zero_add];exact c3
def prC(s:ByteArray):Int:=A4 (Aq (Ab s,false) 0) (Aq (Ab s,false) 1) (Aq (Ab s,false) 2) (Aq (Ab s,false) 3) (Aq (Ab s,false) 4) (Aq (Ab s,false) 5) (gOf (suN (Ab s,false))) (suN (Ab s,false)).length
def prE(s:ByteArray):Int:=if 4096<s.size then 2 else if(!(suS (Ab s,false)).2&&(suS (Ab s,false)).1.isEmpty)=false then 201 else prC s
def prI(s:ByteArray)(i:Nat):Int:=if prE s=0 then Aq (Ab s,false) i else 0
def prN(s:ByteArray):List Nd:=if prE s=0 then suN (Ab s,false) else[]
theorem Ip(s:ByteArray)(i:Nat):sb s i=(s.data.toList.getD i 0).toNat:=by
 unfold sb;have e:s.size=s.data.toList.length:=by rw[Array.length_toList];rfl
 split
 ·rename_i h;have h2:i<s.data.toList.length:=by omega
  rw[List.getD,List.getElem?_eq_getElem h2];rfl
 rename_i h;rw[List.getD,List.getElem?_eq_none (by omega)];rfl
end Go.Proofs.YtbikpmmpgbggaaaGreatDoor
