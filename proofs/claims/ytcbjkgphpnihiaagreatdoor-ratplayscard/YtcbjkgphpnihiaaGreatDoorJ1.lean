/- Contracts of the program's functions, part 1: own work, joined in build order. -/
import Derived.Test.YtcbjkgphpnihiaaGreatDoorRows
import Derived.WalkKit
import Derived.WalkSpells
import Derived.WalkLawsBesides
import Derived.Deep.OwnRows
import Derived.Deep.QuietTactic
import Derived.BigQuiet
import Derived.Laws.MathBits
import Derived.Laws.Externs
import Derived.Shelf.Spec.BitsCarry
import Derived.Laws.CopyOwn
namespace Go.Proofs.YtcbjkgphpnihiaaGreatDoor
open Go.RowKit
set_option maxHeartbeats 16000000
theorem clAt{W:World}{g:Nat}{c:Array Value}{t:TypeId}(h:W.heap[g]? =some (.cells c t))(i:Nat)(v:Value)(hv:c[i]? =some v):W.cell? ⟨g,i,none⟩=some v:=by simp only[World.cell?,h];exact hv
theorem fzAt{W:World}{g:Nat}{c:Array Value}{t:TypeId}(h:W.heap[g]? =some (.cells c t))(i:Nat):W.frozen? ⟨g,i,none⟩=false:=by simp[World.frozen?,h]
theorem cl7{W:World}{g:Nat}{t:TypeId}{a0 a1 a2 a3 a4 a5 a6:Value}(h:W.heap[g]? =some (.cells #[a0,a1,a2,a3,a4,a5,a6] t)):W.cell? ⟨g,0,none⟩=some a0∧W.cell? ⟨g,1,none⟩=some a1∧W.cell? ⟨g,2,none⟩=some a2∧W.cell? ⟨g,3,none⟩=some a3∧W.cell? ⟨g,4,none⟩=some a4∧W.cell? ⟨g,5,none⟩=some a5∧W.cell? ⟨g,6,none⟩=some a6:=⟨clAt h 0 _ rfl,clAt h 1 _ rfl,clAt h 2 _ rfl,clAt h 3 _ rfl,clAt h 4 _ rfl,clAt h 5 _ rfl,clAt h 6 _ rfl⟩
theorem cl8{W:World}{g:Nat}{t:TypeId}{a0 a1 a2 a3 a4 a5 a6 a7:Value}(h:W.heap[g]? =some (.cells #[a0,a1,a2,a3,a4,a5,a6,a7] t)):W.cell? ⟨g,0,none⟩=some a0∧W.cell? ⟨g,1,none⟩=some a1∧W.cell? ⟨g,2,none⟩=some a2∧W.cell? ⟨g,3,none⟩=some a3∧W.cell? ⟨g,4,none⟩=some a4∧W.cell? ⟨g,5,none⟩=some a5∧W.cell? ⟨g,6,none⟩=some a6∧W.cell? ⟨g,7,none⟩=some a7:=⟨clAt h 0 _ rfl,clAt h 1 _ rfl,clAt h 2 _ rfl,clAt h 3 _ rfl,clAt h 4 _ rfl,clAt h 5 _ rfl,clAt h 6 _ rfl,clAt h 7 _ rfl⟩
theorem nmd{α:Sort _}(x:α): ∃y,x=y:=⟨_,rfl⟩
theorem nme{α:Sort _}(x:α): ∃y,y=x:=⟨_,rfl⟩
def P(n:Nat):Nat:=18446744073709551616^n
theorem CP:P 0=1:=rfl
theorem Bo(n:Nat):P (n+1)=P n*18446744073709551616:=Nat.pow_succ ..
theorem CK:P 1=18446744073709551616:=by rw[Bo,CP,Nat.one_mul]
theorem DJ(a b:Nat):P (a+b)=P a*P b:=Nat.pow_add ..
theorem CV(n:Nat):0<P n:=Nat.pow_pos (by decide)
theorem Cs{a b:Nat}(h:a≤b):P a≤P b:=Nat.pow_le_pow_right (by decide) h
theorem CQ{a b:Nat}(h:a<b):P a<P b:=Nat.pow_lt_pow_right (by decide) h
def V(F:Nat→Nat):Nat→Nat
 |0=>0
 |n+1=>V F n+F n*P n
theorem Bd(F:Nat→Nat):V F 0=0:=rfl
theorem At(F:Nat→Nat)(n:Nat):V F (n+1)=V F n+F n*P n:=rfl
theorem A4{F G:Nat→Nat}: ∀{n:Nat},(∀i,i<n→F i=G i)→V F n=V G n
 |0,_=>rfl
 |n+1,h=>by rw[At,At,A4 fun i hi=>h i (by omega),h n (by omega)]
def Ok(F:Nat→Nat)(n:Nat):Prop:= ∀i,i<n→F i<18446744073709551616
theorem Ok.mono{F:Nat→Nat}{m n:Nat}(h:Ok F n)(hm:m≤n):Ok F m:=fun i hi=>h i (by omega)
theorem BU{F:Nat→Nat}: ∀{n:Nat},Ok F n→V F n<P n
 |0,_=>by rw[Bd,CP];omega
 |n+1,h=>by
  have h1:=BU (h.mono (Nat.le_succ n));have h2:=h n (by omega);have h3:(F n+1)*P n≤18446744073709551616*P n:=Nat.mul_le_mul_right _ (by omega);rw[At,Bo,Nat.mul_comm (P n)];rw[Nat.add_mul]at h3;omega
theorem Ba(F:Nat→Nat)(m:Nat): ∀n,V F (m+n)=V F m+P m*V (fun i=>F (m+i)) n
 |0=>by simp[Bd]
 |n+1=>by
  rw[←Nat.add_assoc,At,Ba F m n,At,DJ,Nat.mul_add,Nat.add_assoc,Nat.mul_left_comm]
theorem NT(F:Nat→Nat)(n:Nat)(h:0<n):F (n-1)*P (n-1)≤V F n:=by
 obtain⟨m,rfl⟩: ∃m,n=m+1:=⟨n-1,by omega⟩;rw[At,Nat.add_sub_cancel];omega
theorem Dm: ∀n,V (fun _=>0) n=0
 |0=>rfl
 |n+1=>by rw[At,Dm n,Nat.zero_mul]
theorem FU{F:Nat→Nat}{n:Nat}(h: ∀i,i<n→F i=0):V F n=0:=by
 rw[A4 (G:=fun _=>0) h,Dm]
theorem GK{F:Nat→Nat}{m n:Nat}(hm:m≤n)(h: ∀i,m≤i→i<n→F i=0):V F n=V F m:=by
 obtain⟨k,rfl⟩: ∃k,n=m+k:=⟨n-m,by omega⟩;rw[Ba,FU fun i hi=>h (m+i) (by omega) (by omega),Nat.mul_zero,Nat.add_zero]
def lim:Nat:=4294967296
theorem KE{n:Nat}(h:n≤lim):n≤4294967296:=h
structure Ar (x:Nat):Prop where
 lt:x<P lim
theorem Fq{F:Nat→Nat}{n m:Nat}(hm:m<n)(h1:F (n-1)≠0):P m≤V F n:=by
 have h2:P m≤P (n-1):=Cs (by omega);have h3:=NT F n (by omega);have h4:1*P (n-1)≤F (n-1)*P (n-1):=Nat.mul_le_mul_right _ (by omega);omega
theorem Ch{F:Nat→Nat}{n m:Nat}(h:V F n<P m)(h1:0<n→F (n-1)≠0):n≤m:=by
 rcases Nat.lt_or_ge m n with h'|h'
 ·exact absurd h (Nat.not_lt.2 (Fq h' (h1 (by omega))))
 exact h'
theorem AM{F:Nat→Nat}{n:Nat}(h:Ar (V F n))(h1:0<n→F (n-1)≠0):n≤4294967296:=KE (Ch h.lt h1)
def Cq(w:World)(b o n:Nat)(F:Nat→Nat):Prop:= ∀i,i<n→w.cell? ⟨b,o+i,none⟩=some (.int .u64 (F i:Nat))
def Sl(w:World)(a:Option Addr)(n cap:Nat)(F:Nat→Nat):Prop:=
 n≤cap∧cap≤9223372036854775807∧Ok F n∧(n=0∨ ∃b o,a=some ⟨b,o,none⟩∧Cq w b o n F)
def Ac(w:World)(v:Value)(x:Nat):Prop:=
 ∃a n cap F,v=.agg #[.slice a n cap]∧Sl w a n cap F∧(n=0→a=none∧cap=0)∧(0<n→F (n-1)≠0)∧V F n=x
theorem Cq.mono{w w':World}{b o n:Nat}{F:Nat→Nat}(h:Cq w b o n F)(hb:Below w.heap.size w w'):Cq w' b o n F:=
 fun i hi=>cell_later hb (h i hi)
theorem Sl.mono{w w':World}{a:Option Addr}{n cap:Nat}{F:Nat→Nat}(h:Sl w a n cap F)(hb:Below w.heap.size w w'):Sl w' a n cap F:=by
 obtain⟨h1,h2,h3,h4⟩:=h;refine⟨h1,h2,h3,h4.imp id ?_⟩;rintro⟨b,o,ha,hw⟩;exact⟨b,o,ha,hw.mono hb⟩
theorem Ac.mono{w w':World}{v:Value}{x:Nat}(h:Ac w v x)(hb:Below w.heap.size w w'):Ac w' v x:=by
 obtain⟨a,n,cap,F,rfl,hs,h0,h1,hv⟩:=h;exact⟨a,n,cap,F,rfl,hs.mono hb,h0,h1,hv⟩
theorem B7(w:World):Ac w (.agg #[.slice none 0 0]) 0:=
 ⟨none,0,0,fun _=>0,rfl,⟨Nat.le_refl _,by omega,fun i hi=>absurd hi (by omega),.inl rfl⟩,fun _=>⟨rfl,rfl⟩,fun h=>absurd h (by omega),rfl⟩
theorem Ag(w:World):Below w.heap.size w w:=Below.refl _ _
theorem AU{a b c:World}(h:Below a.heap.size a b)(k:Below b.heap.size b c):Below a.heap.size a c:=h.trans (k.mono h.size)
theorem AN{k:IntKind}{a b:Int}(h:a=b):Ending.returned (.int k a)=.returned (.int k b):=by rw[h]
theorem Tryz.info22:(Tryz.prog.info? 56).map (fun i=>(i.zero,i.size,i.bytes))=some (some (.int .u64 0),1,8):=by kernel_rfl
set_option maxRecDepth 100000
theorem Sl.at{w:World}{a:Option Addr}{n cap:Nat}{F:Nat→Nat}(h:Sl w a n cap F)(i:Nat)(hi:i<n): ∃b o,a=some ⟨b,o,none⟩∧Cq w b o n F:=by
 rcases h.2.2.2 with h0|h0
 ·omega
 exact h0
theorem KG{w:World}{b o n cap k:Nat}{F:Nat→Nat}(h:Sl w (some ⟨b,o,none⟩) n cap F)(hk:k≤n)(h0:0<k)(hz: ∀i,k≤i→i<n→F i=0)(hf:F (k-1)≠0):
  Ac w (.agg #[.slice (some ⟨b,o,none⟩) k cap]) (V F n):=by
 obtain⟨b',o',e,hw⟩:=h.at 0 (by omega);cases e;refine⟨_,k,cap,F,rfl,⟨by have:=h.1;omega,h.2.1,h.2.2.1.mono hk,.inr ⟨b,o,rfl,fun i hi=>hw i (by omega)⟩⟩,fun e=>absurd e (by omega),fun _=>hf,(GK hk hz).symm⟩
theorem Bp(a:Option Addr)(n cap:Nat)(F:Nat→Nat)(w:World)(h:Sl w a n cap F)(hn:n≤1099511627776):
  Calls Tryz.prog 48 #[.slice a n cap] w fun e w'=> ∃v,e=.returned v∧Ac w' v (V F n)∧Below w.heap.size w w':=by
 go_enter Tryz.func48,Tryz.ntmps48
 go_wp2
 go_loop [3] (fun t=> ∃k:Nat,k≤n∧t=.int .i64 k∧(∀i,k≤i→i<n→F i=0)) (fun t=>(intOf t).toNat)
 case atStart=>exact⟨n,Nat.le_refl _,rfl,fun i h1 h2=>absurd h1 (by omega)⟩
 case round=>
  obtain⟨k,hk,rfl,hz⟩:=hrel;by_cases h0:k=0
  ·subst h0;have HZ:Hid _:=hz;clear hz;go_wp2
   refine bodyPost_ret (v:=.agg #[.slice none 0 0]) (by simp[results,Tryz.results48,go_sem]) rfl ⟨_,rfl,?_,?_⟩
   ·rw[FU fun i hi=>HZ.out i (Nat.zero_le _) hi];exact B7 _
   exact(Below.refl _ _).alloc (Nat.le_refl _) _
  obtain⟨b,o,rfl,hw⟩:=h.at (k-1) (by omega);have hc:(w.alloc (.cells #[.slice none 0 0] 27)).cell? ⟨b,o+(k-1),none⟩=some (.int .u64 (F (k-1):Nat)):=cell_later ((Below.refl _ _).alloc (Nat.le_refl _) _) (hw (k-1) (by omega));have h0':(0:Int)<k:=by omega
  have HZ:Hid _:=hz;have HW:Hid _:=hw;have HH:Hid _:=h;clear hz hw h;by_cases hf:F (k-1)=0
  ·rw[hf]at hc;go_wp2
   go_round
   case rel=>
    refine⟨k-1,by omega,by go_num,fun i h1 h2=> ?_⟩;by_cases e:i=k-1
    ·rw[e,hf]
    exact HZ.out i (by omega) h2
   case measure=>simp[intOf];omega
  have hne:(((F (k-1):Nat):Int)==0)=false:=by simp;omega
  have hk0:((k:Int)==0)=false:=by simp;omega
  have hcap:(k:Int)≤cap:=by have:=HH.out.1;omega
  go_wp2
  refine bodyPost_ret (v:=.agg #[.slice (some ⟨b,o,none⟩) k cap]) (by simp[results,Tryz.results48,go_sem]) rfl ⟨_,rfl,?_,?_⟩
  ·exact(KG HH.out hk (by omega) HZ.out hf).mono ((Below.refl _ _).alloc (Nat.le_refl _) _)
  exact(Below.refl _ _).alloc (Nat.le_refl _) _
theorem KH(w:World)(n g:Nat)(hn:n<18446744073709551616)(hg:g=w.heap.size)(t:TypeId):Sl (w.alloc (.cells #[.int .u64 (n:Int)] t)) (some ⟨g,0,none⟩) 1 1 (fun _=>n):=
 ⟨Nat.le_refl _,by omega,fun _ _=>hn,.inr ⟨g,0,rfl,fun i hi=>by
  obtain rfl:i=0:=by omega
  subst hg;simp⟩⟩
theorem Sl.setCell{w:World}{a:Option Addr}{n cap:Nat}{F:Nat→Nat}(h:Sl w a n cap F){p:Addr}(hp: ∀k q,w.cell? p≠some (.int k q))(u:Value):Sl (w.setCell p u) a n cap F:=by
 obtain⟨h1,h2,h3,h4⟩:=h;refine⟨h1,h2,h3,h4.imp id ?_⟩;rintro⟨b,o,ha,hw⟩;refine⟨b,o,ha,fun i hi=> ?_⟩;have hne:(⟨b,o+i,none⟩:Addr)≠p:=fun e=>hp _ _ (e▸hw i hi);exact(World.cell?_setCell_other (h:=hne.symm) ..).trans (hw i hi)
theorem Ac.setCell{w:World}{v:Value}{x:Nat}(h:Ac w v x){p:Addr}(hp: ∀k q,w.cell? p≠some (.int k q))(u:Value):Ac (w.setCell p u) v x:=by
 obtain⟨a,n,cap,F,rfl,hs,h0,h1,hv⟩:=h;exact⟨a,n,cap,F,rfl,hs.setCell hp u,h0,h1,hv⟩
theorem Af{w:World}{p:Addr}{a:Option Addr}{n c:Nat}(h:w.cell? p=some (.slice a n c)): ∀k q,w.cell? p≠some (.int k q):=fun k q e=>by rw[h]at e;cases e
theorem CR(n:Nat)(w:World)(hn:n<18446744073709551616):
  Calls Tryz.prog 19 #[.int .u64 (n:Int)] w fun e w'=> ∃v,e=.returned v∧Ac w' v n∧Below w.heap.size w w':=by
 go_enter Tryz.func19,Tryz.ntmps19
 go_wp2_with fail
 refine(Bp _ 1 1 (fun _=>n) _ (KH _ n _ hn (by simp) _) (by omega)).mono ?_;rintro e w1 ⟨v,rfl,hv,hb⟩;have hc:w1.cell? ⟨w.heap.size,0,none⟩=some (.slice none 0 0):=cell_later hb (by simp);have hf:w1.frozen? ⟨w.heap.size,0,none⟩=false:=(hb.frozen (by simp;omega)).trans (by simp);have HBB:Hid (Below w.heap.size w w1):=((((Below.refl _ _).alloc (Nat.le_refl _) _).alloc (by simp) _)).trans (hb.mono (by simp;omega));obtain⟨a',n',cap',F',rfl,HF⟩:=id hv;have HV:Hid _:=hv;clear hb hv HF;go_wp2_with fail
 refine bodyPost_ret (v:=.agg #[.slice a' n' cap']) (by simp[results,Tryz.results19,go_sem,hc]) rfl ⟨_,rfl,?_,?_⟩
 ·have hx:Ac w1 _ _:=HV.out;rw[At,Bd,CP,Nat.zero_add,Nat.mul_one]at hx;exact hx.setCell (Af hc) _
 exact HBB.out.setCell (Nat.le_refl _) _
theorem De(n:Int)(h0:0≤n)(h:n≤1000):wrap64 n=n:=IntWalk.wrap64_in n ⟨by omega,by omega⟩
theorem J3(n:Nat)(h:4294967296≤n):bitLen n=32+bitLen (n/4294967296):=bitLen_shift n 32 (by show n/4294967296≠0;omega)
theorem J4(n:Nat)(h:65536≤n):bitLen n=16+bitLen (n/65536):=bitLen_shift n 16 (by show n/65536≠0;omega)
theorem sh8(n:Nat)(h:256≤n):bitLen n=8+bitLen (n/256):=bitLen_shift n 8 (by show n/256≠0;omega)
theorem Dn(k i n:Nat)(z:Int)(hz:z=(k:Int))(h:i<256)(hk:k≤56)(e:bitLen n=k+bitLen i):wrap64 (z+wrap64 ((bitLen i:Nat):Int))=((bitLen n:Nat):Int):=by
 have hb:=bitLen_le8 i h;subst hz;rw[De ((bitLen i:Nat):Int) (by omega) (by omega),De _ (by omega) (by omega),e];omega
theorem LR(n:Nat)(h:n<256):wrap64 (wrap64 ((bitLen n:Nat):Int))=((bitLen n:Nat):Int):=by
 have hb:=bitLen_le8 n h;rw[De ((bitLen n:Nat):Int) (by omega) (by omega),De _ (by omega) (by omega)]
theorem Ca(n:Nat)(h:n<18446744073709551616):bitLen n≤64:=by
 unfold bitLen;split
 ·omega
 rename_i h0;have:=(Nat.log2_lt h0).2 (show n<2^64 from h);omega
theorem KI(n m k j:Nat)(w:World)(hn:n<18446744073709551616)(i0:decide ((4294967296:Int)≤(n:Int))=true)(i1:(n:Int)/4294967296=(m:Int))(i2:decide ((65536:Int)≤(m:Int))=true)(i3:(m:Int)/65536=(k:Int))(i4:decide ((256:Int)≤(k:Int))=true)(i5:(k:Int)/256=(j:Int))(i6:(j:Int)<256):
  Calls Tryz.prog 87 #[.int .u64 (n:Int)] w fun e w'=>e=.returned (.int .i64 ((bitLen n:Nat):Int))∧w'=w:=by
 have Q0:Hid (4294967296≤n):=by have:=of_decide_eq_true i0;show 4294967296≤n;omega
 have Q1:Hid (65536≤m):=by have:=of_decide_eq_true i2;show 65536≤m;omega
 have Q2:Hid (256≤k):=by have:=of_decide_eq_true i4;show 256≤k;omega
 go_enter Tryz.func87,Tryz.ntmps87
 go_wp2
 go_ret
 refine⟨AN ?_,rfl⟩;simp only[len8tab_get];exact Dn 56 j n 56 (by omega) (by omega) (by omega) (by rw[J3 n Q0.out,show n/4294967296=m from by omega,J4 m Q1.out,show m/65536=k from by omega,sh8 k Q2.out,show k/256=j from by omega]<;>omega)
theorem KJ(n m k:Nat)(w:World)(hn:n<18446744073709551616)(i0:decide ((4294967296:Int)≤(n:Int))=true)(i1:(n:Int)/4294967296=(m:Int))(i2:decide ((65536:Int)≤(m:Int))=true)(i3:(m:Int)/65536=(k:Int))(i4:decide ((256:Int)≤(k:Int))=false)(i5:(k:Int)<256):
  Calls Tryz.prog 87 #[.int .u64 (n:Int)] w fun e w'=>e=.returned (.int .i64 ((bitLen n:Nat):Int))∧w'=w:=by
 have Q0:Hid (4294967296≤n):=by have:=of_decide_eq_true i0;show 4294967296≤n;omega
 have Q1:Hid (65536≤m):=by have:=of_decide_eq_true i2;show 65536≤m;omega
 go_enter Tryz.func87,Tryz.ntmps87
 go_wp2
 go_ret
 refine⟨AN ?_,rfl⟩;simp only[len8tab_get];exact Dn 48 k n 48 (by omega) (by omega) (by omega) (by rw[J3 n Q0.out,show n/4294967296=m from by omega,J4 m Q1.out,show m/65536=k from by omega]<;>omega)
theorem KL(n m j:Nat)(w:World)(hn:n<18446744073709551616)(i0:decide ((4294967296:Int)≤(n:Int))=true)(i1:(n:Int)/4294967296=(m:Int))(i2:decide ((65536:Int)≤(m:Int))=false)(i3:decide ((256:Int)≤(m:Int))=true)(i4:(m:Int)/256=(j:Int))(i5:(j:Int)<256):
  Calls Tryz.prog 87 #[.int .u64 (n:Int)] w fun e w'=>e=.returned (.int .i64 ((bitLen n:Nat):Int))∧w'=w:=by
 have Q0:Hid (4294967296≤n):=by have:=of_decide_eq_true i0;show 4294967296≤n;omega
 have Q1:Hid (256≤m):=by have:=of_decide_eq_true i3;show 256≤m;omega
 go_enter Tryz.func87,Tryz.ntmps87
 go_wp2
 go_ret
 refine⟨AN ?_,rfl⟩;simp only[len8tab_get];exact Dn 40 j n 40 (by omega) (by omega) (by omega) (by rw[J3 n Q0.out,show n/4294967296=m from by omega,sh8 m Q1.out,show m/256=j from by omega]<;>omega)
theorem KM(n m:Nat)(w:World)(hn:n<18446744073709551616)(i0:decide ((4294967296:Int)≤(n:Int))=true)(i1:(n:Int)/4294967296=(m:Int))(i2:decide ((65536:Int)≤(m:Int))=false)(i3:decide ((256:Int)≤(m:Int))=false)(i4:(m:Int)<256):
  Calls Tryz.prog 87 #[.int .u64 (n:Int)] w fun e w'=>e=.returned (.int .i64 ((bitLen n:Nat):Int))∧w'=w:=by
 have Q0:Hid (4294967296≤n):=by have:=of_decide_eq_true i0;show 4294967296≤n;omega
 go_enter Tryz.func87,Tryz.ntmps87
 go_wp2
 go_ret
 refine⟨AN ?_,rfl⟩;simp only[len8tab_get];exact Dn 32 m n 32 (by omega) (by omega) (by omega) (by rw[J3 n Q0.out,show n/4294967296=m from by omega]<;>omega)
theorem KN(n k j:Nat)(w:World)(hn:n<18446744073709551616)(i0:decide ((4294967296:Int)≤(n:Int))=false)(i1:decide ((65536:Int)≤(n:Int))=true)(i2:(n:Int)/65536=(k:Int))(i3:decide ((256:Int)≤(k:Int))=true)(i4:(k:Int)/256=(j:Int))(i5:(j:Int)<256):
  Calls Tryz.prog 87 #[.int .u64 (n:Int)] w fun e w'=>e=.returned (.int .i64 ((bitLen n:Nat):Int))∧w'=w:=by
 have Q0:Hid (65536≤n):=by have:=of_decide_eq_true i1;show 65536≤n;omega
 have Q1:Hid (256≤k):=by have:=of_decide_eq_true i3;show 256≤k;omega
 go_enter Tryz.func87,Tryz.ntmps87
 go_wp2
 go_ret
 refine⟨AN ?_,rfl⟩;simp only[len8tab_get];exact Dn 24 j n 24 (by omega) (by omega) (by omega) (by rw[J4 n Q0.out,show n/65536=k from by omega,sh8 k Q1.out,show k/256=j from by omega]<;>omega)
theorem KO(n k:Nat)(w:World)(hn:n<18446744073709551616)(i0:decide ((4294967296:Int)≤(n:Int))=false)(i1:decide ((65536:Int)≤(n:Int))=true)(i2:(n:Int)/65536=(k:Int))(i3:decide ((256:Int)≤(k:Int))=false)(i4:(k:Int)<256):
  Calls Tryz.prog 87 #[.int .u64 (n:Int)] w fun e w'=>e=.returned (.int .i64 ((bitLen n:Nat):Int))∧w'=w:=by
 have Q0:Hid (65536≤n):=by have:=of_decide_eq_true i1;show 65536≤n;omega
 go_enter Tryz.func87,Tryz.ntmps87
 go_wp2
 go_ret
 refine⟨AN ?_,rfl⟩;simp only[len8tab_get];exact Dn 16 k n 16 (by omega) (by omega) (by omega) (by rw[J4 n Q0.out,show n/65536=k from by omega]<;>omega)
theorem KR(n j:Nat)(w:World)(hn:n<18446744073709551616)(i0:decide ((4294967296:Int)≤(n:Int))=false)(i1:decide ((65536:Int)≤(n:Int))=false)(i2:decide ((256:Int)≤(n:Int))=true)(i3:(n:Int)/256=(j:Int))(i4:(j:Int)<256):
  Calls Tryz.prog 87 #[.int .u64 (n:Int)] w fun e w'=>e=.returned (.int .i64 ((bitLen n:Nat):Int))∧w'=w:=by
 have Q0:Hid (256≤n):=by have:=of_decide_eq_true i2;show 256≤n;omega
 go_enter Tryz.func87,Tryz.ntmps87
 go_wp2
 go_ret
 refine⟨AN ?_,rfl⟩;simp only[len8tab_get];exact Dn 8 j n 8 (by omega) (by omega) (by omega) (by rw[sh8 n Q0.out,show n/256=j from by omega]<;>omega)
theorem KS(n:Nat)(w:World)(hn:n<18446744073709551616)(i0:decide ((4294967296:Int)≤(n:Int))=false)(i1:decide ((65536:Int)≤(n:Int))=false)(i2:decide ((256:Int)≤(n:Int))=false)(i3:(n:Int)<256):
  Calls Tryz.prog 87 #[.int .u64 (n:Int)] w fun e w'=>e=.returned (.int .i64 ((bitLen n:Nat):Int))∧w'=w:=by
 go_enter Tryz.func87,Tryz.ntmps87
 go_wp2
 go_ret
 refine⟨AN ?_,rfl⟩;simp only[len8tab_get];exact LR n (by omega)
theorem Hk(n:Nat)(w:World)(hn:n<18446744073709551616):
  Calls Tryz.prog 87 #[.int .u64 (n:Int)] w fun e w'=>e=.returned (.int .i64 ((bitLen n:Nat):Int))∧w'=w:=by
 by_cases h1:4294967296≤n
 ·by_cases h2:65536≤n/4294967296
  ·by_cases h3:256≤n/4294967296/65536
   ·exact KI n (n/4294967296) ((n/4294967296)/65536) (((n/4294967296)/65536)/256) w hn (decide_eq_true (by omega)) (by omega) (decide_eq_true (by omega)) (by omega) (decide_eq_true (by omega)) (by omega) (by omega)
   exact KJ n (n/4294967296) ((n/4294967296)/65536) w hn (decide_eq_true (by omega)) (by omega) (decide_eq_true (by omega)) (by omega) (decide_eq_false (by omega)) (by omega)
  by_cases h3:256≤n/4294967296
  ·exact KL n (n/4294967296) ((n/4294967296)/256) w hn (decide_eq_true (by omega)) (by omega) (decide_eq_false (by omega)) (decide_eq_true (by omega)) (by omega) (by omega)
  exact KM n (n/4294967296) w hn (decide_eq_true (by omega)) (by omega) (decide_eq_false (by omega)) (decide_eq_false (by omega)) (by omega)
 by_cases h2:65536≤n
 ·by_cases h3:256≤n/65536
  ·exact KN n (n/65536) ((n/65536)/256) w hn (decide_eq_false (by omega)) (decide_eq_true (by omega)) (by omega) (decide_eq_true (by omega)) (by omega) (by omega)
  exact KO n (n/65536) w hn (decide_eq_false (by omega)) (decide_eq_true (by omega)) (by omega) (decide_eq_false (by omega)) (by omega)
 by_cases h3:256≤n
 ·exact KR n (n/256) w hn (decide_eq_false (by omega)) (decide_eq_false (by omega)) (decide_eq_true (by omega)) (by omega) (by omega)
 exact KS n w hn (decide_eq_false (by omega)) (decide_eq_false (by omega)) (decide_eq_false (by omega)) (by omega)
theorem Ih(n:Nat)(w:World)(hn:n<18446744073709551616):
  Calls Tryz.prog 106 #[.int .u64 (n:Int)] w fun e w'=>e=.returned (.int .i64 ((64-bitLen n:Nat):Int))∧w'=w:=by
 have hb:=Ca n hn;go_enter Tryz.func106,Tryz.ntmps106
 go_wp2_with fail
 refine(Hk n _ hn).mono ?_;rintro e w' ⟨rfl,rfl⟩;go_wp2_with fail
 go_ret
 exact⟨AN (by omega),rfl⟩
theorem DK(n:Nat):P n=2^(64*n):=by
 unfold P;rw[show(18446744073709551616:Nat)=2^64 from rfl,←Nat.pow_mul]
theorem OA{F:Nat→Nat}{n:Nat}(h:Ok F n):V F (n+1)/P n=F n:=by
 rw[At,Nat.add_mul_div_right _ _ (CV n),Nat.div_eq_of_lt (BU h),Nat.zero_add]
theorem Fb{F:Nat→Nat}{n:Nat}(h:Ok F (n+1))(h0:F n≠0):bitLen (V F (n+1))=64*n+bitLen (F n):=by
 have e:=OA (h.mono (Nat.le_succ n));have hs:=bitLen_shift (V F (n+1)) (64*n) (by rw[←DK,e];exact h0);rw[←DK,e]at hs;exact hs
theorem Do{w:World}{a:Option Addr}{n cap:Nat}{x:Nat}(h:Ac w (.agg #[.slice a n cap]) x):n=0↔x=0:=by
 obtain⟨a',n',cap',F,e,hs,h0,h1,hv⟩:=h;simp only[Value.agg.injEq,Array.mk.injEq,List.cons.injEq,Value.slice.injEq,and_true]at e;obtain⟨rfl,rfl,rfl⟩:=e;constructor
 ·rintro rfl;exact hv.symm
 intro hx;by_cases e0:n=0
 ·exact e0
 have:=NT F n (by omega);have hF:=h1 (by omega);have hp:=CV (n-1);have hm:1*P (n-1)≤F (n-1)*P (n-1):=Nat.mul_le_mul_right _ (by omega);omega
theorem Eg(v:Value)(x:Nat)(w:World)(h:Ac w v x)(hx:Ar x):
  Calls Tryz.prog 60 #[v] w fun e w'=>e=.returned (.int .i64 ((bitLen x:Nat):Int))∧Below w.heap.size w w':=by
 obtain⟨a,n,cap,F,rfl,hs,h0,h1,hv⟩:=h;by_cases e0:n=0
 ·subst e0;have hv0:x=0:=hv.symm;subst hv0;clear hv h1 h0;go_enter Tryz.func60,Tryz.ntmps60
  go_wp2
  go_ret
  exact⟨rfl,(Below.refl _ _).alloc (Nat.le_refl _) _⟩
 obtain⟨m,rfl⟩: ∃m,n=m+1:=⟨n-1,by omega⟩;obtain⟨b,o,rfl,hw⟩:=hs.at m (by omega);have hF:F m≠0:=h1 (by omega);have hok:=hs.2.2.1;have hm:m+1≤4294967296:=AM (hv.symm▸hx) h1;have hlen:=Fb hok hF;rw[hv]at hlen;have hc:=hw m (by omega);have hlt:b<w.heap.size:=World.block_lt_of_cell? _ _ hc;have hFm:=hok m (by omega);have hbl:=Ca (F m) hFm;have HL:Hid _:=hlen;clear hlen hw h0 h1 hv hs hok hx;have hne:((m:Int)+1==0)=false:=by simp;omega
 go_enter Tryz.func60,Tryz.ntmps60
 go_wp2_with fail
 refine(Hk (F m) _ hFm).mono ?_;rintro e w1 ⟨rfl,rfl⟩;go_wp2_with fail
 go_ret
 exact⟨AN (by rw[HL.out];omega),(Below.refl _ _).alloc (Nat.le_refl _) _⟩
theorem Gh{w:World}{a:Option Addr}{n cap:Nat}{F:Nat→Nat}(hs:Sl w a n cap F)(h1:0<n→F (n-1)≠0):V F n<18446744073709551616↔n≤1:=by
 rw[←CK];constructor
 ·intro h;exact Ch h h1
 intro h;exact Nat.lt_of_lt_of_le (BU hs.2.2.1) (Cs h)
def Az(x y:Nat):Int:=if x<y then -1 else if x=y then 0 else 1
theorem Eh{x y:Nat}(h:x<y):Az x y= -1:=by simp[Az,h]
theorem ER{x y:Nat}(h:y<x):Az x y=1:=by simp[Az,Nat.not_lt.2 (Nat.le_of_lt h),Nat.ne_of_gt h]
theorem F3(x:Nat):Az x x=0:=by simp[Az]
theorem Gt{F G:Nat→Nat}{n m:Nat}(hF:Ok F n)(hm:n<m)(h1:G (m-1)≠0):V F n<V G m:=
 Nat.lt_of_lt_of_le (BU hF) (Fq hm h1)
theorem Jy{F G:Nat→Nat}{n k:Nat}(hF:Ok F n)(hk:k<n)(hl:F k<G k)(he: ∀j,k+1≤j→j<n→F j=G j):V F n<V G n:=by
 obtain⟨t,rfl⟩: ∃t,n=k+1+t:=⟨n- (k+1),by omega⟩;rw[Ba F (k+1),Ba G (k+1),A4 (F:=fun i=>F (k+1+i)) (G:=fun i=>G (k+1+i)) fun i hi=>he _ (by omega) (by omega),At,At];have h1:=BU (hF.mono (show k≤k+1+t by omega));have h2:(F k+1)*P k≤G k*P k:=Nat.mul_le_mul_right _ hl;rw[Nat.add_mul]at h2;omega
theorem Ap(w:World)(o1 o2:Obj):Below w.heap.size w ((w.alloc o1).alloc o2):=((Below.refl _ _).alloc (Nat.le_refl _) _).alloc (by simp) _
theorem AH{B:Nat}{a w:World}(h:Below B a w)(n:Nat):Below B a (w.drewN n):=⟨h.os,h.tape,h.output,h.size,h.block⟩
theorem Db(v u:Value)(x y:Nat)(w:World)(h:Ac w v x)(k:Ac w u y)(hx:Ar x)(hy:Ar y):
  Calls Tryz.prog 46 #[v,u] w fun e w'=>e=.returned (.int .i64 (Az x y))∧Below w.heap.size w w':=by
 obtain⟨a,n,cap,F,rfl,hs,h0,h1,hv⟩:=h;obtain⟨a',m,cap',G,rfl,ks,k0,k1,kv⟩:=k;have hn:n≤4294967296:=AM (hv.symm▸hx) h1;have hm:m≤4294967296:=AM (kv.symm▸hy) k1;rcases Nat.lt_trichotomy n m with hlt|heq|hgt
 ·have HC:Hid (Az x y= -1):=Eh (by rw[←hv,←kv];exact Gt hs.2.2.1 hlt (k1 (by omega)));clear hs h0 h1 hv ks k0 k1 kv hx hy;go_enter Tryz.func46,Tryz.ntmps46
  go_wp2
  go_ret
  exact⟨AN HC.out.symm,Ap _ _ _⟩
 ·subst heq;go_enter Tryz.func46,Tryz.ntmps46
  have HH:Hid _:=(show(Sl w a n cap F∧Sl w a' n cap' G∧V F n=x∧V G n=y) from⟨hs,ks,hv,kv⟩);clear hs h0 h1 hv ks k0 k1 kv hx hy;go_wp2
  go_loopw [5] (fun t wr=> ∃(k nd:Nat),k≤n∧t=.int .i64 ((k:Int)-1)∧(∀j,k≤j→j<n→F j=G j)∧wr=((w.alloc (.cells #[.slice a n cap] 27)).alloc (.cells #[.slice a' n cap'] 27)).drewN nd) (fun t _=>(intOf t+1).toNat)
  case atStart=>exact⟨n,0,Nat.le_refl _,rfl,fun j h1 h2=>absurd h1 (by omega),rfl⟩
  case round=>
   obtain⟨k,nd,hk,rfl,he,rfl⟩:=hrel;by_cases e0:k=0
   ·subst e0;have HE:Hid _:=he;clear he;go_wp2
    go_ret
    refine⟨AN ?_,AH (Ap _ _ _) _⟩;obtain⟨_,_,q1,q2⟩:=HH.out;rw[←q1,←q2,A4 fun i hi=>HE.out i (Nat.zero_le _) hi,F3]
   obtain⟨j,rfl⟩: ∃j,k=j+1:=⟨k-1,by omega⟩;obtain⟨b,o,rfl,hw⟩:=HH.out.1.at j (by omega);obtain⟨b',o',rfl,kw⟩:=HH.out.2.1.at j (by omega);have hc:=hw j (by omega);have kc:=kw j (by omega);have hb:b<w.heap.size:=World.block_lt_of_cell? _ _ hc;have kb:b'<w.heap.size:=World.block_lt_of_cell? _ _ kc;have HE:Hid _:=he;clear he hw kw;rcases Nat.lt_trichotomy (F j) (G j)with hl|hl|hl
   ·have hl':((F j:Nat):Int)<(G j:Nat):=by omega
    have HC:Hid (Az x y= -1):=by
     obtain⟨q1,_,q3,q4⟩:=HH.out;exact Eh (by rw[←q3,←q4];exact Jy q1.2.2.1 (by omega) hl HE.out)
    go_wp2_with fail
    go_region
    go_wp2_with fail
    go_ret
    exact⟨AN HC.out.symm,AH (Ap _ _ _) _⟩
   ·have hd1:decide (((F j:Nat):Int)<(G j:Nat))=false:=decide_eq_false (by omega);have hd2:decide (((G j:Nat):Int)<(F j:Nat))=false:=decide_eq_false (by omega);go_wp2_with fail
    go_region
    go_wp2_with fail
    go_region
    go_wp2_with fail
    go_roundw
    case rel=>
     refine⟨j,nd+1+1,by omega,by go_num,fun i h1 h2=> ?_,rfl⟩;by_cases e:i=j
     ·rw[e,hl]
     exact HE.out i (by omega) h2
    case measure=>simp[intOf]
   have hd1:decide (((F j:Nat):Int)<(G j:Nat))=false:=decide_eq_false (by omega);have hl':((G j:Nat):Int)<(F j:Nat):=by omega
   have HC:Hid (Az x y=1):=by
    obtain⟨_,q2,q3,q4⟩:=HH.out;exact ER (by rw[←q3,←q4];exact Jy q2.2.2.1 (by omega) hl fun i h1 h2=>(HE.out i h1 h2).symm)
   go_wp2_with fail
   go_region
   go_wp2_with fail
   go_region
   go_wp2_with fail
   go_ret
   exact⟨AN HC.out.symm,AH (Ap _ _ _) _⟩
 have HC:Hid (Az x y=1):=ER (by rw[←hv,←kv];exact Gt ks.2.2.1 hgt (h1 (by omega)));clear hs h0 h1 hv ks k0 k1 kv hx hy;have hd1:decide ((n:Int)<m)=false:=decide_eq_false (by omega);have hd2:(m:Int)<n:=by omega
 go_enter Tryz.func46,Tryz.ntmps46
 go_wp2
 go_ret
 exact⟨AN HC.out.symm,Ap _ _ _⟩
def BL(x y c:Nat):Nat:=(x+y+c)%18446744073709551616
def Bw(x y c:Nat):Nat:=(x+y+c)/18446744073709551616
def Df(x y c:Nat):Nat:=(x+18446744073709551616-y-c)%18446744073709551616
def CN(x y c:Nat):Nat:=if x<y+c then 1 else 0
theorem J5(x y c:Nat)(hc:c≤1)(w:World):(callFunc 96 #[.int .u64 (x:Int),.int .u64 (y:Int),.int .u64 (c:Int)]).run Tryz.prog w=
  .ok (.value (.tuple #[.int .u64 (BL x y c:Nat),.int .u64 (Bw x y c:Nat)])) w:=by
 rw[run_callFunc_extern Tryz.func96 (by kernel_rfl) (by kernel_rfl) (by kernel_rfl) (e:=add64Entry) (by kernel_rfl),run_add64 x y c (by omega) (by omega) (by omega) (by omega)];simp only[Result.andThen,BL,Bw];congr 5<;>omega
theorem J6(x y c:Nat)(hc:c≤1)(w:World):(callFunc 115 #[.int .u64 (x:Int),.int .u64 (y:Int),.int .u64 (c:Int)]).run Tryz.prog w=
  .ok (.value (.tuple #[.int .u64 (Df x y c:Nat),.int .u64 (CN x y c:Nat)])) w:=by
 rw[run_callFunc_extern Tryz.func115 (by kernel_rfl) (by kernel_rfl) (by kernel_rfl) (e:=sub64Entry) (by kernel_rfl),run_sub64 x y c hc];rfl
theorem LS(x c:Nat)(hc:c≤1)(w:World):(callFunc 96 #[.int .u64 (x:Int),.int .u64 0,.int .u64 (c:Int)]).run Tryz.prog w=
  .ok (.value (.tuple #[.int .u64 (BL x 0 c:Nat),.int .u64 (Bw x 0 c:Nat)])) w:=J5 x 0 c hc w
theorem Em(x y:Nat)(w:World):(callFunc 96 #[.int .u64 (x:Int),.int .u64 (y:Int),.int .u64 0]).run Tryz.prog w=
  .ok (.value (.tuple #[.int .u64 (BL x y 0:Nat),.int .u64 (Bw x y 0:Nat)])) w:=J5 x y 0 (by omega) w
theorem LT(x c:Nat)(hc:c≤1)(w:World):(callFunc 115 #[.int .u64 (x:Int),.int .u64 0,.int .u64 (c:Int)]).run Tryz.prog w=
  .ok (.value (.tuple #[.int .u64 (Df x 0 c:Nat),.int .u64 (CN x 0 c:Nat)])) w:=J6 x 0 c hc w
theorem Gu(x y:Nat)(w:World):(callFunc 115 #[.int .u64 (x:Int),.int .u64 (y:Int),.int .u64 0]).run Tryz.prog w=
  .ok (.value (.tuple #[.int .u64 (Df x y 0:Nat),.int .u64 (CN x y 0:Nat)])) w:=J6 x y 0 (by omega) w
theorem En(x y c:Nat):BL x y c<18446744073709551616:=Nat.mod_lt _ (by omega)
theorem Fd(x y c:Nat):Df x y c<18446744073709551616:=Nat.mod_lt _ (by omega)
theorem Fe(x y c:Nat)(hx:x<18446744073709551616)(hy:y<18446744073709551616)(hc:c≤1):Bw x y c≤1:=by unfold Bw;omega
theorem LU(x y c:Nat):CN x y c≤1:=by unfold CN;split<;>omega
theorem ET(x y c:Nat):BL x y c+Bw x y c*18446744073709551616=x+y+c:=by unfold BL Bw;omega
theorem Ii(x y c:Nat)(hx:x<18446744073709551616)(hy:y<18446744073709551616)(hc:c≤1):Df x y c+y+c=x+CN x y c*18446744073709551616:=by
 unfold Df CN;split<;>omega
theorem Ij(V VF VY g f y c c' p:Nat)(h:g+c'*18446744073709551616=f+y+c)(hk:V+c*p=VF+VY):(V+g*p)+c'*(p*18446744073709551616)=(VF+f*p)+(VY+y*p):=by
 have h2:(g+c'*18446744073709551616)*p=(f+y+c)*p:=by rw[h]
 simp only[Nat.add_mul]at h2;have e:c'*(p*18446744073709551616)=c'*18446744073709551616*p:=by rw[Nat.mul_assoc,Nat.mul_comm p]
 omega
theorem Ik(V VF VY g f y c c' p:Nat)(h:g+y+c=f+c'*18446744073709551616)(hk:V+VY=VF+c*p):(V+g*p)+(VY+y*p)=(VF+f*p)+c'*(p*18446744073709551616):=by
 have h2:(g+y+c)*p=(f+c'*18446744073709551616)*p:=by rw[h]
 simp only[Nat.add_mul]at h2;have e:c'*(p*18446744073709551616)=c'*18446744073709551616*p:=by rw[Nat.mul_assoc,Nat.mul_comm p]
 omega
def fro(F:Nat→Nat)(o:Nat):Nat→Nat:=fun i=>F (o+i)
def Row(w:World)(b N:Nat)(F:Nat→Nat):Prop:=w.rowIs b 56 N (fun j=>.int .u64 ((F j:Nat):Int))∧Ok F N
def put(F:Nat→Nat)(i v:Nat):Nat→Nat:=fun j=>if j=i then v else F j
theorem AA(F:Nat→Nat)(i v:Nat):put F i v i=v:=by simp[put]
theorem Aq(F:Nat→Nat){i j:Nat}(v:Nat)(h:j≠i):put F i v j=F j:=by simp[put,h]
theorem Row.cell{w:World}{b N:Nat}{F:Nat→Nat}(h:Row w b N F){i:Nat}(hi:i<N):w.cell? ⟨b,i,none⟩=some (.int .u64 (F i:Nat)):=h.1.cell hi
theorem Row.frozen{w:World}{b N:Nat}{F:Nat→Nat}(h:Row w b N F)(i:Nat):w.frozen? ⟨b,i,none⟩=false:=h.1.frozen i
theorem Row.set{w:World}{b N:Nat}{F:Nat→Nat}(h:Row w b N F)(i:Nat){v:Nat}(hv:v<18446744073709551616):Row (w.setCell ⟨b,i,none⟩ (.int .u64 (v:Int))) b N (put F i v):=by
 refine⟨(h.1.set i _).congr fun j hj=> ?_,fun j hj=> ?_⟩
 ·unfold put;by_cases e:j=i<;>simp[e]
 unfold put;split
 ·exact hv
 exact h.2 j hj
theorem Row.words{w:World}{b N o n:Nat}{F:Nat→Nat}(h:Row w b N F)(ho:o+n≤N):Cq w b o n (fro F o):=fun i hi=>h.cell (by omega)
theorem Row.kept{w w':World}{b N:Nat}{F:Nat→Nat}{row:Option Nat}(h:Row w b N F)(hg:w.grownBy w' row)(hne:some b≠row):Row w' b N F:=⟨h.1.of_block (hg.block b h.1.lt hne),h.2⟩
theorem Row.below{w w':World}{b N:Nat}{F:Nat→Nat}(h:Row w b N F)(hb:Below w.heap.size w w'):Row w' b N F:=⟨h.1.of_block (hb.block b h.1.lt),h.2⟩
theorem Cq.kept{w w':World}{b o n:Nat}{F:Nat→Nat}{row:Option Nat}(h:Cq w b o n F)(hg:w.grownBy w' row)(hne:some b≠row):Cq w' b o n F:=fun i hi=>hg.cell (h i hi) hne
theorem Row.sl{w:World}{b N o n cap:Nat}{F:Nat→Nat}(h:Row w b N F)(ho:o+n≤N)(hc:n≤cap)(hm:cap≤9223372036854775807):Sl w (some ⟨b,o,none⟩) n cap (fro F o):=
 ⟨hc,hm,fun i hi=>h.2 _ (by omega),.inr ⟨b,o,rfl,h.words ho⟩⟩
theorem AK(w:World){w':World}{b:Nat}(h:w.grownBy w' (some b))(i:Nat)(v:Value):w.grownBy (w'.setCell ⟨b,i,none⟩ v) (some b):=
 ⟨h.os,h.tape,h.output,by simpa using h.size,fun k hk hne=>(Below.heap_setCell _ _ _ _ (fun e=>hne (by rw[e]))).trans (h.block k hk hne)⟩
theorem Gi{a b c:World}{r:Option Nat}(h:a.grownBy b r)(k:b.grownBy c r):a.grownBy c r:=
 ⟨k.os.trans h.os,k.tape.trans h.tape,k.output.trans h.output,Nat.le_trans h.size k.size,fun i hi hne=>(k.block i (Nat.lt_of_lt_of_le hi h.size) hne).trans (h.block i hi hne)⟩
theorem CX{a b:World}{r:Option Nat}(h:a.grownBy b r)(n:Nat):a.grownBy (b.drewN n) r:=⟨h.os,h.tape,h.output,h.size,h.block⟩
theorem MW{F H:Nat→Nat}{k n:Nat}(hk:k≤n)(h: ∀i,k≤i→i<n→H i=F i):V H n+V F k=V F n+V H k:=by
 obtain⟨t,rfl⟩: ∃t,n=k+t:=⟨n-k,by omega⟩;rw[Ba H,Ba F,A4 (F:=fun i=>H (k+i)) (G:=fun i=>F (k+i)) fun i hi=>h _ (by omega) (by omega)];omega
theorem F6{F:Nat→Nat}{o k v:Nat}:V (fro (put F (o+k) v) o) k=V (fro F o) k:=A4 fun i hi=>Aq _ _ (by omega)
def C5(w wr:World)(b N o:Nat)(F:Nat→Nat)(y k c:Nat)(H:Nat→Nat):Prop:=
 Row wr b N H∧(∀j,j<o∨o+k≤j→H j=F j)∧c≤1∧V (fro H o) k+c*P k=V (fro F o) k+y∧w.grownBy wr (some b)
theorem C5.start{w:World}{b N:Nat}{F:Nat→Nat}(o:Nat)(h:Row w b N F):C5 w w b N o F 0 0 0 F:=
 ⟨h,fun _ _=>rfl,by omega,by simp[Bd],World.grownBy.refl _ _⟩
theorem C5.step{w wr:World}{b N o:Nat}{F:Nat→Nat}{y k c:Nat}{H:Nat→Nat}(h:C5 w wr b N o F y k c H)(hk:o+k<N)(g:Nat)(hg:g<18446744073709551616):
  C5 w (wr.setCell ⟨b,o+k,none⟩ (.int .u64 (BL (H (o+k)) g c:Nat))) b N o F (y+g*P k) (k+1) (Bw (H (o+k)) g c) (put H (o+k) (BL (H (o+k)) g c)):=by
 obtain⟨h1,h2,h3,h4,h5⟩:=h;refine⟨h1.set _ (En _ _ _),fun j hj=> ?_,Fe _ _ _ (h1.2 _ hk) hg h3,?_,AK _ h5 _ _⟩
 ·rw[Aq _ _ (by omega)];exact h2 j (by omega)
 have hF:F (o+k)=H (o+k):=(h2 _ (by omega)).symm;rw[At,At,F6,Bo];show V (fro H o) k+put H (o+k) _ (o+k)*P k+_=V (fro F o) k+F (o+k)*P k+_;rw[AA,hF];exact Ij _ _ _ _ _ _ _ _ _ (ET _ _ _) h4
theorem C5.fin{w wr:World}{b N o:Nat}{F:Nat→Nat}{y k c n:Nat}{H:Nat→Nat}(h:C5 w wr b N o F y k c H)(hk:k≤n)(hc:c=0∨k=n):
  C5 w wr b N o F y n c H:=by
 obtain⟨h1,h2,h3,h4,h5⟩:=h;refine⟨h1,fun j hj=>h2 j (by omega),h3,?_,h5⟩;rcases hc with rfl|rfl
 ·have:=MW (F:=fro F o) (H:=fro H o) hk fun i hi _=>h2 (o+i) (by omega);omega
 exact h4
theorem Eo(b N o n cap:Nat)(F:Nat→Nat)(a:Option Addr)(m cap':Nat)(G:Nat→Nat)(w:World)(hF:Row w b N F)(hG:Sl w a m cap' G)(ho:o+n≤N)(hn:n≤1099511627776)(hm:m≤n)
  (hne: ∀b' o',a=some ⟨b',o',none⟩→b'≠b):
  Calls Tryz.prog 73 #[.slice (some ⟨b,o,none⟩) n cap,.slice a m cap'] w fun e w'=> ∃c:Nat,e=.returned (.int .u64 (c:Int))∧ ∃H,C5 w w' b N o F (V G m) n c H:=by
 have A0:=C5.start o hF;have HG:Hid (Sl w a m cap' G):=hG;have HN:Hid _:=hne;clear hG hF hne;go_enter Tryz.func73,Tryz.ntmps73
 go_wp2_with fail
 go_loopw [5,11] (fun cv t wr=> ∃(k c:Nat) (H:Nat→Nat),k≤m∧t=.int .i64 (k:Int)∧cv=.int .u64 ((c:Nat):Int)∧C5 w wr b N o F (V G k) k c H) (fun _ t _=>m- (intOf t).toNat)
 case atStart=>exact⟨0,0,F,by omega,rfl,rfl,A0⟩
 case round=>
  clear A0;obtain⟨k,c,H,hk,rfl,rfl,hA⟩:=hrel;by_cases hkm:k<m
  ·obtain⟨b',o',rfl,hw⟩:=HG.out.at k hkm;have hbb:b'≠b:=HN.out b' o' rfl;have hc1:wr.cell? ⟨b',o'+k,none⟩=some (.int .u64 (G k:Nat)):=hA.2.2.2.2.cell (hw k hkm) (by simpa using hbb);have hc2:wr.cell? ⟨b,o+k,none⟩=some (.int .u64 (H (o+k):Nat)):=hA.1.cell (by omega);have hf2:wr.frozen? ⟨b,o+k,none⟩=false:=hA.1.frozen _;have ad:=J5 (H (o+k)) (G k) c hA.2.2.1;have S:Hid _:=hA.step (by omega) (G k) (HG.out.2.2.1 k hkm);clear hA hw hbb;go_wp2_with (simp only[ad])
   go_roundw
   case rel=>exact⟨k+1,_,_,by omega,by go_num,rfl,S.out⟩
   case measure=>simp[intOf];omega
  obtain rfl:k=m:=by omega
  have HA:Hid _:=hA;clear hA hkm hk;go_wp2_with fail
  go_loopw [5,8] (fun cv t wr=> ∃(q c:Nat) (H:Nat→Nat),k≤q∧q≤n∧t=.int .i64 (q:Int)∧cv=.int .u64 ((c:Nat):Int)∧C5 w wr b N o F (V G k) q c H) (fun _ t _=>n- (intOf t).toNat)
  case atStart=>exact⟨k,c,H,by omega,by omega,rfl,rfl,HA.out⟩
  case round=>
   clear HA;obtain⟨q,c2,H2,hq,hqn,rfl,rfl,hA⟩:=hrel;by_cases hgo:c2=0∨q=n
   ·have S:Hid _:=hA.fin hqn hgo;clear hA;by_cases hc:c2=0
    ·subst hc;go_wp2_with fail
     go_ret
     exact⟨0,rfl,H2,S.out⟩
    obtain rfl:q=n:=by omega
    have hcb:(((c2:Nat):Int) != 0)=true:=by simp;omega
    go_wp2_with fail
    go_ret
    exact⟨c2,rfl,H2,S.out⟩
   have hcb:(((c2:Nat):Int) != 0)=true:=by simp;omega
   have hqn':(q:Int)<n:=by omega
   have hc2:wr.cell? ⟨b,o+q,none⟩=some (.int .u64 (H2 (o+q):Nat)):=hA.1.cell (by omega);have hf2:wr.frozen? ⟨b,o+q,none⟩=false:=hA.1.frozen _;have ad:=LS (H2 (o+q)) c2 hA.2.2.1;have S:Hid _:=hA.step (by omega) 0 (by omega);clear hA;go_wp2_with (simp only[ad])
   go_roundw
   case rel=>exact⟨q+1,_,_,by omega,by omega,by go_num,rfl,by have:=S.out;rw[Nat.zero_mul,Nat.add_zero]at this;exact this⟩
   case measure=>simp[intOf];omega
def Ct(w wr:World)(b N o:Nat)(F:Nat→Nat)(y k c:Nat)(H:Nat→Nat):Prop:=
 Row wr b N H∧(∀j,j<o∨o+k≤j→H j=F j)∧c≤1∧V (fro H o) k+y=V (fro F o) k+c*P k∧w.grownBy wr (some b)
theorem Ct.start{w:World}{b N:Nat}{F:Nat→Nat}(o:Nat)(h:Row w b N F):Ct w w b N o F 0 0 0 F:=
 ⟨h,fun _ _=>rfl,by omega,by simp[Bd],World.grownBy.refl _ _⟩
theorem Ct.step{w wr:World}{b N o:Nat}{F:Nat→Nat}{y k c:Nat}{H:Nat→Nat}(h:Ct w wr b N o F y k c H)(hk:o+k<N)(g:Nat)(hg:g<18446744073709551616):
  Ct w (wr.setCell ⟨b,o+k,none⟩ (.int .u64 (Df (H (o+k)) g c:Nat))) b N o F (y+g*P k) (k+1) (CN (H (o+k)) g c) (put H (o+k) (Df (H (o+k)) g c)):=by
 obtain⟨h1,h2,h3,h4,h5⟩:=h;refine⟨h1.set _ (Fd _ _ _),fun j hj=> ?_,LU _ _ _,?_,AK _ h5 _ _⟩
 ·rw[Aq _ _ (by omega)];exact h2 j (by omega)
 have hF:F (o+k)=H (o+k):=(h2 _ (by omega)).symm;rw[At,At,F6,Bo];show V (fro H o) k+put H (o+k) _ (o+k)*P k+_=V (fro F o) k+F (o+k)*P k+_;rw[AA,hF];exact Ik _ _ _ _ _ _ _ _ _ (Ii _ _ _ (h1.2 _ hk) hg h3) h4
theorem Ct.fin{w wr:World}{b N o:Nat}{F:Nat→Nat}{y k c n:Nat}{H:Nat→Nat}(h:Ct w wr b N o F y k c H)(hk:k≤n)(hc:c=0∨k=n):
  Ct w wr b N o F y n c H:=by
 obtain⟨h1,h2,h3,h4,h5⟩:=h;refine⟨h1,fun j hj=>h2 j (by omega),h3,?_,h5⟩;rcases hc with rfl|rfl
 ·have:=MW (F:=fro F o) (H:=fro H o) hk fun i hi _=>h2 (o+i) (by omega);omega
 exact h4
theorem Ft(b N o n cap:Nat)(F:Nat→Nat)(a:Option Addr)(m cap':Nat)(G:Nat→Nat)(w:World)(hF:Row w b N F)(hG:Sl w a m cap' G)(ho:o+n≤N)(hn:n≤1099511627776)(hm:m≤n)
  (hne: ∀b' o',a=some ⟨b',o',none⟩→b'≠b):
  Calls Tryz.prog 108 #[.slice (some ⟨b,o,none⟩) n cap,.slice a m cap'] w fun e w'=>e=.returned (.tuple #[])∧ ∃c H,Ct w w' b N o F (V G m) n c H:=by
 have A0:=Ct.start o hF;have HG:Hid (Sl w a m cap' G):=hG;have HN:Hid _:=hne;clear hG hF hne;go_enter Tryz.func108,Tryz.ntmps108
 go_wp2_with fail
 go_loopw [4,10] (fun cv t wr=> ∃(k c:Nat) (H:Nat→Nat),k≤m∧t=.int .i64 (k:Int)∧cv=.int .u64 ((c:Nat):Int)∧Ct w wr b N o F (V G k) k c H) (fun _ t _=>m- (intOf t).toNat)
 case atStart=>exact⟨0,0,F,by omega,rfl,rfl,A0⟩
 case round=>
  clear A0;obtain⟨k,c,H,hk,rfl,rfl,hA⟩:=hrel;by_cases hkm:k<m
  ·obtain⟨b',o',rfl,hw⟩:=HG.out.at k hkm;have hbb:b'≠b:=HN.out b' o' rfl;have hc1:wr.cell? ⟨b',o'+k,none⟩=some (.int .u64 (G k:Nat)):=hA.2.2.2.2.cell (hw k hkm) (by simpa using hbb);have hc2:wr.cell? ⟨b,o+k,none⟩=some (.int .u64 (H (o+k):Nat)):=hA.1.cell (by omega);have hf2:wr.frozen? ⟨b,o+k,none⟩=false:=hA.1.frozen _;have ad:=J6 (H (o+k)) (G k) c hA.2.2.1;have S:Hid _:=hA.step (by omega) (G k) (HG.out.2.2.1 k hkm);clear hA hw hbb;go_wp2_with (simp only[ad])
   go_roundw
   case rel=>exact⟨k+1,_,_,by omega,by go_num,rfl,S.out⟩
   case measure=>simp[intOf];omega
  obtain rfl:k=m:=by omega
  have HA:Hid _:=hA;clear hA hkm hk;go_wp2_with fail
  go_loopw [4,7] (fun cv t wr=> ∃(q c:Nat) (H:Nat→Nat),k≤q∧q≤n∧t=.int .i64 (q:Int)∧cv=.int .u64 ((c:Nat):Int)∧Ct w wr b N o F (V G k) q c H) (fun _ t _=>n- (intOf t).toNat)
  case atStart=>exact⟨k,c,H,by omega,by omega,rfl,rfl,HA.out⟩
  case round=>
   clear HA;obtain⟨q,c2,H2,hq,hqn,rfl,rfl,hA⟩:=hrel;by_cases hgo:c2=0∨q=n
   ·have S:Hid _:=hA.fin hqn hgo;clear hA;by_cases hc:c2=0
    ·subst hc;go_wp2_with fail
     go_end0
     exact⟨rfl,0,H2,S.out⟩
    obtain rfl:q=n:=by omega
    have hcb:(((c2:Nat):Int) != 0)=true:=by simp;omega
    go_wp2_with fail
    go_end0
    exact⟨rfl,c2,H2,S.out⟩
   have hcb:(((c2:Nat):Int) != 0)=true:=by simp;omega
   have hqn':(q:Int)<n:=by omega
   have hc2:wr.cell? ⟨b,o+q,none⟩=some (.int .u64 (H2 (o+q):Nat)):=hA.1.cell (by omega);have hf2:wr.frozen? ⟨b,o+q,none⟩=false:=hA.1.frozen _;have ad:=LT (H2 (o+q)) c2 hA.2.2.1;have S:Hid _:=hA.step (by omega) 0 (by omega);clear hA;go_wp2_with (simp only[ad])
   go_roundw
   case rel=>exact⟨q+1,_,_,by omega,by omega,by go_num,rfl,by have:=S.out;rw[Nat.zero_mul,Nat.add_zero]at this;exact this⟩
   case measure=>simp[intOf];omega
def Bh(m:Nat):Array Value:=madeCells #[.int .u64 0] m
theorem Bl(L C:Int)(n m:Nat)(hL:L=n)(hC:C=m)(hnm:n≤m)(hm:m≤1099511627776)(w:World):
  (Instr.makeSlice 25 (.int .i64 L) (.int .i64 C)).run Tryz.prog w=.ok (.slice (some ⟨w.heap.size,0,none⟩) n m) (w.alloc (.cells (Bh m) 56)):=by
 obtain⟨i,hi,hz,hs,hb⟩:=info_parts Tryz.info22;subst hL hC;rw[run_make w 25 56 i (.int .u64 0) Tryz.underlying25 hi hz .i64 .i64 n m (by omega) (by omega) (by rw[hb];omega) (by omega),hs];simp[Bh,Value.cells]
theorem KT(w:World)(m:Nat):Row (w.alloc (.cells (Bh m) 56)) w.heap.size m (fun _=>0):=
 ⟨World.rowIs_made w (.int .u64 0) m _,fun _ _=>by show(0:Nat)<18446744073709551616;omega⟩
theorem AJ(w:World)(m g:Nat)(hg:g=w.heap.size):Row (w.alloc (.cells (Bh m) 56)) g m (fun _=>0):=by
 subst hg;exact KT w m
def over(F:Nat→Nat)(o:Nat)(G:Nat→Nat)(n:Nat):Nat→Nat:=fun j=>if o≤j∧j<o+n then G (j-o) else F j
theorem Jz(F:Nat→Nat)(o:Nat)(G:Nat→Nat)(n:Nat){i:Nat}(hi:i<n):over F o G n (o+i)=G i:=by
 unfold over;rw[if_pos (by omega),Nat.add_sub_cancel_left]
theorem Dp(F:Nat→Nat)(o:Nat)(G:Nat→Nat)(n:Nat){j:Nat}(hj:j<o∨o+n≤j):over F o G n j=F j:=by
 unfold over;rw[if_neg (by omega)]
theorem KU:(Tryz.prog.info? 56).map (·.size)=some 1:=by kernel_rfl
theorem KV{w:World}{b o n:Nat}{G:Nat→Nat}(h:Cq w b o n G): ∀j v,((List.range n).map fun i=>Value.int .u64 ((G i:Nat):Int))[j]? =some v→w.cell? ((⟨b,o,none⟩:Addr).add j)=some v:=by
 intro j v hj;have hjn:j<n:=by
  rcases Nat.lt_or_ge j n with h'|h'
  ·exact h'
  rw[List.getElem?_eq_none (by simpa using h')]at hj;cases hj
 have e:(⟨b,o,none⟩:Addr).add j=⟨b,o+j,none⟩:=by unfold Addr.add;split<;>simp_all
 rw[e,h j hjn];simpa[hjn]using hj
theorem Bz{w:World}{ops:Array Oper}{rest:List Oper}{op:Oper}{ac:Act}{Q:Exit→Act→World→Prop}(hgd:op.guard=none)(d s:Operand)
  (ho:op.op=.call {callee:=.builtin .copy,args:= #[d,s],argTypes:= #[25,25]})
  (g o dLen dCap:Nat) (sp:Option Addr) (sLen sCap:Nat) (hd:ac.eval d=.slice (some ⟨g,o,none⟩) dLen dCap) (hs:ac.eval s=.slice sp sLen sCap)
  (N:Nat) (F G:Nat→Nat) (hF:Row w g N F) (hG:Sl w sp sLen sCap G) (hle:sLen≤dLen) (hfit:o+sLen≤N)
  (h: ∀w',Row w' g N (over F o G sLen)→w.grownBy w' (some g)→wpList Tryz.prog ops Q rest (ac.put op.dst (goInt sLen)) w'):wpList Tryz.prog ops Q (op::rest) ac w:=by
 by_cases h0:sLen=0
 ·subst h0;refine wpList_copy_nothing hgd d s _ _ ho 56 Tryz.underlying25 KU _ _ _ _ _ _ hd hs (Nat.zero_min _) ?_;refine h w ⟨hF.1.congr fun j _=> ?_,fun j hj=> ?_⟩ (World.grownBy.refl _ _)
  ·rw[Dp _ _ _ _ (by omega)]
  rw[Dp _ _ _ _ (by omega)];exact hF.2 j hj
 obtain⟨b,so,rfl,hw⟩:=hG.at 0 (by omega);obtain⟨cur,hg,hsz,hcur⟩:=hF.1;have hcl:((List.range sLen).map fun i=>Value.int .u64 ((G i:Nat):Int)).length=sLen:=by simp
 refine wpList_copy_own hgd d s _ _ ho 56 Tryz.underlying25 KU g o dLen dCap ⟨b,so,none⟩ sLen sCap hd hs cur 56 hg ((List.range sLen).map fun i=>Value.int .u64 ((G i:Nat):Int)) (by rw[hcl];exact(Nat.min_eq_left hle).symm)
  (KV hw) (by rw[hcl];omega) (by intro v hv;obtain⟨i,_,rfl⟩:=List.mem_map.1 hv;rfl) ?_
 rw[hcl];refine h _ ⟨⟨_,setRow_heap w g _ _ _ _ hg,?_,fun j hj=> ?_⟩,fun j hj=> ?_⟩ ⟨rfl,rfl,rfl,by simp[World.setRow],fun k _ hne=>setRow_other w g k _ (fun e=>hne (by rw[e]))⟩
 ·simp;omega
 ·rw[List.getElem?_toArray];show _=some (Value.int .u64 ((over F o G sLen j:Nat):Int));by_cases h1:j<o
  ·rw[Dp _ _ _ _ (.inl h1),List.getElem?_append_left (by simp;omega),List.getElem?_take_of_lt h1];simpa using hcur j hj
  obtain⟨i,rfl⟩: ∃i,j=o+i:=⟨j-o,by omega⟩;have e1:(cur.toList.take o).length=o:=by simp;omega
  rw[List.getElem?_append_right (by omega),e1,Nat.add_sub_cancel_left];by_cases h2:i<sLen
  ·rw[Jz _ _ _ _ h2,List.getElem?_append_left (by simpa using h2)];simp[h2]
  rw[Dp _ _ _ _ (.inr (by omega)),List.getElem?_append_right (by simp;omega),hcl,List.getElem?_drop,show o+sLen+(i-sLen)=o+i by omega];simpa using hcur (o+i) hj
 unfold over;split
 ·exact hG.2.2.1 _ (by omega)
 exact hF.2 j hj
theorem AB(F:Nat→Nat):fro F 0=F:=by funext i;simp[fro]
theorem Dq(F G:Nat→Nat)(n:Nat):V (over F 0 G n) n=V G n:=A4 fun i hi=>by have:=Jz F 0 G n hi;rw[Nat.zero_add]at this;exact this
theorem LV{a b c d p:Nat}(h1:a+b=d+c*p)(h2:a<p)(h3:b≤d)(h4:c≤1):a=d-b:=by
 have:c=0∨c=1:=by omega
 rcases this with rfl|rfl
 ·omega
 omega
theorem Ac.isAgg{w:World}{v:Value}{x:Nat}(h:Ac w v x): ∃a n cap,v=.agg #[.slice a n cap]:=by
 obtain⟨a,n,cap,F,rfl,_⟩:=h;exact⟨a,n,cap,rfl⟩
theorem Ac.fits{w:World}{a:Option Addr}{n cap:Nat}{x:Nat}(h:Ac w (.agg #[.slice a n cap]) x): ∃F,Sl w a n cap F∧(n=0→a=none∧cap=0)∧(0<n→F (n-1)≠0)∧V F n=x:=by
 obtain⟨a',n',cap',F,e,h⟩:=h;simp only[Value.agg.injEq,Array.mk.injEq,List.cons.injEq,Value.slice.injEq,and_true]at e;obtain⟨rfl,rfl,rfl⟩:=e;exact⟨F,h⟩
def BO(w:World)(x:Nat)(e:Ending)(w':World):Prop:= ∃v,e=.returned v∧Ac w' v x∧Below w.heap.size w w'
theorem Sl.ne_block{w:World}{a:Option Addr}{n cap:Nat}{F:Nat→Nat}(h:Sl w a n cap F)(hn:0<n){g:Nat}(hg:w.heap.size≤g): ∀b o,a=some ⟨b,o,none⟩→b≠g:=by
 intro b o ha;obtain⟨b',o',e,hw⟩:=h.at 0 hn;rw[ha]at e;cases e;have:=World.block_lt_of_cell? _ _ (hw 0 hn);simp only at this;omega
theorem LW(v u:Value)(x y:Nat)(w:World)(h:Ac w v x)(k:Ac w u y)(hx:Ar x)(hxy:y≤x):
  Calls Tryz.prog 86 #[v,u] w (BO w (x-y)):=by
 obtain⟨a,n,cap,F,rfl,hs,h0,h1,hv⟩:=id h;obtain⟨a',m,cap',G,rfl,ks,k0,k1,kv⟩:=id k;have hn:n≤4294967296:=AM (hv.symm▸hx) h1;have hmn:m≤n:=by
  rcases Nat.lt_or_ge n m with hh|hh
  ·have:=Gt hs.2.2.1 hh (k1 (by omega));omega
  exact hh
 by_cases e0:m=0
 ·subst e0;have hy0:y=0:=kv.symm;have HN:Hid (Ac w (.agg #[.slice a n cap]) x):=h;clear hs h0 h1 hv ks k0 k1 kv hx h k;go_enter Tryz.func86,Tryz.ntmps86
  go_wp2_with fail
  have hB:Below w.heap.size w (((w.alloc (.cells #[.slice a n cap] 27)).alloc (.cells #[.slice a' 0 cap'] 27)).alloc (.cells #[.slice a n cap] 27)):=(Ap _ _ _).alloc (by simp<;>omega) _;refine bodyPost_ret (v:=.agg #[.slice a n cap]) (by simp[results,Tryz.results86,go_sem]) rfl ⟨_,rfl,?_,hB⟩;rw[hy0,Nat.sub_zero];exact HN.out.mono hB
 have hne0:((m:Int)==0)=false:=by simp;omega
 have mk:=Bl (n:Int) (n:Int) n n rfl rfl (Nat.le_refl _) (by omega);have HS:Hid (Sl w a n cap F∧Sl w a' m cap' G∧V F n=x∧V G m=y):=⟨hs,ks,hv,kv⟩;clear hs h0 h1 hv ks k0 k1 kv hx h k;have hB:Below w.heap.size w ((((w.alloc (.cells #[.slice a n cap] 27)).alloc (.cells #[.slice a' m cap'] 27)).alloc (.cells #[.slice none 0 0] 27)).alloc (.cells (Bh n) 56)):=((Ap _ _ _).alloc (by simp<;>omega) _).alloc (by simp<;>omega) _;have HB:Hid _:=hB;clear hB;go_enter Tryz.func86,Tryz.ntmps86
 go_wp2_with (refine(id ?_:wpList Tryz.prog _ _ (⟨some 18,_,_,_,_,_⟩::_) _ _);refine Bz rfl (.tmp 15) (.tmp 17) rfl _ _ _ _ _ _ _ rfl rfl n (fun _=>0) F (AJ _ n _ (by simp)) (HS.out.1.mono HB.out) (by omega) (by omega) ?_)
 intro w1 hR1 hg1;have hcy:w1.cell? ⟨w.heap.size+1,0,none⟩=some (.slice a' m cap'):=hg1.cell (by simp[go_sem]) (by simp<;>omega);have hcr:w1.cell? ⟨w.heap.size+1+1,0,none⟩=some (.slice none 0 0):=hg1.cell (by simp[go_sem]) (by simp<;>omega);have hfr:w1.frozen? ⟨w.heap.size+1+1,0,none⟩=false:=(World.frozen?_of_block (hg1.block _ (by simp<;>omega) (by simp<;>omega))).trans (by simp[go_sem]);have B1:Hid (Below w.heap.size w w1):=HB.out.grown hg1 (by simp<;>omega) (fun k hk=>by cases hk;omega);have R1:Hid (Row w1 (w.heap.size+1+1+1) n (over (fun _=>0) 0 F n)):=hR1;clear hR1 hg1 HB mk;go_wp2_with fail
 refine(Ft _ n 0 n n _ a' m cap' G w1 R1.out (HS.out.2.1.mono B1.out) (by omega) (by omega) hmn (HS.out.2.1.ne_block (by omega) (by omega))).mono ?_;rintro e w2 ⟨rfl,c,H,S⟩;have hg2:=S.2.2.2.2;have hcr2:w2.cell? ⟨w.heap.size+1+1,0,none⟩=some (.slice none 0 0):=hg2.cell hcr (by simp<;>omega);have hfr2:w2.frozen? ⟨w.heap.size+1+1,0,none⟩=false:=(World.frozen?_of_block (hg2.block _ (by have:=B1.out.size;have:=World.block_lt_of_cell? _ _ hcr;exact this) (by simp<;>omega))).trans hfr;have B2:Hid (Below w.heap.size w w2):=B1.out.grown hg2 B1.out.size (fun k hk=>by cases hk;omega);have S2:Hid (Row w2 (w.heap.size+1+1+1) n H∧V H n=x-y):=⟨S.1,by
  obtain⟨q1,q2,q3,q4,_⟩:=S;rw[AB,AB,Dq]at q4;obtain⟨_,_,r1,r2⟩:=HS.out;rw[r1,r2]at q4;exact LV q4 (BU q1.2) hxy q3⟩
 clear S hg2 hcr hfr hcy R1 B1;go_wp2_with fail
 refine(Bp _ n n H w2 (by have:=S2.out.1.sl (o:=0) (n:=n) (cap:=n) (by omega) (Nat.le_refl _) (by omega);rw[AB]at this;exact this) (by omega)).mono ?_;rintro e w3 ⟨v3,rfl,hv3,hb3⟩;have hcr3:w3.cell? ⟨w.heap.size+1+1,0,none⟩=some (.slice none 0 0):=cell_later hb3 hcr2;have hfr3:w3.frozen? ⟨w.heap.size+1+1,0,none⟩=false:=(hb3.frozen (World.block_lt_of_cell? _ _ hcr2)).trans hfr2;obtain⟨a3,n3,cap3,rfl⟩:=hv3.isAgg;have HV3:Hid (Ac w3 (.agg #[.slice a3 n3 cap3]) (V H n)):=hv3;have B3:Hid (Below w.heap.size w w3):=B2.out.trans (hb3.mono B2.out.size);clear hv3 hb3 hcr2 hfr2 B2;go_wp2_with fail
 refine bodyPost_ret (v:=.agg #[.slice a3 n3 cap3]) (by simp[results,Tryz.results86,go_sem,hcr3]) rfl ⟨_,rfl,?_,B3.out.setCell (by simp<;>omega) _⟩;rw[←S2.out.2];exact HV3.out.setCell (Af hcr3) _
def NU(w:World)(x:Nat)(ok:Bool)(e:Ending)(w':World):Prop:= ∃v,e=.returned (.tuple #[v,.bool ok])∧Ac w' v x∧Below w.heap.size w w'
theorem JA(v u:Value)(x y:Nat)(w:World)(h:Ac w v x)(k:Ac w u y)(hx:Ar x)(hy:Ar y):
  Calls Tryz.prog 55 #[v,u] w (NU w (x-y) (decide (y≤x))):=by
 obtain⟨a,n,cap,rfl⟩:=h.isAgg;obtain⟨a',m,cap',rfl⟩:=k.isAgg;have HX:Hid (Ac w (.agg #[.slice a n cap]) x):=h;have HY:Hid (Ac w (.agg #[.slice a' m cap']) y):=k;clear h k;have HB:Hid (Below w.heap.size w (((w.alloc (.cells #[.slice a n cap] 27)).alloc (.cells #[.slice a' m cap'] 27)).alloc (.cells #[.slice none 0 0] 27))):=(Ap _ _ _).alloc (by simp<;>omega) _;go_enter Tryz.func55,Tryz.ntmps55
 go_wp2_with fail
 refine(Db _ _ x y _ (HX.out.mono HB.out) (HY.out.mono HB.out) hx hy).mono ?_;rintro e w1 ⟨rfl,hb1⟩;have c1:w1.cell? ⟨w.heap.size,0,none⟩=some (.slice a n cap):=cell_later hb1 (by simp[go_sem]);have c2:w1.cell? ⟨w.heap.size+1,0,none⟩=some (.slice a' m cap'):=cell_later hb1 (by simp[go_sem]);have c3:w1.cell? ⟨w.heap.size+1+1,0,none⟩=some (.slice none 0 0):=cell_later hb1 (by simp[go_sem]);have f3:w1.frozen? ⟨w.heap.size+1+1,0,none⟩=false:=(hb1.frozen (by simp<;>omega)).trans (by simp[go_sem]);have B1:Hid (Below w.heap.size w w1):=HB.out.trans (hb1.mono HB.out.size);clear hb1 HB;by_cases hle:y≤x
 ·have hc:decide (Az x y<0)=false:=decide_eq_false (by unfold Az;split<;>(try split)<;>omega);have HD:Hid (decide (y≤x)=true):=decide_eq_true hle;go_wp2_with fail
  refine(LW _ _ x y _ (HX.out.mono B1.out) (HY.out.mono B1.out) hx hle).mono ?_;rintro e w2 ⟨v2,rfl,hv2,hb2⟩;have c4:w2.cell? ⟨w.heap.size+1+1,0,none⟩=some (.slice none 0 0):=cell_later hb2 c3;have f4:w2.frozen? ⟨w.heap.size+1+1,0,none⟩=false:=(hb2.frozen (World.block_lt_of_cell? _ _ c3)).trans f3;obtain⟨a3,n3,cap3,rfl⟩:=hv2.isAgg;have V2:Hid (Ac w2 (.agg #[.slice a3 n3 cap3]) (x-y)):=hv2;have B2:Hid (Below w.heap.size w w2):=B1.out.trans (hb2.mono B1.out.size);clear hv2 hb2 c1 c2 c3 f3 B1;go_wp2_with fail
  refine bodyPost_ret (v:=.tuple #[.agg #[.slice a3 n3 cap3],.bool true]) (by simp[results,Tryz.results55,go_sem,c4]) rfl ⟨.agg #[.slice a3 n3 cap3],by rw[HD.out],V2.out.setCell (Af c4) _,B2.out.setCell (by simp<;>omega) _⟩
 have hc:Az x y<0:=by unfold Az;rw[if_pos (by omega)];omega
 have HD:Hid (decide (y≤x)=false):=decide_eq_false hle;go_wp2_with fail
 refine bodyPost_ret (v:=.tuple #[.agg #[.slice none 0 0],.bool false]) (by simp[results,Tryz.results55,go_sem,c3]) rfl ⟨.agg #[.slice none 0 0],by rw[HD.out],by rw[show x-y=0 by omega];exact B7 _,B1.out.setCell (by simp<;>omega) _⟩
end Go.Proofs.YtcbjkgphpnihiaaGreatDoor
