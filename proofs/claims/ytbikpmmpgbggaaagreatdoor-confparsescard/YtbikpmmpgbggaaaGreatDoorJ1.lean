/- Contracts of the program's functions, part 1: own work, joined in build order. -/
import Derived.Test.YtbikpmmpgbggaaaGreatDoorRows
import Derived.WalkKit
import Derived.WalkSpells
import Derived.WalkLawsBesides
import Derived.Deep.OwnRows
import Derived.Deep.QuietTactic
import Derived.BigQuiet
import Derived.Laws.MathBits
import Derived.Laws.Externs
import Derived.Shelf.Spec.BitsCarry
import Derived.Laws.CopyOwn
namespace Go.Proofs.YtbikpmmpgbggaaaGreatDoor
open Go.RowKit
set_option maxHeartbeats 16000000
theorem clAt{W:World}{g:Nat}{c:Array Value}{t:TypeId}(h:W.heap[g]? =some (.cells c t))(i:Nat)(v:Value)(hv:c[i]? =some v):W.cell? ⟨g,i,none⟩=some v:=by simp only[World.cell?,h];exact hv
theorem fzAt{W:World}{g:Nat}{c:Array Value}{t:TypeId}(h:W.heap[g]? =some (.cells c t))(i:Nat):W.frozen? ⟨g,i,none⟩=false:=by simp[World.frozen?,h]
theorem cl7{W:World}{g:Nat}{t:TypeId}{a0 a1 a2 a3 a4 a5 a6:Value}(h:W.heap[g]? =some (.cells #[a0,a1,a2,a3,a4,a5,a6] t)):W.cell? ⟨g,0,none⟩=some a0∧W.cell? ⟨g,1,none⟩=some a1∧W.cell? ⟨g,2,none⟩=some a2∧W.cell? ⟨g,3,none⟩=some a3∧W.cell? ⟨g,4,none⟩=some a4∧W.cell? ⟨g,5,none⟩=some a5∧W.cell? ⟨g,6,none⟩=some a6:=⟨clAt h 0 _ rfl,clAt h 1 _ rfl,clAt h 2 _ rfl,clAt h 3 _ rfl,clAt h 4 _ rfl,clAt h 5 _ rfl,clAt h 6 _ rfl⟩
theorem cl8{W:World}{g:Nat}{t:TypeId}{a0 a1 a2 a3 a4 a5 a6 a7:Value}(h:W.heap[g]? =some (.cells #[a0,a1,a2,a3,a4,a5,a6,a7] t)):W.cell? ⟨g,0,none⟩=some a0∧W.cell? ⟨g,1,none⟩=some a1∧W.cell? ⟨g,2,none⟩=some a2∧W.cell? ⟨g,3,none⟩=some a3∧W.cell? ⟨g,4,none⟩=some a4∧W.cell? ⟨g,5,none⟩=some a5∧W.cell? ⟨g,6,none⟩=some a6∧W.cell? ⟨g,7,none⟩=some a7:=⟨clAt h 0 _ rfl,clAt h 1 _ rfl,clAt h 2 _ rfl,clAt h 3 _ rfl,clAt h 4 _ rfl,clAt h 5 _ rfl,clAt h 6 _ rfl,clAt h 7 _ rfl⟩
theorem nmd{α:Sort _}(x:α): ∃y,x=y:=⟨_,rfl⟩
theorem nme{α:Sort _}(x:α): ∃y,y=x:=⟨_,rfl⟩
def P(n:Nat):Nat:=18446744073709551616^n
theorem Dh:P 0=1:=rfl
theorem Cg(n:Nat):P (n+1)=P n*18446744073709551616:=Nat.pow_succ ..
theorem FT:P 1=18446744073709551616:=by rw[Cg,Dh,Nat.one_mul]
theorem FU(a b:Nat):P (a+b)=P a*P b:=Nat.pow_add ..
theorem Hd(n:Nat):0<P n:=Nat.pow_pos (by decide)
theorem Dt{a b:Nat}(h:a≤b):P a≤P b:=Nat.pow_le_pow_right (by decide) h
theorem Pv{a b:Nat}(h:a<b):P a<P b:=Nat.pow_lt_pow_right (by decide) h
def V(F:Nat→Nat):Nat→Nat
 |0=>0
 |n+1=>V F n+F n*P n
theorem Bw(F:Nat→Nat):V F 0=0:=rfl
theorem Ax(F:Nat→Nat)(n:Nat):V F (n+1)=V F n+F n*P n:=rfl
theorem Bl{F G:Nat→Nat}: ∀{n:Nat},(∀i,i<n→F i=G i)→V F n=V G n
 |0,_=>rfl
 |n+1,h=>by rw[Ax,Ax,Bl fun i hi=>h i (by omega),h n (by omega)]
def Ok(F:Nat→Nat)(n:Nat):Prop:= ∀i,i<n→F i<18446744073709551616
theorem Ok.mono{F:Nat→Nat}{m n:Nat}(h:Ok F n)(hm:m≤n):Ok F m:=fun i hi=>h i (by omega)
theorem Cx{F:Nat→Nat}: ∀{n:Nat},Ok F n→V F n<P n
 |0,_=>by rw[Bw,Dh];omega
 |n+1,h=>by
  have h1:=Cx (h.mono (Nat.le_succ n));have h2:=h n (by omega);have h3:(F n+1)*P n≤18446744073709551616*P n:=Nat.mul_le_mul_right _ (by omega);rw[Ax,Cg,Nat.mul_comm (P n)];rw[Nat.add_mul]at h3;omega
theorem BT(F:Nat→Nat)(m:Nat): ∀n,V F (m+n)=V F m+P m*V (fun i=>F (m+i)) n
 |0=>by simp[Bw]
 |n+1=>by
  rw[←Nat.add_assoc,Ax,BT F m n,Ax,FU,Nat.mul_add,Nat.add_assoc,Nat.mul_left_comm]
theorem V7(F:Nat→Nat)(n:Nat)(h:0<n):F (n-1)*P (n-1)≤V F n:=by
 obtain⟨m,rfl⟩: ∃m,n=m+1:=⟨n-1,by omega⟩;rw[Ax,Nat.add_sub_cancel];omega
theorem GD: ∀n,V (fun _=>0) n=0
 |0=>rfl
 |n+1=>by rw[Ax,GD n,Nat.zero_mul]
theorem Jp{F:Nat→Nat}{n:Nat}(h: ∀i,i<n→F i=0):V F n=0:=by
 rw[Bl (G:=fun _=>0) h,GD]
theorem Ke{F:Nat→Nat}{m n:Nat}(hm:m≤n)(h: ∀i,m≤i→i<n→F i=0):V F n=V F m:=by
 obtain⟨k,rfl⟩: ∃k,n=m+k:=⟨n-m,by omega⟩;rw[BT,Jp fun i hi=>h (m+i) (by omega) (by omega),Nat.mul_zero,Nat.add_zero]
def lim:Nat:=4294967296
theorem Qz{n:Nat}(h:n≤lim):n≤4294967296:=h
structure AE (x:Nat):Prop where
 lt:x<P lim
theorem IX{F:Nat→Nat}{n m:Nat}(hm:m<n)(h1:F (n-1)≠0):P m≤V F n:=by
 have h2:P m≤P (n-1):=Dt (by omega);have h3:=V7 F n (by omega);have h4:1*P (n-1)≤F (n-1)*P (n-1):=Nat.mul_le_mul_right _ (by omega);omega
theorem Cd{F:Nat→Nat}{n m:Nat}(h:V F n<P m)(h1:0<n→F (n-1)≠0):n≤m:=by
 rcases Nat.lt_or_ge m n with h'|h'
 ·exact absurd h (Nat.not_lt.2 (IX h' (h1 (by omega))))
 exact h'
theorem Bb{F:Nat→Nat}{n:Nat}(h:AE (V F n))(h1:0<n→F (n-1)≠0):n≤4294967296:=Qz (Cd h.lt h1)
def Dc(w:World)(b o n:Nat)(F:Nat→Nat):Prop:= ∀i,i<n→w.cell? ⟨b,o+i,none⟩=some (.int .u64 (F i:Nat))
def Sl(w:World)(a:Option Addr)(n cap:Nat)(F:Nat→Nat):Prop:=
 n≤cap∧cap≤9223372036854775807∧Ok F n∧(n=0∨ ∃b o,a=some ⟨b,o,none⟩∧Dc w b o n F)
def Ac(w:World)(v:Value)(x:Nat):Prop:=
 ∃a n cap F,v=.agg #[.slice a n cap]∧Sl w a n cap F∧(n=0→a=none∧cap=0)∧(0<n→F (n-1)≠0)∧V F n=x
theorem Dc.mono{w w':World}{b o n:Nat}{F:Nat→Nat}(h:Dc w b o n F)(hb:Below w.heap.size w w'):Dc w' b o n F:=
 fun i hi=>cell_later hb (h i hi)
theorem Sl.mono{w w':World}{a:Option Addr}{n cap:Nat}{F:Nat→Nat}(h:Sl w a n cap F)(hb:Below w.heap.size w w'):Sl w' a n cap F:=by
 obtain⟨h1,h2,h3,h4⟩:=h;refine⟨h1,h2,h3,h4.imp id ?_⟩;rintro⟨b,o,ha,hw⟩;exact⟨b,o,ha,hw.mono hb⟩
theorem Ac.mono{w w':World}{v:Value}{x:Nat}(h:Ac w v x)(hb:Below w.heap.size w w'):Ac w' v x:=by
 obtain⟨a,n,cap,F,rfl,hs,h0,h1,hv⟩:=h;exact⟨a,n,cap,F,rfl,hs.mono hb,h0,h1,hv⟩
theorem Di(w:World):Ac w (.agg #[.slice none 0 0]) 0:=
 ⟨none,0,0,fun _=>0,rfl,⟨Nat.le_refl _,by omega,fun i hi=>absurd hi (by omega),.inl rfl⟩,fun _=>⟨rfl,rfl⟩,fun h=>absurd h (by omega),rfl⟩
theorem Aa(w:World):Below w.heap.size w w:=Below.refl _ _
theorem AY{a b c:World}(h:Below a.heap.size a b)(k:Below b.heap.size b c):Below a.heap.size a c:=h.trans (k.mono h.size)
theorem Ba{k:IntKind}{a b:Int}(h:a=b):Ending.returned (.int k a)=.returned (.int k b):=by rw[h]
theorem Tryz.info22:(Tryz.prog.info? 69).map (fun i=>(i.zero,i.size,i.bytes))=some (some (.int .u64 0),1,8):=by kernel_rfl
set_option maxRecDepth 100000
theorem Sl.at{w:World}{a:Option Addr}{n cap:Nat}{F:Nat→Nat}(h:Sl w a n cap F)(i:Nat)(hi:i<n): ∃b o,a=some ⟨b,o,none⟩∧Dc w b o n F:=by
 rcases h.2.2.2 with h0|h0
 ·omega
 exact h0
theorem QA{w:World}{b o n cap k:Nat}{F:Nat→Nat}(h:Sl w (some ⟨b,o,none⟩) n cap F)(hk:k≤n)(h0:0<k)(hz: ∀i,k≤i→i<n→F i=0)(hf:F (k-1)≠0):
  Ac w (.agg #[.slice (some ⟨b,o,none⟩) k cap]) (V F n):=by
 obtain⟨b',o',e,hw⟩:=h.at 0 (by omega);cases e;refine⟨_,k,cap,F,rfl,⟨by have:=h.1;omega,h.2.1,h.2.2.1.mono hk,.inr ⟨b,o,rfl,fun i hi=>hw i (by omega)⟩⟩,fun e=>absurd e (by omega),fun _=>hf,(Ke hk hz).symm⟩
theorem CJ(a:Option Addr)(n cap:Nat)(F:Nat→Nat)(w:World)(h:Sl w a n cap F)(hn:n≤1099511627776):
  Calls Tryz.prog 125 #[.slice a n cap] w fun e w'=> ∃v,e=.returned v∧Ac w' v (V F n)∧Below w.heap.size w w':=by
 go_enter Tryz.func125,Tryz.ntmps125
 go_wp2
 go_loop [3] (fun t=> ∃k:Nat,k≤n∧t=.int .i64 k∧(∀i,k≤i→i<n→F i=0)) (fun t=>(intOf t).toNat)
 case atStart=>exact⟨n,Nat.le_refl _,rfl,fun i h1 h2=>absurd h1 (by omega)⟩
 case round=>
  obtain⟨k,hk,rfl,hz⟩:=hrel;by_cases h0:k=0
  ·subst h0;have HZ:Hid _:=hz;clear hz;go_wp2
   refine bodyPost_ret (v:=.agg #[.slice none 0 0]) (by simp[results,Tryz.results125,go_sem]) rfl ⟨_,rfl,?_,?_⟩
   ·rw[Jp fun i hi=>HZ.out i (Nat.zero_le _) hi];exact Di _
   exact(Below.refl _ _).alloc (Nat.le_refl _) _
  obtain⟨b,o,rfl,hw⟩:=h.at (k-1) (by omega);have hc:(w.alloc (.cells #[.slice none 0 0] 103)).cell? ⟨b,o+(k-1),none⟩=some (.int .u64 (F (k-1):Nat)):=cell_later ((Below.refl _ _).alloc (Nat.le_refl _) _) (hw (k-1) (by omega));have h0':(0:Int)<k:=by omega
  have HZ:Hid _:=hz;have HW:Hid _:=hw;have HH:Hid _:=h;clear hz hw h;by_cases hf:F (k-1)=0
  ·rw[hf]at hc;go_wp2
   go_round
   case rel=>
    refine⟨k-1,by omega,by go_num,fun i h1 h2=> ?_⟩;by_cases e:i=k-1
    ·rw[e,hf]
    exact HZ.out i (by omega) h2
   case measure=>simp[intOf];omega
  have hne:(((F (k-1):Nat):Int)==0)=false:=by simp;omega
  have hk0:((k:Int)==0)=false:=by simp;omega
  have hcap:(k:Int)≤cap:=by have:=HH.out.1;omega
  go_wp2
  refine bodyPost_ret (v:=.agg #[.slice (some ⟨b,o,none⟩) k cap]) (by simp[results,Tryz.results125,go_sem]) rfl ⟨_,rfl,?_,?_⟩
  ·exact(QA HH.out hk (by omega) HZ.out hf).mono ((Below.refl _ _).alloc (Nat.le_refl _) _)
  exact(Below.refl _ _).alloc (Nat.le_refl _) _
theorem QC(w:World)(n g:Nat)(hn:n<18446744073709551616)(hg:g=w.heap.size)(t:TypeId):Sl (w.alloc (.cells #[.int .u64 (n:Int)] t)) (some ⟨g,0,none⟩) 1 1 (fun _=>n):=
 ⟨Nat.le_refl _,by omega,fun _ _=>hn,.inr ⟨g,0,rfl,fun i hi=>by
  obtain rfl:i=0:=by omega
  subst hg;simp⟩⟩
theorem Sl.setCell{w:World}{a:Option Addr}{n cap:Nat}{F:Nat→Nat}(h:Sl w a n cap F){p:Addr}(hp: ∀k q,w.cell? p≠some (.int k q))(u:Value):Sl (w.setCell p u) a n cap F:=by
 obtain⟨h1,h2,h3,h4⟩:=h;refine⟨h1,h2,h3,h4.imp id ?_⟩;rintro⟨b,o,ha,hw⟩;refine⟨b,o,ha,fun i hi=> ?_⟩;have hne:(⟨b,o+i,none⟩:Addr)≠p:=fun e=>hp _ _ (e▸hw i hi);exact(World.cell?_setCell_other (h:=hne.symm) ..).trans (hw i hi)
theorem Ac.setCell{w:World}{v:Value}{x:Nat}(h:Ac w v x){p:Addr}(hp: ∀k q,w.cell? p≠some (.int k q))(u:Value):Ac (w.setCell p u) v x:=by
 obtain⟨a,n,cap,F,rfl,hs,h0,h1,hv⟩:=h;exact⟨a,n,cap,F,rfl,hs.setCell hp u,h0,h1,hv⟩
theorem Ad{w:World}{p:Addr}{a:Option Addr}{n c:Nat}(h:w.cell? p=some (.slice a n c)): ∀k q,w.cell? p≠some (.int k q):=fun k q e=>by rw[h]at e;cases e
theorem Dj(n:Nat)(w:World)(hn:n<18446744073709551616):
  Calls Tryz.prog 95 #[.int .u64 (n:Int)] w fun e w'=> ∃v,e=.returned v∧Ac w' v n∧Below w.heap.size w w':=by
 go_enter Tryz.func95,Tryz.ntmps95
 go_wp2_with fail
 refine(CJ _ 1 1 (fun _=>n) _ (QC _ n _ hn (by simp) _) (by omega)).mono ?_;rintro e w1 ⟨v,rfl,hv,hb⟩;have hc:w1.cell? ⟨w.heap.size,0,none⟩=some (.slice none 0 0):=cell_later hb (by simp);have hf:w1.frozen? ⟨w.heap.size,0,none⟩=false:=(hb.frozen (by simp;omega)).trans (by simp);have HBB:Hid (Below w.heap.size w w1):=((((Below.refl _ _).alloc (Nat.le_refl _) _).alloc (by simp) _)).trans (hb.mono (by simp;omega));obtain⟨a',n',cap',F',rfl,HF⟩:=id hv;have HV:Hid _:=hv;clear hb hv HF;go_wp2_with fail
 refine bodyPost_ret (v:=.agg #[.slice a' n' cap']) (by simp[results,Tryz.results95,go_sem,hc]) rfl ⟨_,rfl,?_,?_⟩
 ·have hx:Ac w1 _ _:=HV.out;rw[Ax,Bw,Dh,Nat.zero_add,Nat.mul_one]at hx;exact hx.setCell (Ad hc) _
 exact HBB.out.setCell (Nat.le_refl _) _
theorem Fe(n:Int)(h0:0≤n)(h:n≤1000):wrap64 n=n:=IntWalk.wrap64_in n ⟨by omega,by omega⟩
theorem Pw(n:Nat)(h:4294967296≤n):bitLen n=32+bitLen (n/4294967296):=bitLen_shift n 32 (by show n/4294967296≠0;omega)
theorem Px(n:Nat)(h:65536≤n):bitLen n=16+bitLen (n/65536):=bitLen_shift n 16 (by show n/65536≠0;omega)
theorem sh8(n:Nat)(h:256≤n):bitLen n=8+bitLen (n/256):=bitLen_shift n 8 (by show n/256≠0;omega)
theorem Fv(k i n:Nat)(z:Int)(hz:z=(k:Int))(h:i<256)(hk:k≤56)(e:bitLen n=k+bitLen i):wrap64 (z+wrap64 ((bitLen i:Nat):Int))=((bitLen n:Nat):Int):=by
 have hb:=bitLen_le8 i h;subst hz;rw[Fe ((bitLen i:Nat):Int) (by omega) (by omega),Fe _ (by omega) (by omega),e];omega
theorem SQ(n:Nat)(h:n<256):wrap64 (wrap64 ((bitLen n:Nat):Int))=((bitLen n:Nat):Int):=by
 have hb:=bitLen_le8 n h;rw[Fe ((bitLen n:Nat):Int) (by omega) (by omega),Fe _ (by omega) (by omega)]
theorem Du(n:Nat)(h:n<18446744073709551616):bitLen n≤64:=by
 unfold bitLen;split
 ·omega
 rename_i h0;have:=(Nat.log2_lt h0).2 (show n<2^64 from h);omega
theorem QD(n m k j:Nat)(w:World)(hn:n<18446744073709551616)(i0:decide ((4294967296:Int)≤(n:Int))=true)(i1:(n:Int)/4294967296=(m:Int))(i2:decide ((65536:Int)≤(m:Int))=true)(i3:(m:Int)/65536=(k:Int))(i4:decide ((256:Int)≤(k:Int))=true)(i5:(k:Int)/256=(j:Int))(i6:(j:Int)<256):
  Calls Tryz.prog 117 #[.int .u64 (n:Int)] w fun e w'=>e=.returned (.int .i64 ((bitLen n:Nat):Int))∧w'=w:=by
 have Q0:Hid (4294967296≤n):=by have:=of_decide_eq_true i0;show 4294967296≤n;omega
 have Q1:Hid (65536≤m):=by have:=of_decide_eq_true i2;show 65536≤m;omega
 have Q2:Hid (256≤k):=by have:=of_decide_eq_true i4;show 256≤k;omega
 go_enter Tryz.func117,Tryz.ntmps117
 go_wp2
 go_ret
 refine⟨Ba ?_,rfl⟩;simp only[len8tab_get];exact Fv 56 j n 56 (by omega) (by omega) (by omega) (by rw[Pw n Q0.out,show n/4294967296=m from by omega,Px m Q1.out,show m/65536=k from by omega,sh8 k Q2.out,show k/256=j from by omega]<;>omega)
theorem QE(n m k:Nat)(w:World)(hn:n<18446744073709551616)(i0:decide ((4294967296:Int)≤(n:Int))=true)(i1:(n:Int)/4294967296=(m:Int))(i2:decide ((65536:Int)≤(m:Int))=true)(i3:(m:Int)/65536=(k:Int))(i4:decide ((256:Int)≤(k:Int))=false)(i5:(k:Int)<256):
  Calls Tryz.prog 117 #[.int .u64 (n:Int)] w fun e w'=>e=.returned (.int .i64 ((bitLen n:Nat):Int))∧w'=w:=by
 have Q0:Hid (4294967296≤n):=by have:=of_decide_eq_true i0;show 4294967296≤n;omega
 have Q1:Hid (65536≤m):=by have:=of_decide_eq_true i2;show 65536≤m;omega
 go_enter Tryz.func117,Tryz.ntmps117
 go_wp2
 go_ret
 refine⟨Ba ?_,rfl⟩;simp only[len8tab_get];exact Fv 48 k n 48 (by omega) (by omega) (by omega) (by rw[Pw n Q0.out,show n/4294967296=m from by omega,Px m Q1.out,show m/65536=k from by omega]<;>omega)
theorem QF(n m j:Nat)(w:World)(hn:n<18446744073709551616)(i0:decide ((4294967296:Int)≤(n:Int))=true)(i1:(n:Int)/4294967296=(m:Int))(i2:decide ((65536:Int)≤(m:Int))=false)(i3:decide ((256:Int)≤(m:Int))=true)(i4:(m:Int)/256=(j:Int))(i5:(j:Int)<256):
  Calls Tryz.prog 117 #[.int .u64 (n:Int)] w fun e w'=>e=.returned (.int .i64 ((bitLen n:Nat):Int))∧w'=w:=by
 have Q0:Hid (4294967296≤n):=by have:=of_decide_eq_true i0;show 4294967296≤n;omega
 have Q1:Hid (256≤m):=by have:=of_decide_eq_true i3;show 256≤m;omega
 go_enter Tryz.func117,Tryz.ntmps117
 go_wp2
 go_ret
 refine⟨Ba ?_,rfl⟩;simp only[len8tab_get];exact Fv 40 j n 40 (by omega) (by omega) (by omega) (by rw[Pw n Q0.out,show n/4294967296=m from by omega,sh8 m Q1.out,show m/256=j from by omega]<;>omega)
theorem QG(n m:Nat)(w:World)(hn:n<18446744073709551616)(i0:decide ((4294967296:Int)≤(n:Int))=true)(i1:(n:Int)/4294967296=(m:Int))(i2:decide ((65536:Int)≤(m:Int))=false)(i3:decide ((256:Int)≤(m:Int))=false)(i4:(m:Int)<256):
  Calls Tryz.prog 117 #[.int .u64 (n:Int)] w fun e w'=>e=.returned (.int .i64 ((bitLen n:Nat):Int))∧w'=w:=by
 have Q0:Hid (4294967296≤n):=by have:=of_decide_eq_true i0;show 4294967296≤n;omega
 go_enter Tryz.func117,Tryz.ntmps117
 go_wp2
 go_ret
 refine⟨Ba ?_,rfl⟩;simp only[len8tab_get];exact Fv 32 m n 32 (by omega) (by omega) (by omega) (by rw[Pw n Q0.out,show n/4294967296=m from by omega]<;>omega)
theorem QH(n k j:Nat)(w:World)(hn:n<18446744073709551616)(i0:decide ((4294967296:Int)≤(n:Int))=false)(i1:decide ((65536:Int)≤(n:Int))=true)(i2:(n:Int)/65536=(k:Int))(i3:decide ((256:Int)≤(k:Int))=true)(i4:(k:Int)/256=(j:Int))(i5:(j:Int)<256):
  Calls Tryz.prog 117 #[.int .u64 (n:Int)] w fun e w'=>e=.returned (.int .i64 ((bitLen n:Nat):Int))∧w'=w:=by
 have Q0:Hid (65536≤n):=by have:=of_decide_eq_true i1;show 65536≤n;omega
 have Q1:Hid (256≤k):=by have:=of_decide_eq_true i3;show 256≤k;omega
 go_enter Tryz.func117,Tryz.ntmps117
 go_wp2
 go_ret
 refine⟨Ba ?_,rfl⟩;simp only[len8tab_get];exact Fv 24 j n 24 (by omega) (by omega) (by omega) (by rw[Px n Q0.out,show n/65536=k from by omega,sh8 k Q1.out,show k/256=j from by omega]<;>omega)
theorem QI(n k:Nat)(w:World)(hn:n<18446744073709551616)(i0:decide ((4294967296:Int)≤(n:Int))=false)(i1:decide ((65536:Int)≤(n:Int))=true)(i2:(n:Int)/65536=(k:Int))(i3:decide ((256:Int)≤(k:Int))=false)(i4:(k:Int)<256):
  Calls Tryz.prog 117 #[.int .u64 (n:Int)] w fun e w'=>e=.returned (.int .i64 ((bitLen n:Nat):Int))∧w'=w:=by
 have Q0:Hid (65536≤n):=by have:=of_decide_eq_true i1;show 65536≤n;omega
 go_enter Tryz.func117,Tryz.ntmps117
 go_wp2
 go_ret
 refine⟨Ba ?_,rfl⟩;simp only[len8tab_get];exact Fv 16 k n 16 (by omega) (by omega) (by omega) (by rw[Px n Q0.out,show n/65536=k from by omega]<;>omega)
theorem QJ(n j:Nat)(w:World)(hn:n<18446744073709551616)(i0:decide ((4294967296:Int)≤(n:Int))=false)(i1:decide ((65536:Int)≤(n:Int))=false)(i2:decide ((256:Int)≤(n:Int))=true)(i3:(n:Int)/256=(j:Int))(i4:(j:Int)<256):
  Calls Tryz.prog 117 #[.int .u64 (n:Int)] w fun e w'=>e=.returned (.int .i64 ((bitLen n:Nat):Int))∧w'=w:=by
 have Q0:Hid (256≤n):=by have:=of_decide_eq_true i2;show 256≤n;omega
 go_enter Tryz.func117,Tryz.ntmps117
 go_wp2
 go_ret
 refine⟨Ba ?_,rfl⟩;simp only[len8tab_get];exact Fv 8 j n 8 (by omega) (by omega) (by omega) (by rw[sh8 n Q0.out,show n/256=j from by omega]<;>omega)
theorem QK(n:Nat)(w:World)(hn:n<18446744073709551616)(i0:decide ((4294967296:Int)≤(n:Int))=false)(i1:decide ((65536:Int)≤(n:Int))=false)(i2:decide ((256:Int)≤(n:Int))=false)(i3:(n:Int)<256):
  Calls Tryz.prog 117 #[.int .u64 (n:Int)] w fun e w'=>e=.returned (.int .i64 ((bitLen n:Nat):Int))∧w'=w:=by
 go_enter Tryz.func117,Tryz.ntmps117
 go_wp2
 go_ret
 refine⟨Ba ?_,rfl⟩;simp only[len8tab_get];exact SQ n (by omega)
theorem LB(n:Nat)(w:World)(hn:n<18446744073709551616):
  Calls Tryz.prog 117 #[.int .u64 (n:Int)] w fun e w'=>e=.returned (.int .i64 ((bitLen n:Nat):Int))∧w'=w:=by
 by_cases h1:4294967296≤n
 ·by_cases h2:65536≤n/4294967296
  ·by_cases h3:256≤n/4294967296/65536
   ·exact QD n (n/4294967296) ((n/4294967296)/65536) (((n/4294967296)/65536)/256) w hn (decide_eq_true (by omega)) (by omega) (decide_eq_true (by omega)) (by omega) (decide_eq_true (by omega)) (by omega) (by omega)
   exact QE n (n/4294967296) ((n/4294967296)/65536) w hn (decide_eq_true (by omega)) (by omega) (decide_eq_true (by omega)) (by omega) (decide_eq_false (by omega)) (by omega)
  by_cases h3:256≤n/4294967296
  ·exact QF n (n/4294967296) ((n/4294967296)/256) w hn (decide_eq_true (by omega)) (by omega) (decide_eq_false (by omega)) (decide_eq_true (by omega)) (by omega) (by omega)
  exact QG n (n/4294967296) w hn (decide_eq_true (by omega)) (by omega) (decide_eq_false (by omega)) (decide_eq_false (by omega)) (by omega)
 by_cases h2:65536≤n
 ·by_cases h3:256≤n/65536
  ·exact QH n (n/65536) ((n/65536)/256) w hn (decide_eq_false (by omega)) (decide_eq_true (by omega)) (by omega) (decide_eq_true (by omega)) (by omega) (by omega)
  exact QI n (n/65536) w hn (decide_eq_false (by omega)) (decide_eq_true (by omega)) (by omega) (decide_eq_false (by omega)) (by omega)
 by_cases h3:256≤n
 ·exact QJ n (n/256) w hn (decide_eq_false (by omega)) (decide_eq_false (by omega)) (decide_eq_true (by omega)) (by omega) (by omega)
 exact QK n w hn (decide_eq_false (by omega)) (decide_eq_false (by omega)) (decide_eq_false (by omega)) (by omega)
theorem Mv(n:Nat)(w:World)(hn:n<18446744073709551616):
  Calls Tryz.prog 152 #[.int .u64 (n:Int)] w fun e w'=>e=.returned (.int .i64 ((64-bitLen n:Nat):Int))∧w'=w:=by
 have hb:=Du n hn;go_enter Tryz.func152,Tryz.ntmps152
 go_wp2_with fail
 refine(LB n _ hn).mono ?_;rintro e w' ⟨rfl,rfl⟩;go_wp2_with fail
 go_ret
 exact⟨Ba (by omega),rfl⟩
theorem DQ(n:Nat):P n=2^(64*n):=by
 unfold P;rw[show(18446744073709551616:Nat)=2^64 from rfl,←Nat.pow_mul]
theorem Xc{F:Nat→Nat}{n:Nat}(h:Ok F n):V F (n+1)/P n=F n:=by
 rw[Ax,Nat.add_mul_div_right _ _ (Hd n),Nat.div_eq_of_lt (Cx h),Nat.zero_add]
theorem JT{F:Nat→Nat}{n:Nat}(h:Ok F (n+1))(h0:F n≠0):bitLen (V F (n+1))=64*n+bitLen (F n):=by
 have e:=Xc (h.mono (Nat.le_succ n));have hs:=bitLen_shift (V F (n+1)) (64*n) (by rw[←DQ,e];exact h0);rw[←DQ,e]at hs;exact hs
theorem DA{w:World}{a:Option Addr}{n cap:Nat}{x:Nat}(h:Ac w (.agg #[.slice a n cap]) x):n=0↔x=0:=by
 obtain⟨a',n',cap',F,e,hs,h0,h1,hv⟩:=h;simp only[Value.agg.injEq,Array.mk.injEq,List.cons.injEq,Value.slice.injEq,and_true]at e;obtain⟨rfl,rfl,rfl⟩:=e;constructor
 ·rintro rfl;exact hv.symm
 intro hx;by_cases e0:n=0
 ·exact e0
 have:=V7 F n (by omega);have hF:=h1 (by omega);have hp:=Hd (n-1);have hm:1*P (n-1)≤F (n-1)*P (n-1):=Nat.mul_le_mul_right _ (by omega);omega
theorem Ec(v:Value)(x:Nat)(w:World)(h:Ac w v x)(hx:AE x):
  Calls Tryz.prog 89 #[v] w fun e w'=>e=.returned (.int .i64 ((bitLen x:Nat):Int))∧Below w.heap.size w w':=by
 obtain⟨a,n,cap,F,rfl,hs,h0,h1,hv⟩:=h;by_cases e0:n=0
 ·subst e0;have hv0:x=0:=hv.symm;subst hv0;clear hv h1 h0;go_enter Tryz.func89,Tryz.ntmps89
  go_wp2
  go_ret
  exact⟨rfl,(Below.refl _ _).alloc (Nat.le_refl _) _⟩
 obtain⟨m,rfl⟩: ∃m,n=m+1:=⟨n-1,by omega⟩;obtain⟨b,o,rfl,hw⟩:=hs.at m (by omega);have hF:F m≠0:=h1 (by omega);have hok:=hs.2.2.1;have hm:m+1≤4294967296:=Bb (hv.symm▸hx) h1;have hlen:=JT hok hF;rw[hv]at hlen;have hc:=hw m (by omega);have hlt:b<w.heap.size:=World.block_lt_of_cell? _ _ hc;have hFm:=hok m (by omega);have hbl:=Du (F m) hFm;have HL:Hid _:=hlen;clear hlen hw h0 h1 hv hs hok hx;have hne:((m:Int)+1==0)=false:=by simp;omega
 go_enter Tryz.func89,Tryz.ntmps89
 go_wp2_with fail
 refine(LB (F m) _ hFm).mono ?_;rintro e w1 ⟨rfl,rfl⟩;go_wp2_with fail
 go_ret
 exact⟨Ba (by rw[HL.out];omega),(Below.refl _ _).alloc (Nat.le_refl _) _⟩
theorem Hr{w:World}{a:Option Addr}{n cap:Nat}{F:Nat→Nat}(hs:Sl w a n cap F)(h1:0<n→F (n-1)≠0):V F n<18446744073709551616↔n≤1:=by
 rw[←FT];constructor
 ·intro h;exact Cd h h1
 intro h;exact Nat.lt_of_lt_of_le (Cx hs.2.2.1) (Dt h)
theorem Mw(v:Value)(x:Nat)(w:World)(h:Ac w v x)(hx:x<18446744073709551616):
  Calls Tryz.prog 93 #[v] w fun e w'=>e=.returned (.tuple #[.int .u64 (x:Int),.bool true])∧Below w.heap.size w w':=by
 obtain⟨a,n,cap,F,rfl,hs,h0,h1,hv⟩:=h;have hn:=(Hr hs h1).1 (hv.symm▸hx);by_cases e0:n=0
 ·subst e0;have hv0:x=0:=hv.symm;subst hv0;clear hv h1 h0;go_enter Tryz.func93,Tryz.ntmps93
  go_wp2
  go_ret2
  exact⟨rfl,(Below.refl _ _).alloc (Nat.le_refl _) _⟩
 obtain rfl:n=1:=by omega
 obtain⟨b,o,rfl,hw⟩:=hs.at 0 (by omega);have hxF:x=F 0:=by rw[←hv,Ax,Bw,Dh];omega
 have hc:w.cell? ⟨b,o,none⟩=some (.int .u64 (F 0:Nat)):=hw 0 (by omega);rw[←hxF]at hc;have hlt:b<w.heap.size:=World.block_lt_of_cell? _ _ hc;clear hw h0 h1 hv hs hxF hn e0;go_enter Tryz.func93,Tryz.ntmps93
 go_wp2
 go_ret2
 exact⟨rfl,(Below.refl _ _).alloc (Nat.le_refl _) _⟩
def AW(x y:Nat):Int:=if x<y then -1 else if x=y then 0 else 1
theorem Ew{x y:Nat}(h:x<y):AW x y= -1:=by simp[AW,h]
theorem ER{x y:Nat}(h:y<x):AW x y=1:=by simp[AW,Nat.not_lt.2 (Nat.le_of_lt h),Nat.ne_of_gt h]
theorem H7(x:Nat):AW x x=0:=by simp[AW]
theorem Mx{F G:Nat→Nat}{n m:Nat}(hF:Ok F n)(hm:n<m)(h1:G (m-1)≠0):V F n<V G m:=
 Nat.lt_of_lt_of_le (Cx hF) (IX hm h1)
theorem Oy{F G:Nat→Nat}{n k:Nat}(hF:Ok F n)(hk:k<n)(hl:F k<G k)(he: ∀j,k+1≤j→j<n→F j=G j):V F n<V G n:=by
 obtain⟨t,rfl⟩: ∃t,n=k+1+t:=⟨n- (k+1),by omega⟩;rw[BT F (k+1),BT G (k+1),Bl (F:=fun i=>F (k+1+i)) (G:=fun i=>G (k+1+i)) fun i hi=>he _ (by omega) (by omega),Ax,Ax];have h1:=Cx (hF.mono (show k≤k+1+t by omega));have h2:(F k+1)*P k≤G k*P k:=Nat.mul_le_mul_right _ hl;rw[Nat.add_mul]at h2;omega
theorem Ao(w:World)(o1 o2:Obj):Below w.heap.size w ((w.alloc o1).alloc o2):=((Below.refl _ _).alloc (Nat.le_refl _) _).alloc (by simp) _
theorem Bd{B:Nat}{a w:World}(h:Below B a w)(n:Nat):Below B a (w.drewN n):=⟨h.os,h.tape,h.output,h.size,h.block⟩
theorem Fw(v u:Value)(x y:Nat)(w:World)(h:Ac w v x)(k:Ac w u y)(hx:AE x)(hy:AE y):
  Calls Tryz.prog 91 #[v,u] w fun e w'=>e=.returned (.int .i64 (AW x y))∧Below w.heap.size w w':=by
 obtain⟨a,n,cap,F,rfl,hs,h0,h1,hv⟩:=h;obtain⟨a',m,cap',G,rfl,ks,k0,k1,kv⟩:=k;have hn:n≤4294967296:=Bb (hv.symm▸hx) h1;have hm:m≤4294967296:=Bb (kv.symm▸hy) k1;rcases Nat.lt_trichotomy n m with hlt|heq|hgt
 ·have HC:Hid (AW x y= -1):=Ew (by rw[←hv,←kv];exact Mx hs.2.2.1 hlt (k1 (by omega)));clear hs h0 h1 hv ks k0 k1 kv hx hy;go_enter Tryz.func91,Tryz.ntmps91
  go_wp2
  go_ret
  exact⟨Ba HC.out.symm,Ao _ _ _⟩
 ·subst heq;go_enter Tryz.func91,Tryz.ntmps91
  have HH:Hid _:=(show(Sl w a n cap F∧Sl w a' n cap' G∧V F n=x∧V G n=y) from⟨hs,ks,hv,kv⟩);clear hs h0 h1 hv ks k0 k1 kv hx hy;go_wp2
  go_loopw [5] (fun t wr=> ∃(k nd:Nat),k≤n∧t=.int .i64 ((k:Int)-1)∧(∀j,k≤j→j<n→F j=G j)∧wr=((w.alloc (.cells #[.slice a n cap] 103)).alloc (.cells #[.slice a' n cap'] 103)).drewN nd) (fun t _=>(intOf t+1).toNat)
  case atStart=>exact⟨n,0,Nat.le_refl _,rfl,fun j h1 h2=>absurd h1 (by omega),rfl⟩
  case round=>
   obtain⟨k,nd,hk,rfl,he,rfl⟩:=hrel;by_cases e0:k=0
   ·subst e0;have HE:Hid _:=he;clear he;go_wp2
    go_ret
    refine⟨Ba ?_,Bd (Ao _ _ _) _⟩;obtain⟨_,_,q1,q2⟩:=HH.out;rw[←q1,←q2,Bl fun i hi=>HE.out i (Nat.zero_le _) hi,H7]
   obtain⟨j,rfl⟩: ∃j,k=j+1:=⟨k-1,by omega⟩;obtain⟨b,o,rfl,hw⟩:=HH.out.1.at j (by omega);obtain⟨b',o',rfl,kw⟩:=HH.out.2.1.at j (by omega);have hc:=hw j (by omega);have kc:=kw j (by omega);have hb:b<w.heap.size:=World.block_lt_of_cell? _ _ hc;have kb:b'<w.heap.size:=World.block_lt_of_cell? _ _ kc;have HE:Hid _:=he;clear he hw kw;rcases Nat.lt_trichotomy (F j) (G j)with hl|hl|hl
   ·have hl':((F j:Nat):Int)<(G j:Nat):=by omega
    have HC:Hid (AW x y= -1):=by
     obtain⟨q1,_,q3,q4⟩:=HH.out;exact Ew (by rw[←q3,←q4];exact Oy q1.2.2.1 (by omega) hl HE.out)
    go_wp2_with fail
    go_region
    go_wp2_with fail
    go_ret
    exact⟨Ba HC.out.symm,Bd (Ao _ _ _) _⟩
   ·have hd1:decide (((F j:Nat):Int)<(G j:Nat))=false:=decide_eq_false (by omega);have hd2:decide (((G j:Nat):Int)<(F j:Nat))=false:=decide_eq_false (by omega);go_wp2_with fail
    go_region
    go_wp2_with fail
    go_region
    go_wp2_with fail
    go_roundw
    case rel=>
     refine⟨j,nd+1+1,by omega,by go_num,fun i h1 h2=> ?_,rfl⟩;by_cases e:i=j
     ·rw[e,hl]
     exact HE.out i (by omega) h2
    case measure=>simp[intOf]
   have hd1:decide (((F j:Nat):Int)<(G j:Nat))=false:=decide_eq_false (by omega);have hl':((G j:Nat):Int)<(F j:Nat):=by omega
   have HC:Hid (AW x y=1):=by
    obtain⟨_,q2,q3,q4⟩:=HH.out;exact ER (by rw[←q3,←q4];exact Oy q2.2.2.1 (by omega) hl fun i h1 h2=>(HE.out i h1 h2).symm)
   go_wp2_with fail
   go_region
   go_wp2_with fail
   go_region
   go_wp2_with fail
   go_ret
   exact⟨Ba HC.out.symm,Bd (Ao _ _ _) _⟩
 have HC:Hid (AW x y=1):=ER (by rw[←hv,←kv];exact Mx ks.2.2.1 hgt (h1 (by omega)));clear hs h0 h1 hv ks k0 k1 kv hx hy;have hd1:decide ((n:Int)<m)=false:=decide_eq_false (by omega);have hd2:(m:Int)<n:=by omega
 go_enter Tryz.func91,Tryz.ntmps91
 go_wp2
 go_ret
 exact⟨Ba HC.out.symm,Ao _ _ _⟩
def Cf(x y c:Nat):Nat:=(x+y+c)%18446744073709551616
def BN(x y c:Nat):Nat:=(x+y+c)/18446744073709551616
def Ff(x y c:Nat):Nat:=(x+18446744073709551616-y-c)%18446744073709551616
def Ei(x y c:Nat):Nat:=if x<y+c then 1 else 0
theorem Py(x y c:Nat)(hc:c≤1)(w:World):(callFunc 171 #[.int .u64 (x:Int),.int .u64 (y:Int),.int .u64 (c:Int)]).run Tryz.prog w=
  .ok (.value (.tuple #[.int .u64 (Cf x y c:Nat),.int .u64 (BN x y c:Nat)])) w:=by
 rw[run_callFunc_extern Tryz.func171 (by kernel_rfl) (by kernel_rfl) (by kernel_rfl) (e:=add64Entry) (by kernel_rfl),run_add64 x y c (by omega) (by omega) (by omega) (by omega)];simp only[Result.andThen,Cf,BN];congr 5<;>omega
theorem Pz(x y c:Nat)(hc:c≤1)(w:World):(callFunc 192 #[.int .u64 (x:Int),.int .u64 (y:Int),.int .u64 (c:Int)]).run Tryz.prog w=
  .ok (.value (.tuple #[.int .u64 (Ff x y c:Nat),.int .u64 (Ei x y c:Nat)])) w:=by
 rw[run_callFunc_extern Tryz.func192 (by kernel_rfl) (by kernel_rfl) (by kernel_rfl) (e:=sub64Entry) (by kernel_rfl),run_sub64 x y c hc];rfl
theorem SS(x c:Nat)(hc:c≤1)(w:World):(callFunc 171 #[.int .u64 (x:Int),.int .u64 0,.int .u64 (c:Int)]).run Tryz.prog w=
  .ok (.value (.tuple #[.int .u64 (Cf x 0 c:Nat),.int .u64 (BN x 0 c:Nat)])) w:=Py x 0 c hc w
theorem Fz(x y:Nat)(w:World):(callFunc 171 #[.int .u64 (x:Int),.int .u64 (y:Int),.int .u64 0]).run Tryz.prog w=
  .ok (.value (.tuple #[.int .u64 (Cf x y 0:Nat),.int .u64 (BN x y 0:Nat)])) w:=Py x y 0 (by omega) w
theorem SV(x c:Nat)(hc:c≤1)(w:World):(callFunc 192 #[.int .u64 (x:Int),.int .u64 0,.int .u64 (c:Int)]).run Tryz.prog w=
  .ok (.value (.tuple #[.int .u64 (Ff x 0 c:Nat),.int .u64 (Ei x 0 c:Nat)])) w:=Pz x 0 c hc w
theorem JU(x y:Nat)(w:World):(callFunc 192 #[.int .u64 (x:Int),.int .u64 (y:Int),.int .u64 0]).run Tryz.prog w=
  .ok (.value (.tuple #[.int .u64 (Ff x y 0:Nat),.int .u64 (Ei x y 0:Nat)])) w:=Pz x y 0 (by omega) w
theorem FA(x y c:Nat):Cf x y c<18446744073709551616:=Nat.mod_lt _ (by omega)
theorem Iw(x y c:Nat):Ff x y c<18446744073709551616:=Nat.mod_lt _ (by omega)
theorem Iy(x y c:Nat)(hx:x<18446744073709551616)(hy:y<18446744073709551616)(hc:c≤1):BN x y c≤1:=by unfold BN;omega
theorem SW(x y c:Nat):Ei x y c≤1:=by unfold Ei;split<;>omega
theorem GE(x y c:Nat):Cf x y c+BN x y c*18446744073709551616=x+y+c:=by unfold Cf BN;omega
theorem My(x y c:Nat)(hx:x<18446744073709551616)(hy:y<18446744073709551616)(hc:c≤1):Ff x y c+y+c=x+Ei x y c*18446744073709551616:=by
 unfold Ff Ei;split<;>omega
theorem Mz(V VF VY g f y c c' p:Nat)(h:g+c'*18446744073709551616=f+y+c)(hk:V+c*p=VF+VY):(V+g*p)+c'*(p*18446744073709551616)=(VF+f*p)+(VY+y*p):=by
 have h2:(g+c'*18446744073709551616)*p=(f+y+c)*p:=by rw[h]
 simp only[Nat.add_mul]at h2;have e:c'*(p*18446744073709551616)=c'*18446744073709551616*p:=by rw[Nat.mul_assoc,Nat.mul_comm p]
 omega
theorem MA(V VF VY g f y c c' p:Nat)(h:g+y+c=f+c'*18446744073709551616)(hk:V+VY=VF+c*p):(V+g*p)+(VY+y*p)=(VF+f*p)+c'*(p*18446744073709551616):=by
 have h2:(g+y+c)*p=(f+c'*18446744073709551616)*p:=by rw[h]
 simp only[Nat.add_mul]at h2;have e:c'*(p*18446744073709551616)=c'*18446744073709551616*p:=by rw[Nat.mul_assoc,Nat.mul_comm p]
 omega
def fro(F:Nat→Nat)(o:Nat):Nat→Nat:=fun i=>F (o+i)
def Row(w:World)(b N:Nat)(F:Nat→Nat):Prop:=w.rowIs b 69 N (fun j=>.int .u64 ((F j:Nat):Int))∧Ok F N
def put(F:Nat→Nat)(i v:Nat):Nat→Nat:=fun j=>if j=i then v else F j
theorem AN(F:Nat→Nat)(i v:Nat):put F i v i=v:=by simp[put]
theorem Ar(F:Nat→Nat){i j:Nat}(v:Nat)(h:j≠i):put F i v j=F j:=by simp[put,h]
theorem Row.cell{w:World}{b N:Nat}{F:Nat→Nat}(h:Row w b N F){i:Nat}(hi:i<N):w.cell? ⟨b,i,none⟩=some (.int .u64 (F i:Nat)):=h.1.cell hi
theorem Row.frozen{w:World}{b N:Nat}{F:Nat→Nat}(h:Row w b N F)(i:Nat):w.frozen? ⟨b,i,none⟩=false:=h.1.frozen i
theorem Row.set{w:World}{b N:Nat}{F:Nat→Nat}(h:Row w b N F)(i:Nat){v:Nat}(hv:v<18446744073709551616):Row (w.setCell ⟨b,i,none⟩ (.int .u64 (v:Int))) b N (put F i v):=by
 refine⟨(h.1.set i _).congr fun j hj=> ?_,fun j hj=> ?_⟩
 ·unfold put;by_cases e:j=i<;>simp[e]
 unfold put;split
 ·exact hv
 exact h.2 j hj
theorem Row.words{w:World}{b N o n:Nat}{F:Nat→Nat}(h:Row w b N F)(ho:o+n≤N):Dc w b o n (fro F o):=fun i hi=>h.cell (by omega)
theorem Row.kept{w w':World}{b N:Nat}{F:Nat→Nat}{row:Option Nat}(h:Row w b N F)(hg:w.grownBy w' row)(hne:some b≠row):Row w' b N F:=⟨h.1.of_block (hg.block b h.1.lt hne),h.2⟩
theorem Row.below{w w':World}{b N:Nat}{F:Nat→Nat}(h:Row w b N F)(hb:Below w.heap.size w w'):Row w' b N F:=⟨h.1.of_block (hb.block b h.1.lt),h.2⟩
theorem Dc.kept{w w':World}{b o n:Nat}{F:Nat→Nat}{row:Option Nat}(h:Dc w b o n F)(hg:w.grownBy w' row)(hne:some b≠row):Dc w' b o n F:=fun i hi=>hg.cell (h i hi) hne
theorem Row.sl{w:World}{b N o n cap:Nat}{F:Nat→Nat}(h:Row w b N F)(ho:o+n≤N)(hc:n≤cap)(hm:cap≤9223372036854775807):Sl w (some ⟨b,o,none⟩) n cap (fro F o):=
 ⟨hc,hm,fun i hi=>h.2 _ (by omega),.inr ⟨b,o,rfl,h.words ho⟩⟩
theorem AZ(w:World){w':World}{b:Nat}(h:w.grownBy w' (some b))(i:Nat)(v:Value):w.grownBy (w'.setCell ⟨b,i,none⟩ v) (some b):=
 ⟨h.os,h.tape,h.output,by simpa using h.size,fun k hk hne=>(Below.heap_setCell _ _ _ _ (fun e=>hne (by rw[e]))).trans (h.block k hk hne)⟩
theorem JF{a b c:World}{r:Option Nat}(h:a.grownBy b r)(k:b.grownBy c r):a.grownBy c r:=
 ⟨k.os.trans h.os,k.tape.trans h.tape,k.output.trans h.output,Nat.le_trans h.size k.size,fun i hi hne=>(k.block i (Nat.lt_of_lt_of_le hi h.size) hne).trans (h.block i hi hne)⟩
theorem Gq{a b:World}{r:Option Nat}(h:a.grownBy b r)(n:Nat):a.grownBy (b.drewN n) r:=⟨h.os,h.tape,h.output,h.size,h.block⟩
theorem UJ{F H:Nat→Nat}{k n:Nat}(hk:k≤n)(h: ∀i,k≤i→i<n→H i=F i):V H n+V F k=V F n+V H k:=by
 obtain⟨t,rfl⟩: ∃t,n=k+t:=⟨n-k,by omega⟩;rw[BT H,BT F,Bl (F:=fun i=>H (k+i)) (G:=fun i=>F (k+i)) fun i hi=>h _ (by omega) (by omega)];omega
theorem Jq{F:Nat→Nat}{o k v:Nat}:V (fro (put F (o+k) v) o) k=V (fro F o) k:=Bl fun i hi=>Ar _ _ (by omega)
def EK(w wr:World)(b N o:Nat)(F:Nat→Nat)(y k c:Nat)(H:Nat→Nat):Prop:=
 Row wr b N H∧(∀j,j<o∨o+k≤j→H j=F j)∧c≤1∧V (fro H o) k+c*P k=V (fro F o) k+y∧w.grownBy wr (some b)
theorem EK.start{w:World}{b N:Nat}{F:Nat→Nat}(o:Nat)(h:Row w b N F):EK w w b N o F 0 0 0 F:=
 ⟨h,fun _ _=>rfl,by omega,by simp[Bw],World.grownBy.refl _ _⟩
theorem EK.step{w wr:World}{b N o:Nat}{F:Nat→Nat}{y k c:Nat}{H:Nat→Nat}(h:EK w wr b N o F y k c H)(hk:o+k<N)(g:Nat)(hg:g<18446744073709551616):
  EK w (wr.setCell ⟨b,o+k,none⟩ (.int .u64 (Cf (H (o+k)) g c:Nat))) b N o F (y+g*P k) (k+1) (BN (H (o+k)) g c) (put H (o+k) (Cf (H (o+k)) g c)):=by
 obtain⟨h1,h2,h3,h4,h5⟩:=h;refine⟨h1.set _ (FA _ _ _),fun j hj=> ?_,Iy _ _ _ (h1.2 _ hk) hg h3,?_,AZ _ h5 _ _⟩
 ·rw[Ar _ _ (by omega)];exact h2 j (by omega)
 have hF:F (o+k)=H (o+k):=(h2 _ (by omega)).symm;rw[Ax,Ax,Jq,Cg];show V (fro H o) k+put H (o+k) _ (o+k)*P k+_=V (fro F o) k+F (o+k)*P k+_;rw[AN,hF];exact Mz _ _ _ _ _ _ _ _ _ (GE _ _ _) h4
theorem EK.fin{w wr:World}{b N o:Nat}{F:Nat→Nat}{y k c n:Nat}{H:Nat→Nat}(h:EK w wr b N o F y k c H)(hk:k≤n)(hc:c=0∨k=n):
  EK w wr b N o F y n c H:=by
 obtain⟨h1,h2,h3,h4,h5⟩:=h;refine⟨h1,fun j hj=>h2 j (by omega),h3,?_,h5⟩;rcases hc with rfl|rfl
 ·have:=UJ (F:=fro F o) (H:=fro H o) hk fun i hi _=>h2 (o+i) (by omega);omega
 exact h4
theorem GF(b N o n cap:Nat)(F:Nat→Nat)(a:Option Addr)(m cap':Nat)(G:Nat→Nat)(w:World)(hF:Row w b N F)(hG:Sl w a m cap' G)(ho:o+n≤N)(hn:n≤1099511627776)(hm:m≤n)
  (hne: ∀b' o',a=some ⟨b',o',none⟩→b'≠b):
  Calls Tryz.prog 154 #[.slice (some ⟨b,o,none⟩) n cap,.slice a m cap'] w fun e w'=> ∃c:Nat,e=.returned (.int .u64 (c:Int))∧ ∃H,EK w w' b N o F (V G m) n c H:=by
 have A0:=EK.start o hF;have HG:Hid (Sl w a m cap' G):=hG;have HN:Hid _:=hne;clear hG hF hne;go_enter Tryz.func154,Tryz.ntmps154
 go_wp2_with fail
 go_loopw [5,11] (fun cv t wr=> ∃(k c:Nat) (H:Nat→Nat),k≤m∧t=.int .i64 (k:Int)∧cv=.int .u64 ((c:Nat):Int)∧EK w wr b N o F (V G k) k c H) (fun _ t _=>m- (intOf t).toNat)
 case atStart=>exact⟨0,0,F,by omega,rfl,rfl,A0⟩
 case round=>
  clear A0;obtain⟨k,c,H,hk,rfl,rfl,hA⟩:=hrel;by_cases hkm:k<m
  ·obtain⟨b',o',rfl,hw⟩:=HG.out.at k hkm;have hbb:b'≠b:=HN.out b' o' rfl;have hc1:wr.cell? ⟨b',o'+k,none⟩=some (.int .u64 (G k:Nat)):=hA.2.2.2.2.cell (hw k hkm) (by simpa using hbb);have hc2:wr.cell? ⟨b,o+k,none⟩=some (.int .u64 (H (o+k):Nat)):=hA.1.cell (by omega);have hf2:wr.frozen? ⟨b,o+k,none⟩=false:=hA.1.frozen _;have ad:=Py (H (o+k)) (G k) c hA.2.2.1;have S:Hid _:=hA.step (by omega) (G k) (HG.out.2.2.1 k hkm);clear hA hw hbb;go_wp2_with (simp only[ad])
   go_roundw
   case rel=>exact⟨k+1,_,_,by omega,by go_num,rfl,S.out⟩
   case measure=>simp[intOf];omega
  obtain rfl:k=m:=by omega
  have HA:Hid _:=hA;clear hA hkm hk;go_wp2_with fail
  go_loopw [5,8] (fun cv t wr=> ∃(q c:Nat) (H:Nat→Nat),k≤q∧q≤n∧t=.int .i64 (q:Int)∧cv=.int .u64 ((c:Nat):Int)∧EK w wr b N o F (V G k) q c H) (fun _ t _=>n- (intOf t).toNat)
  case atStart=>exact⟨k,c,H,by omega,by omega,rfl,rfl,HA.out⟩
  case round=>
   clear HA;obtain⟨q,c2,H2,hq,hqn,rfl,rfl,hA⟩:=hrel;by_cases hgo:c2=0∨q=n
   ·have S:Hid _:=hA.fin hqn hgo;clear hA;by_cases hc:c2=0
    ·subst hc;go_wp2_with fail
     go_ret
     exact⟨0,rfl,H2,S.out⟩
    obtain rfl:q=n:=by omega
    have hcb:(((c2:Nat):Int) != 0)=true:=by simp;omega
    go_wp2_with fail
    go_ret
    exact⟨c2,rfl,H2,S.out⟩
   have hcb:(((c2:Nat):Int) != 0)=true:=by simp;omega
   have hqn':(q:Int)<n:=by omega
   have hc2:wr.cell? ⟨b,o+q,none⟩=some (.int .u64 (H2 (o+q):Nat)):=hA.1.cell (by omega);have hf2:wr.frozen? ⟨b,o+q,none⟩=false:=hA.1.frozen _;have ad:=SS (H2 (o+q)) c2 hA.2.2.1;have S:Hid _:=hA.step (by omega) 0 (by omega);clear hA;go_wp2_with (simp only[ad])
   go_roundw
   case rel=>exact⟨q+1,_,_,by omega,by omega,by go_num,rfl,by have:=S.out;rw[Nat.zero_mul,Nat.add_zero]at this;exact this⟩
   case measure=>simp[intOf];omega
def DE(w wr:World)(b N o:Nat)(F:Nat→Nat)(y k c:Nat)(H:Nat→Nat):Prop:=
 Row wr b N H∧(∀j,j<o∨o+k≤j→H j=F j)∧c≤1∧V (fro H o) k+y=V (fro F o) k+c*P k∧w.grownBy wr (some b)
theorem DE.start{w:World}{b N:Nat}{F:Nat→Nat}(o:Nat)(h:Row w b N F):DE w w b N o F 0 0 0 F:=
 ⟨h,fun _ _=>rfl,by omega,by simp[Bw],World.grownBy.refl _ _⟩
theorem DE.step{w wr:World}{b N o:Nat}{F:Nat→Nat}{y k c:Nat}{H:Nat→Nat}(h:DE w wr b N o F y k c H)(hk:o+k<N)(g:Nat)(hg:g<18446744073709551616):
  DE w (wr.setCell ⟨b,o+k,none⟩ (.int .u64 (Ff (H (o+k)) g c:Nat))) b N o F (y+g*P k) (k+1) (Ei (H (o+k)) g c) (put H (o+k) (Ff (H (o+k)) g c)):=by
 obtain⟨h1,h2,h3,h4,h5⟩:=h;refine⟨h1.set _ (Iw _ _ _),fun j hj=> ?_,SW _ _ _,?_,AZ _ h5 _ _⟩
 ·rw[Ar _ _ (by omega)];exact h2 j (by omega)
 have hF:F (o+k)=H (o+k):=(h2 _ (by omega)).symm;rw[Ax,Ax,Jq,Cg];show V (fro H o) k+put H (o+k) _ (o+k)*P k+_=V (fro F o) k+F (o+k)*P k+_;rw[AN,hF];exact MA _ _ _ _ _ _ _ _ _ (My _ _ _ (h1.2 _ hk) hg h3) h4
theorem DE.fin{w wr:World}{b N o:Nat}{F:Nat→Nat}{y k c n:Nat}{H:Nat→Nat}(h:DE w wr b N o F y k c H)(hk:k≤n)(hc:c=0∨k=n):
  DE w wr b N o F y n c H:=by
 obtain⟨h1,h2,h3,h4,h5⟩:=h;refine⟨h1,fun j hj=>h2 j (by omega),h3,?_,h5⟩;rcases hc with rfl|rfl
 ·have:=UJ (F:=fro F o) (H:=fro H o) hk fun i hi _=>h2 (o+i) (by omega);omega
 exact h4
theorem MB(b N o n cap:Nat)(F:Nat→Nat)(a:Option Addr)(m cap':Nat)(G:Nat→Nat)(w:World)(hF:Row w b N F)(hG:Sl w a m cap' G)(ho:o+n≤N)(hn:n≤1099511627776)(hm:m≤n)
  (hne: ∀b' o',a=some ⟨b',o',none⟩→b'≠b):
  Calls Tryz.prog 180 #[.slice (some ⟨b,o,none⟩) n cap,.slice a m cap'] w fun e w'=>e=.returned (.tuple #[])∧ ∃c H,DE w w' b N o F (V G m) n c H:=by
 have A0:=DE.start o hF;have HG:Hid (Sl w a m cap' G):=hG;have HN:Hid _:=hne;clear hG hF hne;go_enter Tryz.func180,Tryz.ntmps180
 go_wp2_with fail
 go_loopw [4,10] (fun cv t wr=> ∃(k c:Nat) (H:Nat→Nat),k≤m∧t=.int .i64 (k:Int)∧cv=.int .u64 ((c:Nat):Int)∧DE w wr b N o F (V G k) k c H) (fun _ t _=>m- (intOf t).toNat)
 case atStart=>exact⟨0,0,F,by omega,rfl,rfl,A0⟩
 case round=>
  clear A0;obtain⟨k,c,H,hk,rfl,rfl,hA⟩:=hrel;by_cases hkm:k<m
  ·obtain⟨b',o',rfl,hw⟩:=HG.out.at k hkm;have hbb:b'≠b:=HN.out b' o' rfl;have hc1:wr.cell? ⟨b',o'+k,none⟩=some (.int .u64 (G k:Nat)):=hA.2.2.2.2.cell (hw k hkm) (by simpa using hbb);have hc2:wr.cell? ⟨b,o+k,none⟩=some (.int .u64 (H (o+k):Nat)):=hA.1.cell (by omega);have hf2:wr.frozen? ⟨b,o+k,none⟩=false:=hA.1.frozen _;have ad:=Pz (H (o+k)) (G k) c hA.2.2.1;have S:Hid _:=hA.step (by omega) (G k) (HG.out.2.2.1 k hkm);clear hA hw hbb;go_wp2_with (simp only[ad])
   go_roundw
   case rel=>exact⟨k+1,_,_,by omega,by go_num,rfl,S.out⟩
   case measure=>simp[intOf];omega
  obtain rfl:k=m:=by omega
  have HA:Hid _:=hA;clear hA hkm hk;go_wp2_with fail
  go_loopw [4,7] (fun cv t wr=> ∃(q c:Nat) (H:Nat→Nat),k≤q∧q≤n∧t=.int .i64 (q:Int)∧cv=.int .u64 ((c:Nat):Int)∧DE w wr b N o F (V G k) q c H) (fun _ t _=>n- (intOf t).toNat)
  case atStart=>exact⟨k,c,H,by omega,by omega,rfl,rfl,HA.out⟩
  case round=>
   clear HA;obtain⟨q,c2,H2,hq,hqn,rfl,rfl,hA⟩:=hrel;by_cases hgo:c2=0∨q=n
   ·have S:Hid _:=hA.fin hqn hgo;clear hA;by_cases hc:c2=0
    ·subst hc;go_wp2_with fail
     go_end0
     exact⟨rfl,0,H2,S.out⟩
    obtain rfl:q=n:=by omega
    have hcb:(((c2:Nat):Int) != 0)=true:=by simp;omega
    go_wp2_with fail
    go_end0
    exact⟨rfl,c2,H2,S.out⟩
   have hcb:(((c2:Nat):Int) != 0)=true:=by simp;omega
   have hqn':(q:Int)<n:=by omega
   have hc2:wr.cell? ⟨b,o+q,none⟩=some (.int .u64 (H2 (o+q):Nat)):=hA.1.cell (by omega);have hf2:wr.frozen? ⟨b,o+q,none⟩=false:=hA.1.frozen _;have ad:=SV (H2 (o+q)) c2 hA.2.2.1;have S:Hid _:=hA.step (by omega) 0 (by omega);clear hA;go_wp2_with (simp only[ad])
   go_roundw
   case rel=>exact⟨q+1,_,_,by omega,by omega,by go_num,rfl,by have:=S.out;rw[Nat.zero_mul,Nat.add_zero]at this;exact this⟩
   case measure=>simp[intOf];omega
def Cv(m:Nat):Array Value:=madeCells #[.int .u64 0] m
theorem Cy(L C:Int)(n m:Nat)(hL:L=n)(hC:C=m)(hnm:n≤m)(hm:m≤1099511627776)(w:World):
  (Instr.makeSlice 62 (.int .i64 L) (.int .i64 C)).run Tryz.prog w=.ok (.slice (some ⟨w.heap.size,0,none⟩) n m) (w.alloc (.cells (Cv m) 69)):=by
 obtain⟨i,hi,hz,hs,hb⟩:=info_parts Tryz.info22;subst hL hC;rw[run_make w 62 69 i (.int .u64 0) Tryz.underlying62 hi hz .i64 .i64 n m (by omega) (by omega) (by rw[hb];omega) (by omega),hs];simp[Cv,Value.cells]
theorem QL(w:World)(m:Nat):Row (w.alloc (.cells (Cv m) 69)) w.heap.size m (fun _=>0):=
 ⟨World.rowIs_made w (.int .u64 0) m _,fun _ _=>by show(0:Nat)<18446744073709551616;omega⟩
theorem Bh(w:World)(m g:Nat)(hg:g=w.heap.size):Row (w.alloc (.cells (Cv m) 69)) g m (fun _=>0):=by
 subst hg;exact QL w m
def over(F:Nat→Nat)(o:Nat)(G:Nat→Nat)(n:Nat):Nat→Nat:=fun j=>if o≤j∧j<o+n then G (j-o) else F j
theorem Oz(F:Nat→Nat)(o:Nat)(G:Nat→Nat)(n:Nat){i:Nat}(hi:i<n):over F o G n (o+i)=G i:=by
 unfold over;rw[if_pos (by omega),Nat.add_sub_cancel_left]
theorem FB(F:Nat→Nat)(o:Nat)(G:Nat→Nat)(n:Nat){j:Nat}(hj:j<o∨o+n≤j):over F o G n j=F j:=by
 unfold over;rw[if_neg (by omega)]
theorem QM:(Tryz.prog.info? 69).map (·.size)=some 1:=by kernel_rfl
theorem QN{w:World}{b o n:Nat}{G:Nat→Nat}(h:Dc w b o n G): ∀j v,((List.range n).map fun i=>Value.int .u64 ((G i:Nat):Int))[j]? =some v→w.cell? ((⟨b,o,none⟩:Addr).add j)=some v:=by
 intro j v hj;have hjn:j<n:=by
  rcases Nat.lt_or_ge j n with h'|h'
  ·exact h'
  rw[List.getElem?_eq_none (by simpa using h')]at hj;cases hj
 have e:(⟨b,o,none⟩:Addr).add j=⟨b,o+j,none⟩:=by unfold Addr.add;split<;>simp_all
 rw[e,h j hjn];simpa[hjn]using hj
theorem Cs{w:World}{ops:Array Oper}{rest:List Oper}{op:Oper}{ac:Act}{Q:Exit→Act→World→Prop}(hgd:op.guard=none)(d s:Operand)
  (ho:op.op=.call {callee:=.builtin .copy,args:= #[d,s],argTypes:= #[62,62]})
  (g o dLen dCap:Nat) (sp:Option Addr) (sLen sCap:Nat) (hd:ac.eval d=.slice (some ⟨g,o,none⟩) dLen dCap) (hs:ac.eval s=.slice sp sLen sCap)
  (N:Nat) (F G:Nat→Nat) (hF:Row w g N F) (hG:Sl w sp sLen sCap G) (hle:sLen≤dLen) (hfit:o+sLen≤N)
  (h: ∀w',Row w' g N (over F o G sLen)→w.grownBy w' (some g)→wpList Tryz.prog ops Q rest (ac.put op.dst (goInt sLen)) w'):wpList Tryz.prog ops Q (op::rest) ac w:=by
 by_cases h0:sLen=0
 ·subst h0;refine wpList_copy_nothing hgd d s _ _ ho 69 Tryz.underlying62 QM _ _ _ _ _ _ hd hs (Nat.zero_min _) ?_;refine h w ⟨hF.1.congr fun j _=> ?_,fun j hj=> ?_⟩ (World.grownBy.refl _ _)
  ·rw[FB _ _ _ _ (by omega)]
  rw[FB _ _ _ _ (by omega)];exact hF.2 j hj
 obtain⟨b,so,rfl,hw⟩:=hG.at 0 (by omega);obtain⟨cur,hg,hsz,hcur⟩:=hF.1;have hcl:((List.range sLen).map fun i=>Value.int .u64 ((G i:Nat):Int)).length=sLen:=by simp
 refine wpList_copy_own hgd d s _ _ ho 69 Tryz.underlying62 QM g o dLen dCap ⟨b,so,none⟩ sLen sCap hd hs cur 69 hg ((List.range sLen).map fun i=>Value.int .u64 ((G i:Nat):Int)) (by rw[hcl];exact(Nat.min_eq_left hle).symm)
  (QN hw) (by rw[hcl];omega) (by intro v hv;obtain⟨i,_,rfl⟩:=List.mem_map.1 hv;rfl) ?_
 rw[hcl];refine h _ ⟨⟨_,setRow_heap w g _ _ _ _ hg,?_,fun j hj=> ?_⟩,fun j hj=> ?_⟩ ⟨rfl,rfl,rfl,by simp[World.setRow],fun k _ hne=>setRow_other w g k _ (fun e=>hne (by rw[e]))⟩
 ·simp;omega
 ·rw[List.getElem?_toArray];show _=some (Value.int .u64 ((over F o G sLen j:Nat):Int));by_cases h1:j<o
  ·rw[FB _ _ _ _ (.inl h1),List.getElem?_append_left (by simp;omega),List.getElem?_take_of_lt h1];simpa using hcur j hj
  obtain⟨i,rfl⟩: ∃i,j=o+i:=⟨j-o,by omega⟩;have e1:(cur.toList.take o).length=o:=by simp;omega
  rw[List.getElem?_append_right (by omega),e1,Nat.add_sub_cancel_left];by_cases h2:i<sLen
  ·rw[Oz _ _ _ _ h2,List.getElem?_append_left (by simpa using h2)];simp[h2]
  rw[FB _ _ _ _ (.inr (by omega)),List.getElem?_append_right (by simp;omega),hcl,List.getElem?_drop,show o+sLen+(i-sLen)=o+i by omega];simpa using hcur (o+i) hj
 unfold over;split
 ·exact hG.2.2.1 _ (by omega)
 exact hF.2 j hj
theorem AX(F:Nat→Nat):fro F 0=F:=by funext i;simp[fro]
theorem FD(F G:Nat→Nat)(n:Nat):V (over F 0 G n) n=V G n:=Bl fun i hi=>by have:=Oz F 0 G n hi;rw[Nat.zero_add]at this;exact this
theorem Ac.isAgg{w:World}{v:Value}{x:Nat}(h:Ac w v x): ∃a n cap,v=.agg #[.slice a n cap]:=by
 obtain⟨a,n,cap,F,rfl,_⟩:=h;exact⟨a,n,cap,rfl⟩
theorem Ac.fits{w:World}{a:Option Addr}{n cap:Nat}{x:Nat}(h:Ac w (.agg #[.slice a n cap]) x): ∃F,Sl w a n cap F∧(n=0→a=none∧cap=0)∧(0<n→F (n-1)≠0)∧V F n=x:=by
 obtain⟨a',n',cap',F,e,h⟩:=h;simp only[Value.agg.injEq,Array.mk.injEq,List.cons.injEq,Value.slice.injEq,and_true]at e;obtain⟨rfl,rfl,rfl⟩:=e;exact⟨F,h⟩
def Dk(w:World)(x:Nat)(e:Ending)(w':World):Prop:= ∃v,e=.returned v∧Ac w' v x∧Below w.heap.size w w'
theorem Sl.ne_block{w:World}{a:Option Addr}{n cap:Nat}{F:Nat→Nat}(h:Sl w a n cap F)(hn:0<n){g:Nat}(hg:w.heap.size≤g): ∀b o,a=some ⟨b,o,none⟩→b≠g:=by
 intro b o ha;obtain⟨b',o',e,hw⟩:=h.at 0 hn;rw[ha]at e;cases e;have:=World.block_lt_of_cell? _ _ (hw 0 hn);simp only at this;omega
def F9(w:World)(x:Nat)(ok:Bool)(e:Ending)(w':World):Prop:= ∃v,e=.returned (.tuple #[v,.bool ok])∧Ac w' v x∧Below w.heap.size w w'
end Go.Proofs.YtbikpmmpgbggaaaGreatDoor
