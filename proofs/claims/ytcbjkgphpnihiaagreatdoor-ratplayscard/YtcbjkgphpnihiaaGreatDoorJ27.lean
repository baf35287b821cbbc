/- Contracts of the program's functions, part 27: own work, joined in build order. -/
import Derived.Test.YtcbjkgphpnihiaaGreatDoorJ26
import Derived.WalkKit
import Derived.ProofKit
import Derived.OpenShut
import Derived.ShutString
import Derived.ChangeOld
import Derived.Below
import Derived.LaidMore
import Derived.Lib.LaidTab
import Derived.SliceStrings
import Derived.Deep.Slices
import Derived.ChangeSlices
namespace Go.Proofs.YtcbjkgphpnihiaaGreatDoor
open Go.RowKit
set_option maxRecDepth 100000
set_option linter.unusedVariables false
set_option maxHeartbeats 16000000
def up2(E:Nat→Value)(j:Nat)(u u':Value):Nat→Value:=fun i=>if i=j*2 then u else if i=j*2+1 then u' else E i
def upT(T:Nat→Nat×Nat)(j:Nat)(x:Nat×Nat):Nat→Nat×Nat:=fun i=>if i=j then x else T i
def Ew(w:World)(b:Nat)(E:Nat→Value):Prop:= ∀i,i<8→w.cell? ⟨b,i,none⟩=some (E i)∧w.frozen? ⟨b,i,none⟩=false
theorem Ew.go{w w':World}{b:Nat}{E:Nat→Value}(h:Ew w b E)(hb:Below w.heap.size w w'):Ew w' b E:=fun i hi=>
 ⟨cell_later hb (h i hi).1,(hb.frozen (World.block_lt_of_cell? _ _ (h i hi).1)).trans (h i hi).2⟩
theorem Ew.put{w:World}{b:Nat}{E:Nat→Value}(h:Ew w b E){j:Nat}(hj:j<4)(u u':Value):Ew ((w.setCell ⟨b,j*2,none⟩ u).setCell ⟨b,j*2+1,none⟩ u') b (up2 E j u u'):=fun i hi=>by
 have hd:(w.setCell ⟨b,j*2,none⟩ u).cell? ⟨b,j*2+1,none⟩=some (E (j*2+1)):=by rw[World.cell?_setCell_other (h:=by simp)];exact(h _ (by omega)).1
 refine⟨?_,by simp[World.frozen?_setCell,(h i hi).2]⟩;unfold up2;split
 ·rename_i e;subst e;rw[World.cell?_setCell_other (h:=by simp)];simp[go_sem,(h _ hi).1]
 split
 ·rename_i e;subst e;simp[go_sem,hd]
 rename_i e1 e2;have n1:(⟨b,j*2+1,none⟩:Addr)≠⟨b,i,none⟩:=fun e=>by simp at e<;>omega
 have n2:(⟨b,j*2,none⟩:Addr)≠⟨b,i,none⟩:=fun e=>by simp at e<;>omega
 rw[World.cell?_setCell_other (h:=n1),World.cell?_setCell_other (h:=n2)];exact(h i hi).1
theorem Ew.far{w:World}{b g:Nat}{E:Nat→Value}(h:Ew w b E)(hg:b≠g)(j:Nat)(u u':Value):Ew ((w.setCell ⟨g,j*2,none⟩ u).setCell ⟨g,j*2+1,none⟩ u') b E:=fun i hi=>by
 refine⟨?_,by simp[World.frozen?_setCell,(h i hi).2]⟩;rw[World.cell?_setCell_far _ _ _ _ (by simpa using Ne.symm hg),World.cell?_setCell_far _ _ _ _ (by simpa using Ne.symm hg)];exact(h i hi).1
structure PL (w0 w:World) (b g:Nat) (Sd:Nat→Prop) (E G:Nat→Value) (T:Nat→Nat×Nat):Prop where
 r: ∀i,i<4→Rt w (.agg #[E (i*2),E (i*2+1)]) (T i).1 (T i).2
 d: ∀i,i<4→Sd i→RRt w (.agg #[G (i*2),G (i*2+1)]) (T i).1 (T i).2
 sl: ∀i,i<8→ ∃a n c,G i=.slice a n c
 lo: ∀i,i<4→Lo (T i).1 (T i).2
 c5:Ew w b E
 c6:Ew w g G
 tab:Tab w
 bel:Below w0.heap.size w0 w
 ne:w0.heap.size≤b∧w0.heap.size≤g∧b≠g
theorem PL.go{w0 w w':World}{b g:Nat}{Sd:Nat→Prop}{E G:Nat→Value}{T:Nat→Nat×Nat}(h:PL w0 w b g Sd E G T)(hb:Below w.heap.size w w'):PL w0 w' b g Sd E G T:=
 ⟨fun i hi=>(h.r i hi).mono hb,fun i hi hs=>(h.d i hi hs).mono hb,h.sl,h.lo,h.c5.go hb,h.c6.go hb,h.tab.go hb,Ae h.bel hb,h.ne⟩
theorem PL.kp{w0 w:World}{b g:Nat}{E G:Nat→Value}{T:Nat→Nat×Nat}(h:PL w0 w b g (fun _=>True) E G T):KP E G T w:=⟨h.r,fun i hi=>h.d i hi trivial,h.tab⟩
theorem PL.slE{w0 w:World}{b g:Nat}{Sd:Nat→Prop}{E G:Nat→Value}{T:Nat→Nat×Nat}(h:PL w0 w b g Sd E G T){i:Nat}(hi:i<8): ∃a n c,E i=.slice a n c:=by
 obtain⟨a,n,c,a',n',c',e⟩:=(h.r (i/2) (by omega)).sls;simp at e;rcases Nat.mod_two_eq_zero_or_one i with m|m
 ·exact⟨a,n,c,by rw[←e.1];congr 1;omega⟩
 exact⟨a',n',c',by rw[←e.2];congr 1;omega⟩
theorem Gg{w:World}{p:Addr}{v:Value}(h:w.cell? p=some v)(hs: ∃a n c,v=.slice a n c): ∀k q,w.cell? p≠some (.int k q):=by
 obtain⟨a,n,c,rfl⟩:=hs;exact Af h
theorem PL.setX{w0 w:World}{b g:Nat}{Sd Sd':Nat→Prop}{E G:Nat→Value}{T:Nat→Nat×Nat}(h:PL w0 w b g Sd E G T){j:Nat}(hj:j<4){a1 a2:Option Addr}{n1 c1 n2 c2:Nat}{x:Nat×Nat}(hV:Rt w (.agg #[.slice a1 n1 c1,.slice a2 n2 c2]) x.1 x.2)(hl:Lo x.1 x.2)(hS: ∀i,Sd' i→Sd i∧i≠j):
  PL w0 ((w.setCell ⟨b,j*2,none⟩ (.slice a1 n1 c1)).setCell ⟨b,j*2+1,none⟩ (.slice a2 n2 c2)) b g Sd' (up2 E j (.slice a1 n1 c1) (.slice a2 n2 c2)) G (upT T j x):=by
 have c0:=(h.c5 (j*2) (by omega)).1;have c1':=(h.c5 (j*2+1) (by omega)).1;have m1:=Gg c0 (h.slE (by omega));have hd:(w.setCell ⟨b,j*2,none⟩ (.slice a1 n1 c1)).cell? ⟨b,j*2+1,none⟩=some (E (j*2+1)):=by rw[World.cell?_setCell_other (h:=by simp)];exact c1'
 have m2:=Gg hd (h.slE (by omega));refine⟨fun i hi=> ?_,fun i hi hs=> ?_,h.sl,fun i hi=> ?_,h.c5.put hj _ _,h.c6.far h.ne.2.2.symm _ _ _,(h.tab.setCell m1 _).setCell m2 _,(h.bel.setCell (p:=⟨b,j*2,none⟩) h.ne.1 _).setCell (p:=⟨b,j*2+1,none⟩) h.ne.1 _,h.ne⟩
 ·by_cases e:i=j
  ·subst e;have e1:up2 E i (.slice a1 n1 c1) (.slice a2 n2 c2) (i*2)=.slice a1 n1 c1:=by unfold up2;rw[if_pos rfl]
   have e2:up2 E i (.slice a1 n1 c1) (.slice a2 n2 c2) (i*2+1)=.slice a2 n2 c2:=by unfold up2;rw[if_neg (by omega),if_pos rfl]
   have e3:upT T i x i=x:=by unfold upT;rw[if_pos rfl]
   rw[e1,e2,e3];exact(hV.setCell m1 _).setCell m2 _
  have e1:up2 E j (.slice a1 n1 c1) (.slice a2 n2 c2) (i*2)=E (i*2):=by unfold up2;rw[if_neg (by omega),if_neg (by omega)]
  have e2:up2 E j (.slice a1 n1 c1) (.slice a2 n2 c2) (i*2+1)=E (i*2+1):=by unfold up2;rw[if_neg (by omega),if_neg (by omega)]
  have e3:upT T j x i=T i:=by unfold upT;rw[if_neg e]
  rw[e1,e2,e3];exact((h.r i hi).setCell m1 _).setCell m2 _
 ·obtain⟨s1,s2⟩:=hS i hs;have e3:upT T j x i=T i:=by unfold upT;rw[if_neg s2]
  rw[e3];exact((h.d i hi s1).setCell m1 _).setCell m2 _
 unfold upT;split
 ·exact hl
 exact h.lo i hi
theorem PL.setW{w0 w:World}{b g:Nat}{Sd Sd':Nat→Prop}{E G:Nat→Value}{T:Nat→Nat×Nat}(h:PL w0 w b g Sd E G T){j:Nat}(hj:j<4){a1 a2:Option Addr}{n1 c1 n2 c2:Nat}(hV:RRt w (.agg #[.slice a1 n1 c1,.slice a2 n2 c2]) (T j).1 (T j).2)(hS: ∀i,Sd' i→i=j∨Sd i):
  PL w0 ((w.setCell ⟨g,j*2,none⟩ (.slice a1 n1 c1)).setCell ⟨g,j*2+1,none⟩ (.slice a2 n2 c2)) b g Sd' E (up2 G j (.slice a1 n1 c1) (.slice a2 n2 c2)) T:=by
 have c0:=(h.c6 (j*2) (by omega)).1;have c1':=(h.c6 (j*2+1) (by omega)).1;have m1:=Gg c0 (h.sl _ (by omega));have hd:(w.setCell ⟨g,j*2,none⟩ (.slice a1 n1 c1)).cell? ⟨g,j*2+1,none⟩=some (G (j*2+1)):=by rw[World.cell?_setCell_other (h:=by simp)];exact c1'
 have m2:=Gg hd (h.sl _ (by omega));refine⟨fun i hi=>((h.r i hi).setCell m1 _).setCell m2 _,fun i hi hs=> ?_,fun i hi=> ?_,h.lo,h.c5.far h.ne.2.2 _ _ _,h.c6.put hj _ _,(h.tab.setCell m1 _).setCell m2 _,(h.bel.setCell (p:=⟨g,j*2,none⟩) h.ne.2.1 _).setCell (p:=⟨g,j*2+1,none⟩) h.ne.2.1 _,h.ne⟩
 ·by_cases e:i=j
  ·subst e;have e1:up2 G i (.slice a1 n1 c1) (.slice a2 n2 c2) (i*2)=.slice a1 n1 c1:=by unfold up2;rw[if_pos rfl]
   have e2:up2 G i (.slice a1 n1 c1) (.slice a2 n2 c2) (i*2+1)=.slice a2 n2 c2:=by unfold up2;rw[if_neg (by omega),if_pos rfl]
   rw[e1,e2];exact(hV.setCell m1 _).setCell m2 _
  have e1:up2 G j (.slice a1 n1 c1) (.slice a2 n2 c2) (i*2)=G (i*2):=by unfold up2;rw[if_neg (by omega),if_neg (by omega)]
  have e2:up2 G j (.slice a1 n1 c1) (.slice a2 n2 c2) (i*2+1)=G (i*2+1):=by unfold up2;rw[if_neg (by omega),if_neg (by omega)]
  rw[e1,e2];exact((h.d i hi ((hS i hs).resolve_left e)).setCell m1 _).setCell m2 _
 unfold up2;split
 ·exact⟨_,_,_,rfl⟩
 split
 ·exact⟨_,_,_,rfl⟩
 exact h.sl i hi
theorem MS{T:Nat→Nat×Nat}{j:Nat}{x:Nat×Nat}:upT T j x j=x:=by unfold upT;rw[if_pos rfl]
theorem PL.setXW{w0 w:World}{b g:Nat}{Sd Sd':Nat→Prop}{E G:Nat→Value}{T:Nat→Nat×Nat}(h:PL w0 w b g Sd E G T){j:Nat}(hj:j<4){a1 a2 a3 a4:Option Addr}{n1 c1 n2 c2 n3 c3 n4 c4:Nat}{x:Nat×Nat}(hV:Rt w (.agg #[.slice a1 n1 c1,.slice a2 n2 c2]) x.1 x.2)(hU:RRt w (.agg #[.slice a3 n3 c3,.slice a4 n4 c4]) x.1 x.2)(hl:Lo x.1 x.2)(hS: ∀i,Sd' i→i=j∨Sd i):
  PL w0 ((((w.setCell ⟨b,j*2,none⟩ (.slice a1 n1 c1)).setCell ⟨b,j*2+1,none⟩ (.slice a2 n2 c2)).setCell ⟨g,j*2,none⟩ (.slice a3 n3 c3)).setCell ⟨g,j*2+1,none⟩ (.slice a4 n4 c4)) b g Sd' (up2 E j (.slice a1 n1 c1) (.slice a2 n2 c2)) (up2 G j (.slice a3 n3 c3) (.slice a4 n4 c4)) (upT T j x):=by
 have c0:=(h.c5 (j*2) (by omega)).1;have c1':=(h.c5 (j*2+1) (by omega)).1;have m1:=Gg c0 (h.slE (by omega));have hd:(w.setCell ⟨b,j*2,none⟩ (.slice a1 n1 c1)).cell? ⟨b,j*2+1,none⟩=some (E (j*2+1)):=by rw[World.cell?_setCell_other (h:=by simp)];exact c1'
 have m2:=Gg hd (h.slE (by omega));refine(h.setX (Sd':=fun i=>Sd i∧i≠j) hj hV hl (fun i hi=>hi)).setW hj ?_ (fun i hi=> ?_)
 ·rw[MS];exact(hU.setCell m1 _).setCell m2 _
 by_cases e:i=j
 ·exact .inl e
 exact .inr ⟨(hS i hi).resolve_left e,e⟩
theorem PL.all{w0 w:World}{b g:Nat}{E G:Nat→Value}{T:Nat→Nat×Nat}(h:PL w0 w b g (fun i=>i<4) E G T):PL w0 w b g (fun _=>True) E G T:=
 ⟨h.r,fun i hi _=>h.d i hi hi,h.sl,h.lo,h.c5,h.c6,h.tab,h.bel,h.ne⟩
structure FSl (w:World) (a:Option Addr) (n cap:Nat):Prop where
 le:n≤cap
 lim:cap≤9223372036854775807
 at':n=0∨ ∃g o,a=some ⟨g,o,none⟩∧ ∀i,i<n→ ∃a0 l0 k0 D0 a1 l1 k1 D1,w.cell? ⟨g,o+i*2,none⟩=some (.slice a0 l0 k0)∧w.cell? ⟨g,o+i*2+1,none⟩=some (.slice a1 l1 k1)∧BSl w a0 l0 k0 D0∧BSl w a1 l1 k1 D1
def FMd(w:World)(a:Option Addr)(n:Nat):Prop:=n=0∨ ∃g o,a=some ⟨g,o,none⟩∧ ∀i,i<n→ ∃a0 l0 k0 a1 l1 k1 p q,w.cell? ⟨g,o+i*2,none⟩=some (.slice a0 l0 k0)∧w.cell? ⟨g,o+i*2+1,none⟩=some (.slice a1 l1 k1)∧Lo p q∧ ∀w',Below w.heap.size w w'→Calls Tryz.prog 6 #[.agg #[.slice a0 l0 k0,.slice a1 l1 k1]] w' (IP w' p q)
theorem FSl.made{w:World}{a:Option Addr}{n cap:Nat}(h:FSl w a n cap)(hT:Tab w):FMd w a n:=by
 rcases h.at' with e| ⟨g,o,e,hc⟩
 ·exact .inl e
 refine .inr ⟨g,o,e,fun i hi=> ?_⟩;obtain⟨a0,l0,k0,D0,a1,l1,k1,D1,c0,c1,b0,b1⟩:=hc i hi;obtain⟨m0,x0,h0⟩:=Lx b0;obtain⟨m1,x1,h1⟩:=Lx b1;obtain⟨t1,t2,t3⟩:=EC x0 (Cm x1) (Ly x1);exact⟨a0,l0,k0,a1,l1,k1,x0/Nat.gcd x0 (Cm x1),Cm x1/Nat.gcd x0 (Cm x1),c0,c1,⟨t1,t3,Co (Nat.lt_of_le_of_lt (Nat.div_le_self _ _) h0.rs) (by omega),Co (Nat.lt_of_le_of_lt (Nat.div_le_self _ _) (MC h1.rs)) (by omega)⟩,fun w' hb=>Lz _ _ _ _ _ _ m0 m1 x0 x1 w' (h0.go hb) (h1.go hb) (hT.go hb)⟩
structure St5 (w:World) (a:Option Addr) (n cap:Nat) (F:Nat→Nat→Int):Prop where
 le:n≤cap
 lim:cap≤9223372036854775807
 wf: ∀i j,i<n→j<5→ -9223372036854775808≤F i j∧F i j≤9223372036854775807
 at':n=0∨ ∃b o,a=some ⟨b,o,none⟩∧ ∀i j,i<n→j<5→w.cell? ⟨b,o+i*5+j,none⟩=some (.int .i64 (F i j))
theorem St5.at{w W:World}{a:Option Addr}{n cap:Nat}{F:Nat→Nat→Int}(h:St5 w a n cap F)(hB:Below w.heap.size w W)(hn:0<n): ∃b o,a=some ⟨b,o,none⟩∧ ∀i j,i<n→j<5→W.cell? ⟨b,o+i*5+j,none⟩=some (.int .i64 (F i j)):=by
 rcases h.at' with e| ⟨b,o,e,hc⟩
 ·omega
 exact⟨b,o,e,fun i j hi hj=>cell_later hB (hc i j hi hj)⟩
theorem GI(n:Int): ∃k:Nat,k<4∧bits .and .i64 n 3=(k:Int):=⟨(n%4).toNat,by omega,by rw[Jd];omega⟩
def ez:Nat→Value:=fun _=>.slice none 0 0
theorem LP(a0:Option Addr)(n0 c0:Nat)(a1:Option Addr)(n1 c1:Nat)(F:Nat→Nat→Int)(w:World)(h0:FSl w a0 n0 c0)(h1:St5 w a1 n1 c1 F)(hT:Tab w):
  Calls Tryz.prog 3 #[.slice a0 n0 c0,.slice a1 n1 c1] w fun e w'=>e=.returned (.bool true)∧Below w.heap.size w w':=by
 have HM:Hid (FMd w a0 n0∧n0≤c0∧c0≤9223372036854775807):=⟨h0.made hT,h0.le,h0.lim⟩;have HS:Hid (St5 w a1 n1 c1 F):=h1;have TT:Hid (Tab w):=hT;clear h0 h1 hT;go_enter Tryz.func3,Tryz.ntmps3
 go_wp2_with fail
 refine(Kx _ TT.out).mono ?_;rintro e w1 ⟨rfl,hb1⟩;obtain⟨w2,hw2⟩:=nme ((w1.alloc (.cells #[.slice none 0 0,.slice none 0 0,.slice none 0 0,.slice none 0 0,.slice none 0 0,.slice none 0 0,.slice none 0 0,.slice none 0 0] 30)).alloc (.cells #[.slice none 0 0,.slice none 0 0,.slice none 0 0,.slice none 0 0,.slice none 0 0,.slice none 0 0,.slice none 0 0,.slice none 0 0] 35));have b12:Below w1.heap.size w1 w2:=by rw[hw2];exact Ad (Ad (Ag _))
 obtain⟨b,hb⟩:=nme w1.heap.size;have P0:Hid (PL w w2 b (b+1) (fun i=>i<0) ez ez (fun _=>(0,1))):=by
  refine⟨fun i hi=>Cg _,fun i hi hs=>by omega,fun i hi=>⟨_,_,_,rfl⟩,fun i hi=>⟨by simp,by omega,CV _,by rw[show(47:Nat)=46+1 from rfl,Bo];have:=CV 46;omega⟩,fun i hi=> ?_,fun i hi=> ?_,TT.out.go (Ae hb1 b12),Ae hb1 b12,?_⟩
  ·rw[hw2,hb];match i,hi with
   |0,_=>simp[go_sem,ez]
   |1,_=>simp[go_sem,ez]
   |2,_=>simp[go_sem,ez]
   |3,_=>simp[go_sem,ez]
   |4,_=>simp[go_sem,ez]
   |5,_=>simp[go_sem,ez]
   |6,_=>simp[go_sem,ez]
   |7,_=>simp[go_sem,ez]
  ·rw[hw2,hb];match i,hi with
   |0,_=>simp[go_sem,ez]
   |1,_=>simp[go_sem,ez]
   |2,_=>simp[go_sem,ez]
   |3,_=>simp[go_sem,ez]
   |4,_=>simp[go_sem,ez]
   |5,_=>simp[go_sem,ez]
   |6,_=>simp[go_sem,ez]
   |7,_=>simp[go_sem,ez]
  have:=hb1.size;omega
 go_wp2_with fail
 rw[←hw2,←hb];clear hw2 hb b12 hb1;go_loopw [7] (fun i wr=> ∃(k:Nat) (E G:Nat→Value) (T:Nat→Nat×Nat),k≤4∧i=.int .i64 (k:Int)∧Hid (PL w wr b (b+1) (fun i=>i<k) E G T)∧Hid (∀i,k≤i→T i=(0,1))) (fun i _=>4- (intOf i).toNat)
 case atStart=>exact⟨0,ez,ez,_,by omega,rfl,P0,fun _ _=>rfl⟩
 case round=>
  clear P0;obtain⟨k,E,G,T,hk,rfl,hP,hz⟩:=hrel;by_cases hlt:k<4
  ·have hk1:(k:Int)<4:=by omega
   have w5:IntKind.i64.wrap ((k:Int)+1)=(k:Int)+1:=by rw[IntKind.wrap_i64];omega
   have HK:Hid (k<4):=hlt;have x2:=AW (b+1) k hlt;have x1:=AV b k hlt;clear hlt hk;go_wp2_with fail
   refine(CA _).mono ?_;rintro e w3 ⟨v,rfl,hv,hb⟩;obtain⟨z1,m1,d1,z2,m2,d2,ev⟩:=hv.sls;subst ev;have P1:Hid _:=hP.out.go hb;obtain⟨q0,q1⟩:=P1.out.c6 (k*2) (by have:=HK.out;omega);obtain⟨q2,q3⟩:=P1.out.c6 (k*2+1) (by have:=HK.out;omega);have P2:Hid _:=P1.out.setW (Sd':=fun i=>i<k+1) HK.out (by rw[hz.out k (Nat.le_refl _)];exact hv) (fun i hi=>by omega);clear hv hb hP P1;go_upto_region 9 with fail
   obtain⟨w4,ew⟩:=nme ((w3.setCell ⟨b+1,k*2,none⟩ (.slice z1 m1 d1)).setCell ⟨b+1,k*2+1,none⟩ (.slice z2 m2 d2));rw[←ew]at P2;rw[←ew];clear ew q0 q1 q2 q3;by_cases hn:k<n0
   ·have hn1:(k:Int)<(n0:Int):=by omega
    have HN:Hid (k<n0):=hn;obtain⟨g,o,a2,l2,k2,a3,l3,k3,p,q,ea,y0,y1,hlo,hmd⟩: ∃g o a2 l2 k2 a3 l3 k3 p q,a0=some ⟨g,o,none⟩∧w.cell? ⟨g,o+k*2,none⟩=some (.slice a2 l2 k2)∧w.cell? ⟨g,o+k*2+1,none⟩=some (.slice a3 l3 k3)∧Lo p q∧ ∀w',Below w.heap.size w w'→Calls Tryz.prog 6 #[.agg #[.slice a2 l2 k2,.slice a3 l3 k3]] w' (IP w' p q):=by
     rcases HM.out.1 with e| ⟨g,o,e,hc⟩
     ·omega
     obtain⟨a2,l2,k2,a3,l3,k3,p,q,c0,c1,hl,hm⟩:=hc k hn;exact⟨g,o,a2,l2,k2,a3,l3,k3,p,q,e,c0,c1,hl,hm⟩
    subst ea;have t0:=cell_later P2.out.bel y0;have t1:=cell_later P2.out.bel y1;have HMD:Hid _:=hmd;have HLO:Hid (Lo p q):=hlo;clear y0 y1 hmd hlo;go_wp2_with fail
    refine(HMD.out _ P2.out.bel).mono ?_;rintro e w6 ⟨v,u,rfl,hv,hu,hb⟩;obtain⟨r1,r2,r3,r4,r5,r6,ev⟩:=hv.sls;subst ev;obtain⟨s1,s2,s3,s4,s5,s6,ev⟩:=hu.sls;subst ev;have P3:Hid _:=P2.out.go hb;obtain⟨q0,q1⟩:=P3.out.c5 (k*2) (by have:=HK.out;omega);obtain⟨q2,q3⟩:=P3.out.c5 (k*2+1) (by have:=HK.out;omega);obtain⟨q4,q5⟩:=P3.out.c6 (k*2) (by have:=HK.out;omega);obtain⟨q6,q7⟩:=P3.out.c6 (k*2+1) (by have:=HK.out;omega);have P4:Hid _:=P3.out.setXW (x:=(p,q)) (Sd':=fun i=>i<k+1) HK.out hv hu HLO.out (fun i hi=>.inr hi);clear hv hu hb P2 P3 t0 t1 HMD;go_wp2_with fail
    go_roundw
    case rel=>exact⟨k+1,_,_,_,by have:=HK.out;omega,by simp,P4,fun i hi=>by
     unfold upT;rw[if_neg (by omega)];exact hz.out i (by omega)⟩
    case measure=>have:=HK.out;simp[intOf];omega
   have hn1: ¬(k:Int)<(n0:Int):=by omega
   go_wp2_with fail
   go_roundw
   case rel=>exact⟨k+1,_,_,_,by have:=HK.out;omega,by simp,P2,fun i hi=>hz.out i (by omega)⟩
   case measure=>have:=HK.out;simp[intOf];omega
  obtain rfl:k=4:=by omega
  have P1:Hid _:=hP.out.all;clear hP hz hk hlt;go_wp2_with fail
  go_loopw [8] (fun i wr=> ∃(k:Nat) (E G:Nat→Value) (T:Nat→Nat×Nat),k≤n1∧i=.int .i64 (k:Int)∧Hid (PL w wr b (b+1) (fun _=>True) E G T)) (fun i _=>n1- (intOf i).toNat)
  case atStart=>exact⟨0,E,G,T,by omega,rfl,P1⟩
  case round=>
   clear P1 E G T;obtain⟨k,E,G,T,hk,rfl,hP⟩:=hrel;have HB:Hid (n1≤9223372036854775807):=by have:=HS.out.le;have:=HS.out.lim;show _≤_;omega
   by_cases hlt:k<n1∧k<40
   ·have hk1:(k:Int)<(n1:Int):=by omega
    have hk2:(k:Int)<40:=by omega
    have hk3:k<n1:=hlt.1;have w5:IntKind.i64.wrap ((k:Int)+1)=(k:Int)+1:=by rw[IntKind.wrap_i64];omega
    have HK:Hid (k<n1∧k<40):=hlt;obtain⟨g,o,ea,hc⟩:=HS.out.at hP.out.bel (by omega);subst ea;have y0:=hc k 0 hlt.1 (by omega);have y1:=hc k 1 hlt.1 (by omega);have y2:=hc k 2 hlt.1 (by omega);have y3:=hc k 3 hlt.1 (by omega);have y4:=hc k 4 hlt.1 (by omega);rw[Nat.add_zero]at y0;have HF:Hid (F k 4≤9223372036854775807):=(HS.out.wf k 4 hlt.1 (by omega)).2;obtain⟨ka,ha,ea⟩:=GI (F k 1);obtain⟨kb,hkb,eb⟩:=GI (F k 2);obtain⟨kt,hkt,et⟩:=GI (F k 3);have HA:Hid (ka<4∧kb<4∧kt<4):=⟨ha,hkb,hkt⟩;clear hc hlt hk ha hkb hkt;generalize F k 0=f0 at y0;generalize F k 1=f1 at y1 ea;generalize F k 2=f2 at y2 eb;generalize F k 3=f3 at y3 et;generalize F k 4=f4 at y4 HF;go_upto_region 15 with fail
    obtain⟨w3,hw3⟩:=nme (wr.alloc (.cells #[.int .i64 f0,.int .i64 f1,.int .i64 f2,.int .i64 f3,.int .i64 f4] 43));have b3:Below wr.heap.size wr w3:=by rw[hw3];exact Ad (Ag _)
    have P2:Hid _:=hP.out.go b3;obtain⟨b9,hb9⟩:=nme wr.heap.size;have z0:w3.cell? ⟨b9,0,none⟩=some (.int .i64 f0):=by rw[hw3,hb9];simp[go_sem]
    have z1:w3.cell? ⟨b9,1,none⟩=some (.int .i64 f1):=by rw[hw3,hb9];simp[go_sem]
    have z2:w3.cell? ⟨b9,2,none⟩=some (.int .i64 f2):=by rw[hw3,hb9];simp[go_sem]
    have z3:w3.cell? ⟨b9,3,none⟩=some (.int .i64 f3):=by rw[hw3,hb9];simp[go_sem]
    have z4:w3.cell? ⟨b9,4,none⟩=some (.int .i64 f4):=by rw[hw3,hb9];simp[go_sem]
    rw[←hw3,←hb9];clear hw3 hb9 b3 hP y0 y1 y2 y3 y4;go_quiet (fail)
    rename_i nq;obtain⟨w4,hw4⟩:=nme (w3.drewN nq);have b4:Below w3.heap.size w3 w4:=by rw[hw4];exact AH (Ag _) _
    have P2:Hid _:=P2.out.go b4;have z0:=cell_later b4 z0;have z4:=cell_later b4 z4;rw[←hw4];clear hw4 b4 z1 z2 z3 ea eb et;have i0:=(P2.out.c5 0 (by omega)).1;have j0:=(P2.out.c6 0 (by omega)).1;have i1:=(P2.out.c5 1 (by omega)).1;have j1:=(P2.out.c6 1 (by omega)).1;have i2:=(P2.out.c5 2 (by omega)).1;have j2:=(P2.out.c6 2 (by omega)).1;have i3:=(P2.out.c5 3 (by omega)).1;have j3:=(P2.out.c6 3 (by omega)).1;have i4:=(P2.out.c5 4 (by omega)).1;have j4:=(P2.out.c6 4 (by omega)).1;have i5:=(P2.out.c5 5 (by omega)).1;have j5:=(P2.out.c6 5 (by omega)).1;have i6:=(P2.out.c5 6 (by omega)).1;have j6:=(P2.out.c6 6 (by omega)).1;have i7:=(P2.out.c5 7 (by omega)).1;have j7:=(P2.out.c6 7 (by omega)).1;go_wp2_with fail
    clear z0 z4 i0 j0 i1 j1 i2 j2 i3 j3 i4 j4 i5 j5 i6 j6 i7 j7;refine(MQ E G T f0 ka kb f4 _ HA.out.1 HA.out.2.1 HF.out P2.out.kp P2.out.lo).mono ?_;rintro e w6 ⟨v,u,A,B,rfl,hv,hu,hR,hb⟩;obtain⟨r1,r2,r3,r4,r5,r6,ev⟩:=hv.sls;subst ev;obtain⟨s1,s2,s3,s4,s5,s6,ev⟩:=hu.sls;subst ev;obtain⟨w7,hw7⟩:=nme ((w6.alloc (.cells #[.slice r1 r2 r3,.slice r4 r5 r6] 29)).alloc (.cells #[.slice s1 s2 s3,.slice s4 s5 s6] 34));have b7:Below w6.heap.size w6 w7:=by rw[hw7];exact Ad (Ad (Ag _))
    obtain⟨b13,hb13⟩:=nme w6.heap.size;have P3:Hid _:=P2.out.go (Ae hb b7);have HV:Hid ((w7.cell? ⟨b13,0,none⟩=some (.slice r1 r2 r3)∧w7.cell? ⟨b13,1,none⟩=some (.slice r4 r5 r6)∧w7.cell? ⟨b13+1,0,none⟩=some (.slice s1 s2 s3)∧w7.cell? ⟨b13+1,1,none⟩=some (.slice s4 s5 s6))∧Rt w7 (.agg #[.slice r1 r2 r3,.slice r4 r5 r6]) A B∧RRt w7 (.agg #[.slice s1 s2 s3,.slice s4 s5 s6]) A B∧Res A B):=by
     refine⟨⟨?_,?_,?_,?_⟩,hv.mono b7,hu.mono b7,hR⟩<;>rw[hw7,hb13]<;>simp[go_sem]
    have HNB:Hid (¬b13+1=b∧ ¬b13+1=b+1∧ ¬b13=b):=by
     have l1:=World.block_lt_of_cell? _ _ (cell_later hb (P2.out.c5 0 (by omega)).1);have l2:=World.block_lt_of_cell? _ _ (cell_later hb (P2.out.c6 0 (by omega)).1);simp at l1 l2;exact⟨by omega,by omega,by omega⟩
    clear hv hu hR hb P2 b7;go_wp2_with fail
    rw[←hw7,←hb13];clear hw7 hb13;go_loopw [16] (fun i wq=> ∃(j:Nat),j≤4∧i=.int .i64 (j:Int)∧Hid (Below w7.heap.size w7 wq)) (fun i _=>4- (intOf i).toNat)
    case atStart=>exact⟨0,by omega,rfl,Ag _⟩
    case round=>
     obtain⟨j,hj,rfl,hBq⟩:=hrel;by_cases hlt:j<4
     ·have hk1:(j:Int)<4:=by omega
      have w8:IntKind.i64.wrap ((j:Int)+1)=(j:Int)+1:=by rw[IntKind.wrap_i64];omega
      have HJ:Hid (j<4):=hlt;have P4:Hid _:=P3.out.go hBq.out;clear hlt hj;go_upto_region 22 with fail
      refine Aj (JG wr (KP E G T) [] (fun _=>0) [] [sEq (.int .i64 (j:Int)),sEq (.pointer (some ⟨b,j*2,none⟩)),sRt ((T j).1) ((T j).2),sEq (.int .i64 (j:Int)),sEq (.pointer (some ⟨b+1,j*2,none⟩)),Ax ((T j).1) ((T j).2),sEq (.bool true),sEq (.bool false)]) 100 (by kernel_rfl) rfl (by kernel_rfl) (JG.start (KP.stab E G T) P4.out.kp _ _ _ _ (fun _ h=>by cases h) (fun _ h=>by cases h)) (fun HG HN=>⟨?_,?_,?_,?_,?_,?_,?_,?_,trivial⟩) ?_
      ·intro L vs a w' hJ hF hP hL;have q16:(a.tmps[16]?).getD undef=.int .i64 (j:Int):=hF.old 16 rfl;exact Aa (v:=.int .i64 (j:Int)) rfl (by simp[execOp,go_sem,q16]) ⟨_,rfl,hJ.step hL rfl (Below.refl _ _) (by exact rfl)⟩
      ·intro L vs a w' hJ hF hP hL;have q5:(a.tmps[5]?).getD undef=.pointer (some ⟨b,0,none⟩):=hF.old 5 rfl;have p0:L 0=true:=hP ⟨0,.data⟩ (by simp) rfl;have s0:vs 0=.int .i64 (j:Int):=hJ.sp 0 p0;have q84:=hF.slot 0 84 rfl p0;exact Aa (v:=.pointer (some ⟨b,j*2,none⟩)) rfl (by simp[execOp,go_sem,q5,q84,s0,AV (b) j HJ.out w']) ⟨_,rfl,hJ.step hL rfl (Below.refl _ _) (by exact rfl)⟩
      ·intro L vs a w' hJ hF hP hL;have p1:L 1=true:=hP ⟨1,.data⟩ (by simp) rfl;have s1:vs 1=.pointer (some ⟨b,j*2,none⟩):=hJ.sp 1 p1;have q85:=hF.slot 1 85 rfl p1;have cb0:=hJ.cel ((P4.out.c5 (j*2) (by have:=HJ.out;omega)).1) (fun _ h=>by cases h);have cb1:=hJ.cel ((P4.out.c5 (j*2+1) (by have:=HJ.out;omega)).1) (fun _ h=>by cases h);exact Aa (v:=.agg #[E (j*2),E (j*2+1)]) rfl (by simp[execOp,go_sem,q85,s1,cb0,cb1]) ⟨_,rfl,hJ.step hL rfl (Below.refl _ _) (by exact(hJ.keep.r j HJ.out))⟩
      ·intro L vs a w' hJ hF hP hL;have q16:(a.tmps[16]?).getD undef=.int .i64 (j:Int):=hF.old 16 rfl;exact Aa (v:=.int .i64 (j:Int)) rfl (by simp[execOp,go_sem,q16]) ⟨_,rfl,hJ.step hL rfl (Below.refl _ _) (by exact rfl)⟩
      ·intro L vs a w' hJ hF hP hL;have q6:(a.tmps[6]?).getD undef=.pointer (some ⟨b+1,0,none⟩):=hF.old 6 rfl;have p3:L 3=true:=hP ⟨3,.data⟩ (by simp) rfl;have s3:vs 3=.int .i64 (j:Int):=hJ.sp 3 p3;have q87:=hF.slot 3 87 rfl p3;exact Aa (v:=.pointer (some ⟨b+1,j*2,none⟩)) rfl (by simp[execOp,go_sem,q6,q87,s3,AW (b+1) j HJ.out w']) ⟨_,rfl,hJ.step hL rfl (Below.refl _ _) (by exact rfl)⟩
      ·intro L vs a w' hJ hF hP hL;have p4:L 4=true:=hP ⟨4,.data⟩ (by simp) rfl;have s4:vs 4=.pointer (some ⟨b+1,j*2,none⟩):=hJ.sp 4 p4;have q88:=hF.slot 4 88 rfl p4;have cb0:=hJ.cel ((P4.out.c6 (j*2) (by have:=HJ.out;omega)).1) (fun _ h=>by cases h);have cb1:=hJ.cel ((P4.out.c6 (j*2+1) (by have:=HJ.out;omega)).1) (fun _ h=>by cases h);exact Aa (v:=.agg #[G (j*2),G (j*2+1)]) rfl (by simp[execOp,go_sem,q88,s4,cb0,cb1]) ⟨_,rfl,hJ.step hL rfl (Below.refl _ _) (by exact(hJ.keep.d j HJ.out))⟩
      ·intro L vs a w' hJ hF hP hL;have p2:L 2=true:=hP ⟨2,.data⟩ (by simp) rfl;have s2:Rt w' (vs 2) ((T j).1) ((T j).2):=hJ.sp 2 p2;have q86:=hF.slot 2 86 rfl p2;have p5:L 5=true:=hP ⟨5,.data⟩ (by simp) rfl;have s5:RRt w' (vs 5) ((T j).1) ((T j).2):=hJ.sp 5 p5;have q89:=hF.slot 5 89 rfl p5;refine Ai (f:=8) (args:= #[vs 2,vs 5]) rfl (by simp[go_sem,q86,q89]) (Ed _ _ (T j).1 (T j).2 _ s2 s5 (P4.out.lo j HJ.out).rs1 (P4.out.lo j HJ.out).rs2) ?_;rintro e w2 ⟨rfl,hb⟩;exact⟨_,rfl,_,rfl,hJ.step hL rfl hb (by exact rfl)⟩
      ·intro L vs a w' hJ hF hP hL;have p6:L 6=true:=hP ⟨6,.data⟩ (by simp) rfl;have s6:vs 6=.bool true:=hJ.sp 6 p6;have q90:=hF.slot 6 90 rfl p6;exact Aa (v:=.bool false) rfl (by simp[execOp,go_sem,q90,s6]) ⟨_,rfl,hJ.step hL rfl (Below.refl _ _) (by exact rfl)⟩
      intro L vs w' hA hJ;have s7:vs 7=.bool false:=hJ.sp 7 (hA 7 (by simp));simp only[AC,Act.put,List.setIfInBounds_toArray,List.set_cons_zero,List.set_cons_succ,Nat.reduceAdd];simp only[s7];have BQ:Hid (Below w7.heap.size w7 w'):=Ae hBq.out (hJ.bel.below (Ag _) (fun k ⟨s,hs,_⟩=>by cases hs));clear hJ hA s7 hBq P4;go_wp2_with fail
      go_roundw
      case rel=>exact⟨j+1,by have:=HJ.out;omega,by simp,BQ⟩
      case measure=>have:=HJ.out;simp[intOf];omega
     obtain rfl:j=4:=by omega
     have P4:Hid _:=P3.out.go hBq.out;have z1:=cell_later hBq.out HV.out.1.1;have z2:=cell_later hBq.out HV.out.1.2.1;have z3:=cell_later hBq.out HV.out.1.2.2.1;have z4:=cell_later hBq.out HV.out.1.2.2.2;have U1:Hid (Rt wr (.agg #[.slice r1 r2 r3,.slice r4 r5 r6]) A B∧RRt wr (.agg #[.slice s1 s2 s3,.slice s4 s5 s6]) A B∧Res A B):=⟨HV.out.2.1.mono hBq.out,HV.out.2.2.1.mono hBq.out,HV.out.2.2.2⟩;clear hlt hj HV P3 hBq;go_wp2_with fail
     refine(LO _ A B _ U1.out.2.1 U1.out.2.2.a U1.out.2.2.b).mono ?_;rintro e w9 ⟨rfl,hb⟩;have P5:Hid _:=P4.out.go hb;have y1:=cell_later hb z1;have y2:=cell_later hb z2;have y3:=cell_later hb z3;have y4:=cell_later hb z4;have U2:Hid (Rt w9 (.agg #[.slice r1 r2 r3,.slice r4 r5 r6]) A B∧RRt w9 (.agg #[.slice s1 s2 s3,.slice s4 s5 s6]) A B∧Res A B):=⟨U1.out.1.mono hb,U1.out.2.1.mono hb,U1.out.2.2⟩;clear hb P4 U1 z1 z2 z3 z4;obtain⟨sh,esh⟩: ∃sh,sh=decide (bitLen A<3000∧bitLen B<3000):=⟨_,rfl⟩;rw[←esh];cases sh
     ·clear esh y1 y2 y3 y4 U2;go_wp2_with fail
      go_roundw
      case rel=>
       repeat apply Exists.intro
       refine And.intro ?_ rfl;exact⟨k+1,_,_,_,by have:=HK.out;omega,by simp,P5⟩
      case measure=>have:=HK.out;simp[intOf];omega
     have hlo:Lo A B:=MR U2.out.2.2 (of_decide_eq_true esh.symm);have x2:=AW (b+1) kt HA.out.2.2;have x1:=AV b kt HA.out.2.2;obtain⟨q0,q1⟩:=P5.out.c5 (kt*2) (by have:=HA.out;omega);obtain⟨q2,q3⟩:=P5.out.c5 (kt*2+1) (by have:=HA.out;omega);obtain⟨q4,q5⟩:=P5.out.c6 (kt*2) (by have:=HA.out;omega);obtain⟨q6,q7⟩:=P5.out.c6 (kt*2+1) (by have:=HA.out;omega);have P6:Hid _:=P5.out.setXW (x:=(A,B)) (Sd':=fun _=>True) HA.out.2.2 U2.out.1 U2.out.2.1 hlo (fun i _=>.inr trivial);have nb1: ¬b13+1=b:=fun e=>HNB.out.1 e;have nb2: ¬b13+1=b+1:=fun e=>HNB.out.2.1 e;have nb3: ¬b=b13+1:=fun e=>HNB.out.1 e.symm;have nb4: ¬b+1=b13+1:=fun e=>HNB.out.2.1 e.symm;have nb5: ¬b13=b:=fun e=>HNB.out.2.2 e;clear esh hlo P5 U2;go_wp2_with fail
     go_roundw
     case rel=>
      repeat apply Exists.intro
      refine And.intro ?_ rfl;exact⟨k+1,_,_,_,by have:=HK.out;omega,by simp,P6⟩
     case measure=>have:=HK.out;simp[intOf];omega
   have BE:Hid (Below w.heap.size w wr):=hP.out.bel;clear hP;by_cases h1:k<n1
   ·have hk1:(k:Int)<(n1:Int):=by omega
    have hk2: ¬(k:Int)<40:=by omega
    go_wp2_with fail
    go_ret
    exact⟨rfl,BE.out⟩
   have hk1: ¬(k:Int)<(n1:Int):=by omega
   go_wp2_with fail
   go_ret
   exact⟨rfl,BE.out⟩
end Go.Proofs.YtcbjkgphpnihiaaGreatDoor
namespace Go.Proofs.YtcbjkgphpnihiaaGreatDoor
open Go.ChangeShapes Go.WideShapes Go.ChangeAt Go.RowKit
set_option linter.unusedVariables false
theorem OX:ownKnob Tryz.prog.godebug=none:=by kernel_rfl
theorem Oy:Tryz.prog.cellsOf 41=2:=by kernel_rfl
theorem LQ:Tryz.prog.cellsOf 39=1:=by kernel_rfl
theorem Je:laidOutB Tryz.prog=true:=by kernel_rfl
def Ig(k:IntKind)(w:World)(a:Option Addr)(len cap:Nat)(zs:List Int):Prop:=
 (a=none∧len=0∧cap=0∧zs=[])∨
 ∃x,a=some x∧len≤cap∧cap≤maxLen∧zs.length=cap∧(∀i,i<zs.length→w.cell? (x.add i)=some (.int k (zs.getD i 0)))∧ ∀n∈zs,(Lit.int k n).wf=true
theorem J2{w:World}{a:Option Addr}{len cap:Nat}{zs:List Int}(h:Ig .u8 w a len cap zs):BSl w a len cap (fun i=>(zs.getD i 0).toNat):=by
 rcases h with⟨rfl,rfl,rfl,rfl⟩| ⟨x,rfl,hl,hm,hz,hcell,hwz⟩
 ·exact⟨Nat.le_refl _,by omega,fun i hi=>absurd hi (by omega),.inl rfl⟩
 have hw: ∀i,i<len→0≤zs.getD i 0∧zs.getD i 0<256:=by
  intro i hi;have hi2:i<zs.length:=by omega
  have:=hwz (zs.getD i 0) (by rw[List.getD_eq_getElem?_getD,List.getElem?_eq_getElem hi2];exact List.getElem_mem hi2);have hmin:IntKind.u8.min=0:=rfl;have hmax:IntKind.u8.max=255:=rfl;have h2:IntKind.u8.min≤zs.getD i 0∧zs.getD i 0≤IntKind.u8.max:=by simpa[Lit.wf]using this
  rw[hmin,hmax]at h2;omega
 refine⟨hl,by simp only[maxLen]at hm;omega,fun i hi=> ?_,?_⟩
 ·have:=hw i hi;show(zs.getD i 0).toNat<256;omega
 rcases Nat.eq_zero_or_pos len with e|e
 ·exact .inl e
 obtain⟨b,off,spot⟩:=x;have hc:=hcell 0 (by omega);have hspot:spot=none:=by simpa[Addr.add]using World.cell?_spot hc
 subst hspot;refine .inr ⟨b,off,rfl,fun i hi=> ?_⟩;have h1:=hcell i (by omega);have h2:=hw i hi;have h3:(⟨b,off,none⟩:Addr).add i=⟨b,off+i,none⟩:=by unfold Addr.add;split<;>simp_all
 rw[h3]at h1;rw[h1];show some (Value.int .u8 (zs.getD i 0))=some (Value.int .u8 (((zs.getD i 0).toNat:Nat):Int));rw[Int.toNat_of_nonneg h2.1]
end Go.Proofs.YtcbjkgphpnihiaaGreatDoor
namespace Go.Proofs.YtcbjkgphpnihiaaGreatDoor
open Go.RowKit Go.ChangeShapes Go.WideShapes Go.ChangeAt
set_option linter.unusedVariables false
theorem NS{n:Int}(h:(Lit.int .i64 n).wf=true): -9223372036854775808≤n∧n≤9223372036854775807:=by
 have hmin:IntKind.i64.min= -9223372036854775808:=rfl;have hmax:IntKind.i64.max=9223372036854775807:=rfl;have h2:IntKind.i64.min≤n∧n≤IntKind.i64.max:=by simpa[Lit.wf]using h
 rw[hmin,hmax]at h2;exact h2
theorem H4(a:Addr)(m j:Nat):(a.add m).add j=a.add (m+j):=by
 unfold Addr.add;rcases Nat.eq_zero_or_pos m with e|e
 ·subst e;simp
 rcases Nat.eq_zero_or_pos j with e2|e2
 ·subst e2;simp
 rw[if_neg (by omega),if_neg (by omega),if_neg (by omega)];simp[Nat.add_assoc]
theorem FQ(b off i:Nat):(⟨b,off,none⟩:Addr).add i=⟨b,off+i,none⟩:=by
 unfold Addr.add;rcases Nat.eq_zero_or_pos i with e|e
 ·subst e;simp
 rw[if_neg (by omega)]
section
variable {H:Type} {enc:TypeId×Value→H} {w:World} {base:Nat} {spare:Nat→Bool} {held:Bool} {fuel:Nat} {t:TypeId} {cs:List Value} {x:DataW H×List MemPlace}
theorem GJ{fs:Array Field}(ht:Tryz.prog.underlying t=some (.struct fs))(h:DataW.trod enc Tryz.prog w base spare held fuel t cs=some x)(j off m:Nat)(t':TypeId)(hf: ∃f,fs[j]? =some f∧f.offset=off∧f.type=t')(hc:Tryz.prog.cellsOf t'=m): ∃k y,DataW.trod enc Tryz.prog w base spare held k t' ((cs.drop off).take m)=some y:=by
 obtain⟨xs,k,_,_,_,hxl,hff⟩:=DataW.trod_struct ht h;obtain⟨f,f1,f2,f3⟩:=hf;have g:=hff j f f1;rw[f2,f3,hc]at g;have hj:j<xs.length:=by rw[hxl];exact(Array.getElem?_eq_some_iff.1 f1).1
 exact⟨k,_,g.trans (List.getElem?_eq_getElem hj)⟩
theorem Jf{off:Nat}(hu:Tryz.prog.underlying t=some (.int .i64))(h:DataW.trod enc Tryz.prog w base spare held fuel t ((cs.drop off).take 1)=some x): ∃v,cs[off]? =some (.int .i64 v)∧(Lit.int .i64 v).wf=true:=by
 obtain⟨v,hv,_,hw⟩:=DataW.trod_int hu h;refine⟨v,?_,hw⟩;have e2:=congrArg (fun l=>l[0]?) hv;simpa using e2
theorem FT:Tryz.prog.cellsOf 3=1:=by kernel_rfl
theorem MV(h:DataW.trod enc Tryz.prog w base spare held fuel 43 cs=some x): ∀j,j<5→ ∃v,cs[j]? =some (.int .i64 v)∧(Lit.int .i64 v).wf=true:=by
 intro j hj;match j,hj with
 |0,_=>obtain⟨k,z,g⟩:=GJ Tryz.underlying43 h 0 0 1 3 ⟨_,rfl,rfl,rfl⟩ FT;exact Jf Tryz.underlying3 g
 |1,_=>obtain⟨k,z,g⟩:=GJ Tryz.underlying43 h 1 1 1 3 ⟨_,rfl,rfl,rfl⟩ FT;exact Jf Tryz.underlying3 g
 |2,_=>obtain⟨k,z,g⟩:=GJ Tryz.underlying43 h 2 2 1 3 ⟨_,rfl,rfl,rfl⟩ FT;exact Jf Tryz.underlying3 g
 |3,_=>obtain⟨k,z,g⟩:=GJ Tryz.underlying43 h 3 3 1 3 ⟨_,rfl,rfl,rfl⟩ FT;exact Jf Tryz.underlying3 g
 |4,_=>obtain⟨k,z,g⟩:=GJ Tryz.underlying43 h 4 4 1 3 ⟨_,rfl,rfl,rfl⟩ FT;exact Jf Tryz.underlying3 g
theorem H5{off:Nat}(h:DataW.trod enc Tryz.prog w base (fun _=>true) held fuel 39 ((cs.drop off).take 1)=some x): ∃a len cap zs,cs[off]? =some (.slice a len cap)∧Ig .u8 w a len cap zs:=by
 rcases open_ints Tryz.underlying39 Tryz.underlying5 (by kernel_rfl) h with⟨hcs,_⟩| ⟨y,l,c,zs,hcs,_,hl,hm,hz,_,hcell,hwz⟩
 ·have e2:=congrArg (fun l=>l[0]?) hcs;exact⟨_,_,_,[],by simpa using e2,.inl ⟨rfl,rfl,rfl,rfl⟩⟩
 have e2:=congrArg (fun l=>l[0]?) hcs;exact⟨_,_,_,zs,by simpa using e2,.inr ⟨_,rfl,hl,hm,by simpa using hz,hcell,hwz⟩⟩
theorem OP(h:DataW.trod enc Tryz.prog w base (fun _=>true) held fuel 41 cs=some x): ∀j,j<2→ ∃a len cap zs,cs[j]? =some (.slice a len cap)∧Ig .u8 w a len cap zs:=by
 intro j hj;match j,hj with
 |0,_=>obtain⟨k,z,g⟩:=GJ Tryz.underlying41 h 0 0 1 39 ⟨_,rfl,rfl,rfl⟩ LQ;exact H5 g
 |1,_=>obtain⟨k,z,g⟩:=GJ Tryz.underlying41 h 1 1 1 39 ⟨_,rfl,rfl,rfl⟩ LQ;exact H5 g
end
def FSz(w:World)(a:Option Addr)(n cap:Nat)(_:Nat):Prop:=FSl w a n cap
theorem OQ{H:Type}{enc:TypeId×Value→H}{w:World}{base:Nat}{held:Bool}{fuel:Nat}{a:Option Addr}{len cap:Nat}{x:DataW H×List MemPlace}(h:DataW.trod enc Tryz.prog w base (fun _=>true) held fuel 22 (Value.slice a len cap).cells.toList=some x): ∃z,FSz w a len cap z:=by
 refine⟨0,?_⟩;rcases Deep.open_slice Tryz.underlying22 h with⟨h0,_⟩| ⟨a',len',cap',m,n,D,Pl,hcs,hb,hl,hm,hmm,_,hx⟩
 ·simp[Value.cells]at h0;obtain⟨rfl,rfl,rfl⟩:=h0;exact⟨Nat.le_refl _,by omega,.inl rfl⟩
 simp[Value.cells]at hcs;obtain⟨rfl,rfl,rfl⟩:=hcs;have key: ∀i j,i<len→j<2→ ∃b l c zs,w.cell? (a'.add (i*2+j))=some (.slice b l c)∧Ig .u8 w b l c zs:=fun i j hi hj=>by
  have hlm:len≤m:=by rw[hmm];split<;>omega
  obtain⟨cs',h1,h2⟩:=hx i (by omega);rw[Oy]at h1;obtain⟨_,hlen,hcell⟩:=World.cells?_some h1;obtain⟨b,l,c,zs,hv,hr⟩:=OP h2 j hj;have e1:=hcell j hj;rw[H4]at e1;exact⟨b,l,c,zs,by rw[e1];exact hv,hr⟩
 refine⟨hl,by simp only[maxLen]at hm;omega,?_⟩;rcases Nat.eq_zero_or_pos len with e|e
 ·exact .inl e
 obtain⟨b,off,spot⟩:=a';obtain⟨_,_,_,_,hc,_⟩:=key 0 0 e (by omega);have hspot:spot=none:=by simpa[Addr.add]using World.cell?_spot hc
 subst hspot;refine .inr ⟨b,off,rfl,fun i hi=> ?_⟩;obtain⟨a0,l0,k0,z0,g0,r0⟩:=key i 0 hi (by omega);obtain⟨a1,l1,k1,z1,g1,r1⟩:=key i 1 hi (by omega);rw[FQ]at g0 g1;exact⟨a0,l0,k0,_,a1,l1,k1,_,g0,by rw[Nat.add_assoc];exact g1,J2 r0,J2 r1⟩
theorem Oz{H:Type}{enc:TypeId×Value→H}{w:World}{base:Nat}{spare:Nat→Bool}{held:Bool}{fuel:Nat}{a:Option Addr}{len cap:Nat}{x:DataW H×List MemPlace}(h:DataW.trod enc Tryz.prog w base spare held fuel 23 (Value.slice a len cap).cells.toList=some x): ∃F,St5 w a len cap F:=by
 have ce:Tryz.prog.cellsOf 43=5:=by kernel_rfl
 rcases Deep.open_slice Tryz.underlying23 h with⟨h0,_⟩| ⟨a',len',cap',m,n,D,Pl,hcs,hb,hl,hm,hmm,_,hx⟩
 ·simp[Value.cells]at h0;obtain⟨rfl,rfl,rfl⟩:=h0;exact⟨fun _ _=>0,Nat.le_refl _,by omega,fun i j hi _=>by omega,.inl rfl⟩
 simp[Value.cells]at hcs;obtain⟨rfl,rfl,rfl⟩:=hcs;have key: ∀i j,i<len→j<5→ ∃v,w.cell? (a'.add (i*5+j))=some (.int .i64 v)∧(Lit.int .i64 v).wf=true:=fun i j hi hj=>by
  have hlm:len≤m:=by rw[hmm];split<;>omega
  obtain⟨cs',h1,h2⟩:=hx i (by omega);rw[ce]at h1;obtain⟨_,hlen,hcell⟩:=World.cells?_some h1;obtain⟨v,hv,hw⟩:=MV h2 j hj;refine⟨v,?_,hw⟩;have e1:=hcell j hj;rw[H4]at e1;rw[e1];exact hv
 refine⟨fun i j=>intOf ((w.cell? (a'.add (i*5+j))).getD undef),hl,by simp only[maxLen]at hm;omega,fun i j hi hj=> ?_,?_⟩
 ·obtain⟨v,hv,hw⟩:=key i j hi hj;show -9223372036854775808≤intOf ((w.cell? (a'.add (i*5+j))).getD undef)∧_;rw[hv];exact NS hw
 rcases Nat.eq_zero_or_pos len with e|e
 ·exact .inl e
 obtain⟨b,off,spot⟩:=a';obtain⟨v,hc,_⟩:=key 0 0 e (by omega);have hspot:spot=none:=by simpa[Addr.add]using World.cell?_spot hc
 subst hspot;refine .inr ⟨b,off,rfl,fun i j hi hj=> ?_⟩;obtain⟨v,hv,_⟩:=key i j hi hj;rw[FQ]at hv;have e3:off+i*5+j=off+(i*5+j):=by omega
 rw[e3,hv,FQ,hv];rfl
end Go.Proofs.YtcbjkgphpnihiaaGreatDoor
