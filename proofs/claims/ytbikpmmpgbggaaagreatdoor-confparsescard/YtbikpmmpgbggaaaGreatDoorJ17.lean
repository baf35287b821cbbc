/- Contracts of the program's functions, part 17: own work, joined in build order. -/
import Derived.Test.YtbikpmmpgbggaaaGreatDoorJ16
import Derived.Laws.Cover2
import Derived.Lib.OthersKept
import Derived.Laws.RangeAny
namespace Go.Proofs.YtbikpmmpgbggaaaGreatDoor
open Go.RowKit
set_option maxRecDepth 100000
set_option linter.unusedVariables false
set_option maxHeartbeats 16000000
def Ci(F:Nat→Nat→Int):Nat→Nat→Nat
 |0,_=>0
 |k+1,j=>Ci F k j+if F (k+1) 1=(j:Int) then 1 else 0
theorem Vy(F:Nat→Nat→Int)(k j:Nat):Ci F k j≤k:=by
 induction k with
 |zero=>simp[Ci]
 |succ k ih=>rw[Ci];split<;>omega
structure Cn (w W:World) (g:Nat) (H:Nat→Nat):Prop where
 cells: ∀j,j<32→W.cell? ⟨g,j,none⟩=some (.int .i64 (H j:Int))
 bel:Below w.heap.size w W
 old:w.heap.size≤g
 soft: ∀j,j<32→W.frozen? ⟨g,j,none⟩=false
theorem Cn.go{w W W':World}{g:Nat}{H:Nat→Nat}(h:Cn w W g H)(k:Below W.heap.size W W'):Cn w W' g H:=⟨fun j hj=>Ae k (h.cells j hj),AU h.bel k,h.old,fun j hj=>(k.frozen (World.block_lt_of_cell? _ _ (h.cells j hj))).trans (h.soft j hj)⟩
theorem Cn.set{w W:World}{g:Nat}{H:Nat→Nat}(h:Cn w W g H)(j:Nat)(hj:j<32)(x:Nat):Cn w (W.setCell ⟨g,j,none⟩ (.int .i64 (x:Int))) g (fun i=>if i=j then x else H i):=by
 have hs:=h.cells j hj;refine⟨fun i hi=> ?_,F4 h.bel h.old,h.old,fun i hi=>by simpa[go_sem]using h.soft i hi⟩;by_cases e:i=j
 ·subst e;rw[World.cell?_setCell_same _ _ _ hs,if_pos rfl]
 rw[World.cell?_setCell_other _ _ _ _ (by intro q;apply e;injection q with q1 q2 q3;exact q2.symm),if_neg e];exact h.cells i hi
theorem OY(w:World)(j:Nat)(hj:j<32)(t:TypeId):(w.alloc (.cells #[.int .i64 0,.int .i64 0,.int .i64 0,.int .i64 0,.int .i64 0,.int .i64 0,.int .i64 0,.int .i64 0,.int .i64 0,.int .i64 0,.int .i64 0,.int .i64 0,.int .i64 0,.int .i64 0,.int .i64 0,.int .i64 0,.int .i64 0,.int .i64 0,.int .i64 0,.int .i64 0,.int .i64 0,.int .i64 0,.int .i64 0,.int .i64 0,.int .i64 0,.int .i64 0,.int .i64 0,.int .i64 0,.int .i64 0,.int .i64 0,.int .i64 0,.int .i64 0] t)).cell? ⟨w.heap.size,j,none⟩=some (.int .i64 ((0:Nat):Int)):=by
 rcases j with _|_|_|_|_|_|_|_|_|_|_|_|_|_|_|_|_|_|_|_|_|_|_|_|_|_|_|_|_|_|_|_|j
 all_goals first| (simp[go_sem];done)|omega
theorem Oh(a:Option Addr)(n cap:Nat)(F:Nat→Nat→Int)(w:World)(h:NSl w a n cap F)(h1:1≤n)(h2:n≤32)(hp: ∀i,1≤i→i<n→0≤F i 1∧F i 1<32):
  Calls Tryz.prog 83 #[.slice a n cap] w fun e w'=>e=.returned (.bool (decide (∀i,i<n→F i 0=6→0<Ci F (n-1) i)))∧Below w.heap.size w w':=by
 obtain⟨b,o,rfl,hc⟩:=h.at (by omega);have hle:=h.le;obtain⟨n,rfl⟩: ∃k,n=k+1:=⟨n-1,by omega⟩;obtain⟨c,rfl⟩: ∃k,cap=k+1:=⟨cap-1,by omega⟩;obtain⟨E,hE⟩: ∃E,decide (∀i,i<n+1→F i 0=6→0<Ci F (n+1-1) i)=E:=⟨_,rfl⟩;rw[hE];rw[Nat.add_sub_cancel]at hE;have HE:Hid _:=hE;have HC:Hid _:=hc;have HP:Hid _:=hp;have HL:Hid _:=h.lim;clear hc hp h hE h1;by_cases hc0:c=0
 ·obtain rfl:n=0:=by omega
  subst hc0;obtain⟨n,hn⟩: ∃n:Nat,n=0:=⟨0,rfl⟩;go_enter Tryz.func83,Tryz.ntmps83
  go_wp2_with fail
  go_loopw [11] (fun t wr=> ∃k:Nat,k≤0∧t=.int .i64 (k:Int)∧Hid (Cn w wr w.heap.size (Ci F k))) (fun t _=>0- (intOf t).toNat)
  case atStart=>
   refine⟨0,by omega,rfl,⟨fun j hj=> ?_,Af (Aa _),Nat.le_refl _,fun j hj=>by simp[go_sem]⟩⟩;exact OY w j hj _
  case round=>
   obtain⟨k,hk,rfl,HC1⟩:=hrel;by_cases e:k=0
   ·rw[e];rw[e]at HC1;clear e hk k;go_wp2_with fail
    go_loopw [24] (fun t wr=> ∃k:Nat,k≤0+1∧t=.int .i64 (k:Int)∧Hid (∀i,i<k→F i 0=6→0<Ci F 0 i)∧Hid (Cn w wr w.heap.size (Ci F 0))) (fun t _=>0+1- (intOf t).toNat)
    case atStart=>exact⟨0,by omega,rfl,fun i hi=>absurd hi (by omega),HC1.out⟩
    case round=>
     obtain⟨k,hk,rfl,HA,HC2⟩:=hrel;clear HC1;by_cases e:k=0+1
     ·have HR:Hid (E=true):=by
       show E=true;rw[←HE.out];exact decide_eq_true fun i hi=>HA.out i (by omega)
      rw[e];clear e hk HE;go_wp2_with fail
      go_ret
      rw[HR.out];exact⟨rfl,HC2.out.bel⟩
     have lk:k<0+1:=by omega
     have x0:wr.cell? ⟨b,o+k*4,none⟩=some (.int .i64 (F k 0)):=by simpa using Ae HC2.out.bel (HC.out k 0 lk (by omega))
     have x1:=Ae HC2.out.bel (HC.out k 1 lk (by omega));have x2:=Ae HC2.out.bel (HC.out k 2 lk (by omega));have x3:=Ae HC2.out.bel (HC.out k 3 lk (by omega));have x4:=HC2.out.cells k (by omega);have l2:w.heap.size<wr.heap.size:=World.block_lt_of_cell? _ _ x4;have l3:k<32:=by omega
     by_cases e6:F k 0=6
     ·rw[e6]at x0;by_cases e0:Ci F 0 k=0
      ·have HR:Hid (E=false):=by
        show E=false;rw[←HE.out];refine decide_eq_false fun q=> ?_;have:=q k lk e6;omega
       rw[e0]at x4;have x4:wr.cell? ⟨w.heap.size,k,none⟩=some (.int .i64 0):=x4;clear e6 e0 HE e;go_wp2_with fail
       go_ret
       rw[HR.out];exact⟨rfl,Af HC2.out.bel⟩
      exact absurd rfl e0
     have d:(F k 0==6)=false:=by simpa using e6
     have HG:Hid _:=e6;clear e6 e;go_wp2_with fail
     go_roundw
     case rel=>
      refine⟨k+1,by omega,by go_num,fun i hi h6=> ?_,HC2.out.go (Af (Aa _))⟩;by_cases e:i=k
      ·rw[e]at h6;exact absurd h6 HG.out
      exact HA.out i (by omega) h6
     case measure=>simp[intOf];omega
   exact absurd hk (by omega)
 go_enter Tryz.func83,Tryz.ntmps83
 go_wp2_with fail
 go_loopw [11] (fun t wr=> ∃k:Nat,k≤n∧t=.int .i64 (k:Int)∧Hid (Cn w wr w.heap.size (Ci F k))) (fun t _=>n- (intOf t).toNat)
 case atStart=>
  refine⟨0,by omega,rfl,⟨fun j hj=> ?_,Af (Aa _),Nat.le_refl _,fun j hj=>by simp[go_sem]⟩⟩;exact OY w j hj _
 case round=>
  obtain⟨k,hk,rfl,HC1⟩:=hrel;by_cases e:k=n
  ·rw[e];rw[e]at HC1;clear e hk k;go_wp2_with fail
   go_loopw [24] (fun t wr=> ∃k:Nat,k≤n+1∧t=.int .i64 (k:Int)∧Hid (∀i,i<k→F i 0=6→0<Ci F n i)∧Hid (Cn w wr w.heap.size (Ci F n))) (fun t _=>n+1- (intOf t).toNat)
   case atStart=>exact⟨0,by omega,rfl,fun i hi=>absurd hi (by omega),HC1.out⟩
   case round=>
    obtain⟨k,hk,rfl,HA,HC2⟩:=hrel;clear HC1;by_cases e:k=n+1
    ·have HR:Hid (E=true):=by
      show E=true;rw[←HE.out];exact decide_eq_true fun i hi=>HA.out i (by omega)
     rw[e];clear e hk HE;go_wp2_with fail
     go_ret
     rw[HR.out];exact⟨rfl,HC2.out.bel⟩
    have lk:k<n+1:=by omega
    have x0:wr.cell? ⟨b,o+k*4,none⟩=some (.int .i64 (F k 0)):=by simpa using Ae HC2.out.bel (HC.out k 0 lk (by omega))
    have x1:=Ae HC2.out.bel (HC.out k 1 lk (by omega));have x2:=Ae HC2.out.bel (HC.out k 2 lk (by omega));have x3:=Ae HC2.out.bel (HC.out k 3 lk (by omega));have x4:=HC2.out.cells k (by omega);have l2:w.heap.size<wr.heap.size:=World.block_lt_of_cell? _ _ x4;have l3:k<32:=by omega
    by_cases e6:F k 0=6
    ·rw[e6]at x0;by_cases e0:Ci F n k=0
     ·have HR:Hid (E=false):=by
       show E=false;rw[←HE.out];refine decide_eq_false fun q=> ?_;have:=q k lk e6;omega
      rw[e0]at x4;have x4:wr.cell? ⟨w.heap.size,k,none⟩=some (.int .i64 0):=x4;clear e6 e0 HE e;go_wp2_with fail
      go_ret
      rw[HR.out];exact⟨rfl,Af HC2.out.bel⟩
     have d:((Ci F n k:Int)==0)=false:=by simp;omega
     have HG:Hid _:=show 0<Ci F n k from by omega
     clear e6 e0 e;go_wp2_with fail
     go_roundw
     case rel=>
      refine⟨k+1,by omega,by go_num,fun i hi h6=> ?_,HC2.out.go (Af (Aa _))⟩;by_cases e:i=k
      ·rw[e];exact HG.out
      exact HA.out i (by omega) h6
     case measure=>simp[intOf];omega
    have d:(F k 0==6)=false:=by simpa using e6
    have HG:Hid _:=e6;clear e6 e;go_wp2_with fail
    go_roundw
    case rel=>
     refine⟨k+1,by omega,by go_num,fun i hi h6=> ?_,HC2.out.go (Af (Aa _))⟩;by_cases e:i=k
     ·rw[e]at h6;exact absurd h6 HG.out
     exact HA.out i (by omega) h6
    case measure=>simp[intOf];omega
  have lk:k<n:=by omega
  obtain⟨hp0,hp1⟩:=HP.out (k+1) (by omega) (by omega);obtain⟨p,ep⟩: ∃p:Nat,F (k+1) 1=(p:Int):=⟨(F (k+1) 1).toNat,by omega⟩;have lp:p<32:=by omega
  have x0:wr.cell? ⟨b,o+4+k*4,none⟩=some (.int .i64 (F (k+1) 0)):=by
   have:=Ae HC1.out.bel (HC.out (k+1) 0 (by omega) (by omega));rwa[show o+(k+1)*4+0=o+4+k*4 by omega]at this
  have x1:wr.cell? ⟨b,o+4+k*4+1,none⟩=some (.int .i64 (F (k+1) 1)):=by
   have:=Ae HC1.out.bel (HC.out (k+1) 1 (by omega) (by omega));rwa[show o+(k+1)*4+1=o+4+k*4+1 by omega]at this
  have x2:wr.cell? ⟨b,o+4+k*4+2,none⟩=some (.int .i64 (F (k+1) 2)):=by
   have:=Ae HC1.out.bel (HC.out (k+1) 2 (by omega) (by omega));rwa[show o+(k+1)*4+2=o+4+k*4+2 by omega]at this
  have x3:wr.cell? ⟨b,o+4+k*4+3,none⟩=some (.int .i64 (F (k+1) 3)):=by
   have:=Ae HC1.out.bel (HC.out (k+1) 3 (by omega) (by omega));rwa[show o+(k+1)*4+3=o+4+k*4+3 by omega]at this
  rw[ep]at x1;have x4:=HC1.out.cells p lp;have x5:=HC1.out.soft p lp;have l2:w.heap.size<wr.heap.size:=World.block_lt_of_cell? _ _ x4;obtain⟨q,eq⟩:=nmd (Ci F k p);rw[eq]at x4;have lq:q≤k:=eq▸Vy F k p;have HQ:Hid _:=(show Ci F k p=q∧F (k+1) 1=(p:Int) from⟨eq,ep⟩);clear eq ep hp0 hp1 e;go_wp2_with fail
  go_roundw
  case rel=>
   refine⟨k+1,by omega,by go_num,?_⟩;have:=HC1.out.set p lp (q+1);have e2:(fun i=>if i=p then q+1 else Ci F k i)=Ci F (k+1):=by
    funext i
    rw[Ci,HQ.out.2];by_cases e:i=p
    ·rw[if_pos e,e,HQ.out.1,if_pos rfl]
    rw[if_neg e,if_neg (by omega)];rfl
   rw[e2,show((q+1:Nat):Int)=(q:Int)+1 from by omega]at this;exact this.go (Af (Aa _))
  case measure=>simp[intOf];omega
def Bz(F:Nat→Nat→Int):Nat→Int
 |0=>0
 |k+1=>if Bz F k=0 then CS F k else Bz F k
theorem LX{F:Nat→Nat→Int}{k:Nat}{e:Int}(h:Bz F k=e)(he:e≠0)(d:Nat):Bz F (k+d)=e:=by
 induction d with
 |zero=>exact h
 |succ d ih=>rw[←Nat.add_assoc,Bz,if_neg (by rw[ih];exact he),ih]
theorem Jj{F:Nat→Nat→Int}{k n:Nat}(h:Bz F k=0)(he:CS F k≠0)(hn:k<n):Bz F n=CS F k:=by
 have:=LX (F:=F) (k:=k+1) (e:=CS F k) (by rw[Bz,if_pos h]) he (n- (k+1));rwa[show k+1+(n- (k+1))=n by omega]at this
theorem F5{F:Nat→Nat→Int}{n:Nat}(h:Bz F n=0): ∀i,i<n→CS F i=0:=by
 intro i hi;by_cases e:CS F i=0
 ·exact e
 exfalso;have h0:Bz F i=0:=by
  by_cases q:Bz F i=0
  ·exact q
  have:=LX rfl q (n-i);rw[show i+(n-i)=n by omega,h]at this;exact absurd this.symm q
 have:=Jj h0 e hi;omega
theorem UZ{F:Nat→Nat→Int}{n:Nat}{x:Int}(h:kO F n x≠0):0≤x∧x<(n:Int):=by
 unfold kO at h;split at h
 ·assumption
 exact absurd rfl h
theorem Qd{F:Nat→Nat→Int}(h:CS F 0=0):F 0 0=6∧F 0 1=0∧F 0 2=0∧F 0 3=0:=by
 unfold CS at h;split at h
 ·omega
 rw[if_pos rfl]at h;split at h
 ·omega
 split at h
 ·omega
 split at h
 ·omega
 split at h
 ·omega
 rename_i h1 h2 h3 h4 h5;have e6:F 0 0=6:=by omega
 rw[e6]at h5;have q1:hld 0 0 (F 0 2)=true:=by simpa using h4
 have q2:hld 0 (fA1 6) (F 0 3)=true:=by simpa using h5
 have q3:=C7 q1;have q4:=C7 q2;have:fA1 6=0:=rfl;omega
theorem Hx{F:Nat→Nat→Int}{i:Nat}(hi:i≠0)(h:CS F i=0):1≤F i 0∧F i 0≤6∧kO F i (F i 1)=6∧1≤F i 2∧F i 2≤1073741824∧0≤F i 3∧F i 3≤fA1 (F i 0):=by
 unfold CS at h;split at h
 ·omega
 split at h
 ·omega
 split at h
 ·omega
 split at h
 ·omega
 rename_i h1 h2 h3 h4;have q0:isK (F i 0)=true:=by simpa using h1
 have q1:hld 1 1073741824 (F i 2)=true:=by simpa using h3
 have q2:hld 0 (fA1 (F i 0)) (F i 3)=true:=by simpa using h4
 have q3:=C7 q1;have q4:=C7 q2;unfold isK at q0;have q5:1≤F i 0∧F i 0≤6:=by simpa using q0
 exact⟨q5.1,q5.2,by omega,q3.1,q3.2,q4.1,q4.2⟩
theorem Qe{F:Nat→Nat→Int}{n:Nat}(h2:n≤32)(h:Bz F n=0): ∀i,1≤i→i<n→0≤F i 1∧F i 1<32:=by
 intro i h1 hi;have:=UZ (F:=F) (n:=i) (x:=F i 1) (by rw[(Hx (by omega) (F5 h i hi)).2.2.1];decide);omega
def Hy(F:Nat→Nat→Int)(n:Nat):Bool:=decide (∀i,i<n→F i 0=6→0<Ci F (n-1) i)
def Cl(F:Nat→Nat→Int)(n:Nat):Int:=if hld 1 32 (n:Int)=false then 1 else if¬Bz F n=0 then Bz F n else if Hy F n=false then 1 else 0
theorem Lo(a:Option Addr)(n cap:Nat)(F:Nat→Nat→Int)(w:World)(h:NSl w a n cap F):
  Calls Tryz.prog 42 #[.slice a n cap] w fun e w'=>e=.returned (.int .i64 (Cl F n))∧Below w.heap.size w w':=by
 obtain⟨E,hE⟩:=nmd (Cl F n);rw[hE];have HE:Hid _:=hE;have HN:Hid _:=h;have hl:n≤9223372036854775807:=Nat.le_trans h.le h.lim;clear hE h;go_enter Tryz.func42,Tryz.ntmps42
 go_wp2_with fail
 refine(Co (n:Int) 1 32 _).mono ?_;rintro e w1 ⟨rfl,hw⟩;rw[hw];clear hw w1;rcases hn:hld 1 32 (n:Int)with _|_
 ·have HR:Hid (E=1):=by
   show E=1;rw[←HE.out,Cl,if_pos hn]
  clear HE hn;go_wp2_with fail
  go_ret
  rw[HR.out];exact⟨rfl,Aa _⟩
 obtain⟨n1,n2⟩:=C7 hn;have HF:Hid (E=if¬Bz F n=0 then Bz F n else if Hy F n=false then 1 else 0):=by
  show E=_;rw[←HE.out,Cl,if_neg (by rw[hn];decide)]
 clear HE hn;go_wp2_with fail
 go_loopw [11] (fun t wr=> ∃k:Nat,k≤n∧t=.int .i64 (k:Int)∧Hid (Bz F k=0)∧Hid (Below w.heap.size w wr)) (fun t _=>n- (intOf t).toNat)
 case atStart=>exact⟨0,by omega,rfl,rfl,Aa _⟩
 case round=>
  obtain⟨k,hk,rfl,H0,HB⟩:=hrel;by_cases e:k=n
  ·rw[e];rw[e]at H0;clear e hk k;go_wp2_with fail
   refine(Oh a n cap F _ (HN.out.go HB.out) (by omega) (by omega) (Qe (by omega) H0.out)).mono ?_;rintro e w2 ⟨rfl,hb⟩;have HB2:Hid _:=AU HB.out hb;clear hb HB;rcases hk:(decide (∀i,i<n→F i 0=6→0<Ci F (n-1) i))with _|_
   ·have HR:Hid (E=1):=by
     show E=1;rw[HF.out,if_neg (by rw[H0.out];decide),if_pos (show Hy F n=false from hk)]
    clear hk HF;go_wp2_with fail
    go_ret
    rw[HR.out];exact⟨rfl,HB2.out⟩
   have HR:Hid (E=0):=by
    show E=0;rw[HF.out,if_neg (by rw[H0.out];decide),if_neg (by rw[Hy,hk];decide)]
   clear hk HF;go_wp2_with fail
   go_ret
   rw[HR.out];exact⟨rfl,HB2.out⟩
  have lk:k<n:=by omega
  clear e;go_wp2_with fail
  refine(Mj a n cap F k _ (HN.out.go HB.out) lk).mono ?_;rintro e w2 ⟨rfl,hb⟩;have HB2:Hid _:=AU HB.out hb;clear hb HB;obtain⟨x,hx⟩:=nmd (CS F k);rw[hx];by_cases x0:x=0
  ·have HG:Hid _:=hx.trans x0;clear hx;subst x0;go_wp2_with fail
   go_roundw
   case rel=>
    refine⟨k+1,by omega,by go_num,?_,HB2.out⟩;show Bz F (k+1)=0;rw[Bz,if_pos H0.out,HG.out]
   case measure=>simp[intOf];omega
  have HR:Hid (E=x):=by
   show E=x;have q:=Jj H0.out (by rw[hx];exact x0) lk;rw[HF.out,q,hx,if_pos x0]
  have d:(x != 0)=true:=by simpa using x0
  clear hx x0 HF;go_wp2_with fail
  go_ret
  rw[HR.out];exact⟨rfl,HB2.out⟩
def A4(K R M C Fl A:Int)(F:Nat→Nat→Int)(n:Nat):Int:=if isK K=false then 90 else if hld 1 65536 M=false then 92 else if hld M 1073741824 R=false then 91 else if hld 1 4096 C=false then 93 else if hld 1 256 Fl=false then 99 else if hld 0 (fA1 K) A=false then 95 else(if K=6 then Cl F n else if 0<n then 1 else 0)
theorem Et(K R M C Fl A:Int)(a:Option Addr)(n cap:Nat)(F:Nat→Nat→Int)(w:World)(h:NSl w a n cap F):
  Calls Tryz.prog 15 #[.agg #[.int .i64 K,.int .i64 R,.int .i64 M,.int .i64 C,.int .i64 Fl,.int .i64 A,.slice a n cap]] w fun e w'=>e=.returned (.int .i64 (A4 K R M C Fl A F n))∧Below w.heap.size w w':=by
 obtain⟨q0,f1⟩:=nmd (fQ0 K);obtain⟨q1,f2⟩:=nmd (fQ1 K);obtain⟨cl,f3⟩:=nmd (fC1 K);obtain⟨sp,f4⟩:=nmd (fS1 K);obtain⟨a1,f5⟩:=nmd (fA1 K);have HFA:Hid _:=Ef K f1 f2 f3 f4 f5;obtain⟨E,hE⟩:=nmd (A4 K R M C Fl A F n);rw[hE];have HE:Hid (E=if isK K=false then 90 else if hld 1 65536 M=false then 92 else if hld M 1073741824 R=false then 91 else if hld 1 4096 C=false then 93 else if hld 1 256 Fl=false then 99 else if hld 0 a1 A=false then 95 else(if K=6 then Cl F n else if 0<n then 1 else 0)):=by
  show E=_;rw[←hE,A4,f5]
 have HN:Hid _:=h;have hl0:n≤9223372036854775807:=Nat.le_trans h.le h.lim;clear f1 f2 f3 f4 f5 hE h;go_enter Tryz.func15,Tryz.ntmps15
 go_wp2_with fail
 have S0:Hid _:=(CG w).box7 (.int .i64 K) (.int .i64 R) (.int .i64 M) (.int .i64 C) (.int .i64 Fl) (.int .i64 A) (.slice a n cap) 24 _ rfl;refine(Fm K _).mono ?_;rintro e w1 ⟨rfl,hb⟩;rw[HFA.out];obtain⟨g,eg⟩:=nme w.heap.size;rw[←eg]at S0;rw[←eg];clear eg;have S1:Hid _:=S0.out.go hb;have x0:=S1.out.cel g 0 (.int .i64 K);have x1:=S1.out.cel g 1 (.int .i64 R);have x2:=S1.out.cel g 2 (.int .i64 M);have x3:=S1.out.cel g 3 (.int .i64 C);have x4:=S1.out.cel g 4 (.int .i64 Fl);have x5:=S1.out.cel g 5 (.int .i64 A);have x6:=S1.out.cel g 6 (.slice a n cap);have hl:=S1.out.lt g 0 (.int .i64 K);have S2:Hid _:=(S1.out.box8 (.int .i64 q0) (.int .i64 q1) (.int .i64 0) (.int .i64 cl) (.int .i64 0) (.int .i64 sp) (.int .i64 0) (.int .i64 a1) 90 _ rfl);clear hb S0 S1 HFA;rcases hq:isK K with _|_
 ·have HR:Hid (E=90):=by
   show E=90;rw[HE.out,if_pos hq]
  clear hq HE;go_wp2_with fail
  go_ret
  rw[HR.out];exact⟨rfl,S2.out.bel⟩
 have HX:Hid (E=if hld 1 65536 M=false then 92 else if hld M 1073741824 R=false then 91 else if hld 1 4096 C=false then 93 else if hld 1 256 Fl=false then 99 else if hld 0 a1 A=false then 95 else(if K=6 then Cl F n else if 0<n then 1 else 0)):=by
  show E=_;rw[HE.out,if_neg (by rw[hq];decide)]
 clear hq HE;rename Hid (E=_)=>HE
 go_wp2_with fail
 refine(Co M 1 65536 _).mono ?_;rintro e w2 ⟨rfl,hw⟩;rw[hw];clear hw w2;rcases hq:hld 1 65536 M with _|_
 ·have HR:Hid (E=92):=by
   show E=92;rw[HE.out,if_pos hq]
  clear hq HE;go_wp2_with fail
  go_ret
  rw[HR.out];exact⟨rfl,S2.out.bel⟩
 have HX:Hid (E=if hld M 1073741824 R=false then 91 else if hld 1 4096 C=false then 93 else if hld 1 256 Fl=false then 99 else if hld 0 a1 A=false then 95 else(if K=6 then Cl F n else if 0<n then 1 else 0)):=by
  show E=_;rw[HE.out,if_neg (by rw[hq];decide)]
 clear hq HE;rename Hid (E=_)=>HE
 go_wp2_with fail
 refine(Co R M 1073741824 _).mono ?_;rintro e w2 ⟨rfl,hw⟩;rw[hw];clear hw w2;rcases hq:hld M 1073741824 R with _|_
 ·have HR:Hid (E=91):=by
   show E=91;rw[HE.out,if_pos hq]
  clear hq HE;go_wp2_with fail
  go_ret
  rw[HR.out];exact⟨rfl,S2.out.bel⟩
 have HX:Hid (E=if hld 1 4096 C=false then 93 else if hld 1 256 Fl=false then 99 else if hld 0 a1 A=false then 95 else(if K=6 then Cl F n else if 0<n then 1 else 0)):=by
  show E=_;rw[HE.out,if_neg (by rw[hq];decide)]
 clear hq HE;rename Hid (E=_)=>HE
 go_wp2_with fail
 refine(Co C 1 4096 _).mono ?_;rintro e w2 ⟨rfl,hw⟩;rw[hw];clear hw w2;rcases hq:hld 1 4096 C with _|_
 ·have HR:Hid (E=93):=by
   show E=93;rw[HE.out,if_pos hq]
  clear hq HE;go_wp2_with fail
  go_ret
  rw[HR.out];exact⟨rfl,S2.out.bel⟩
 have HX:Hid (E=if hld 1 256 Fl=false then 99 else if hld 0 a1 A=false then 95 else(if K=6 then Cl F n else if 0<n then 1 else 0)):=by
  show E=_;rw[HE.out,if_neg (by rw[hq];decide)]
 clear hq HE;rename Hid (E=_)=>HE
 go_wp2_with fail
 refine(Co Fl 1 256 _).mono ?_;rintro e w2 ⟨rfl,hw⟩;rw[hw];clear hw w2;rcases hq:hld 1 256 Fl with _|_
 ·have HR:Hid (E=99):=by
   show E=99;rw[HE.out,if_pos hq]
  clear hq HE;go_wp2_with fail
  go_ret
  rw[HR.out];exact⟨rfl,S2.out.bel⟩
 have HX:Hid (E=if hld 0 a1 A=false then 95 else(if K=6 then Cl F n else if 0<n then 1 else 0)):=by
  show E=_;rw[HE.out,if_neg (by rw[hq];decide)]
 clear hq HE;rename Hid (E=_)=>HE
 go_wp2_with fail
 refine(Es A 0 a1 _).mono ?_;rintro e w8 ⟨rfl,hb⟩;have S8:Hid _:=S2.out.go hb;clear hb S2;rcases hq:hld 0 a1 A with _|_
 ·have HR:Hid (E=95):=by
   show E=95;rw[HE.out,if_pos hq]
  clear hq HE;go_wp2_with fail
  go_ret
  rw[HR.out];exact⟨rfl,S8.out.bel⟩
 have HX:Hid (E=(if K=6 then Cl F n else if 0<n then 1 else 0)):=by
  show E=_;rw[HE.out,if_neg (by rw[hq];decide)]
 clear hq HE;rename Hid (E=_)=>HE
 have y0:=S8.out.cel g 0 (.int .i64 K);have y6:=S8.out.cel g 6 (.slice a n cap);by_cases h6:K=6
 ·have HR:Hid (E=Cl F n):=by
   show E=_;rw[HE.out,if_pos h6]
  rw[h6]at y0;clear HE h6;go_wp2_with fail
  refine(Lo a n cap F _ (HN.out.go S8.out.bel)).mono ?_;rintro e w9 ⟨rfl,hb⟩;have S9:Hid _:=S8.out.go hb;clear hb S8;go_wp2_with fail
  go_ret
  rw[HR.out];exact⟨rfl,S9.out.bel⟩
 have d:(K==6)=false:=by simpa using h6
 by_cases hn:0<n
 ·have HR:Hid (E=1):=by
   show E=_;rw[HE.out,if_neg h6,if_pos hn]
  clear HE h6;go_wp2_with fail
  go_ret
  rw[HR.out];exact⟨rfl,S8.out.bel⟩
 have HR:Hid (E=0):=by
  show E=_;rw[HE.out,if_neg h6,if_neg hn]
 obtain rfl:n=0:=by omega
 clear HE h6 hn;go_wp2_with fail
 go_ret
 rw[HR.out];exact⟨rfl,S8.out.bel⟩
def fle(x y:Nat):Bool:=FloatKind.f64.format.order x y==some .lt||FloatKind.f64.format.order x y==some .eq
def Da(lo hi x:Nat):Bool:=fle lo x&&fle x hi
theorem Oi(x lo hi:Nat)(w:World):Calls Tryz.prog 54 #[.float .f64 x,.float .f64 lo,.float .f64 hi] w fun e w'=>e=.returned (.bool (Da lo hi x))∧w'=w:=by
 rcases h:fle lo x with _|_
 ·have HV:Hid (Da lo hi x=false):=by show _=_;rw[Da,h];rfl
  have d:(FloatKind.f64.format.order lo x==some .lt||FloatKind.f64.format.order lo x==some .eq)=false:=h;clear h;go_enter Tryz.func54,Tryz.ntmps54
  go_wp2_with fail
  go_ret
  rw[HV.out];exact⟨rfl,rfl⟩
 have HV:Hid (Da lo hi x=fle x hi):=by show _=_;rw[Da,h];rfl
 have d:(FloatKind.f64.format.order lo x==some .lt||FloatKind.f64.format.order lo x==some .eq)=true:=h;clear h;go_enter Tryz.func54,Tryz.ntmps54
 go_wp2_with fail
 go_ret
 rw[HV.out];exact⟨rfl,rfl⟩
def kAt(K:Int)(F:Nat→Nat→Int)(n:Nat)(x:Int):Int:=if K=6 then kO F n x else K
def FL(K:Int)(F:Nat→Nat→Int)(n:Nat)(x:Int):Bool:=if K=6 then(kO F n x != 0&&kO F n x != 6) else(x==0)
theorem Qg(K R M C Fl A:Int)(a:Option Addr)(n cap:Nat)(F:Nat→Nat→Int)(x:Int)(w:World)(h:NSl w a n cap F):
  Calls Tryz.prog 53 #[.agg #[.int .i64 K,.int .i64 R,.int .i64 M,.int .i64 C,.int .i64 Fl,.int .i64 A,.slice a n cap],.int .i64 x] w fun e w'=>e=.returned (.tuple #[.int .i64 (kAt K F n x),.bool (FL K F n x)])∧Below w.heap.size w w':=by
 have HN:Hid _:=h;clear h;by_cases h6:K=6
 ·have HV:Hid (kAt K F n x=kO F n x∧FL K F n x=(kO F n x != 0&&kO F n x != 6)):=⟨if_pos h6,if_pos h6⟩;rw[HV.out.1,HV.out.2];clear HV;subst h6;go_enter Tryz.func53,Tryz.ntmps53
  go_wp2_with fail
  refine(IJ a n cap F x _ (HN.out.go (Af (Aa _)))).mono ?_;rintro e w1 ⟨rfl,hw⟩;rw[hw];clear hw w1;obtain⟨y,hy⟩:=nmd (kO F n x);rw[hy];have HY:Hid _:=hy;clear hy;by_cases y0:y=0
  ·subst y0;go_wp2_with fail
   exact bodyPost_ret (v:=.tuple #[.int .i64 0,.bool false]) (by simp[results,Tryz.results53,go_sem]) rfl ⟨by rw[HY.out];rfl,Af (Aa _)⟩
  have d:(y != 0)=true:=by simpa using y0
  have HD:Hid _:=d;clear y0;go_wp2_with fail
  exact bodyPost_ret (v:=.tuple #[.int .i64 y,.bool (y != 6)]) (by simp[results,Tryz.results53,go_sem]) rfl ⟨by rw[HY.out,HD.out];rfl,Af (Aa _)⟩
 have HV:Hid (kAt K F n x=K∧FL K F n x=(x==0)):=⟨if_neg h6,if_neg h6⟩;rw[HV.out.1,HV.out.2];clear HV;have d:(K != 6)=true:=by simpa using h6
 clear h6;go_enter Tryz.func53,Tryz.ntmps53
 go_wp2_with fail
 exact bodyPost_ret (v:=.tuple #[.int .i64 K,.bool (x==0)]) (by simp[results,Tryz.results53,go_sem]) rfl ⟨rfl,Af (Aa _)⟩
def Il(K C:Int)(F:Nat→Nat→Int)(n:Nat)(pw pq pc ps pb:Int)(pr:Nat)(pp pn:Int):Int:=if FL K F n pn=false then 1 else if hld 1 C pw=false then 93 else if hld (fQ0 (kAt K F n pn)) (fQ1 (kAt K F n pn)) pq=false then 94 else if hld 0 (fC1 (kAt K F n pn)) pc=false then 95 else if hld 0 (fS1 (kAt K F n pn)) ps=false then 96 else if hld 1 1099511627776 pb=false then 97 else if Da 0 4697254411347427328 pr=false then 98 else if hld 1 1073741824 pp=false then 98 else 0
def CO(K R M C Fl A:Int)(F:Nat→Nat→Int)(n:Nat)(pw pq pc ps pb:Int)(pr:Nat)(pp pn:Int):Int:=if¬A4 K R M C Fl A F n=0 then A4 K R M C Fl A F n else Il K C F n pw pq pc ps pb pr pp pn
theorem Gp(K R M C Fl A:Int)(a:Option Addr)(n cap:Nat)(F:Nat→Nat→Int)(pw pq pc ps pb:Int)(pr:Nat)(pp pn:Int)(w:World)(h:NSl w a n cap F):
  Calls Tryz.prog 23 #[.agg #[.int .i64 K,.int .i64 R,.int .i64 M,.int .i64 C,.int .i64 Fl,.int .i64 A,.slice a n cap],.agg #[.int .i64 pw,.int .i64 pq,.int .i64 pc,.int .i64 ps,.int .i64 pb,.float .f64 pr,.int .i64 pp,.int .i64 pn]] w fun e w'=>e=.returned (.int .i64 (CO K R M C Fl A F n pw pq pc ps pb pr pp pn))∧Below w.heap.size w w':=by
 obtain⟨E,hE⟩:=nmd (CO K R M C Fl A F n pw pq pc ps pb pr pp pn);rw[hE];obtain⟨ce,hce⟩:=nmd (A4 K R M C Fl A F n);have HE:Hid (E=if¬ce=0 then ce else Il K C F n pw pq pc ps pb pr pp pn):=by
  show E=_;rw[←hE,CO,hce]
 have HN:Hid _:=h;have HCE:Hid _:=hce;have hl0:n≤9223372036854775807:=Nat.le_trans h.le h.lim;clear hE h hce;go_enter Tryz.func23,Tryz.ntmps23
 go_wp2_with fail
 have S00:Hid _:=(CG w).box7 (.int .i64 K) (.int .i64 R) (.int .i64 M) (.int .i64 C) (.int .i64 Fl) (.int .i64 A) (.slice a n cap) 24 _ rfl;have S0:Hid _:=S00.out.box8 (.int .i64 pw) (.int .i64 pq) (.int .i64 pc) (.int .i64 ps) (.int .i64 pb) (.float .f64 pr) (.int .i64 pp) (.int .i64 pn) 32 (w.heap.size+1) (by simp);clear S00;refine(Et K R M C Fl A a n cap F _ (HN.out.go S0.out.bel)).mono ?_;rintro e w1 ⟨rfl,hb⟩;rw[HCE.out];obtain⟨g,eg⟩:=nme w.heap.size;rw[←eg]at S0;rw[←eg];clear eg HCE;have S1:Hid _:=S0.out.go hb;clear hb S0;by_cases c0:ce=0
 ·have HX:Hid (E=Il K C F n pw pq pc ps pb pr pp pn):=by
   show E=_;rw[HE.out,if_neg (by rw[c0];decide)]
  clear HE;rename Hid (E=_)=>HE
  subst c0;have x0:=S1.out.cel g 0 (.int .i64 K);have x1:=S1.out.cel g 1 (.int .i64 R);have x2:=S1.out.cel g 2 (.int .i64 M);have x3:=S1.out.cel g 3 (.int .i64 C);have x4:=S1.out.cel g 4 (.int .i64 Fl);have x5:=S1.out.cel g 5 (.int .i64 A);have x6:=S1.out.cel g 6 (.slice a n cap);have y0:=S1.out.cel (g+1) 0 (.int .i64 pw);have y1:=S1.out.cel (g+1) 1 (.int .i64 pq);have y2:=S1.out.cel (g+1) 2 (.int .i64 pc);have y3:=S1.out.cel (g+1) 3 (.int .i64 ps);have y4:=S1.out.cel (g+1) 4 (.int .i64 pb);have y5:=S1.out.cel (g+1) 5 (.float .f64 pr);have y6:=S1.out.cel (g+1) 6 (.int .i64 pp);have y7:=S1.out.cel (g+1) 7 (.int .i64 pn);have hl:=S1.out.lt (g+1) 0 (.int .i64 pw);have hl2:=S1.out.lt g 0 (.int .i64 K);go_wp2_with fail
  refine(Qg K R M C Fl A a n cap F pn _ (HN.out.go S1.out.bel)).mono ?_;rintro e w2 ⟨rfl,hb⟩;have S2:Hid _:=S1.out.go hb;clear x0 x1 x2 x3 x4 x5 x6 y0 y1 y2 y3 y4 y5 y6 y7 hl hl2 hb S1;obtain⟨kk,ek⟩:=nmd (kAt K F n pn);obtain⟨ok,eo⟩:=nmd (FL K F n pn);obtain⟨q0,f1⟩:=nmd (fQ0 kk);obtain⟨q1,f2⟩:=nmd (fQ1 kk);obtain⟨cl,f3⟩:=nmd (fC1 kk);obtain⟨sp,f4⟩:=nmd (fS1 kk);obtain⟨a1,f5⟩:=nmd (fA1 kk);have HFA:Hid _:=Ef kk f1 f2 f3 f4 f5;have HX:Hid (E=if ok=false then 1 else if hld 1 C pw=false then 93 else if hld q0 q1 pq=false then 94 else if hld 0 cl pc=false then 95 else if hld 0 sp ps=false then 96 else if hld 1 1099511627776 pb=false then 97 else if Da 0 4697254411347427328 pr=false then 98 else if hld 1 1073741824 pp=false then 98 else 0):=by
   show E=_;rw[HE.out,Il,ek,eo,f1,f2,f3,f4]
  clear HE;rename Hid (E=_)=>HE
  rw[ek,eo];clear ek eo f1 f2 f3 f4 f5;have x0:=S2.out.cel g 0 (.int .i64 K);have x1:=S2.out.cel g 1 (.int .i64 R);have x2:=S2.out.cel g 2 (.int .i64 M);have x3:=S2.out.cel g 3 (.int .i64 C);have x4:=S2.out.cel g 4 (.int .i64 Fl);have x5:=S2.out.cel g 5 (.int .i64 A);have x6:=S2.out.cel g 6 (.slice a n cap);have y0:=S2.out.cel (g+1) 0 (.int .i64 pw);have y1:=S2.out.cel (g+1) 1 (.int .i64 pq);have y2:=S2.out.cel (g+1) 2 (.int .i64 pc);have y3:=S2.out.cel (g+1) 3 (.int .i64 ps);have y4:=S2.out.cel (g+1) 4 (.int .i64 pb);have y5:=S2.out.cel (g+1) 5 (.float .f64 pr);have y6:=S2.out.cel (g+1) 6 (.int .i64 pp);have y7:=S2.out.cel (g+1) 7 (.int .i64 pn);have hl:=S2.out.lt (g+1) 0 (.int .i64 pw);have hl2:=S2.out.lt g 0 (.int .i64 K);go_wp2_with fail
  refine(Fm kk _).mono ?_;rintro e w3 ⟨rfl,hb⟩;rw[HFA.out];have S3:Hid _:=S2.out.go hb;clear x0 x1 x2 x3 x4 x5 x6 y0 y1 y2 y3 y4 y5 y6 y7 hl hl2 hb S2 HFA;have x0:=S3.out.cel g 0 (.int .i64 K);have x1:=S3.out.cel g 1 (.int .i64 R);have x2:=S3.out.cel g 2 (.int .i64 M);have x3:=S3.out.cel g 3 (.int .i64 C);have x4:=S3.out.cel g 4 (.int .i64 Fl);have x5:=S3.out.cel g 5 (.int .i64 A);have x6:=S3.out.cel g 6 (.slice a n cap);have y0:=S3.out.cel (g+1) 0 (.int .i64 pw);have y1:=S3.out.cel (g+1) 1 (.int .i64 pq);have y2:=S3.out.cel (g+1) 2 (.int .i64 pc);have y3:=S3.out.cel (g+1) 3 (.int .i64 ps);have y4:=S3.out.cel (g+1) 4 (.int .i64 pb);have y5:=S3.out.cel (g+1) 5 (.float .f64 pr);have y6:=S3.out.cel (g+1) 6 (.int .i64 pp);have y7:=S3.out.cel (g+1) 7 (.int .i64 pn);have hl:=S3.out.lt (g+1) 0 (.int .i64 pw);have hl2:=S3.out.lt g 0 (.int .i64 K);obtain⟨m,em⟩:=nme w3.heap.size;have S4:Hid _:=S3.out.box8 (.int .i64 q0) (.int .i64 q1) (.int .i64 0) (.int .i64 cl) (.int .i64 0) (.int .i64 sp) (.int .i64 0) (.int .i64 a1) 90 m em;clear S3;rcases hq:ok with _|_
  ·have HR:Hid (E=1):=by
    show E=1;rw[HE.out,if_pos hq]
   clear hq HE;go_wp2_with fail
   go_ret
   rw[HR.out];exact⟨rfl,S4.out.bel⟩
  have HX:Hid (E=if hld 1 C pw=false then 93 else if hld q0 q1 pq=false then 94 else if hld 0 cl pc=false then 95 else if hld 0 sp ps=false then 96 else if hld 1 1099511627776 pb=false then 97 else if Da 0 4697254411347427328 pr=false then 98 else if hld 1 1073741824 pp=false then 98 else 0):=by
   show E=_;rw[HE.out,if_neg (by rw[hq];decide)]
  clear hq HE;rename Hid (E=_)=>HE
  go_wp2_with fail
  refine(Co pw 1 C _).mono ?_;rintro e u1 ⟨rfl,hw⟩;rw[hw];clear hw u1;rcases hq:hld 1 C pw with _|_
  ·have HR:Hid (E=93):=by
    show E=93;rw[HE.out,if_pos hq]
   clear hq HE;go_wp2_with fail
   go_ret
   rw[HR.out];exact⟨rfl,S4.out.bel⟩
  have HX:Hid (E=if hld q0 q1 pq=false then 94 else if hld 0 cl pc=false then 95 else if hld 0 sp ps=false then 96 else if hld 1 1099511627776 pb=false then 97 else if Da 0 4697254411347427328 pr=false then 98 else if hld 1 1073741824 pp=false then 98 else 0):=by
   show E=_;rw[HE.out,if_neg (by rw[hq];decide)]
  clear hq HE;rename Hid (E=_)=>HE
  go_wp2_with fail
  rw[←em];clear em;refine(Es pq q0 q1 _).mono ?_;rintro e v2 ⟨rfl,hb⟩;have T2:Hid _:=S4.out.go hb;clear x0 x1 x2 x3 x4 x5 x6 y0 y1 y2 y3 y4 y5 y6 y7 hl hl2 hb S4;have x0:=T2.out.cel g 0 (.int .i64 K);have x1:=T2.out.cel g 1 (.int .i64 R);have x2:=T2.out.cel g 2 (.int .i64 M);have x3:=T2.out.cel g 3 (.int .i64 C);have x4:=T2.out.cel g 4 (.int .i64 Fl);have x5:=T2.out.cel g 5 (.int .i64 A);have x6:=T2.out.cel g 6 (.slice a n cap);have y0:=T2.out.cel (g+1) 0 (.int .i64 pw);have y1:=T2.out.cel (g+1) 1 (.int .i64 pq);have y2:=T2.out.cel (g+1) 2 (.int .i64 pc);have y3:=T2.out.cel (g+1) 3 (.int .i64 ps);have y4:=T2.out.cel (g+1) 4 (.int .i64 pb);have y5:=T2.out.cel (g+1) 5 (.float .f64 pr);have y6:=T2.out.cel (g+1) 6 (.int .i64 pp);have y7:=T2.out.cel (g+1) 7 (.int .i64 pn);have z0:=T2.out.cel m 0 (.int .i64 q0);have z1:=T2.out.cel m 1 (.int .i64 q1);have z2:=T2.out.cel m 2 (.int .i64 0);have z3:=T2.out.cel m 3 (.int .i64 cl);have z4:=T2.out.cel m 4 (.int .i64 0);have z5:=T2.out.cel m 5 (.int .i64 sp);have z6:=T2.out.cel m 6 (.int .i64 0);have z7:=T2.out.cel m 7 (.int .i64 a1);have hl:=T2.out.lt (g+1) 0 (.int .i64 pw);have hl2:=T2.out.lt g 0 (.int .i64 K);rcases hq:hld q0 q1 pq with _|_
  ·have HR:Hid (E=94):=by
    show E=94;rw[HE.out,if_pos hq]
   clear hq HE;go_wp2_with fail
   go_ret
   rw[HR.out];exact⟨rfl,T2.out.bel⟩
  have HX:Hid (E=if hld 0 cl pc=false then 95 else if hld 0 sp ps=false then 96 else if hld 1 1099511627776 pb=false then 97 else if Da 0 4697254411347427328 pr=false then 98 else if hld 1 1073741824 pp=false then 98 else 0):=by
   show E=_;rw[HE.out,if_neg (by rw[hq];decide)]
  clear hq HE;rename Hid (E=_)=>HE
  go_wp2_with fail
  refine(Es pc 0 cl _).mono ?_;rintro e v3 ⟨rfl,hb⟩;have T3:Hid _:=T2.out.go hb;clear x0 x1 x2 x3 x4 x5 x6 y0 y1 y2 y3 y4 y5 y6 y7 z0 z1 z2 z3 z4 z5 z6 z7 hl hl2 hb T2;have x0:=T3.out.cel g 0 (.int .i64 K);have x1:=T3.out.cel g 1 (.int .i64 R);have x2:=T3.out.cel g 2 (.int .i64 M);have x3:=T3.out.cel g 3 (.int .i64 C);have x4:=T3.out.cel g 4 (.int .i64 Fl);have x5:=T3.out.cel g 5 (.int .i64 A);have x6:=T3.out.cel g 6 (.slice a n cap);have y0:=T3.out.cel (g+1) 0 (.int .i64 pw);have y1:=T3.out.cel (g+1) 1 (.int .i64 pq);have y2:=T3.out.cel (g+1) 2 (.int .i64 pc);have y3:=T3.out.cel (g+1) 3 (.int .i64 ps);have y4:=T3.out.cel (g+1) 4 (.int .i64 pb);have y5:=T3.out.cel (g+1) 5 (.float .f64 pr);have y6:=T3.out.cel (g+1) 6 (.int .i64 pp);have y7:=T3.out.cel (g+1) 7 (.int .i64 pn);have z0:=T3.out.cel m 0 (.int .i64 q0);have z1:=T3.out.cel m 1 (.int .i64 q1);have z2:=T3.out.cel m 2 (.int .i64 0);have z3:=T3.out.cel m 3 (.int .i64 cl);have z4:=T3.out.cel m 4 (.int .i64 0);have z5:=T3.out.cel m 5 (.int .i64 sp);have z6:=T3.out.cel m 6 (.int .i64 0);have z7:=T3.out.cel m 7 (.int .i64 a1);have hl:=T3.out.lt (g+1) 0 (.int .i64 pw);have hl2:=T3.out.lt g 0 (.int .i64 K);rcases hq:hld 0 cl pc with _|_
  ·have HR:Hid (E=95):=by
    show E=95;rw[HE.out,if_pos hq]
   clear hq HE;go_wp2_with fail
   go_ret
   rw[HR.out];exact⟨rfl,T3.out.bel⟩
  have HX:Hid (E=if hld 0 sp ps=false then 96 else if hld 1 1099511627776 pb=false then 97 else if Da 0 4697254411347427328 pr=false then 98 else if hld 1 1073741824 pp=false then 98 else 0):=by
   show E=_;rw[HE.out,if_neg (by rw[hq];decide)]
  clear hq HE;rename Hid (E=_)=>HE
  go_wp2_with fail
  refine(Es ps 0 sp _).mono ?_;rintro e v4 ⟨rfl,hb⟩;have T4:Hid _:=T3.out.go hb;clear x0 x1 x2 x3 x4 x5 x6 y0 y1 y2 y3 y4 y5 y6 y7 z0 z1 z2 z3 z4 z5 z6 z7 hl hl2 hb T3;have x0:=T4.out.cel g 0 (.int .i64 K);have x1:=T4.out.cel g 1 (.int .i64 R);have x2:=T4.out.cel g 2 (.int .i64 M);have x3:=T4.out.cel g 3 (.int .i64 C);have x4:=T4.out.cel g 4 (.int .i64 Fl);have x5:=T4.out.cel g 5 (.int .i64 A);have x6:=T4.out.cel g 6 (.slice a n cap);have y0:=T4.out.cel (g+1) 0 (.int .i64 pw);have y1:=T4.out.cel (g+1) 1 (.int .i64 pq);have y2:=T4.out.cel (g+1) 2 (.int .i64 pc);have y3:=T4.out.cel (g+1) 3 (.int .i64 ps);have y4:=T4.out.cel (g+1) 4 (.int .i64 pb);have y5:=T4.out.cel (g+1) 5 (.float .f64 pr);have y6:=T4.out.cel (g+1) 6 (.int .i64 pp);have y7:=T4.out.cel (g+1) 7 (.int .i64 pn);have z0:=T4.out.cel m 0 (.int .i64 q0);have z1:=T4.out.cel m 1 (.int .i64 q1);have z2:=T4.out.cel m 2 (.int .i64 0);have z3:=T4.out.cel m 3 (.int .i64 cl);have z4:=T4.out.cel m 4 (.int .i64 0);have z5:=T4.out.cel m 5 (.int .i64 sp);have z6:=T4.out.cel m 6 (.int .i64 0);have z7:=T4.out.cel m 7 (.int .i64 a1);have hl:=T4.out.lt (g+1) 0 (.int .i64 pw);have hl2:=T4.out.lt g 0 (.int .i64 K);rcases hq:hld 0 sp ps with _|_
  ·have HR:Hid (E=96):=by
    show E=96;rw[HE.out,if_pos hq]
   clear hq HE;go_wp2_with fail
   go_ret
   rw[HR.out];exact⟨rfl,T4.out.bel⟩
  have HX:Hid (E=if hld 1 1099511627776 pb=false then 97 else if Da 0 4697254411347427328 pr=false then 98 else if hld 1 1073741824 pp=false then 98 else 0):=by
   show E=_;rw[HE.out,if_neg (by rw[hq];decide)]
  clear hq HE;rename Hid (E=_)=>HE
  go_wp2_with fail
  refine(Co pb 1 1099511627776 _).mono ?_;rintro e u5 ⟨rfl,hw⟩;rw[hw];clear hw u5;rcases hq:hld 1 1099511627776 pb with _|_
  ·have HR:Hid (E=97):=by
    show E=97;rw[HE.out,if_pos hq]
   clear hq HE;go_wp2_with fail
   go_ret
   rw[HR.out];exact⟨rfl,T4.out.bel⟩
  have HX:Hid (E=if Da 0 4697254411347427328 pr=false then 98 else if hld 1 1073741824 pp=false then 98 else 0):=by
   show E=_;rw[HE.out,if_neg (by rw[hq];decide)]
  clear hq HE;rename Hid (E=_)=>HE
  go_wp2_with fail
  refine(Oi pr 0 4697254411347427328 _).mono ?_;rintro e u6 ⟨rfl,hw⟩;rw[hw];clear hw u6;rcases hq:Da 0 4697254411347427328 pr with _|_
  ·have HR:Hid (E=98):=by
    show E=98;rw[HE.out,if_pos hq]
   clear hq HE;go_wp2_with fail
   go_ret
   rw[HR.out];exact⟨rfl,T4.out.bel⟩
  have HX:Hid (E=if hld 1 1073741824 pp=false then 98 else 0):=by
   show E=_;rw[HE.out,if_neg (by rw[hq];decide)]
  clear hq HE;rename Hid (E=_)=>HE
  go_wp2_with fail
  refine(Co pp 1 1073741824 _).mono ?_;rintro e u7 ⟨rfl,hw⟩;rw[hw];clear hw u7;rcases hq:hld 1 1073741824 pp with _|_
  ·have HR:Hid (E=98):=by
    show E=98;rw[HE.out,if_pos hq]
   clear hq HE;go_wp2_with fail
   go_ret
   rw[HR.out];exact⟨rfl,T4.out.bel⟩
  have HX:Hid (E=0):=by
   show E=_;rw[HE.out,if_neg (by rw[hq];decide)]
  clear hq HE;rename Hid (E=_)=>HE
  have HR:Hid (E=0):=by
   show E=0;rw[HE.out]
  clear HE;go_wp2_with fail
  go_ret
  rw[HR.out];exact⟨rfl,T4.out.bel⟩
 have HR:Hid (E=ce):=by
  show E=_;rw[HE.out,if_pos c0]
 have d:(ce != 0)=true:=by simpa using c0
 clear HE c0;go_wp2_with fail
 go_ret
 rw[HR.out];exact⟨rfl,S1.out.bel⟩
theorem WG{s:ByteArray}{i:Nat}:sb s i=(s.get! i).toNat:=by
 unfold sb;split
 ·rename_i h;have:=get_at s i h;rw[←this];rfl
 rename_i h;simp[ByteArray.get!,getElem!_neg,h];rfl
theorem JO(s:ByteArray)(pos:Nat): ∀j,1≤j→j<(Utf8.decode s pos).2→128≤(s.get! (pos+j)).toNat∧pos+j<s.size:=by
 intro j h1 h2;simp only[Utf8.decode]at h2;repeat' split at h2
 all_goals first| (exfalso;omega)|skip
 all_goals simp only[Bool.and_eq_true,decide_eq_true_eq,beq_iff_eq]at*
 all_goals rcases j with _|_|_|_|j
 all_goals first| (exfalso;omega)| (refine⟨?_,?_⟩<;>simp_all<;>omega)
def ws(s:ByteArray):Nat→Nat×List ByteArray
 |0=>(0,[])
 |i+1=>if sb s i=32 then(i+1,if(ws s i).1<i then(ws s i).2++[s.extract (ws s i).1 i] else(ws s i).2) else ws s i
def Ab(s:ByteArray):List ByteArray:=if(ws s s.size).1<s.size then(ws s s.size).2++[s.extract (ws s s.size).1 s.size] else(ws s s.size).2
theorem Ms(s:ByteArray)(i:Nat):(ws s i).1≤i∧(ws s i).2.length≤i:=by
 induction i with
 |zero=>simp[ws]
 |succ i ih=>
  rw[ws];split
  ·refine⟨Nat.le_refl _,?_⟩;show(if(ws s i).1<i then _ else _:List ByteArray).length≤_;split
   ·simp;omega
   omega
  omega
theorem Lp{s:ByteArray}{i:Nat}: ∀k,(∀j,j<k→sb s (i+j)≠32)→ws s (i+k)=ws s i
 |0,_=>rfl
 |k+1,h=>by
  rw[←Nat.add_assoc,ws,if_neg (h k (by omega)),Lp k fun j hj=>h j (by omega)]
def tx(l:List ByteArray)(i:Nat):Value:=.string (l.getD i ⟨#[]⟩)
theorem Jw(l:List ByteArray)(x:ByteArray)(j:Nat)(hj:j<l.length+1):(if j=l.length then .string x else tx l j)=tx (l++[x]) j:=by
 unfold tx;by_cases e:j=l.length
 ·rw[if_pos e,e];simp[List.getD]
 rw[if_neg e];have:j<l.length:=by omega
 simp[List.getD,List.getElem?_append_left this]
theorem Tryz.infoStr:(Tryz.prog.info? 9).map (fun i=>(i.zero,i.size,i.bytes))=some (some (.string ⟨#[]⟩),1,16):=by kernel_rfl
theorem IK{w:World}{k:Nat}{s:ByteArray}{p:Nat}(h:w.heap[k]? =some (.stringIter s p)):w.iterPos k=p:=by simp[World.iterPos,h]
theorem OR.iterAt{w:World}{e:TypeId}{base n:Nat}{v:Value}{G:Nat→Value}(h:OR w e base v n G){k:Nat}(hk:k<base)(s:ByteArray)(p:Nat):OR (w.iterAt k s p) e base v n G:=by
 rcases h with h| ⟨g,cap,f,rfl,hb,hn,hc,h1,h4⟩
 ·exact .inl h
 exact .inr ⟨g,cap,f,rfl,hb,hn,hc,h1.of_block (Lib.iterAt_other w k g s p (by omega)),h4⟩
theorem OR.low{w:World}{e:TypeId}{base base' n:Nat}{v:Value}{G:Nat→Value}(h:OR w e base v n G)(hb:base'≤base):OR w e base' v n G:=by
 rcases h with h| ⟨g,cap,f,rfl,h1,h2⟩
 ·exact .inl h
 exact .inr ⟨g,cap,f,rfl,Nat.le_trans hb h1,h2⟩
theorem Vz{s:ByteArray}{pos:Nat}(h:pos<s.size):1≤(Utf8.decode s pos).2∧pos+(Utf8.decode s pos).2≤s.size∧(((Utf8.decode s pos).1=32∧(Utf8.decode s pos).2=1∧sb s pos=32)∨((Utf8.decode s pos).1≠32∧ws s (pos+(Utf8.decode s pos).2)=ws s pos)):=by
 by_cases ha:(s[pos]'h).toNat<128
 ·have e:=decode_ascii s pos h ha;have e2:=BI h;rw[e];refine⟨Nat.le_refl _,by show pos+1≤_;omega,?_⟩;by_cases q:(s[pos]'h).toNat=32
  ·exact .inl ⟨q,rfl,by rw[←e2];exact q⟩
  refine .inr ⟨q,Lp 1 fun j hj=> ?_⟩;obtain rfl:j=0:=by omega
  rw[Nat.add_zero,←e2];exact q
 have e:=decode_high s pos h (by omega);refine⟨e.2,?_,.inr ⟨by omega,Lp _ fun j hj=> ?_⟩⟩
 ·rcases Nat.lt_or_ge 1 (Utf8.decode s pos).2 with q|q
  ·have:=(JO s pos ((Utf8.decode s pos).2-1) (by omega) (by omega)).2;omega
  omega
 rcases Nat.eq_zero_or_pos j with rfl|q
 ·rw[Nat.add_zero,←BI h];omega
 have:=(JO s pos j q hj).1;rw[WG];omega
theorem Gi(s:ByteArray)(w:World)(hs:s.size≤1000000000):
  Calls Tryz.prog 12 #[.string s] w fun e w'=> ∃v,e=.returned v∧OR w' 9 w.heap.size v (Ab s).length (tx (Ab s))∧Below w.heap.size w w':=by
 have HS:Hid _:=hs;go_enter Tryz.func12,Tryz.ntmps12
 go_wp2_with fail
 go_loopw [3,4] (fun v f wr=> ∃pos:Nat,pos≤s.size∧f=.int .i64 ((ws s pos).1:Int)∧wr.heap[w.heap.size]? =some (.stringIter s pos)∧Hid (OR wr 9 (w.heap.size+1) v (ws s pos).2.length (tx (ws s pos).2)∧Below w.heap.size w wr)) (fun _ _ wr=>s.size-wr.iterPos w.heap.size)
 case atStart=>exact⟨0,Nat.zero_le _,rfl,World.iter_heap w s 0,OR.nil _ _ _ _,(Below.refl _ _).alloc (Nat.le_refl _) _⟩
 case round=>
  obtain⟨pos,hpos,rfl,hit,HO⟩:=hrel;have hpos0:=IK hit;have hw1:=(Ms s pos).1;have hw2:=(Ms s pos).2;by_cases hp:pos<s.size
  ·have hnx: ∀ty,(Instr.next (.pointer (some ⟨w.heap.size,0,none⟩)) true ty).run Tryz.prog wr=_:=fun ty=>Lib.run_next_any_at wr w.heap.size s pos ty hit hp;obtain⟨n1,n2,n3⟩:=Vz hp;have hit2:=Lib.iterAt_heap wr w.heap.size s pos (pos+(Utf8.decode s pos).2) hit;have HO2:Hid (OR (wr.iterAt w.heap.size s (pos+(Utf8.decode s pos).2)) 9 (w.heap.size+1) u3 (ws s pos).2.length (tx (ws s pos).2)∧Below w.heap.size w (wr.iterAt w.heap.size s (pos+(Utf8.decode s pos).2))):=⟨HO.out.1.iterAt (by omega) s _,Lib.below_iterAt HO.out.2 (Nat.le_refl _) s _⟩;obtain⟨W1,hW1⟩:=nme (wr.iterAt w.heap.size s (pos+(Utf8.decode s pos).2));rw[←hW1]at hnx hit2 HO2;have hlt:=lt_of_block hit2;obtain⟨r,hr⟩:=nmd ((Utf8.decode s pos).1);obtain⟨k,hk⟩:=nmd ((Utf8.decode s pos).2);rw[hr]at hnx n3;rw[hk]at n1 n2 n3 hit2;clear hW1 hit HO;rcases n3 with⟨rfl,rfl,n4⟩| ⟨n3,n4⟩
   ·obtain⟨fr,hf⟩: ∃fr,(ws s pos).1=fr:=⟨_,rfl⟩;rw[hf]at hw1;rw[hf];by_cases hlf:fr<pos
    ·have d:decide ((fr:Int)<(pos:Int))=true:=decide_eq_true (by omega);have HE:Hid (ws s (pos+1)=(pos+1,(ws s pos).2++[s.extract fr pos])):=by
      show _=_;rw[ws,if_pos n4,hf,if_pos hlf]
     have HB1:Hid _:=HO2.out.1.blk;go_wp2_with (refine(id ?_:wpList Tryz.prog _ _ (⟨some 24,_,_,_,_,_⟩::_) _ _);refine A5 rfl (.tmp 18) (.tmp 23) 42 rfl 9 (.string ⟨#[]⟩) 16 Tryz.underlying42 Tryz.infoStr rfl (by omega) (w.heap.size+1) _ _ _ rfl (HO2.out.1.below (Af (Aa _))) _ _ rfl _ (by simp;rfl) rfl (by have:=HS.out;omega) (by simp;omega) ?_)
     intro g2 cap2 w2 ho hg hor hlt2;have I2:Hid _:=ho;have hit3:w2.heap[w.heap.size]? =some (.stringIter s (pos+1)):=by
      rw[hg.block w.heap.size (by simp;omega) (fun h=>by have:=HB1.out _ h.symm;omega),Below.heap_alloc _ _ _ hlt];exact hit2
     have B2:Hid (Below w.heap.size w w2):=Below.grown (HO2.out.2.alloc (by omega) _) hg (by simp;omega) (fun j hj=>by have:=HB1.out _ hj;omega);clear ho hg hor d n4 hf;go_wp2_with fail
     go_roundw
     case rel=>
      refine⟨pos+1,n2,by rw[HE.out];go_num,hit3,?_,B2.out⟩;rw[HE.out];have:=OR.congr I2.out (fun j hj=>Jw _ _ j hj);simpa using this
     case measure=>rw[IK hit3,hpos0];omega
    have d:decide ((fr:Int)<(pos:Int))=false:=decide_eq_false (by omega);have HE:Hid (ws s (pos+1)=(pos+1,(ws s pos).2)):=by
     show _=_;rw[ws,if_pos n4,hf,if_neg hlf]
    clear n4 hf;go_wp2_with fail
    go_roundw
    case rel=>
     refine⟨pos+1,n2,by rw[HE.out];go_num,hit2,?_⟩;rw[HE.out];exact HO2.out
    case measure=>rw[IK hit2,hpos0];omega
   have d:(((r:Nat):Int) != 32)=true:=by simp;omega
   have HN:Hid _:=n4;clear n4 n3;go_wp2_with fail
   go_roundw
   case rel=>
    refine⟨pos+k,n2,by rw[HN.out],hit2,?_⟩;rw[HN.out];exact HO2.out
   case measure=>rw[IK hit2,hpos0];omega
  obtain rfl:pos=s.size:=by omega
  have hnx: ∀ty,(Instr.next (.pointer (some ⟨w.heap.size,0,none⟩)) true ty).run Tryz.prog wr=_:=fun ty=>Lib.run_next_end_at wr w.heap.size s s.size ty hit hp;obtain⟨fr,hf⟩:=nmd ((ws s s.size).1);have hlt:=lt_of_block hit;rw[hf]at hw1;rw[hf];by_cases hlf:fr<s.size
  ·have d:decide ((fr:Int)<(s.size:Int))=true:=decide_eq_true (by omega);have HE:Hid (Ab s=(ws s s.size).2++[s.extract fr s.size]):=by
    show _=_;rw[Ab,hf,if_pos hlf]
   have HB1:Hid _:=HO.out.1.blk;clear hf;go_wp2_with (refine(id ?_:wpList Tryz.prog _ _ (⟨some 36,_,_,_,_,_⟩::_) _ _);refine A5 rfl (.tmp 31) (.tmp 35) 42 rfl 9 (.string ⟨#[]⟩) 16 Tryz.underlying42 Tryz.infoStr rfl (by omega) (w.heap.size+1) _ _ _ rfl (HO.out.1.below (Af (Aa _))) _ _ rfl _ (by simp;rfl) rfl (by have:=HS.out;omega) (by simp;omega) ?_)
   intro g2 cap2 w2 ho hg hor hlt2;have I2:Hid _:=ho;have B2:Hid (Below w.heap.size w w2):=Below.grown (HO.out.2.alloc (by omega) _) hg (by simp;omega) (fun j hj=>by have:=HB1.out _ hj;omega);clear ho hg hor;go_wp2_with fail
   go_ret
   refine⟨_,rfl,?_,B2.out⟩;rw[HE.out];have:=OR.congr I2.out (fun j hj=>Jw _ _ j hj);exact OR.low (by simpa using this) (by omega)
  have d:decide ((fr:Int)<(s.size:Int))=false:=decide_eq_false (by omega);have HE:Hid (Ab s=(ws s s.size).2):=by
   show _=_;rw[Ab,hf,if_neg hlf]
  clear hf;go_wp2_with fail
  go_ret
  refine⟨_,rfl,?_,HO.out.2⟩;rw[HE.out];exact OR.low HO.out.1 (by omega)
end Go.Proofs.YtbikpmmpgbggaaaGreatDoor
