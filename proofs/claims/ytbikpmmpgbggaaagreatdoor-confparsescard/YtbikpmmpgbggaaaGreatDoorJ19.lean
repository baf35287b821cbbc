/- Contracts of the program's functions, part 19: own work, joined in build order. -/
import Derived.Test.YtbikpmmpgbggaaaGreatDoorJ18
import Derived.Lib.ConvBytes
import Derived.Maps.AppendAt
import Derived.Deep.WholeRow
import Derived.Laws.AppendOwnNone
namespace Go.Proofs.YtbikpmmpgbggaaaGreatDoor
open Go.RowKit
set_option maxRecDepth 100000
set_option linter.unusedVariables false
set_option maxHeartbeats 16000000
def EM(x:ByteArray):ByteArray:=⟨(Lib.trimPrefix x.data.toList [45]).toArray⟩
def Gk(x:ByteArray):Nat:=(x.data.toList.headD 0).toNat
def nvV(x:ByteArray):Option Int:=match Lib.atoiAll x.data.toList with
 | .ok v=>if Gk x=43∨(Gk (EM x)=48∧1<(EM x).size) then none else some v
 |_=>none
theorem Nk{x:ByteArray}(h:0<x.size):(x[0]'h).toNat=Gk x:=by
 cases x with
 |mk d=>
  have h':0<d.size:=h;show(d[0]'h').toNat=(d.toList.headD 0).toNat
  congr 1
  rw[←Array.getElem_toList (h:=by simpa using h')];have q: ∀(l:List UInt8) (h:0<l.length),l[0]'h=l.headD 0:=fun l h=>by
   cases l with
   |nil=>simp at h
   |cons a l=>rfl
  exact q _ _
theorem Ub{x:ByteArray}{v:Int}(h:Lib.atoiAll x.data.toList=.ok v):0<x.size∧0<(EM x).size:=by
 have e:x.size=x.data.toList.length:=by rw[Array.length_toList];rfl
 have e2:(EM x).size=(Lib.trimPrefix x.data.toList [45]).length:=by
  show(Lib.trimPrefix x.data.toList [45]).toArray.size=_;simp
 rw[e,e2];generalize x.data.toList=l at h;match l,h with
 | [],h=>cases h
 | [c],h=>
  refine⟨by simp,?_⟩;by_cases q:c=45
  ·subst q;have e3:Lib.atoiAll [45]=.«syntax»:=by rfl
   rw[e3]at h;cases h
  simp[Lib.trimPrefix,Lib.hasPrefix];rw[if_neg (fun e=>q e.symm)];simp
 |c::d::r,h=>
  refine⟨by simp,?_⟩;unfold Lib.trimPrefix;split<;>simp
structure EV (w:World):Prop where
 s: ∃ev,w.cell? ⟨2,0,none⟩=some ev∧(ev=.nilIface∨ ∃te pe,ev=.iface te pe)
 r: ∃ev,w.cell? ⟨3,0,none⟩=some ev∧(ev=.nilIface∨ ∃te pe,ev=.iface te pe)
theorem EV.go{w W:World}(h:EV w)(hB:Below w.heap.size w W):EV W:=by
 obtain⟨⟨e1,a1,b1⟩,⟨e2,a2,b2⟩⟩:=h;exact⟨⟨e1,Ae hB a1,b1⟩,⟨e2,Ae hB a2,b2⟩⟩
theorem Rd.ifc{lm:Nat}{W:World}{rb i g:Nat}{L:List ByteArray}{b:Bool}{ev:Value}(h:Rd lm W rb L b)(k:W.cell? ⟨g,i,none⟩=some ev)(he:ev=.nilIface∨ ∃te pe,ev=.iface te pe):g≠rb:=by
 rintro rfl;obtain⟨v,h0,a,cap,e,h1,h2⟩:=h.is;subst e;simp only[World.cell?,h0]at k;match i,k with
 |0,k=>rcases he with rfl| ⟨te,pe,rfl⟩<;>simp at k
 |1,k=>rcases he with rfl| ⟨te,pe,rfl⟩<;>simp at k
 |i+2,k=>simp at k
theorem EV.ob{lm:Nat}{w W:World}{rb:Nat}{L:List ByteArray}{b:Bool}(h:EV w)(hr:Rd lm w rb L b)(k:Ob rb w W):EV W:=by
 obtain⟨⟨e1,a1,b1⟩,⟨e2,a2,b2⟩⟩:=h;exact⟨⟨e1,k.cell a1 (hr.ifc a1 b1),b1⟩,⟨e2,k.cell a2 (hr.ifc a2 b2),b2⟩⟩
theorem Qj{lm:Nat}(rb:Nat)(L:List ByteArray)(b:Bool)(w:World)(h:Rd lm w rb L b)(hs:(hdT L).size≤4096)(he:EV w):
  Calls Tryz.prog 37 #[.pointer (some ⟨rb,0,none⟩)] w fun e w'=>e=.returned (.int .i64 ((nvV (hdT L)).getD 0))∧Rd lm w' rb L.tail (b||L.isEmpty||(nvV (hdT L)).isNone)∧Ob rb w w':=by
 go_enter Tryz.func37,Tryz.ntmps37
 go_wp2_with fail
 refine(FM rb L b w h).mono ?_;rintro e w1 ⟨rfl,hr,ho⟩;have HR:Hid _:=hr;have HO:Hid _:=ho;have HE:Hid _:=he.ob h ho;clear hr ho h he;obtain⟨X,hX⟩:=nmd (hdT L);rw[hX]at hs;have HXL:Hid (∀(q:Option Int) (w':World),nvV X=q→(Rd lm w' rb L.tail (b||L.isEmpty||q.isNone)∧Ob rb w w')→ ∀z:Int,z=q.getD 0→Ending.returned (.int .i64 z)=Ending.returned (.int .i64 ((nvV (hdT L)).getD 0))∧Rd lm w' rb L.tail (b||L.isEmpty||(nvV (hdT L)).isNone)∧Ob rb w w'):=fun q w' e1 e2 z hz=>by
  rw[hX,e1,hz];exact⟨rfl,e2⟩
 rw[hX];clear hX;have HBAD:Hid (∀w',Below w1.heap.size w1 w'→Rd lm (w'.setCell ⟨rb,1,none⟩ (.bool true)) rb L.tail true∧Ob rb w (w'.setCell ⟨rb,1,none⟩ (.bool true))):=fun w' hb=>by
  have q:=(HR.out.go hb).bad;exact⟨q.1,(HO.out.go hb).trans q.2⟩
 have HCEL:Hid (∀w',Below w1.heap.size w1 w'→w'.cell? ⟨rb,1,none⟩=some (.bool (b||L.isEmpty))∧w'.frozen? ⟨rb,1,none⟩=false):=fun w' hb=>by
  obtain⟨a,cap,x0,x1,f0,f1,_,_⟩:=(HR.out.go hb).cells;exact⟨x1,f1⟩
 cases hA:Lib.atoiAll X.data.toList with
 |ok v=>
  have HP:Hid _:=Ub hA;go_wp2_with fail
  refine(Tryz.strconv_Atoi_ok X (by omega) v hA _).mono ?_;rintro e w2 ⟨rfl,hw2⟩;have HB:Hid (Below w1.heap.size w1 w2):=by
   rcases hw2 with rfl| ⟨t,rfl⟩
   ·exact Aa _
   exact⟨rfl,rfl,rfl,by rw[Lib.bytesWorld_size];omega,fun k hk=>Lib.bytesWorld_at_old _ _ _ k (by omega)⟩
  have HN:Hid (nvV X=if Gk X=43∨(Gk (EM X)=48∧1<(EM X).size) then none else some v):=by
   show _=_;unfold nvV;rw[hA]
  clear hw2 hA;go_wp2_with fail
  refine(Tryz.strings_TrimPrefix X ⟨#[45]⟩ _).mono ?_;rintro e w3 ⟨rfl,rfl⟩;obtain⟨y,hy⟩:=nme (EM X);rw[show(⟨(Lib.trimPrefix X.data.toList (⟨#[45]⟩:ByteArray).data.toList).toArray⟩:ByteArray)=y from hy.symm];have HY:Hid _:=hy;have k3:=HP.out.1;have k5:=HP.out.2;rw[←hy]at k5;rw[←hy]at HN;clear hy;have p1:=Nk k3;have p2:=Nk k5;obtain⟨c1,c2⟩:=HCEL.out w3 HB.out;by_cases d1:Gk X=43
  ·have q1:((X[0]'k3).toNat:Int)=43:=by omega
   have HN2:Hid (nvV X=none):=by show _=_;rw[HN.out,if_pos (.inl d1)]
   clear d1 HN p1 p2;go_wp2_with fail
   exact bodyPost_ret (v:=.int .i64 0) (by simp[results,Tryz.results37,go_sem]) rfl (HXL.out _ _ HN2.out (by simpa using HBAD.out _ HB.out) _ rfl)
  have q1: ¬((X[0]'k3).toNat:Int)=43:=by omega
  by_cases d2:Gk y=48
  ·have q2:((y[0]'k5).toNat:Int)=48:=by omega
   by_cases d3:1<y.size
   ·have q3:(1:Int)<(y.size:Int):=by omega
    have HN2:Hid (nvV X=none):=by show _=_;rw[HN.out,if_pos (.inr ⟨d2,d3⟩)]
    clear d1 d2 d3 HN p1 p2;go_wp2_with fail
    exact bodyPost_ret (v:=.int .i64 0) (by simp[results,Tryz.results37,go_sem]) rfl (HXL.out _ _ HN2.out (by simpa using HBAD.out _ HB.out) _ rfl)
   have q4:y.size=1:=by omega
   have q3: ¬(1:Int)<(y.size:Int):=by omega
   have HN2:Hid (nvV X=some v):=by show _=_;rw[HN.out,if_neg (by rintro(q| ⟨q,q'⟩);exact d1 q;exact d3 q')]
   clear d1 d2 d3 HN p1 p2;go_wp2_with fail
   exact bodyPost_ret (v:=.int .i64 v) (by simp[results,Tryz.results37,go_sem]) rfl (HXL.out _ _ HN2.out ⟨by simpa using HR.out.go HB.out,HO.out.go HB.out⟩ _ rfl)
  have q2: ¬((y[0]'k5).toNat:Int)=48:=by omega
  have HN2:Hid (nvV X=some v):=by show _=_;rw[HN.out,if_neg (by rintro(q| ⟨q,q'⟩);exact d1 q;exact d2 q)]
  clear d1 d2 HN p1 p2;go_wp2_with fail
  exact bodyPost_ret (v:=.int .i64 v) (by simp[results,Tryz.results37,go_sem]) rfl (HXL.out _ _ HN2.out ⟨by simpa using HR.out.go HB.out,HO.out.go HB.out⟩ _ rfl)
 |«syntax»=>
  have HN2:Hid (nvV X=none):=by show _=_;unfold nvV;rw[hA]
  obtain⟨ev,hv,hev⟩:=HE.out.s;go_wp2_with fail
  refine(Tryz.strconv_Atoi_syntax X (by omega) hA ev _ hv hev).mono ?_;rintro e w2 ⟨N,rfl,_,_,hb⟩;have HB:Hid _:=hb;clear hb hv hA;go_wp2_with fail
  refine(Tryz.strings_TrimPrefix X ⟨#[45]⟩ _).mono ?_;rintro e w3 ⟨rfl,rfl⟩;obtain⟨y,hy⟩:=nme (EM X);rw[show(⟨(Lib.trimPrefix X.data.toList (⟨#[45]⟩:ByteArray).data.toList).toArray⟩:ByteArray)=y from hy.symm];obtain⟨c1,c2⟩:=HCEL.out w3 HB.out;clear hy;go_wp2_with fail
  exact bodyPost_ret (v:=.int .i64 0) (by simp[results,Tryz.results37,go_sem]) rfl (HXL.out _ _ HN2.out (by simpa using HBAD.out _ HB.out) _ rfl)
 |range=>
  have HN2:Hid (nvV X=none):=by show _=_;unfold nvV;rw[hA]
  obtain⟨ev,hv,hev⟩:=HE.out.r;go_wp2_with fail
  refine(Tryz.strconv_Atoi_range X (by omega) hA ev _ hv hev).mono ?_;rintro e w2 ⟨N,rfl,_,_,hb⟩;have HB:Hid _:=hb;clear hb hv hA;go_wp2_with fail
  refine(Tryz.strings_TrimPrefix X ⟨#[45]⟩ _).mono ?_;rintro e w3 ⟨rfl,rfl⟩;obtain⟨y,hy⟩:=nme (EM X);rw[show(⟨(Lib.trimPrefix X.data.toList (⟨#[45]⟩:ByteArray).data.toList).toArray⟩:ByteArray)=y from hy.symm];obtain⟨c1,c2⟩:=HCEL.out w3 HB.out;clear hy;go_wp2_with fail
  exact bodyPost_ret (v:=.int .i64 0) (by simp[results,Tryz.results37,go_sem]) rfl (HXL.out _ _ HN2.out (by simpa using HBAD.out _ HB.out) _ rfl)
def arr(O:List ByteArray):Nat→List ByteArray→List ByteArray→Bool→List ByteArray×Bool
 |0,V,L,b=>(V++L,b)
 |k+1,V,L,b=>
  if Lib.idxOfS O (hdT L)<0 then(L.tail,true)
  else if V.getD (Lib.idxOfS O (hdT L)).toNat ⟨#[]⟩≠⟨#[]⟩ then(L.tail,true)
  else arr O k (V.set (Lib.idxOfS O (hdT L)).toNat (hdT L.tail)) L.tail.tail (b||L.isEmpty||L.tail.isEmpty)
theorem RV(x:ByteArray): ∀(zs:List ByteArray) (i:Nat),Lib.idxFromS zs x i= -1∨((i:Int)≤Lib.idxFromS zs x i∧Lib.idxFromS zs x i<(i:Int)+zs.length)
 | [],i=>.inl rfl
 |z::zs,i=>by
  rw[Lib.idxFromS];by_cases h:z=x
  ·rw[if_pos h];refine .inr ⟨by omega,?_⟩;simp;omega
  rw[if_neg h];rcases RV x zs (i+1)with q|q
  ·exact .inl q
  refine .inr ⟨by omega,?_⟩;simp only[List.length_cons];omega
theorem WJ(zs:List ByteArray)(x:ByteArray):Lib.idxOfS zs x= -1∨(0≤Lib.idxOfS zs x∧Lib.idxOfS zs x<zs.length):=by
 rcases RV x zs 0 with q|q
 ·exact .inl q
 exact .inr ⟨by have:=q.1;unfold Lib.idxOfS;omega,by have:=q.2;unfold Lib.idxOfS;omega⟩
structure Vl (W:World) (vb:Nat) (V:List ByteArray):Prop where
 is:W.heap[vb]? =some (.cells (V.map Value.string).toArray 9)
theorem Vl.cell{W:World}{vb:Nat}{V:List ByteArray}(h:Vl W vb V)(i:Nat)(hi:i<V.length):W.cell? ⟨vb,i,none⟩=some (.string (V.getD i ⟨#[]⟩)):=by
 have h:=h.is;simp[World.cell?,h,hi,List.getD]
theorem Vl.frozen{W:World}{vb:Nat}{V:List ByteArray}(h:Vl W vb V)(i:Nat):W.frozen? ⟨vb,i,none⟩=false:=by
 have h:=h.is;simp[World.frozen?,h]
theorem Vl.set{W:World}{vb:Nat}{V:List ByteArray}(h:Vl W vb V)(i:Nat)(x:ByteArray):Vl (W.setCell ⟨vb,i,none⟩ (.string x)) vb (V.set i x):=by
 have:=heap_setCell_same W vb i _ _ (.string x) h.is;refine⟨this.trans ?_⟩;simp
theorem Vl.ob{W W':World}{rb vb:Nat}{V:List ByteArray}(h:Vl W vb V)(k:Ob rb W W')(hn:vb≠rb):Vl W' vb V:=
 ⟨(k.block vb (Array.getElem?_eq_some_iff.1 h.is).1 hn).trans h.is⟩
theorem Vl.or{W:World}{vb base n:Nat}{V:List ByteArray}(h:Vl W vb V)(hb:base≤vb)(hn:V.length=n)(hl:n≤1000):OR W 9 base (.slice (some ⟨vb,0,none⟩) n n) n (tx V):=by
 subst hn;refine .inr ⟨vb,V.length,tx V,rfl,hb,Nat.le_refl _,by simp[maxLen];omega,?_,fun i hi=>rfl⟩;exact⟨_,h.is,by simp,fun i hi=>by simp[tx,List.getD,hi]⟩
theorem Uc(n:Nat)(hm:n≤1000)(w:World):
  (Instr.makeSlice 42 (.int .i64 (n:Int)) (.int .i64 (n:Int))).run Tryz.prog w=.ok (.slice (some ⟨w.heap.size,0,none⟩) n n) (w.alloc (.cells (madeCells #[.string ⟨#[]⟩] n) 9)):=by
 obtain⟨i,hi,hz,hs,hb⟩:=info_parts Tryz.infoStr;rw[run_make w 42 9 i (.string ⟨#[]⟩) Tryz.underlying42 hi hz .i64 .i64 n n (by omega) (by omega) (by rw[hb];omega) (by omega),hs];rw[Nat.mul_one];rfl
theorem CZ(w:World)(o:Obj):(w.alloc o).heap[w.heap.size]? =some o:=Array.getElem?_push_size
theorem VC(w:World)(n:Nat):Vl (w.alloc (.cells (madeCells #[.string ⟨#[]⟩] n) 9)) w.heap.size (List.replicate n ⟨#[]⟩):=by
 refine⟨?_⟩;have e:madeCells #[Value.string ⟨#[]⟩] n=((List.replicate n (⟨#[]⟩:ByteArray)).map Value.string).toArray:=by
  rw[←Array.toList_inj,toList_madeCells_one];simp
 rw[e];exact CZ _ _
theorem Jl{w:World}{ops:Array Oper}{rest:List Oper}{o:Oper}{ac:Act}{Q:Exit→Act→World→Prop}(hgd:o.guard=none)(s x:Operand)
  (ho:o.op=.call {callee:=.builtin .append,args:= #[s,x],argTypes:= #[42,42]}) (ad:Addr) (n:Nat) (hs:ac.eval s=.slice (some ad) n n) (a:Option Addr) (c:Nat) (hx:ac.eval x=.slice a 0 c)
  (h:wpList Tryz.prog ops Q rest (ac.put o.dst (.slice (some ad) n n)) w):wpList Tryz.prog ops Q (o::rest) ac w:=by
 obtain⟨i,hi,hzz,hsz,hb⟩:=info_parts Tryz.infoStr;refine wpList_plain hgd fun K hK=> ?_;have hrun:(Builtin.append_ #[42,42] o.type #[.slice (some ad) n n,.slice a 0 c]).run Tryz.prog w=.ok (.slice (some ad) n n) w:=by
  cases a<;>simp[Builtin.append_,run_underlying Tryz.underlying42,sizeOf,typeInfo,hi,storeCells,Builtin.lenOf,Builtin.firstCells,loadCells,loadCellsFrom]
 unfold Oper.wp;simp[execOp,ho,resolve,invoke,builtin,hs,hx,hrun,Result.andThen];exact hK _ _ h
theorem Rd.keep{lm M:Nat}{W W':World}{rb:Nat}{L:List ByteArray}{b:Bool}(h:Rd lm W rb L b)(hk: ∀k,k<M→W'.heap[k]? =W.heap[k]?)(h1:rb<M)(h2:lm≤M):Rd lm W' rb L b:=by
 obtain⟨v,h0,a,cap,e,k1,k2⟩:=h.is;refine⟨⟨v,(hk _ h1).trans h0,a,cap,e,k1,k2.imp id ?_⟩⟩;rintro⟨g,o,ha,hc⟩;refine⟨g,o,ha,fun i hi=>⟨(hc i hi).1,?_⟩⟩;have hg:=(hc i hi).1;exact(World.cell?_of_block (w:=W) (hk g (by omega))).trans (hc i hi).2
structure Ars (w1 wr:World) (lm rb n:Nat) (O L:List ByteArray) (b:Bool) (k:Nat) (V Lk:List ByteArray) (bk:Bool):Prop where
 len:V.length=n
 eq:arr O n (List.replicate n ⟨#[]⟩) L b=arr O (n-k) V Lk bk
 le:Lk.length≤1000000000
 rd:Rd lm wr rb Lk bk
 vl:Vl wr w1.heap.size V
 ob:Ob rb w1 wr
theorem Oj{lm:Nat}(rb:Nat)(s:ByteArray)(L:List ByteArray)(b:Bool)(w:World)(h:Rd lm w rb L b)(hlm:lm≤w.heap.size)(hs:s.size≤1000000000)(h0:0<(Ab s).length)(hn:(Ab s).length≤1000)(hL:L.length≤1000000000):
  Calls Tryz.prog 36 #[.pointer (some ⟨rb,0,none⟩),.string s] w fun e w'=>e=.returned (.tuple #[])∧Rd w'.heap.size w' rb (arr (Ab s) (Ab s).length (List.replicate (Ab s).length ⟨#[]⟩) L b).1 (arr (Ab s) (Ab s).length (List.replicate (Ab s).length ⟨#[]⟩) L b).2∧Ob rb w w':=by
 have HR:Hid _:=h;clear h;go_enter Tryz.func36,Tryz.ntmps36
 go_wp2_with fail
 refine(Gi s _ (by omega)).mono ?_;rintro e w1 ⟨v1,rfl,hO,hb1⟩;obtain⟨O,hOe⟩:=nmd (Ab s);rw[hOe]at hO h0 hn;have HOE:Hid _:=hOe;clear hOe;obtain⟨g,c1,rfl,hnc,hcN⟩:=OR.row hO (by omega);obtain⟨n,hln⟩:=nmd O.length;have HLN:Hid _:=hln;rw[hln]at hcN hnc hn h0;rw[hln];have HCN:Hid _:=hcN;have HB1:Hid _:=hb1;have HR1:Hid _:=HR.out.go hb1;have hsz1:=hb1.size;have lrb:=HR1.out.lt;have mk:=Uc n hn w1;have HE:Hid (∀R:List ByteArray×Bool,arr O n (List.replicate n ⟨#[]⟩) L b=R→ ∀w':World,Rd w'.heap.size w' rb R.1 R.2∧Ob rb w1 w'→Rd w'.heap.size w' rb (arr (Ab s) (Ab s).length (List.replicate (Ab s).length ⟨#[]⟩) L b).1 (arr (Ab s) (Ab s).length (List.replicate (Ab s).length ⟨#[]⟩) L b).2∧Ob rb w w'):=fun R hR w' ⟨k1,k2⟩=>by
  rw[HOE.out,HLN.out,hR];exact⟨k1,(Ob.of HB1.out).trans k2⟩
 clear hO hcN hb1 hln HR;go_wp2_with fail
 go_loopw [14] (fun t wr=> ∃(k:Nat) (V Lk:List ByteArray) (bk:Bool),k≤n∧t=.int .i64 (k:Int)∧Hid (Ars w1 wr lm rb n O L b k V Lk bk)) (fun t _=>n- (intOf t).toNat)
 case atStart=>
  exact⟨0,List.replicate n ⟨#[]⟩,L,b,by omega,rfl,⟨by simp,rfl,hL,HR1.out.go (Af (Aa _)),VC _ _,Ob.of (Af (Aa _))⟩⟩
 case round=>
  obtain⟨k,V,Lk,bk,hk,rfl,HH⟩:=hrel;clear mk;by_cases e:k=n
  ·subst e;have HEQ:Hid (arr O k (List.replicate k ⟨#[]⟩) L b=(V++Lk,bk)):=by
    show _=_;rw[HH.out.eq,Nat.sub_self];rfl
   obtain⟨a,cap,x0,x1,f0,f1,hcap,hc⟩:=HH.out.rd.cells;have hszr:=HH.out.ob.size;have lvb:w1.heap.size<wr.heap.size:=(Array.getElem?_eq_some_iff.1 HH.out.vl.is).1;cases Lk with
   |nil=>
    rw[List.length_nil]at x0;go_wp2_with (refine(id ?_:wpList Tryz.prog _ _ (⟨some 44,_,_,_,_,_⟩::_) _ _);refine Jl rfl (.tmp 39) (.tmp 43) rfl ⟨w1.heap.size,0,none⟩ k rfl a cap rfl ?_)
    go_wp2_with fail
    refine bodyPost_end (v:=.tuple #[]) (by simp[results,Tryz.results36,go_sem]) rfl ⟨rfl,HE.out _ HEQ.out _ ?_⟩;have q:=HH.out.rd.rest (lm':=wr.heap.size) (L':=V++[]) (Rst.of (g:=w1.heap.size) (o:=0) (cap:=k) (by simp[HH.out.len]) (Nat.le_refl _) fun i hi=>⟨lvb,by rw[List.append_nil,Nat.zero_add];exact HH.out.vl.cell i (by simpa using hi)⟩);refine⟨?_,HH.out.ob.trans q.2⟩;rw[show(wr.setCell ⟨rb,0,none⟩ (.slice (some ⟨w1.heap.size,0,none⟩) k k)).heap.size=wr.heap.size by simp[World.setCell]];exact q.1
   |cons y l=>
    obtain⟨LK,hLK⟩:=nme (y::l);rw[←hLK]at x0 hcap hc HEQ HH;have hpos:0<LK.length:=by rw[hLK];simp
    have hlen:=HH.out.le;rcases hc with⟨_,q,_⟩| ⟨g2,o2,rfl,hc⟩
    ·rw[hLK]at q;cases q
    have HC:Hid _:=hc;clear hc hLK;have HOR:Hid (OR wr 9 w1.heap.size (.slice (some ⟨w1.heap.size,0,none⟩) k k) V.length (tx V)):=by
     have:=HH.out.vl.or (base:=w1.heap.size) (Nat.le_refl _) HH.out.len hn;rw[HH.out.len];exact this
    have hvl:=HH.out.len;have A1:Hid (∀j,j<LK.length→wr.cell? ((⟨g2,o2,none⟩:Addr).add j)=some (tx LK j)):=fun j hj=>by
     rw[show(⟨g2,o2,none⟩:Addr).add j=⟨g2,o2+j,none⟩ by unfold Addr.add;split<;>simp_all];exact(HC.out j hj).2
    go_wp2_with (refine(id ?_:wpList Tryz.prog _ _ (⟨some 44,_,_,_,_,_⟩::_) _ _);refine Ca rfl (.tmp 39) (.tmp 43) rfl w1.heap.size _ V LK rfl HOR.out ⟨g2,o2,none⟩ cap rfl A1.out hpos (by omega) hszr ?_)
    intro g5 cap5 w5 ho hg hor hlt5;have B5:Hid (Ob rb w1 w5):=by
     refine⟨hg.os.trans HH.out.ob.os,hg.tape.trans HH.out.ob.tape,hg.output.trans HH.out.ob.output,Nat.le_trans hszr hg.size,fun k hk hne=> ?_⟩;exact(hg.block k (by omega) (by simp[Value.ownBlock];omega)).trans (HH.out.ob.block k hk hne)
    have R5:Hid (Rd lm w5 rb LK bk):=HH.out.rd.keep (M:=w1.heap.size) (fun k hk=>hg.block k (by omega) (by simp[Value.ownBlock];omega)) lrb (by omega);obtain⟨hc5,hv5⟩:=OR.sliced ho (by simp;omega);have I5:Hid _:=hv5;obtain⟨a9,cap9,y0,y1,e0,e1,_,_⟩:=R5.out.cells;clear ho hg hor hv5 x0 x1 f0 f1;go_wp2_with fail
    refine bodyPost_end (v:=.tuple #[]) (by simp[results,Tryz.results36,go_sem]) rfl ⟨rfl,HE.out _ HEQ.out _ ?_⟩;have q:=R5.out.rest (lm':=w5.heap.size) (L':=V++LK) (Rst.of (g:=g5) (o:=0) (n:=k+LK.length) (cap:=cap5) (by simp[HH.out.len]) hc5 fun i hi=>⟨hlt5,by rw[Nat.zero_add];exact I5.out i (by rw[List.length_append]at hi;omega)⟩);refine⟨?_,B5.out.trans q.2⟩;rw[show∀u,(w5.setCell ⟨rb,0,none⟩ u).heap.size=w5.heap.size from fun u=>by simp[World.setCell]];exact q.1
  have lk:k<n:=by omega
  obtain⟨m,hm⟩: ∃m,n-k=m+1:=⟨n-k-1,by omega⟩;have HM:Hid _:=hm;have lvb:w1.heap.size<wr.heap.size:=(Array.getElem?_eq_some_iff.1 HH.out.vl.is).1;go_wp2_with fail
  refine(FM rb Lk bk wr HH.out.rd).mono ?_;rintro e2 w2 ⟨rfl,hr2,ho2⟩;have HR2:Hid _:=hr2;have HO2:Hid _:=HH.out.ob.trans ho2;have HV2:Hid _:=HH.out.vl.ob ho2 (by omega);have hsz2:=ho2.size;clear hr2 ho2;obtain⟨X,hX⟩:=nmd (hdT Lk);have HX:Hid _:=hX;rw[hX];clear hX;go_wp2_with fail
  refine(Tryz.slices_Index_string g 0 n c1 O X w2 (by rw[HLN.out];omega) (by omega) fun j hj=> ?_).mono ?_
  ·rw[Nat.zero_add];have q:=HCN.out j (by rw[←HLN.out];exact hj);exact HO2.out.cell q (HR1.out.str q)
  rintro e3 w3 ⟨rfl,rfl⟩;rw[show O.take n=O by rw[←HLN.out,List.take_length]];obtain⟨i,hi⟩:=nmd (Lib.idxOfS O X);have hin:=WJ O X;rw[hi,HLN.out]at hin;rw[hi];have HI:Hid _:=hi;clear hi;obtain⟨a,cap,x0,x1,f0,f1,hcap,hc⟩:=HR2.out.cells;clear hc;rcases hin with hin| ⟨hi0,hi1⟩
  ·subst hin;have HEQ:Hid (arr O n (List.replicate n ⟨#[]⟩) L b=(Lk.tail,true)):=by
    show _=_;rw[HH.out.eq,HM.out,arr,HX.out,HI.out,if_pos (by omega)]
   go_wp2_with fail
   refine bodyPost_ret (v:=.tuple #[]) (by simp[results,Tryz.results36,go_sem]) rfl ⟨rfl,HE.out _ HEQ.out _ ?_⟩;have q:=HR2.out.bad;refine⟨?_,HO2.out.trans q.2⟩;rw[show∀u,(w3.setCell ⟨rb,1,none⟩ u).heap.size=w3.heap.size from fun u=>by simp[World.setCell]];exact q.1.mono (by omega)
  obtain⟨j,rfl⟩: ∃j:Nat,i=(j:Int):=⟨i.toNat,by omega⟩;have lj:j<n:=by omega
  have y0:=HV2.out.cell j (by rw[HH.out.len];exact lj);have fy:=HV2.out.frozen j;obtain⟨Y,hY⟩:=nmd (V.getD j ⟨#[]⟩);rw[hY]at y0;have HY:Hid _:=hY;clear hY;have hneg: ¬(j:Int)<0:=by omega
  by_cases cY:Y=⟨#[]⟩
  ·have d1:(Y.toList==([]:List UInt8))=true:=by rw[cY,ByteArray.toList_eq];rfl
   have HEQ:Hid (arr O n (List.replicate n ⟨#[]⟩) L b=arr O m (V.set j (hdT Lk.tail)) Lk.tail.tail (bk||Lk.isEmpty||Lk.tail.isEmpty)):=by
    show _=_;rw[HH.out.eq,HM.out,arr,HX.out,HI.out,if_neg hneg,Int.toNat_natCast,HY.out,if_neg (by rw[cY];exact fun h=>h rfl)]
   clear cY;go_wp2_with fail
   refine(FM rb Lk.tail _ w3 HR2.out).mono ?_;rintro e4 w4 ⟨rfl,hr4,ho4⟩;have HR4:Hid _:=hr4;have HO4:Hid _:=HO2.out.trans ho4;have HV4:Hid _:=HV2.out.ob ho4 (by omega);have hsz4:=ho4.size;have z0:=HV4.out.cell j (by rw[HH.out.len];exact lj);have fz:=HV4.out.frozen j;clear hr4 ho4 x0 x1 f0 f1 y0 fy;go_wp2_with fail
   go_roundw
   case rel=>
    refine⟨k+1,V.set j (hdT Lk.tail),Lk.tail.tail,_,by omega,by go_num,⟨by rw[List.length_set];exact HH.out.len,by rw[HEQ.out,show n- (k+1)=m by have:=HM.out;omega],?_,HR4.out.far (by show _≤w1.heap.size;omega) (by show rb<w1.heap.size;omega),HV4.out.set _ _,?_⟩⟩
    ·have:=HH.out.le;simp only[List.length_tail];omega
    exact⟨HO4.out.os,HO4.out.tape,HO4.out.output,by simpa[World.setCell]using HO4.out.size,fun q hq hne=>(Below.heap_setCell _ _ _ _ (by show q≠w1.heap.size;omega)).trans (HO4.out.block q hq hne)⟩
   case measure=>simp[intOf];omega
  have d1:(Y.toList==([]:List UInt8))=false:=by
   have:=Dd Y ⟨#[]⟩;rw[ByteArray.toList_eq ⟨#[]⟩]at this;exact this.trans (by simpa using cY)
  have HEQ:Hid (arr O n (List.replicate n ⟨#[]⟩) L b=(Lk.tail,true)):=by
   show _=_;rw[HH.out.eq,HM.out,arr,HX.out,HI.out,if_neg hneg,Int.toNat_natCast,HY.out,if_pos cY]
  clear cY;go_wp2_with fail
  refine bodyPost_ret (v:=.tuple #[]) (by simp[results,Tryz.results36,go_sem]) rfl ⟨rfl,HE.out _ HEQ.out _ ?_⟩;have q:=HR2.out.bad;refine⟨?_,HO2.out.trans q.2⟩;rw[show∀u,(w3.setCell ⟨rb,1,none⟩ u).heap.size=w3.heap.size from fun u=>by simp[World.setCell]];exact q.1.mono (by omega)
def Sh4(L:List ByteArray):Prop:= ∀x∈L,x.size≤4096
theorem Sh4.tail{L:List ByteArray}(h:Sh4 L):Sh4 L.tail:=fun x hx=>h x (List.mem_of_mem_tail hx)
theorem Sh4.hd{L:List ByteArray}(h:Sh4 L):(hdT L).size≤4096:=by
 cases L with
 |nil=>show(⟨#[]⟩:ByteArray).size≤4096;decide
 |cons x l=>exact h x List.mem_cons_self
theorem Lq{O:List ByteArray}: ∀(k:Nat) (V L:List ByteArray) (b:Bool),Sh4 V→Sh4 L→Sh4 (arr O k V L b).1
 |0,V,L,b,hV,hL=>fun x hx=>by
  rcases List.mem_append.1 (show x∈V++L from hx)with q|q
  ·exact hV x q
  exact hL x q
 |k+1,V,L,b,hV,hL=>by
  unfold arr;split
  ·exact hL.tail
  split
  ·exact hL.tail
  refine Lq k _ _ _ (fun x hx=> ?_) hL.tail.tail;rcases List.mem_or_eq_of_mem_set hx with q|q
  ·exact hV x q
  rw[q];exact hL.tail.hd
theorem RW(n:Nat):Sh4 (List.replicate n ⟨#[]⟩):=fun x hx=>by
 rw[List.eq_of_mem_replicate hx];decide
def nmS(p:List ByteArray×Bool):List ByteArray×Bool:=(p.1.tail,p.2||p.1.isEmpty||(nvV (hdT p.1)).isNone)
def nmI(p:List ByteArray×Bool):Int:=(nvV (hdT p.1)).getD 0
def naS(s:ByteArray)(p:List ByteArray×Bool):List ByteArray×Bool:=(p.1.tail,p.2||p.1.isEmpty||decide (hdT p.1≠s))
def kdS(p:List ByteArray×Bool):List ByteArray×Bool:=(p.1.tail,p.2||p.1.isEmpty||decide (kdV (hdT p.1)=0))
def woS(p:List ByteArray×Bool):List ByteArray×Bool:=(p.1.tail,p.2||p.1.isEmpty)
def arS(s:ByteArray)(p:List ByteArray×Bool):List ByteArray×Bool:=arr (Ab s) (Ab s).length (List.replicate (Ab s).length ⟨#[]⟩) p.1 p.2
structure Rp (lm:Nat) (W:World) (rb:Nat) (p:List ByteArray×Bool):Prop where
 rd:Rd lm W rb p.1 p.2
 lm':lm≤W.heap.size
 sm:Sh4 p.1
 ev:EV W
 kn:KN W
 len:p.1.length≤100000
theorem Rp.go{lm:Nat}{W W':World}{rb:Nat}{p:List ByteArray×Bool}(h:Rp lm W rb p)(k:Below W.heap.size W W'):Rp lm W' rb p:=
 ⟨h.rd.go k,Nat.le_trans h.lm' k.size,h.sm,h.ev.go k,h.kn.go k,h.len⟩
theorem Rp.name{lm:Nat}{w:World}{rb:Nat}{p:List ByteArray×Bool}(h:Rp lm w rb p)(s:ByteArray):Calls Tryz.prog 34 #[.pointer (some ⟨rb,0,none⟩),.string s] w fun e w'=>e=.returned (.tuple #[])∧Rp lm w' rb (naS s p)∧Ob rb w w':=by
 refine(T9 rb s p.1 p.2 w h.rd).mono ?_;rintro e w' ⟨rfl,hr,ho⟩;exact⟨rfl,⟨hr,Nat.le_trans h.lm' ho.size,h.sm.tail,h.ev.ob h.rd ho,KN.ob h.kn h.rd ho,by have:=h.len;simp only[naS,List.length_tail];omega⟩,ho⟩
theorem Rp.word{lm:Nat}{w:World}{rb:Nat}{p:List ByteArray×Bool}(h:Rp lm w rb p):Calls Tryz.prog 48 #[.pointer (some ⟨rb,0,none⟩)] w fun e w'=>e=.returned (.string (hdT p.1))∧Rp lm w' rb (woS p)∧Ob rb w w':=by
 refine(FM rb p.1 p.2 w h.rd).mono ?_;rintro e w' ⟨rfl,hr,ho⟩;exact⟨rfl,⟨hr,Nat.le_trans h.lm' ho.size,h.sm.tail,h.ev.ob h.rd ho,KN.ob h.kn h.rd ho,by have:=h.len;simp only[woS,List.length_tail];omega⟩,ho⟩
theorem Rp.kind{lm:Nat}{w:World}{rb:Nat}{p:List ByteArray×Bool}(h:Rp lm w rb p):Calls Tryz.prog 35 #[.pointer (some ⟨rb,0,none⟩)] w fun e w'=>e=.returned (.int .i64 (kdV (hdT p.1)))∧Rp lm w' rb (kdS p)∧Ob rb w w':=by
 refine(Ua rb p.1 p.2 w h.rd h.kn).mono ?_;rintro e w' ⟨rfl,hr,ho⟩;exact⟨rfl,⟨hr,Nat.le_trans h.lm' ho.size,h.sm.tail,h.ev.ob h.rd ho,KN.ob h.kn h.rd ho,by have:=h.len;simp only[kdS,List.length_tail];omega⟩,ho⟩
theorem Rp.number{lm:Nat}{w:World}{rb:Nat}{p:List ByteArray×Bool}(h:Rp lm w rb p):Calls Tryz.prog 37 #[.pointer (some ⟨rb,0,none⟩)] w fun e w'=>e=.returned (.int .i64 (nmI p))∧Rp lm w' rb (nmS p)∧Ob rb w w':=by
 refine(Qj rb p.1 p.2 w h.rd h.sm.hd h.ev).mono ?_;rintro e w' ⟨rfl,hr,ho⟩;exact⟨rfl,⟨hr,Nat.le_trans h.lm' ho.size,h.sm.tail,h.ev.ob h.rd ho,KN.ob h.kn h.rd ho,by have:=h.len;simp only[nmS,List.length_tail];omega⟩,ho⟩
theorem Pd(O:List ByteArray): ∀(k:Nat) (V L:List ByteArray) (b:Bool),(arr O k V L b).1.length≤V.length+L.length
 |0,V,L,b=>by show(V++L).length≤_;rw[List.length_append];omega
 |k+1,V,L,b=>by
  unfold arr;split
  ·simp only[List.length_tail];omega
  split
  ·simp only[List.length_tail];omega
  have:=Pd O k (V.set (Lib.idxOfS O (hdT L)).toNat (hdT L.tail)) L.tail.tail (b||L.isEmpty||L.tail.isEmpty);simp only[List.length_tail,List.length_set]at this;omega
theorem Rp.arrange{lm:Nat}{w:World}{rb:Nat}{p:List ByteArray×Bool}(h:Rp lm w rb p)(s:ByteArray)(hs:s.size≤1000)(h0:0<(Ab s).length)(hn:(Ab s).length≤100)(hl:p.1.length≤50000):Calls Tryz.prog 36 #[.pointer (some ⟨rb,0,none⟩),.string s] w fun e w'=>e=.returned (.tuple #[])∧(∃lm',Rp lm' w' rb (arS s p))∧Ob rb w w':=by
 refine(Oj rb s p.1 p.2 w h.rd h.lm' (by omega) h0 (by omega) (by have:=h.len;omega)).mono ?_;rintro e w' ⟨rfl,hr,ho⟩;exact⟨rfl,⟨_,hr,Nat.le_refl _,Lq _ _ _ _ (RW _) h.sm,h.ev.ob h.rd ho,KN.ob h.kn h.rd ho,by have:=Pd (Ab s) (Ab s).length (List.replicate (Ab s).length ⟨#[]⟩) p.1 p.2;rw[List.length_replicate]at this;show(arr _ _ _ _ _).1.length≤_;omega⟩,ho⟩
theorem Az{ops:Array Oper}{l:List Oper}{ac:Act}{Q:Exit→Act→World→Prop}{w:World}(P:World→Prop)(hP:P w)(h: ∀w',P w'→wpList Tryz.prog ops Q l ac w'):wpList Tryz.prog ops Q l ac w:=h w hP
theorem H5{fn:Func}{R:Ending→World→Prop}{x:Exit}{ac:Act}{w:World}(P:World→Prop)(hP:P w)(h: ∀w',P w'→bodyPost Tryz.prog fn R x ac w'):bodyPost Tryz.prog fn R x ac w:=h w hP
structure Bx2 (w0 W:World) (g r:Nat) (tg tr:TypeId) (c d:Array Value):Prop where
 hc:W.heap[g]? =some (.cells c tg)
 hr:W.heap[r]? =some (.cells d tr)
 ot: ∀k,k≠g→k≠r→W.heap[k]? =w0.heap[k]?
 os:W.os=w0.os
 tape:W.tape=w0.tape
 output:W.output=w0.output
 size:W.heap.size=w0.heap.size
theorem Bx2.setC{w0 W:World}{g r:Nat}{tg tr:TypeId}{c d:Array Value}(h:Bx2 w0 W g r tg tr c d)(hn:g≠r)(i:Nat)(u:Value):Bx2 w0 (W.setCell ⟨g,i,none⟩ u) g r tg tr (c.setIfInBounds i u) d:=
 ⟨(heap_setCell_same W g i _ _ _ h.hc).trans (by simp),(Below.heap_setCell _ _ _ _ (by show r≠g;omega)).trans h.hr,fun k h1 h2=>(Below.heap_setCell _ _ _ _ (by show k≠g;omega)).trans (h.ot k h1 h2),h.os,h.tape,h.output,by simpa[World.setCell]using h.size⟩
theorem Bx2.setR{w0 W:World}{g r:Nat}{tg tr:TypeId}{c d:Array Value}(h:Bx2 w0 W g r tg tr c d)(hn:g≠r)(i:Nat)(u:Value):Bx2 w0 (W.setCell ⟨r,i,none⟩ u) g r tg tr c (d.setIfInBounds i u):=
 ⟨(Below.heap_setCell _ _ _ _ (by show g≠r;omega)).trans h.hc,(heap_setCell_same W r i _ _ _ h.hr).trans (by simp),fun k h1 h2=>(Below.heap_setCell _ _ _ _ (by show k≠r;omega)).trans (h.ot k h1 h2),h.os,h.tape,h.output,by simpa[World.setCell]using h.size⟩
def RX:Value→Bool
 | .string _=>false
 | .nilIface=>false
 | .iface _ _=>false
 |_=>true
def Pln(c:Array Value):Prop:=c.toList.all RX=true
theorem Nl{w0:World}{g i:Nat}{tg:TypeId}{c0:Array Value}{x:Value}(h1:w0.heap[g]? =some (.cells c0 tg))(p1:Pln c0)(hx:w0.cell? ⟨g,i,none⟩=some x)(hs:(∃s,x=Value.string s)∨x=Value.nilIface∨ ∃t q,x=Value.iface t q):False:=by
 have e:c0[i]? =some x:=by simpa[World.cell?,h1]using hx
 have hm:x∈c0.toList:=by
  rw[←Array.getElem?_toList]at e;exact List.mem_of_getElem? e
 have q:=List.all_eq_true.1 p1 x hm;rcases hs with⟨s,rfl⟩|rfl| ⟨t,u,rfl⟩<;>simp[RX]at q
structure Bx1 (w0 W:World) (g:Nat) (tg:TypeId) (c:Array Value):Prop where
 hc:W.heap[g]? =some (.cells c tg)
 ot: ∀k,k≠g→W.heap[k]? =w0.heap[k]?
 os:W.os=w0.os
 tape:W.tape=w0.tape
 output:W.output=w0.output
 size:W.heap.size=w0.heap.size
theorem Bx1.set{w0 W:World}{g:Nat}{tg:TypeId}{c:Array Value}(h:Bx1 w0 W g tg c)(i:Nat)(u:Value):Bx1 w0 (W.setCell ⟨g,i,none⟩ u) g tg (c.setIfInBounds i u):=
 ⟨(heap_setCell_same W g i _ _ _ h.hc).trans (by simp),fun k h1=>(Below.heap_setCell _ _ _ _ (by show k≠g;omega)).trans (h.ot k h1),h.os,h.tape,h.output,by simpa[World.setCell]using h.size⟩
theorem Rp.one{lm:Nat}{w0 W:World}{rb g:Nat}{p:List ByteArray×Bool}{tg:TypeId}{c c0:Array Value}(h:Rp lm w0 rb p)(k:Bx1 w0 W g tg c)(h1:w0.heap[g]? =some (.cells c0 tg))(p1:Pln c0)(n1:g≠rb):Rp lm W rb p:=by
 have cel: ∀(b i:Nat) (x:Value),w0.cell? ⟨b,i,none⟩=some x→((∃s,x=Value.string s)∨x=Value.nilIface∨ ∃t q,x=Value.iface t q)→W.cell? ⟨b,i,none⟩=some x:=fun b i x hx hs=>by
  by_cases e1:b=g
  ·subst e1;exact(Nl h1 p1 hx hs).elim
  exact(World.cell?_of_block (w:=w0) (k.ot b e1)).trans hx
 refine⟨?_,by rw[k.size];exact h.lm',h.sm,?_,fun i hi=>cel 0 i _ (h.kn i hi) (.inl ⟨_,rfl⟩),h.len⟩
 ·obtain⟨v,h0,a,cap,e,k1,k2⟩:=h.rd.is;refine⟨⟨v,(k.ot rb n1.symm).trans h0,a,cap,e,k1,k2.imp id ?_⟩⟩;rintro⟨g',o,ha,hc⟩;exact⟨g',o,ha,fun i hi=>⟨(hc i hi).1,cel _ _ _ (hc i hi).2 (.inl ⟨_,rfl⟩)⟩⟩
 obtain⟨⟨e1,a1,b1⟩,⟨e2,a2,b2⟩⟩:=h.ev;exact⟨⟨e1,cel _ _ _ a1 (.inr b1),b1⟩,⟨e2,cel _ _ _ a2 (.inr b2),b2⟩⟩
theorem Rp.two{lm:Nat}{w0 W:World}{rb g r:Nat}{p:List ByteArray×Bool}{tg tr:TypeId}{c d c0 d0:Array Value}(h:Rp lm w0 rb p)(k:Bx2 w0 W g r tg tr c d)(h1:w0.heap[g]? =some (.cells c0 tg))(h2:w0.heap[r]? =some (.cells d0 tr))(p1:Pln c0)(p2:Pln d0)(n1:g≠rb)(n2:r≠rb):Rp lm W rb p:=by
 have cel: ∀(b i:Nat) (x:Value),w0.cell? ⟨b,i,none⟩=some x→((∃s,x=Value.string s)∨x=Value.nilIface∨ ∃t q,x=Value.iface t q)→W.cell? ⟨b,i,none⟩=some x:=fun b i x hx hs=>by
  by_cases e1:b=g
  ·subst e1;exact(Nl h1 p1 hx hs).elim
  by_cases e2:b=r
  ·subst e2;exact(Nl h2 p2 hx hs).elim
  exact(World.cell?_of_block (w:=w0) (k.ot b e1 e2)).trans hx
 refine⟨?_,by rw[k.size];exact h.lm',h.sm,?_,fun i hi=>cel 0 i _ (h.kn i hi) (.inl ⟨_,rfl⟩),h.len⟩
 ·obtain⟨v,h0,a,cap,e,k1,k2⟩:=h.rd.is;refine⟨⟨v,(k.ot rb n1.symm n2.symm).trans h0,a,cap,e,k1,k2.imp id ?_⟩⟩;rintro⟨g',o,ha,hc⟩;exact⟨g',o,ha,fun i hi=>⟨(hc i hi).1,cel _ _ _ (hc i hi).2 (.inl ⟨_,rfl⟩)⟩⟩
 obtain⟨⟨e1,a1,b1⟩,⟨e2,a2,b2⟩⟩:=h.ev;exact⟨⟨e1,cel _ _ _ a1 (.inr b1),b1⟩,⟨e2,cel _ _ _ a2 (.inr b2),b2⟩⟩
def Aq(p:List ByteArray×Bool)(i:Nat):Int:=match i with
 |0=>kdV (hdT (naS ⟨#[107,105,110,100]⟩ p).1)
 |1=>nmI (arS ⟨#[114,111,111,109,32,109,111,115,116,32,99,97,112,32,102,108,111,119,115,32,97,103,101]⟩ (kdS (naS ⟨#[107,105,110,100]⟩ p)))
 |2=>nmI (nmS (arS ⟨#[114,111,111,109,32,109,111,115,116,32,99,97,112,32,102,108,111,119,115,32,97,103,101]⟩ (kdS (naS ⟨#[107,105,110,100]⟩ p))))
 |3=>nmI (nmS (nmS (arS ⟨#[114,111,111,109,32,109,111,115,116,32,99,97,112,32,102,108,111,119,115,32,97,103,101]⟩ (kdS (naS ⟨#[107,105,110,100]⟩ p)))))
 |4=>nmI (nmS (nmS (nmS (arS ⟨#[114,111,111,109,32,109,111,115,116,32,99,97,112,32,102,108,111,119,115,32,97,103,101]⟩ (kdS (naS ⟨#[107,105,110,100]⟩ p))))))
 |5=>nmI (nmS (nmS (nmS (nmS (arS ⟨#[114,111,111,109,32,109,111,115,116,32,99,97,112,32,102,108,111,119,115,32,97,103,101]⟩ (kdS (naS ⟨#[107,105,110,100]⟩ p)))))))
 |_=>0
def De(p:List ByteArray×Bool):List ByteArray×Bool:=(nmS (nmS (nmS (nmS (nmS (arS ⟨#[114,111,111,109,32,109,111,115,116,32,99,97,112,32,102,108,111,119,115,32,97,103,101]⟩ (kdS (naS ⟨#[107,105,110,100]⟩ p))))))))
theorem Gw:0<(Ab ⟨#[114,111,111,109,32,109,111,115,116,32,99,97,112,32,102,108,111,119,115,32,97,103,101]⟩).length∧(Ab ⟨#[114,111,111,109,32,109,111,115,116,32,99,97,112,32,102,108,111,119,115,32,97,103,101]⟩).length≤100:=by
 have e:Ab ⟨#[114,111,111,109,32,109,111,115,116,32,99,97,112,32,102,108,111,119,115,32,97,103,101]⟩=_:=Cp;rw[e];decide
theorem Qk{lm:Nat}(rb:Nat)(p p1 p2 p3 p4 p5 p6 p7 p8:List ByteArray×Bool)(KD n0 n1 n2 n3 n4:Int)(e1:naS ⟨#[107,105,110,100]⟩ p=p1)(e2:kdS p1=p2)(e3:arS ⟨#[114,111,111,109,32,109,111,115,116,32,99,97,112,32,102,108,111,119,115,32,97,103,101]⟩ p2=p3)(e4:nmS p3=p4)(e5:nmS p4=p5)(e6:nmS p5=p6)(e7:nmS p6=p7)(e8:nmS p7=p8)(k0:kdV (hdT p1.1)=KD)(k1:nmI p3=n0)(k2:nmI p4=n1)(k3:nmI p5=n2)(k4:nmI p6=n3)(k5:nmI p7=n4)(w:World)(h:Rp lm w rb p)(hl:p2.1.length≤50000)(h6:KD≠6):
  Calls Tryz.prog 13 #[.pointer (some ⟨rb,0,none⟩)] w fun e w'=>e=.returned (.agg #[.int .i64 KD,.int .i64 n0,.int .i64 n1,.int .i64 n2,.int .i64 n3,.int .i64 n4,.slice none 0 0])∧(∃lm',Rp lm' w' rb p8)∧Ob rb w w':=by
 have lrb:=h.rd.lt;have HR:Hid _:=h;clear h;have HL:Hid _:=hl;have E1:Hid _:=e1;have E2:Hid _:=e2;have E3:Hid _:=e3;have E4:Hid _:=e4;have E5:Hid _:=e5;have E6:Hid _:=e6;have E7:Hid _:=e7;have E8:Hid _:=e8;have K0:Hid _:=k0;have K1:Hid _:=k1;have K2:Hid _:=k2;have K3:Hid _:=k3;have K4:Hid _:=k4;have K5:Hid _:=k5;clear e1 e2 e3 e4 e5 e6 e7 e8 k0 k1 k2 k3 k4 k5;have d6:(KD==6)=false:=by simpa using h6
 go_enter Tryz.func13,Tryz.ntmps13
 go_wp2_with fail
 refine((HR.out.go (Af (Aa _))).name ⟨#[107,105,110,100]⟩).mono ?_;rintro e w1 ⟨rfl,hr1,ho1⟩;rw[E1.out]at hr1;have R1:Hid _:=hr1;have O1:Hid _:=ho1;clear hr1 ho1;go_wp2_with fail
 refine(R1.out.kind).mono ?_;rintro e w2 ⟨rfl,hr2,ho2⟩;rw[E2.out]at hr2;have R2:Hid _:=hr2;have O2:Hid (Ob rb (w.alloc (.cells #[.int .i64 0,.int .i64 0,.int .i64 0,.int .i64 0,.int .i64 0,.int .i64 0,.slice none 0 0] 24)) w2):=O1.out.trans ho2;have hsz2:=O2.out.size;rw[World.size_alloc]at hsz2;clear hr2 ho2 O1 R1;rw[K0.out];go_wp2_with fail
 refine((R2.out.go (Af (Aa _))).arrange ⟨#[114,111,111,109,32,109,111,115,116,32,99,97,112,32,102,108,111,119,115,32,97,103,101]⟩ (by decide) Gw.1 Gw.2 HL.out).mono ?_;rintro e w3 ⟨rfl,⟨lm3,hr3⟩,ho3⟩;rw[E3.out]at hr3;have R3:Hid _:=hr3;have O3:Hid (Ob rb (w2.alloc (.cells #[.int .i64 KD,.int .i64 0,.int .i64 0,.int .i64 0,.int .i64 0,.int .i64 0,.slice none 0 0] 24)) w3):=ho3;clear hr3 ho3 R2;go_wp2_with fail
 refine(R3.out.number).mono ?_;rintro e w4 ⟨rfl,hr4,ho4⟩;rw[E4.out]at hr4;have R4:Hid _:=hr4;have O4:Hid (Ob rb (w2.alloc (.cells #[.int .i64 KD,.int .i64 0,.int .i64 0,.int .i64 0,.int .i64 0,.int .i64 0,.slice none 0 0] 24)) w4):=O3.out.trans ho4;clear hr4 ho4 R3 O3;rw[K1.out];go_wp2_with fail
 refine(R4.out.number).mono ?_;rintro e w5 ⟨rfl,hr5,ho5⟩;rw[E5.out]at hr5;have R5:Hid _:=hr5;have O5:Hid (Ob rb (w2.alloc (.cells #[.int .i64 KD,.int .i64 0,.int .i64 0,.int .i64 0,.int .i64 0,.int .i64 0,.slice none 0 0] 24)) w5):=O4.out.trans ho5;clear hr5 ho5 R4 O4;rw[K2.out];go_wp2_with fail
 refine(R5.out.number).mono ?_;rintro e w6 ⟨rfl,hr6,ho6⟩;rw[E6.out]at hr6;have R6:Hid _:=hr6;have O6:Hid (Ob rb (w2.alloc (.cells #[.int .i64 KD,.int .i64 0,.int .i64 0,.int .i64 0,.int .i64 0,.int .i64 0,.slice none 0 0] 24)) w6):=O5.out.trans ho6;clear hr6 ho6 R5 O5;rw[K3.out];go_wp2_with fail
 refine(R6.out.number).mono ?_;rintro e w7 ⟨rfl,hr7,ho7⟩;rw[E7.out]at hr7;have R7:Hid _:=hr7;have O7:Hid (Ob rb (w2.alloc (.cells #[.int .i64 KD,.int .i64 0,.int .i64 0,.int .i64 0,.int .i64 0,.int .i64 0,.slice none 0 0] 24)) w7):=O6.out.trans ho7;clear hr7 ho7 R6 O6;rw[K4.out];go_wp2_with fail
 refine(R7.out.number).mono ?_;rintro e w8 ⟨rfl,hr8,ho8⟩;rw[E8.out]at hr8;have R8:Hid _:=hr8;have O8:Hid (Ob rb (w2.alloc (.cells #[.int .i64 KD,.int .i64 0,.int .i64 0,.int .i64 0,.int .i64 0,.int .i64 0,.slice none 0 0] 24)) w8):=O7.out.trans ho8;clear hr8 ho8 R7 O7;rw[K5.out];obtain⟨gR,eR⟩:=nme w.heap.size;obtain⟨gC,eC⟩:=nme w2.heap.size;have hC:w8.heap[gC]? =some (.cells #[.int .i64 KD,.int .i64 0,.int .i64 0,.int .i64 0,.int .i64 0,.int .i64 0,.slice none 0 0] 24):=(O8.out.block gC (by rw[World.size_alloc];omega) (by omega)).trans (by rw[eC];exact CZ _ _);have hR:w8.heap[gR]? =some (.cells #[.int .i64 0,.int .i64 0,.int .i64 0,.int .i64 0,.int .i64 0,.int .i64 0,.slice none 0 0] 24):=(O8.out.block gR (by rw[World.size_alloc];omega) (by omega)).trans (((Af (Aa w2)).block gR (by omega)).trans ((O2.out.block gR (by rw[World.size_alloc];omega) (by omega)).trans (by rw[eR];exact CZ _ _)));have HC:Hid _:=hC;have HRR:Hid _:=hR;obtain⟨x0,x1,x2,x3,x4,x5,x6⟩:=cl7 hC;obtain⟨y0,y1,y2,y3,y4,y5,y6⟩:=cl7 hR;have fC: ∀i,w8.frozen? ⟨gC,i,none⟩=false:=fun i=>by simp[World.frozen?,hC]
 have fR: ∀i,w8.frozen? ⟨gR,i,none⟩=false:=fun i=>by simp[World.frozen?,hR]
 have fc0:=fC 0;have fr0:=fR 0;have fc1:=fC 1;have fr1:=fR 1;have fc2:=fC 2;have fr2:=fR 2;have fc3:=fC 3;have fr3:=fR 3;have fc4:=fC 4;have fr4:=fR 4;have fc5:=fC 5;have fr5:=fR 5;have fc6:=fC 6;have fr6:=fR 6;have neg:gC≠gR:=by omega
 have lR:gR<w8.heap.size:=World.block_lt_of_cell? _ _ y0;have lC:gC<w8.heap.size:=World.block_lt_of_cell? _ _ x0;clear hC hR fC fR;rw[←eC,←eR];have HER:Hid _:=eR;have HEC:Hid _:=eC;clear eC eR;have B8:Hid (Bx2 w8 w8 gC gR 24 24 #[.int .i64 KD,.int .i64 0,.int .i64 0,.int .i64 0,.int .i64 0,.int .i64 0,.slice none 0 0] #[.int .i64 0,.int .i64 0,.int .i64 0,.int .i64 0,.int .i64 0,.int .i64 0,.slice none 0 0]):=⟨HC.out,HRR.out,fun _ _ _=>rfl,rfl,rfl,rfl,rfl⟩;have negH:Hid (gC≠gR):=neg;go_wp2_with (refine(id ?_:wpList Tryz.prog _ _ (⟨some 26,_,_,_,_,_⟩::_) _ _);refine Az (fun W=>Bx2 w8 W gC gR 24 24 #[.int .i64 KD,.int .i64 n0,.int .i64 n1,.int .i64 n2,.int .i64 n3,.int .i64 n4,.slice none 0 0] #[.int .i64 0,.int .i64 0,.int .i64 0,.int .i64 0,.int .i64 0,.int .i64 0,.slice none 0 0]) (((((B8.out.setC negH.out 1 (.int .i64 n0)).setC negH.out 2 (.int .i64 n1)).setC negH.out 3 (.int .i64 n2)).setC negH.out 4 (.int .i64 n3)).setC negH.out 5 (.int .i64 n4)) ?_)
 intro w9 B9;clear x0 y0 fc0 fr0 x1 y1 fc1 fr1 x2 y2 fc2 fr2 x3 y3 fc3 fr3 x4 y4 fc4 fr4 x5 y5 fc5 fr5 x6 y6 fc6 fr6;have hC:=B9.hc;have hR:=B9.hr;obtain⟨x0,x1,x2,x3,x4,x5,x6⟩:=cl7 hC;obtain⟨y0,y1,y2,y3,y4,y5,y6⟩:=cl7 hR;have fr0:=fzAt hR 0;have fr1:=fzAt hR 1;have fr2:=fzAt hR 2;have fr3:=fzAt hR 3;have fr4:=fzAt hR 4;have fr5:=fzAt hR 5;have fr6:=fzAt hR 6;have K9:Hid _:=B9;clear B9 hC hR;have OW:Hid (Ob rb w w8):=((Ob.of (Af (Aa w))).trans O2.out).trans ((Ob.of (Af (Aa w2))).trans O8.out);go_wp2_with fail
 refine H5 (fun W=>Bx2 w8 W gC gR 24 24 #[.int .i64 KD,.int .i64 n0,.int .i64 n1,.int .i64 n2,.int .i64 n3,.int .i64 n4,.slice none 0 0] #[.int .i64 KD,.int .i64 n0,.int .i64 n1,.int .i64 n2,.int .i64 n3,.int .i64 n4,.slice none 0 0]) (((((((K9.out.setR negH.out 0 (.int .i64 KD)).setR negH.out 1 (.int .i64 n0)).setR negH.out 2 (.int .i64 n1)).setR negH.out 3 (.int .i64 n2)).setR negH.out 4 (.int .i64 n3)).setR negH.out 5 (.int .i64 n4)).setR negH.out 6 (.slice none 0 0)) ?_;intro w10 B10;clear y0 fr0 y1 fr1 y2 fr2 y3 fr3 y4 fr4 y5 fr5 y6 fr6;have hR:=B10.hr;obtain⟨y0,y1,y2,y3,y4,y5,y6⟩:=cl7 hR;refine bodyPost_ret (v:=.agg #[.int .i64 KD,.int .i64 n0,.int .i64 n1,.int .i64 n2,.int .i64 n3,.int .i64 n4,.slice none 0 0]) (by simp[results,Tryz.results13,go_sem,y0,y1,y2,y3,y4,y5,y6]) rfl ⟨rfl,⟨lm3,R8.out.two B10 HC.out HRR.out rfl rfl (by have:=HEC.out;omega) (by have:=HER.out;omega)⟩,?_⟩;refine⟨B10.os.trans OW.out.os,B10.tape.trans OW.out.tape,B10.output.trans OW.out.output,by rw[B10.size];exact OW.out.size,fun k hk hne=>(B10.ot k (by have:=HEC.out;omega) (by have:=HER.out;omega)).trans (OW.out.block k hk hne)⟩
theorem KM{lm:Nat}(rb:Nat)(p:List ByteArray×Bool)(w:World)(h:Rp lm w rb p)(hl:p.1.length≤40000)(h6:Aq p 0≠6):
  Calls Tryz.prog 13 #[.pointer (some ⟨rb,0,none⟩)] w fun e w'=>e=.returned (.agg #[.int .i64 (Aq p 0),.int .i64 (Aq p 1),.int .i64 (Aq p 2),.int .i64 (Aq p 3),.int .i64 (Aq p 4),.int .i64 (Aq p 5),.slice none 0 0])∧(∃lm',Rp lm' w' rb (De p))∧Ob rb w w':=
 Qk rb p _ _ _ _ _ _ _ _ _ _ _ _ _ _ rfl rfl rfl rfl rfl rfl rfl rfl rfl rfl rfl rfl rfl rfl w h (by simp only[kdS,naS,List.length_tail];omega) h6
theorem Pe(b o j:Nat):(⟨b,o,none⟩:Addr).add j=⟨b,o+j,none⟩:=by unfold Addr.add;split<;>simp_all
theorem JP{W W':World}{b:Nat}{t:TypeId}{s n:Nat}{v:Value}{xs:List Value}(h:W.ownsRow b t s v n xs)(hk: ∀k,v.ownBlock=some k→W'.heap[k]? =W.heap[k]?):W'.ownsRow b t s v n xs:=by
 refine⟨h.1,h.2.imp id ?_⟩;rintro⟨g,cap,cur,e,hb,hg,rest⟩;exact⟨g,cap,cur,e,hb,(hk g (by rw[e];rfl)).trans hg,rest⟩
abbrev Nd:=Int×Int×Int×Int
def ndc(x:Nd):List Value:=[.int .i64 x.1,.int .i64 x.2.1,.int .i64 x.2.2.1,.int .i64 x.2.2.2]
def Eh(L:List Nd):List Value:=L.flatMap ndc
theorem Nm(L:List Nd):(Eh L).length=L.length*4:=by
 induction L with
 |nil=>rfl
 |cons x L ih=>simp only[Eh,List.flatMap_cons,List.length_append,List.length_cons]at ih⊢;simp only[ndc,List.length_cons,List.length_nil];omega
theorem Ud(L M:List Nd):Eh (L++M)=Eh L++Eh M:=by simp[Eh]
def nd0:Nd:=(0,0,0,0)
theorem VD(L:List Nd)(i:Nat)(hi:i<L.length):(Eh L)[i*4]? =some (.int .i64 (L.getD i nd0).1)∧(Eh L)[i*4+1]? =some (.int .i64 (L.getD i nd0).2.1)∧(Eh L)[i*4+2]? =some (.int .i64 (L.getD i nd0).2.2.1)∧(Eh L)[i*4+3]? =some (.int .i64 (L.getD i nd0).2.2.2):=by
 induction L generalizing i with
 |nil=>simp at hi
 |cons x L ih=>
  have e:Eh (x::L)=[.int .i64 x.1,.int .i64 x.2.1,.int .i64 x.2.2.1,.int .i64 x.2.2.2]++Eh L:=rfl;rw[e];rcases i with _|i
  ·simp
  have h:=ih i (by simpa using hi);have r: ∀j,([Value.int .i64 x.1,Value.int .i64 x.2.1,Value.int .i64 x.2.2.1,Value.int .i64 x.2.2.2]++Eh L)[(i+1)*4+j]? =(Eh L)[i*4+j]? :=fun j=>by
   rw[List.getElem?_append_right (by simp;omega)];congr 1
   simp;omega
  have r0:=r 0;simp only[Nat.add_zero]at r0;rw[r0,r 1,r 2,r 3];simpa using h
def Nr(base:Nat)(W:World)(v:Value)(L:List Nd):Prop:=W.ownsRow base 78 4 v L.length (Eh L)
theorem Nr.nil(base:Nat)(W:World):Nr base W (.slice none 0 0) []:=⟨rfl,.inl ⟨rfl,rfl⟩⟩
theorem Nr.own{base:Nat}{W:World}{v:Value}{L:List Nd}(h:Nr base W v L){k:Nat}(hk:v.ownBlock=some k):base≤k∧ ∃cs,W.heap[k]? =some (.cells cs 78):=by
 rcases h.2 with⟨e,_⟩| ⟨g,cap',cur,e,hb',hg,_⟩
 ·rw[e]at hk;cases hk
 rw[e]at hk;cases hk;exact⟨hb',cur,hg⟩
theorem Nr.kept{base:Nat}{W W':World}{v:Value}{L:List Nd}(h:Nr base W v L)(hk: ∀k,v.ownBlock=some k→W'.heap[k]? =W.heap[k]?):Nr base W' v L:=JP h hk
theorem Nr.below{base:Nat}{W W':World}{v:Value}{L:List Nd}(h:Nr base W v L)(hB:Below W.heap.size W W'):Nr base W' v L:=h.kept fun k hk=>by
 obtain⟨_,cs,e⟩:=h.own hk;exact hB.block _ (Array.getElem?_eq_some_iff.1 e).1
theorem Nr.weak{base b2:Nat}{W:World}{v:Value}{L:List Nd}(h:Nr base W v L)(hb:b2≤base):Nr b2 W v L:=by
 refine⟨h.1,h.2.imp id ?_⟩;rintro⟨g,cap,cur,e,hb2,rest⟩;exact⟨g,cap,cur,e,Nat.le_trans hb hb2,rest⟩
theorem Nr.sl{base:Nat}{W:World}{v:Value}{L:List Nd}(h:Nr base W v L): ∃a cap,v=.slice a L.length cap∧(0<L.length→ ∃g,a=some ⟨g,0,none⟩∧base≤g∧g<W.heap.size∧ ∀i,i<L.length→W.cell? ⟨g,i*4,none⟩=some (.int .i64 (L.getD i nd0).1)∧W.cell? ⟨g,i*4+1,none⟩=some (.int .i64 (L.getD i nd0).2.1)∧W.cell? ⟨g,i*4+2,none⟩=some (.int .i64 (L.getD i nd0).2.2.1)∧W.cell? ⟨g,i*4+3,none⟩=some (.int .i64 (L.getD i nd0).2.2.2))∧(a=none→cap=0):=by
 rcases h.2 with⟨e,e0⟩| ⟨g,cap,cur,e,hb',hg,h1,h2,h3,h4⟩
 ·exact⟨none,0,by rw[e];congr 1;omega,fun h=>by omega,fun _=>rfl⟩
 refine⟨_,cap,e,fun _=>⟨g,rfl,hb',(Array.getElem?_eq_some_iff.1 hg).1,fun i hi=> ?_⟩,fun e=>by cases e⟩;have key: ∀j v,j<L.length*4→(Eh L)[j]? =some v→W.cell? ⟨g,j,none⟩=some v:=fun j v hj hv=>by
  have q4:=congrArg (fun l=>l[j]?) h4;rw[List.getElem?_take_of_lt hj,Array.getElem?_toList,hv]at q4;simp[World.cell?,hg,q4]
 obtain⟨t0,t1,t2,t3⟩:=VD L i hi;exact⟨key _ _ (by omega) t0,key _ _ (by omega) t1,key _ _ (by omega) t2,key _ _ (by omega) t3⟩
theorem Tryz.infoN:(Tryz.prog.info? 78).map (fun i=>(i.zero,i.size,i.bytes))=some (some (.agg #[.int .i64 0,.int .i64 0,.int .i64 0,.int .i64 0]),4,32):=by kernel_rfl
theorem Pf{w:World}{ops:Array Oper}{rest:List Oper}{o:Oper}{a:Act}{Q:Exit→Act→World→Prop}(hgd:o.guard=none)(s x:Operand)
  (ho:o.op=.call {callee:=.builtin .append,args:= #[s,x],argTypes:= #[22,22]}) (base:Nat) (v:Value) (xs:List Nd) (hs:a.eval s=v) (hown:Nr base w v xs)
  (b2:Nat) (u:Value) (ys:List Nd) (hx:a.eval x=u) (hS:Nr b2 w u ys) (hlim:xs.length+ys.length≤1000000) (hb:base≤w.heap.size)
  (h: ∀v' w',Hid (Nr base w' v' (xs++ys)∧Below base w w')→wpList Tryz.prog ops Q rest (a.put o.dst v') w'):wpList Tryz.prog ops Q (o::rest) a w:=by
 obtain⟨i,hi,hz,hsz,hby⟩:=info_parts Tryz.infoN;rcases hS.2 with⟨e,e0⟩| ⟨g,cap,cur,e,hb',hg,h1,h2,h3,h4⟩
 ·have ey:ys=[]:=List.eq_nil_of_length_eq_zero e0;subst ey;rw[e]at hx;refine wpList_append_own_none hgd s x 22 ho base 78 i 4 Tryz.underlying22 hi v _ _ hs hown hx ?_;exact h v w ⟨by rw[List.append_nil];exact hown,Below.refl _ _⟩
 rw[e]at hx;refine wpList_append_own_at w hgd s x 22 ho base 78 i _ 4 32 Tryz.underlying22 hi hz hsz hby rfl (by omega) v _ _ hs hown ⟨g,0,none⟩ ys.length cap (Eh ys) hx (Nm ys) (fun j u' hj=> ?_) (fun u' hu'=> ?_) (by simp only[maxLen];omega) (by omega) hb ?_
 ·have hjl:j<ys.length*4:=by
   have:=(List.getElem?_eq_some_iff.1 hj).1;rw[Nm]at this;exact this
  have q4:=congrArg (fun l=>l[j]?) h4;rw[List.getElem?_take_of_lt hjl,Array.getElem?_toList,hj]at q4;rw[Pe];simp[World.cell?,hg,q4]
 ·simp only[Eh,List.mem_flatMap,ndc]at hu';obtain⟨y,_,hy⟩:=hu';simp at hy;rcases hy with rfl|rfl|rfl|rfl<;>rfl
 intro v' w' q1 q2 _ _;refine h v' w' ⟨?_,?_⟩
 ·show w'.ownsRow _ _ _ _ _ _;rw[List.length_append,Ud];exact q1
 refine(Below.refl base w).grown q2 hb fun k hk=> ?_;exact(hown.own hk).1
theorem KO(w:World)(x:Nd):Nr w.heap.size (w.alloc (.cells #[.int .i64 x.1,.int .i64 x.2.1,.int .i64 x.2.2.1,.int .i64 x.2.2.2] 78)) (.slice (some ⟨w.heap.size,0,none⟩) 1 1) [x]:=
 ⟨rfl,.inr ⟨w.heap.size,1,_,rfl,Nat.le_refl _,CZ _ _,Nat.le_refl _,by simp only[maxLen];omega,rfl,rfl⟩⟩
theorem RY(k:Nat)(w:World)(h:k<7):Calls Tryz.prog 43 #[.int .i64 (k:Int)] w fun e w'=>e=.returned (.string (Ag k))∧Below w.heap.size w w':=by
 have key: ∀z:Nat,z<7→Calls Tryz.prog 43 #[.int .i64 (z:Int)] w fun e w'=>e=.returned (.string (Ag z))∧Below w.heap.size w w':=by
  intro z hz;match z,hz with
  |0,_=>
   show Calls Tryz.prog 43 #[.int .i64 0] w _;go_enter Tryz.func43,Tryz.ntmps43
   go_wp2_with fail
   go_ret
   exact⟨rfl,Af (Aa w)⟩
  |1,_=>
   show Calls Tryz.prog 43 #[.int .i64 1] w _;go_enter Tryz.func43,Tryz.ntmps43
   go_wp2_with fail
   go_ret
   exact⟨rfl,Af (Aa w)⟩
  |2,_=>
   show Calls Tryz.prog 43 #[.int .i64 2] w _;go_enter Tryz.func43,Tryz.ntmps43
   go_wp2_with fail
   go_ret
   exact⟨rfl,Af (Aa w)⟩
  |3,_=>
   show Calls Tryz.prog 43 #[.int .i64 3] w _;go_enter Tryz.func43,Tryz.ntmps43
   go_wp2_with fail
   go_ret
   exact⟨rfl,Af (Aa w)⟩
  |4,_=>
   show Calls Tryz.prog 43 #[.int .i64 4] w _;go_enter Tryz.func43,Tryz.ntmps43
   go_wp2_with fail
   go_ret
   exact⟨rfl,Af (Aa w)⟩
  |5,_=>
   show Calls Tryz.prog 43 #[.int .i64 5] w _;go_enter Tryz.func43,Tryz.ntmps43
   go_wp2_with fail
   go_ret
   exact⟨rfl,Af (Aa w)⟩
  |6,_=>
   show Calls Tryz.prog 43 #[.int .i64 6] w _;go_enter Tryz.func43,Tryz.ntmps43
   go_wp2_with fail
   go_ret
   exact⟨rfl,Af (Aa w)⟩
 exact key k h
def wsF(s:ByteArray)(i:Nat):Nat:=if i≤s.size then(ws s i).1 else i
def wsL(s:ByteArray)(i:Nat):List ByteArray:=if i≤s.size then(ws s i).2 else Ab s
theorem EC(s:ByteArray)(w:World)(hs:s.size≤1000000000):
  Calls Tryz.prog 16 #[.string s] w fun e w'=> ∃v,e=.returned v∧OR w' 9 w.heap.size v (Ab s).length (tx (Ab s))∧Below w.heap.size w w':=by
 have HS:Hid _:=hs;go_enter Tryz.func16,Tryz.ntmps16
 go_wp2_with fail
 go_loopw [5,4,3] (fun ti tf tl wr=> ∃i:Nat,i≤s.size+1∧ti=.int .i64 (i:Int)∧tf=.int .i64 ((wsF s i:Nat):Int)∧Hid (OR wr 9 w.heap.size tl (wsL s i).length (tx (wsL s i))∧Below w.heap.size w wr)) (fun ti _ _ _=>s.size+1- (intOf ti).toNat)
 case atStart=>exact⟨0,by omega,rfl,by unfold wsF;rw[if_pos (Nat.zero_le _)];rfl,by unfold wsL;rw[if_pos (Nat.zero_le _)];exact OR.nil _ _ _ _,Aa w⟩
 case round=>
  obtain⟨i,hi,rfl,rfl,HO⟩:=hrel;by_cases he:i=s.size+1
  ·subst he;have HE:Hid (wsL s (s.size+1)=Ab s):=by show _=_;unfold wsL;rw[if_neg (by omega)]
   have r0:decide (((s.size+1:Nat):Int)≤(s.size:Int))=false:=decide_eq_false (by omega);have r1: ¬(s.size+1≤s.size):=by omega
   rw[HE.out]at HO;go_wp2_with fail
   go_ret
   exact⟨_,rfl,HO.out.1,HO.out.2⟩
  have hi2:i≤s.size:=by omega
  have eF:wsF s i=(ws s i).1:=by unfold wsF;rw[if_pos hi2]
  have eL:wsL s i=(ws s i).2:=by unfold wsL;rw[if_pos hi2]
  rw[eL]at HO;rw[eF];obtain⟨fr,hf⟩:=nmd ((ws s i).1);have HW:Hid ((ws s i).1≤i∧(ws s i).2.length≤i):=Ms s i;have hw1:fr≤i:=by rw[←hf];exact HW.out.1
  rw[hf];clear eF eL;by_cases hp:i<s.size
  ·have hc:=BI hp;have hc2:=IB s i;by_cases q:sb s i=32
   ·rw[q]at hc;have HX:Hid (wsF s (i+1)=i+1∧wsL s (i+1)=(if fr<i then(ws s i).2++[s.extract fr i] else(ws s i).2)):=by
     unfold wsF wsL;rw[if_pos (by omega),if_pos (by omega),ws,if_pos q,hf];exact⟨rfl,rfl⟩
    clear q;by_cases hlf:fr<i
    ·have d:decide ((fr:Int)<(i:Int))=true:=decide_eq_true (by omega);have HE:Hid (wsL s (i+1)=(ws s i).2++[s.extract fr i]):=by show _=_;rw[HX.out.2,if_pos hlf]
     have HB1:Hid _:=HO.out.1.blk;clear hf;go_wp2_with (refine(id ?_:wpList Tryz.prog _ _ (⟨some 31,_,_,_,_,_⟩::_) _ _);refine A5 rfl (.tmp 25) (.tmp 30) 42 rfl 9 (.string ⟨#[]⟩) 16 Tryz.underlying42 Tryz.infoStr rfl (by omega) w.heap.size _ _ _ rfl (HO.out.1.below (Af (Aa _))) _ _ rfl _ (by simp;rfl) rfl (by have:=HS.out;have:=HW.out.2;omega) (by have:=HO.out.2.size;simp;omega) ?_)
     intro g2 cap2 w2 ho hg hor hlt2;have I2:Hid _:=ho;have B2:Hid (Below w.heap.size w w2):=Below.grown (HO.out.2.alloc (by have:=HO.out.2.size;omega) _) hg (by have:=HO.out.2.size;simp;omega) (fun j hj=>by have:=HB1.out _ hj;omega);clear ho hg hor d;go_wp2_with fail
     go_roundw
     case rel=>
      refine⟨i+1,by omega,by go_num,by rw[HX.out.1];go_num,?_,B2.out⟩;rw[HE.out];have:=OR.congr I2.out (fun j hj=>Jw _ _ j hj);simpa using this
     case measure=>simp[intOf]<;>omega
    have d:decide ((fr:Int)<(i:Int))=false:=decide_eq_false (by omega);have HE:Hid (wsL s (i+1)=(ws s i).2):=by show _=_;rw[HX.out.2,if_neg hlf]
    clear hf;go_wp2_with fail
    go_roundw
    case rel=>
     refine⟨i+1,by omega,by go_num,by rw[HX.out.1];go_num,?_,HO.out.2⟩;rw[HE.out];exact HO.out.1
    case measure=>simp[intOf]<;>omega
   have n32:((sb s i:Int) != 32)=true:=by simp;omega
   have HX:Hid (wsF s (i+1)=fr∧wsL s (i+1)=(ws s i).2):=by
    unfold wsF wsL;rw[if_pos (by omega),if_pos (by omega),ws,if_neg q];exact⟨hf,rfl⟩
   clear q hf;go_wp2_with fail
   go_roundw
   case rel=>
    refine⟨i+1,by omega,by go_num,by rw[HX.out.1],?_,HO.out.2⟩;rw[HX.out.2];exact HO.out.1
   case measure=>simp[intOf]<;>omega
  obtain rfl:i=s.size:=by omega
  have HX:Hid (wsF s (s.size+1)=s.size+1∧wsL s (s.size+1)=(if fr<s.size then(ws s s.size).2++[s.extract fr s.size] else(ws s s.size).2)):=by
   unfold wsF wsL;rw[if_neg (by omega),if_neg (by omega)];refine⟨rfl,?_⟩;rw[Ab,hf]
  by_cases hlf:fr<s.size
  ·have d:decide ((fr:Int)<(s.size:Int))=true:=decide_eq_true (by omega);have HE:Hid (wsL s (s.size+1)=(ws s s.size).2++[s.extract fr s.size]):=by show _=_;rw[HX.out.2,if_pos hlf]
   have HB1:Hid _:=HO.out.1.blk;clear hf;go_wp2_with (refine(id ?_:wpList Tryz.prog _ _ (⟨some 31,_,_,_,_,_⟩::_) _ _);refine A5 rfl (.tmp 25) (.tmp 30) 42 rfl 9 (.string ⟨#[]⟩) 16 Tryz.underlying42 Tryz.infoStr rfl (by omega) w.heap.size _ _ _ rfl (HO.out.1.below (Af (Aa _))) _ _ rfl _ (by simp;rfl) rfl (by have:=HS.out;have:=HW.out.2;omega) (by have:=HO.out.2.size;simp;omega) ?_)
   intro g2 cap2 w2 ho hg hor hlt2;have I2:Hid _:=ho;have B2:Hid (Below w.heap.size w w2):=Below.grown (HO.out.2.alloc (by have:=HO.out.2.size;omega) _) hg (by have:=HO.out.2.size;simp;omega) (fun j hj=>by have:=HB1.out _ hj;omega);clear ho hg hor d;go_wp2_with fail
   go_roundw
   case rel=>
    refine⟨s.size+1,by omega,by go_num,by rw[HX.out.1];go_num,?_,B2.out⟩;rw[HE.out];have:=OR.congr I2.out (fun j hj=>Jw _ _ j hj);simpa using this
   case measure=>simp[intOf]<;>omega
  have d:decide ((fr:Int)<(s.size:Int))=false:=decide_eq_false (by omega);have HE:Hid (wsL s (s.size+1)=(ws s s.size).2):=by show _=_;rw[HX.out.2,if_neg hlf]
  clear hf;go_wp2_with fail
  go_roundw
  case rel=>
   refine⟨s.size+1,by omega,by go_num,by rw[HX.out.1];go_num,?_,HO.out.2⟩;rw[HE.out];exact HO.out.1
  case measure=>simp[intOf]<;>omega
end Go.Proofs.YtbikpmmpgbggaaaGreatDoor
