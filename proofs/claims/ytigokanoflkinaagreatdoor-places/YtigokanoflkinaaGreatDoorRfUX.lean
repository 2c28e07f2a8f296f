/- RfU, RfX, joined. -/
import Derived.Test.YtigokanoflkinaaGreatDoorZN
set_option maxHeartbeats 16000000
set_option maxRecDepth 20000
namespace Go.Proofs.YtigokanoflkinaaGreatDoor
set_option linter.unusedSimpArgs false
set_option linter.unusedVariables false
open Go.RowKit Por Go.Proofs.Tryz
open Value renaming int->kW,slice->kX,pointer->kY,bool->kZ,agg->lA,tuple->lB,string->lC
open IntKind renaming i64->lD
open Obj renaming cells->lE
open Ending renaming returned->lF
open World renaming setCell->lG,cell?->lH
open Option renaming none->lI,some->lJ
open Bool renaming true->lK,false->lL
open Go renaming World->lM,Value->lN
variable{w:lM}{b:Nat}
theorem sO {u0 u1 u2:lN} {T:TypeId} (h:Bx w b #[u0,u1,u2] T):∀(j:Nat) (x:lN),[u0,u1,u2][j]?=lJ x->w.cell? ((⟨b,0,lI⟩:Addr).add j)=lJ x:=fun j x hj=>by
  match j with
  |0=>rw[show x=u0 by simpa using hj.symm];exact h.cell 0 _ rfl
  |1=>rw[show x=u1 by simpa using hj.symm];exact h.cell 1 _ rfl
  |2=>rw[show x=u2 by simpa using hj.symm];exact h.cell 2 _ rfl
  |j+3=>simp at hj
variable{v:lN}
theorem Hz {B:Nat}{k:Nat}{ps:List (lN×Usr)}(h:w.ownsRow B 56 3 v ps.length (ucl ps))(hd:∀p,p∈ps->∃da dc,p.1=kX da k dc/\Arr w 1 da k dc (zi p.2.dem)):∃ao cap,v=kX ao ps.length cap/\Users w ao ps.length cap (ps.map (·.2)):=by
 obtain⟨G,A⟩:=h;rcases A with⟨rfl,h⟩|⟨g,cap,n,rfl,F,l,C,D,H,E⟩
 ·obtain rfl:ps=[]:=iq.1 h;exact⟨lI,0,rfl,rfl,[],Arr.nil _ _,fun i v a=>by simp at a⟩
 ·refine⟨_,_,rfl,by simp,ps.map (fun p=>lA #[p.1,kW lD p.2.wt,kW lD p.2.cap]),⟨by simp,C,D,fun _=>⟨g,0,rfl,(ek.1 l).1⟩,?_⟩,?_⟩
  ·intro b o e i v a j u f
   cases e
   (have d:i<ps.length:=by simpa using(eA.1 a).1);rw[eD,en d]at a
   cases a
   obtain⟨x,y,z⟩:=BO ps d;have c:∀q,q<ps.length*3->lH w ⟨g,0+q,lI⟩=(ucl ps)[q]?:=fun q hq=>by rw[eC,hH w g q _ _ _ l,<-eI,<-E,eH,ed hq]
   match j with
   |0=>rw[c _ (by omega)];rw[ia,x];exact f
   |1=>rw[c _ (by omega)];rw[y];exact f
   |2=>rw[c _ (by omega)];rw[z];exact f
   |j+3=>simp[Value.cells]at f
  ·intro i v a;(have d:i<ps.length:=by simpa using(eA.1 a).1);rw[eD,en d]at a
   cases a
   obtain⟨ao,m,r,s⟩:=hd _ (ij d);(have t:ug (ps.map (·.2)) i=ps[i].2:=by unfold ug;rw[ej,eD,en d];rfl);rw[t];refine⟨ao,_,m,?_,s⟩;show Value.agg #[ps[i].1,kW lD ps[i].2.wt,kW lD ps[i].2.cap]=_;rw[r]
variable{n:Nat}
theorem FR {base T size:Nat}{xs:List lN}(h:w.ownsRow base T size v n xs)(hn:∀k,v.ownBlock=lJ k->k<b)(o:Nat)(u:lN):(lG w ⟨b,o,lI⟩ u).ownsRow base T size v n xs:=oC h (mI w b o u) (fun k hk e=>by have:=hn k hk;have:=iE e;omega)
theorem AO (F:Flt)(u:Nat):yk F u=if F.m.kV u+runs F.m u<F.uc u then F.m.kV u+runs F.m u else F.uc u:=by
 unfold yk;split<;>split<;>omega
theorem RfO.ns_ug {F:Flt}(h:RfO F):nsF F.ut F.ug=nsF F.ut 6:=by
 have a:∀j,F.ug+j<=6->nsF F.ut (F.ug+j)=nsF F.ut F.ug:=fun j=>by
  induction j with
  |zero=>intro _;rfl
  |succ j ih=>intro b;rw[<-hJ,pH (h.gut (by omega) (by omega))];exact ih (by omega)
 have:=a (6-F.ug) (by have:=h.ug;omega);rw[show F.ug+(6-F.ug)=6 by have:=h.ug;omega]at this;exact this.symm
def xe (F:Flt)(val:Tb->lN)(k:Nat):List (lN×Usr):=(nsF F.ut k).map fun u=>(val (.dem u),askU F u)
theorem BQ (F:Flt)(val:Tb->lN)(k:Nat):(xe F val k).length=zp F.ut k:=by unfold xe;rw[iv,mA]
theorem FW (n:Nat):zu (fun _=>0) n=List.replicate n 0:=by
 unfold zu;rw[List.eq_replicate_iff];exact⟨by simp,fun x hx=>by obtain⟨r,_,rfl⟩:=jB.1 hx;rfl⟩
section
variable{base:Nat} {w w':lM} {b:Nat} {F:Flt} {val:Tb->lN} {o:Old} {u:Nat}
theorem RfM.demA (h:RfM base w b F val o)(hu:u<F.ug)(ht:F.ut u=lK):∃da dc,val (.dem u)=kX da F.k dc/\Arr w 1 da F.k dc (zi (zu (F.ud u) F.k)):=by
 have e:Li base w (val (.dem u)) (zu (F.ud u) F.k):=by
  have d:=h.tb.own (.dem u) hu;unfold Li
  rw[JB,show(zu (F.ud u) F.k).map (Value.int lD)=ni F.k (o.dm u)from by
   unfold zu;rw[List.map_map]
   exact iJ (fun r hr=>by show Value.int lD (F.ud u r)=_;rw[(h.old.now u hu ht).1 r (iW.1 hr)])]
  exact d
 obtain⟨da,dc,a,c⟩:=e.arr;rw[JB]at a c;exact⟨da,dc,a,c⟩
theorem RfM.userA (h:RfM base w b F val o)(hu:u<F.ug)(ht:F.ut u=lK):∃g z c da dc,lH w ⟨b,2,lI⟩=lJ (kX (lJ ⟨g,z,lI⟩) F.ug c)/\g<w.heap.size/\val (.dem u)=kX da F.k dc/\lH w ⟨g,z+u*3,lI⟩=lJ (kX da F.k dc)/\lH w ⟨g,z+u*3+1,lI⟩=lJ (kW lD (F.uw u))/\lH w ⟨g,z+u*3+2,lI⟩=lJ (kW lD (F.uc u)):=by
 obtain⟨E,c,m,_,_,e⟩:=h.tb.cells .kr trivial;obtain⟨v,x,y⟩:=oH (fun u=>val (.dem u)) (fun u=>Value.int lD (o.wt u)) (fun u=>Value.int lD (o.cp u)) F.ug u hu;obtain⟨g,z,l,s,t⟩:=e _ _ v;obtain⟨C,D,a,_,A⟩:=e _ _ x;obtain⟨n,r,d,_,B⟩:=e _ _ y;rw[l]at a d;(injection a with a;injection a with f i;subst f;subst i);(injection d with d;injection d with f i;subst f;subst i);obtain⟨da,dc,j,_⟩:=h.demA hu ht;obtain⟨_,p,q,_⟩:=h.old.now u hu ht;refine⟨g,z,c,da,dc,?_,s,j,by rw[t,j],by rw[hJ,<-p];exact A,by rw[hJ,<-q];exact B⟩;have:=h.box.cell 2 _ rfl;rw[this];show lJ (val .kr)=_;rw[m,l];rfl
theorem RfM.usersA (h:RfM base w b F val o)(hw:RfO F){B:Nat}{v:lN}(hown:w.ownsRow B 56 3 v (xe F val F.ug).length (ucl (xe F val F.ug))):∃ao cap,v=kX ao (zp F.ut 6) cap/\Users w ao (zp F.ut 6) cap (xi F):=by
 obtain⟨ao,cap,e,f⟩:=Hz hown (k:=F.k) (fun p hp=>by
  obtain⟨u,i,rfl⟩:=jB.1 hp
  obtain⟨a,c⟩:=qj _ i
  exact h.demA a c)
 (have g:(xe F val F.ug).map (·.2)=xi F:=by unfold xe xi;rw[List.map_map,hw.ns_ug];rfl);(have d:(xe F val F.ug).length=zp F.ut 6:=by unfold xe;rw[iv,hw.ns_ug,mA]);rw[g,d]at f;rw[d]at e;exact⟨ao,cap,e,f⟩
theorem RfM.spotDue (h:RfM base w b F val o)(hu:u<F.ug):∃g z cap,lH w ⟨b,6,lI⟩=lJ (kX (lJ ⟨g,z,lI⟩) F.ug cap)/\g<w.heap.size/\lH w ⟨g,z+u,lI⟩=lJ (lC (o.du u))/\w.frozen? ⟨g,z+u,lI⟩=lL/\zN b F val g/\∀x:ByteArray,RfM base (lG w ⟨g,z+u,lI⟩ (lC x)) b (withD F (yR F.due u x)) val {o with du:=yR o.du u x}:=by
 obtain⟨g,cap,c,e,m,n,p⟩:=lS (h.tb.own .due trivial) (i:=u) (by rw[show Tb.sz .due=1 from rfl,ic];exact hu);refine⟨g,0,cap,?_,m,by rw[n];exact JF _ hu,p,.inr ⟨.due,trivial,by rw[c];rfl⟩,fun x=>?_⟩
 ·have:=h.box.cell 6 _ rfl;rw[this];show lJ (val .due)=_;rw[c];rfl
 ·rw[eC];refine(h.put (F':=withD F (yR F.due u x)) (o':={o with du:=yR o.du u x}) (t:=.due) trivial c u _ rfl rfl rfl ?_ ⟨h.old.dm,fun v hv ht=>?_⟩).1
  ·funext t;by_cases d:t=.due
   ·subst d;rw[jR]
    exact(mr _ _ _ _ _ (fun k hk=>by
     show Value.string (yR o.du u x k)=_
     unfold yR;by_cases a:k=u;(rw[ed a,ed a]);(rw[ec a,ec a]))).symm
   ·rw[j7 _ _ d]
    cases t with
    |due=>exact absurd rfl d
    |_=>rfl
  ·obtain⟨f,j,l,e⟩:=h.old.now v hv ht;refine⟨f,j,l,?_⟩;show yR o.du u x v=yR F.due u x v;unfold yR;rw[e]
theorem RfM.far (h:RfM base w b F val o) {g:Nat} (hg:¬ zN b F val g) (i:Nat) (x:lN):RfM base (lG w ⟨g,i,lI⟩ x) b F val o:=
  ⟨nF h.box (mI w g i x) (fun e=>hg (.inl (iE e))),h.low,⟨fun t ht=>oC (h.tb.own t ht) (mI w g i x) (fun k hk e=>hg (.inr ⟨t,ht,by rw[hk,e]⟩)),h.tb.kB⟩,h.old⟩
end
variable{P:Nat->Prop}{w':lM}
theorem rM (hc:Chg P w w'){g i:Nat}(hg:g<w.heap.size)(hn:¬ P g):lH w' ⟨g,i,lI⟩=lH w ⟨g,i,lI⟩:=by
 have:=hc.block g hg hn;unfold World.cell?;simp only[this]
theorem ShV.chg {ao:Option Addr} {ts lv:Nat->Rat} {st:Nat->Int} (h:ShV w ao n ts lv st) (hc:Chg P w w') (hp:∀g z,ao=lJ ⟨g,z,lI⟩->¬ P g):ShV w' ao n ts lv st:=fun i hi=>by
  obtain⟨b,o,e,h1,h2,h3,h4⟩:=h i hi
  have hn:=hp b o e
  exact⟨b,o,e,ez h1 hc.size,(rM hc h1 hn).trans h2,(rM hc h1 hn).trans h3,(rM hc h1 hn).trans h4⟩
variable{Q:Nat->Prop}
theorem Chg.mono (h:Chg P w w')(hp:∀k,P k->Q k):Chg Q w w':=⟨h.os,h.tape,h.output,h.size,fun k hk hn=>h.block k hk (fun x=>hn (hp k x))⟩
theorem Chg.shed {v:lM}(hb:Below w.heap.size w v)(h:Chg P v w')(hp:∀k,P k->k<w.heap.size->Q k):Chg Q w w':=⟨h.os.trans hb.os,h.tape.trans hb.tape,h.output.trans hb.output,eh hb.size h.size,fun k hk hn=>(h.block k (ez hk hb.size) (fun x=>hn (hp k x hk))).trans (hb.block k hk)⟩
theorem FU:DuesC:=fun base b R F val o w hM hr ho ht hn=>by
 have HM:=hid hM
 have HR:=hid hr
 have HO:=hid ho
 clear hM hr ho
 have hug:=HO.out.ug
 have HVW:=hid (HM.out.v HO.out.k1)
 go_enter func166,ntmps166
 go_wp2
 go_loopg[3,4] F.ug (fun gg s3 ix wr=>∃(k:Nat) (va:lN),gg=F.ug-k/\k<=F.ug/\ix=kW lD k/\va=s3/\Hid (wr.ownsRow w.heap.size 56 3 va (xe F val k).length (ucl (xe F val k)))/\Hid (Below w.heap.size w wr))
 case atStart=>exact⟨0,kX lI 0 0,rfl,ep _,rfl,rfl,iy _ _ _ _,eB _ _⟩
 case round=>
  obtain⟨k,va,hgk,hk,rfl,rfl,XO,XB⟩:=hrel
  have HM1:=hid (HM.out.iP XB.out)
  obtain⟨so,sc,uo,uc,ho,hc,ro,rc,hv1⟩:=HVW.out.iP XB.out
  have lb1:=hv1.lt
  have c2:=hv1.us
  have c3:=hv1.he
  by_cases hlt:k<F.ug
  ·have hki:(k:Int)<(F.ug:Int):=by omega
   obtain⟨g1,o1,rfl,aT,c5⟩:=hv1.kt k hlt
   dsimp only at c5
   clear hv1
   cases ht:F.ut k with
   |false=>
    rw[ht]at c5
    have bG:Hid (wr.ownsRow w.heap.size 56 3 va (xe F val (k+1)).length (ucl (xe F val (k+1)))):=by unfold Hid xe;rw[pH ht];exact XO.out
    go_wp2
    go_roundg (F.ug-(k+1))
    case measure=>omega
    case rel=>exact⟨k+1,va,rfl,by omega,by go_num,rfl,bG.out,XB.out⟩
   | true=>
    rw[ht]at c5
    have aG:=hid ht
    have l:k<6:=by omega
    clear c2
    obtain⟨g2,z2,b0,r,t,c2,bN,bj,u0,u1,u2⟩:=HM1.out.userA hlt ht
    have a1:=hid bj
    clear ht bj
    obtain⟨X,hX⟩:∃x,F.m.kV k=x:=⟨_,rfl⟩
    obtain⟨Y,hY⟩:∃x,runs F.m k=x:=⟨_,rfl⟩
    have bS:=HR.out.go.kx.kV l
    have bT:0<=runs F.m k/\runs F.m k<=40:=⟨JQ (fun i hi=>HO.out.on k l i hi),HO.out.tot k l⟩
    rw[hX]at bS
    rw[hY]at bT
    have HX:=hid hX
    have HY:=hid hY
    clear hX hY
    go_upto_region 7 with fail
    have f:Hid (Bx (wr.alloc (lE #[kX r F.k t,kW lD (F.uw k),kW lD (F.uc k)] 56)) wr.heap.size #[kX r F.k t,kW lD (F.uw k),kW lD (F.uc k)] 56):=i1 wr _ _
    have a:Hid (Below w.heap.size w (wr.alloc (lE #[kX r F.k t,kW lD (F.uw k),kW lD (F.uc k)] 56))):=XB.out.alloc XB.out.size _
    have c:Hid ((wr.alloc (lE #[kX r F.k t,kW lD (F.uw k),kW lD (F.uc k)] 56)).ownsRow w.heap.size 56 3 va (xe F val k).length (ucl (xe F val k))):=JO XO.out (brf.alloc lR _)
    obtain⟨V,hV⟩:∃V,V=wr.alloc (lE #[kX r F.k t,kW lD (F.uw k),kW lD (F.uc k)] 56):=⟨_,rfl⟩
    have ba:Hid (w.heap.size<=wr.heap.size):=XB.out.size
    have a5:Hid (∀k,va.ownBlock=lJ k->k<wr.heap.size):=fun k hk=>(jN XO.out k hk).2
    rw[<-hV]at f a c ⊢
    clear hV c2 c3 c5 u0 u1 u2 aT bN HM1 lb1 XO
    obtain⟨xb,bu⟩:∃xb,xb=wr.heap.size:=⟨_,rfl⟩
    rw[<-bu]at f ba a5 ⊢
    clear bu XB
    go_wp2_with fail
    refine(nO (HVW.out.iP a.out) HO.out hlt).mono ?_
    rintro e1 w1 ⟨rfl,J⟩
    obtain rfl:=J.symm
    rw[HY.out]
    go_upto_region 8 with fail
    have E:=hid (HM.out.iP a.out)
    have ar:=E.out.box.lt
    obtain⟨g4,z4,bf,k4,au,k1,_,_⟩:=E.out.kL hlt
    rw[HX.out]at k1
    have x2:=f.out.cell 2 _ rfl
    have aw:=f.out.lt
    by_cases an:X+Y<F.uc k
    ·have bl:decide (X+Y<F.uc k)=lK:=ei an
     go_quiet (fail)
     have B:=eY (brw V) nq
     have I:=hid (f.out.ji B)
     have G:Hid (Below w.heap.size w (V.drewN nq)):=et a.out B
     have H:=hid (JO c.out B)
     clear f a c k4 k1 x2 aw ar au B E
     obtain⟨V,Z⟩:∃U,U=V.drewN nq:=⟨_,rfl⟩
     rw[<-Z]at I G H ⊢
     clear Z
     have f:=I
     have a:=G
     have c:=H
     clear I G H
     have E:=hid (HM.out.iP a.out)
     have ar:=E.out.box.lt
     obtain⟨g4,z4,bf,k4,au,k1,_,_⟩:=E.out.kL hlt
     rw[HX.out]at k1
     have x2:=f.out.cell 2 _ rfl
     have f2:=f.out.frozen 2
     have aw:=f.out.lt
     go_upto_region 10 with fail
     have aN:Hid (Bx (lG V ⟨xb,2,lI⟩ (kW lD (X+Y))) xb #[kX r F.k t,kW lD (F.uw k),kW lD (X+Y)] 56):=j6 f.out 2 _
     have aI:Hid (Below w.heap.size w (lG V ⟨xb,2,lI⟩ (kW lD (X+Y)))):=a.out.setCell (p:=⟨xb,2,lI⟩) ba.out _
     have aM:Hid ((lG V ⟨xb,2,lI⟩ (kW lD (X+Y))).ownsRow w.heap.size 56 3 va (xe F val k).length (ucl (xe F val k))):=FR c.out a5.out 2 _
     obtain⟨V2,bh⟩:∃U,U=(lG V ⟨xb,2,lI⟩ (kW lD (X+Y))):=⟨_,rfl⟩
     rw[<-bh]at aN aI aM ⊢
     clear bh f a c k4 k1 x2 f2 aw ar au E
     have f:=aN
     have a:=aI
     have c:=aM
     clear aN aI aM
     have K:Hid (yk F k=X+Y):=by unfold Hid;rw[AO,HX.out,HY.out];exact ed an
     obtain⟨nu,ad⟩:∃n,(xe F val k).length+1=n:=⟨_,rfl⟩
     have bO:(xe F val k).length<=6:=by rw[BQ];have h8:=oD F.ut k;omega
     have y0:=f.out.cell 0 _ rfl
     have y1:=f.out.cell 1 _ rfl
     have y2:=f.out.cell 2 _ rfl
     have aZ:=f.out.lt
     obtain⟨aY,ab,ah,af,aa⟩:=iM Tryz.infoUsrF
     go_wp2_with (at_builtin;refine qz _ rfl _ _ _ rfl w.heap.size 56 aY (lA #[kX lI 0 0,kW lD 0,kW lD 0]) 3 40 underlying23 ab ah af aa rfl (by decide) va (xe F val k).length (ucl (xe F val k)) rfl (JO c.out (brf.alloc lR (lE #[kX r F.k t,kW lD (F.uw k),kW lD (X+Y)] 56))) ⟨V2.heap.size,0,lI⟩ 1 1 [kX r F.k t,kW lD (F.uw k),kW lD (X+Y)] rfl (by simp) (sO (i1 V2 #[kX r F.k t,kW lD (F.uw k),kW lD (X+Y)] 56)) (by intro u hu;simp only[jn,iU,or_false]at hu;rcases hu with e|e|e<;>(rw[e];rfl)) (by unfold maxLen;omega) (by omega) (by simp only[em];have A:=a.out.size;omega) (by decide) ?_)
     intro v8 w8 W T aP
     have aL:Hid (w8.ownsRow w.heap.size 56 3 v8 (xe F val (k+1)).length (ucl (xe F val (k+1)))):=by unfold Hid;rw[show(xe F val (k+1))=(xe F val k)++[(val (.dem k),askU F k)]from by unfold xe;rw[oG aG.out,ii];rfl,a1.out,eK,show ucl ((xe F val k)++[(Value.slice r F.k t,askU F k)])=ucl (xe F val k)++[kX r F.k t,kW lD (F.uw k),kW lD (yk F k)]from by unfold ucl;rw[jA];rfl,K.out];show w8.ownsRow w.heap.size 56 3 v8 ((xe F val k).length+1) _;rw[ad];exact W
     have aH:Hid (Below w.heap.size w w8):=(a.out.alloc a.out.size (lE #[kX r F.k t,kW lD (F.uw k),kW lD (X+Y)] 56)).trans (pV (JO c.out (brf.alloc lR (lE #[kX r F.k t,kW lD (F.uw k),kW lD (X+Y)] 56))) T (by simp only[em];have A:=a.out.size;omega))
     clear W T aP y0 y1 y2 aZ ad
     go_wp2
     go_roundg (F.ug-(k+1))
     case measure=>omega
     case rel=>exact⟨k+1,v8,rfl,by omega,by go_num,rfl,aL.out,aH.out⟩
    ·have bl:decide (X+Y<F.uc k)=lL:=ee an
     go_quiet (fail)
     have B:=eY (brw V) nq
     have I:=hid (f.out.ji B)
     have G:Hid (Below w.heap.size w (V.drewN nq)):=et a.out B
     have H:=hid (JO c.out B)
     clear f a c k4 k1 x2 aw ar au B E
     obtain⟨V,Z⟩:∃U,U=V.drewN nq:=⟨_,rfl⟩
     rw[<-Z]at I G H ⊢
     clear Z
     have f:=I
     have a:=G
     have c:=H
     clear I G H
     have K:Hid (yk F k=F.uc k):=by unfold Hid;rw[AO,HX.out,HY.out];exact ec an
     obtain⟨nu,ad⟩:∃n,(xe F val k).length+1=n:=⟨_,rfl⟩
     have bO:(xe F val k).length<=6:=by rw[BQ];have h8:=oD F.ut k;omega
     have y0:=f.out.cell 0 _ rfl
     have y1:=f.out.cell 1 _ rfl
     have y2:=f.out.cell 2 _ rfl
     have aZ:=f.out.lt
     obtain⟨aY,ab,ah,af,aa⟩:=iM Tryz.infoUsrF
     go_wp2_with (at_builtin;refine qz _ rfl _ _ _ rfl w.heap.size 56 aY (lA #[kX lI 0 0,kW lD 0,kW lD 0]) 3 40 underlying23 ab ah af aa rfl (by decide) va (xe F val k).length (ucl (xe F val k)) rfl (JO c.out (brf.alloc lR (lE #[kX r F.k t,kW lD (F.uw k),kW lD (F.uc k)] 56))) ⟨V.heap.size,0,lI⟩ 1 1 [kX r F.k t,kW lD (F.uw k),kW lD (F.uc k)] rfl (by simp) (sO (i1 V #[kX r F.k t,kW lD (F.uw k),kW lD (F.uc k)] 56)) (by intro u hu;simp only[jn,iU,or_false]at hu;rcases hu with e|e|e<;>(rw[e];rfl)) (by unfold maxLen;omega) (by omega) (by simp only[em];have A:=a.out.size;omega) (by decide) ?_)
     intro v8 w8 W T aP
     have aL:Hid (w8.ownsRow w.heap.size 56 3 v8 (xe F val (k+1)).length (ucl (xe F val (k+1)))):=by unfold Hid;rw[show(xe F val (k+1))=(xe F val k)++[(val (.dem k),askU F k)]from by unfold xe;rw[oG aG.out,ii];rfl,a1.out,eK,show ucl ((xe F val k)++[(Value.slice r F.k t,askU F k)])=ucl (xe F val k)++[kX r F.k t,kW lD (F.uw k),kW lD (yk F k)]from by unfold ucl;rw[jA];rfl,K.out];show w8.ownsRow w.heap.size 56 3 v8 ((xe F val k).length+1) _;rw[ad];exact W
     have aH:Hid (Below w.heap.size w w8):=(a.out.alloc a.out.size (lE #[kX r F.k t,kW lD (F.uw k),kW lD (F.uc k)] 56)).trans (pV (JO c.out (brf.alloc lR (lE #[kX r F.k t,kW lD (F.uw k),kW lD (F.uc k)] 56))) T (by simp only[em];have A:=a.out.size;omega))
     clear W T aP y0 y1 y2 aZ ad
     go_wp2
     go_roundg (F.ug-(k+1))
     case measure=>omega
     case rel=>exact⟨k+1,v8,rfl,by omega,by go_num,rfl,aL.out,aH.out⟩
  ·obtain rfl:k=F.ug:=by omega
   have hki:¬ (F.ug:Int)<(F.ug:Int):=by omega
   obtain⟨ao,bH,bQ,bt⟩:=HM1.out.usersA HO.out XO.out
   subst bQ
   have bb:=hid bt
   clear bt XO hv1
   go_wp2_with fail
   clear c2 c3 lb1
   refine(th (HVW.out.iP XB.out) HO.out).mono ?_
   rintro e1 w1 ⟨v1,rfl,bk,aQ⟩
   obtain⟨pa,bW,bm,aV⟩:=bk.arr
   rw[JB]at bm aV
   subst bm
   have a6:=hid aV
   have az:=hid (bb.out.iP aQ)
   have ak:Hid (Below w.heap.size w w1):=et XB.out aQ
   clear aV bk aQ bb XB HM1
   go_wp2_with fail
   refine(EP a6.out az.out).mono ?_
   intro e2 w2 hS
   unfold PSolveEnd at hS
   rw[ed HR.out.er]at hS
   obtain⟨⟨sa,b3,rfl,aq,bq⟩,bi⟩:=hS
   have Q:Hid (Below w.heap.size w w2):=et ak.out bi
   have bs:(xi F).length=zp F.ut 6:=pA F
   rw[bs]at aq ⊢
   have aF:=hid aq
   have bw:Hid (∀g z,sa=lJ ⟨g,z,lI⟩->w.heap.size<=g):=fun g z e=>eh ak.out.size (bq g z e)
   have aE:Hid (∀g z,sa=lJ ⟨g,z,lI⟩->zp F.ut 6≠0->g<w2.heap.size):=fun g z e h0=>by obtain⟨g9,z9,e9,A,_⟩:=aq 0 (by omega);rw[e]at e9;injection e9 with e9;injection e9 with e9;omega
   clear aq bq bi bs a6 az ak
   obtain⟨so,sc,uo,uc,ho,hc,ro,rc,aX⟩:=HVW.out.iP Q.out
   have bU:=aX.lt
   have c2:=aX.us
   clear aX
   obtain⟨n6,ap⟩:∃n,zp F.ut 6=n:=⟨_,rfl⟩
   have bZ:n6<=6:=by rw[<-ap];exact oD _ _
   have bv:=hid ap
   rw[ap]at aF aE ⊢
   clear ap
   go_wp2_with (at_make;refine qB _ rfl _ _ rfl _ _ F.ug rfl rfl rfl rfl (by omega) ?_)
   intro w3 bg aR
   clear c2 bU
   have aj:Hid (Li w2.heap.size w3 (kX (lJ ⟨w2.heap.size,0,lI⟩) F.ug F.ug) (zu (gUp F (zB F 8) 0) F.ug)):=by
    have A:Li w2.heap.size w3 (kX (lJ ⟨w2.heap.size,0,lI⟩) (List.replicate F.ug (0:Int)).length (List.replicate F.ug (0:Int)).length) (List.replicate F.ug 0):=bg.li lR (by simp;unfold maxLen;omega)
    rw[iD]at A
    unfold Hid;rw[AM,FW];exact A
   have bc:Hid (Below w.heap.size w w3):=et Q.out aR
   have ay:=hid (aF.out.iP aR)
   have a3:=hid (HM.out.iP bc.out)
   clear bg aR aF
   obtain⟨g,N⟩:∃g:Nat,Hid (g=w2.heap.size):=⟨_,rfl⟩
   obtain⟨z,HZ⟩:∃z:Nat,Hid (z=0):=⟨_,rfl⟩
   have HG:Hid (w.heap.size<=g):=by unfold Hid;rw[N.out];exact Q.out.size
   have br:Value.slice (lJ ⟨w2.heap.size,0,lI⟩) F.ug F.ug=Value.slice (lJ ⟨g,z,lI⟩) F.ug F.ug:=by rw[N.out,HZ.out]
   rw[br]at aj ⊢
   have bx:Hid (∀k y,sa=lJ ⟨k,y,lI⟩->n6≠0->k≠g):=fun k y e h0=>by have:=aE.out k y e h0;rw[N.out];omega
   rw[<-N.out]at aj
   clear br N aE Q
   go_wp2
   go_loopg[11,12] F.ug (fun gg s11 ix wr=>∃(k:Nat) (ok:Old),gg=F.ug-k/\k<=F.ug/\s11=kW lD (zp F.ut k:Nat)/\ix=kW lD k/\Hid (RfM base wr b (withD F (dUp F (zB F 8) (zp F.ut k))) val ok)/\Hid (Li g wr (kX (lJ ⟨g,z,lI⟩) F.ug F.ug) (zu (gUp F (zB F 8) (zp F.ut k)) F.ug))/\Hid (Chg (fun q=>zN b F val q\/q=g) w3 wr))
   case atStart=>exact⟨0,o,rfl,ep _,rfl,rfl,by show RfM base w3 b (withD F (dUp F (zB F 8) 0)) val o;rw[AG];exact a3.out,aj.out,Chg.refl _ _⟩
   case round=>
    clear a3 aj
    obtain⟨k,ok,hgk,hk,rfl,rfl,XM,XL,XC⟩:=hrel
    obtain⟨so,sc,uo,uc,ho,hc,ro,rc,hv1⟩:=XM.out.v HO.out.k1
    have lb1:=hv1.lt
    have c2:=hv1.us
    have c3:=hv1.he
    dsimp only at c2 c3
    by_cases hlt:k<F.ug
    ·have hki:(k:Int)<(F.ug:Int):=by omega
     obtain⟨g1,o1,rfl,aT,c5⟩:=hv1.kt k hlt
     dsimp only at c5
     clear hv1
     cases ht:F.ut k with
     |false=>
      rw[ht]at c5
      have ac:zp F.ut (k+1)=zp F.ut k:=by simp only[zp];rw[ht];simp
      have C:=hid ac
      clear ac ht
      go_wp2
      go_roundg (F.ug-(k+1))
      case measure=>omega
      case rel=>exact⟨k+1,ok,rfl,by omega,by rw[C.out],by go_num,by rw[C.out];exact XM.out,by rw[C.out];exact XL.out,XC.out⟩
     | true=>
      rw[ht]at c5
      have aG:=hid ht
      have l:k<6:=by omega
      have ac:zp F.ut (k+1)=zp F.ut k+1:=by simp only[zp];rw[ht];simp
      have C:=hid ac
      have aU:zp F.ut k<n6:=by rw[<-bv.out];exact ns l ht
      have M:=hid (AZ (P:=(zB F 8)) l ht)
      have O:=hid (AP (P:=(zB F 8)) l ht)
      have aD:=hid (A4 HR.out.er l ht)
      have aC:=hid (Bp HR.out.er l ht)
      have ai:=hid (tK HR.out.er l ht)
      have K:=hid (BG HR.out.er l ht)
      clear ac ht
      have a8:Hid (∀q y,sa=lJ ⟨q,y,lI⟩->¬ (fun q=>zN b F val q\/q=g) q):=fun q y e h=>by
       rcases h with h|h
       ·have h1:=bw.out q y e;have h2:=HM.out.kI q h;omega
       ·exact bx.out q y e (by omega) h
      obtain⟨sg,sz,ag,aW,s0,_,_⟩:=(ay.out.chg XC.out a8.out) (zp F.ut k) aU
      have L:lH wr ⟨sg,sz+zp F.ut k*3,lI⟩=lJ (lC ⟨(txt (yU F (zB F 8) k)).toArray⟩):=s0
      clear s0
      obtain⟨D,hD⟩:∃d,yU F (zB F 8) k=d:=⟨_,rfl⟩
      rw[hD]at L M O aD aC ai
      obtain⟨S,hS⟩:∃s:ByteArray,s=⟨(txt D).toArray⟩:=⟨_,rfl⟩
      rw[<-hS]at L M
      have a7:Hid (xY S.data.toList=lJ D):=by unfold Hid;rw[hS];exact aD.out
      have a9:Hid ((⟨(txt ((yB (zu (zB F 8) F.k) (xi F)).ts (zp F.ut k))).toArray⟩:ByteArray)=S):=by unfold Hid;rw[hS,<-hD];rfl
      clear hS hD aD
      obtain⟨i,hi⟩:∃i,zp F.ut k=i:=⟨_,rfl⟩
      rw[hi]at XM XL C aU L M O a9 ⊢
      have HI:=hid hi
      clear hi
      have b2:(i:Int)<(n6:Int):=by omega
      subst ag
      obtain⟨g6,z6,bX,c6,bV,d6,f6,ae,aB⟩:=XM.out.spotDue (u:=k) hlt
      dsimp only at c6 d6
      have ax:Hid (zN b F val g6):=ae
      obtain⟨a0,aA⟩:∃q:Old,q = {ok with du:=yR ok.du k S}:=⟨_,rfl⟩
      have a4:Hid (RfM base (lG wr ⟨g6,z6+k,lI⟩ (lC S)) b (withD F (dUp F (zB F 8) (i+1))) val a0):=by have A:=aB S;rw[show yR (withD F (dUp F (zB F 8) i)).due k S=dUp F (zB F 8) (i+1)from M.out,<-aA]at A;exact A
      clear aB ae M aA
      go_upto_region 19 with fail
      go_region
      obtain⟨V,hV⟩:∃V,V=(lG wr ⟨g6,z6+k,lI⟩ (lC S)).drew:=⟨_,rfl⟩
      have aK:=hid (a4.out.iP brf.drew)
      have aS:Chg (zN b F val) wr (lG wr ⟨g6,z6+k,lI⟩ (lC S)).drew:=(Chg.set ax.out _ _ _).trans (Chg.jE _ brf.drew)
      have aJ:Hid (Li g (lG wr ⟨g6,z6+k,lI⟩ (lC S)).drew (kX (lJ ⟨g,z,lI⟩) F.ug F.ug) (zu (gUp F (zB F 8) i) F.ug)):=pE XL.out aS (fun q J=>by have h1:=HM.out.kI q J;have h2:=HG.out;omega)
      have al:Hid (Chg (fun q=>zN b F val q\/q=g) w3 (lG wr ⟨g6,z6+k,lI⟩ (lC S)).drew):=XC.out.trans (aS.mono (fun q J=>.inl J))
      rw[<-hV]at aK aJ al ⊢
      clear hV aS XM XL XC a4 ax c2 c3 c5 c6 d6 f6 bV aT L aW lb1
      obtain⟨b4,b5,ag,aW,s0,_,_⟩:=(ay.out.chg al.out a8.out) i aU
      injection ag with ag
      injection ag with bo bp
      subst bo
      subst bp
      have L:lH V ⟨sg,sz+i*3,lI⟩=lJ (lC S):=by
       rw[s0];show lJ (Value.string ⟨(txt ((yB (zu (zB F 8) F.k) (xi F)).ts i)).toArray⟩)=_;rw[a9.out]
      clear s0
      go_wp2_with fail
      refine(Js a7 (by unfold Hid negB;exact ee (by have A:=Rat.num_nonneg.2 aC.out.1;omega))).mono ?_
      rintro e7 w7 ⟨rfl,am⟩
      have bD:=hid (aK.out.iP am)
      have be:=hid (aJ.out.iP am)
      have bd:Hid (Chg (fun q=>zN b F val q\/q=g) w3 w7):=al.out.trans (Chg.jE _ am)
      clear am aK aJ al L aW
      obtain⟨q,J⟩:∃q:Nat,flZ D=(q:Int):=⟨(flZ D).toNat,by have:=ai.out;omega⟩
      have bP:q<10000:=by have h1:=ai.out;have h2:=K.out;omega
      rw[J]at O
      go_wp2_with fail
      refine(Ea J bP).mono ?_
      rintro e8 w8 ⟨rfl,bR⟩
      obtain rfl:=bR.symm
      clear J ai K aC a7
      obtain⟨g9,bY,e9,bM,lg,cp,fp⟩:=lS be.out (i:=k) (by rw[ic,JB];exact hlt)
      obtain⟨aO,bI,bJ⟩:=nR e9
      injection aO with aO
      injection aO with bK bL
      subst bK
      rw[<-HZ.out]at cp fp
      rw[eD,nZ _ hlt]at cp
      have b1:lH w7 ⟨g,z+k,lI⟩=lJ (kW lD (gUp F (zB F 8) i k)):=cp
      clear cp e9 bM bI bJ bL
      have bB:Hid (Li g (lG w7 ⟨g,z+k,lI⟩ (kW lD (q:Int))) (kX (lJ ⟨g,z,lI⟩) F.ug F.ug) (zu (gUp F (zB F 8) (i+1)) F.ug)):=by
       have A:=HZ.out
       subst A
       have h8:=be.out.put (i:=k) (by rw[JB]) (q:Int)
       rw[show(zu (gUp F (zB F 8) i) F.ug).set k (q:Int)=zu (gUp F (zB F 8) (i+1)) F.ug from mr _ _ _ _ _ (fun j _=>by rw[<-O.out];rfl)]at h8
       unfold Hid
       rw[eC];exact h8
      have bE:Hid (RfM base (lG w7 ⟨g,z+k,lI⟩ (kW lD (q:Int))) b (withD F (dUp F (zB F 8) (i+1))) val a0):=bD.out.far (fun h=>by have h1:=HM.out.kI g h;have h2:=HG.out;omega) _ _
      have bz:Hid (Chg (fun q=>zN b F val q\/q=g) w3 (lG w7 ⟨g,z+k,lI⟩ (kW lD (q:Int)))):=bd.out.trans (Chg.set (.inr rfl) _ _ _)
      clear O bd
      go_wp2
      go_roundg (F.ug-(k+1))
      case measure=>omega
      case rel=>exact⟨k+1,a0,rfl,by omega,by rw[C.out];go_num,by go_num,by rw[C.out];exact bE.out,by rw[C.out];exact bB.out,bz.out⟩
    ·obtain rfl:k=F.ug:=by omega
     have hki:¬ (F.ug:Int)<(F.ug:Int):=by omega
     clear hv1
     have a2:Hid (zp F.ut F.ug=zp F.ut 6):=by unfold Hid;rw[<-mA,<-mA,HO.out.ns_ug]
     have bF:Hid (RfM base wr b (withD F (xU F (zB F 8))) val ok):=by have A:=XM.out;rw[a2.out,Bu]at A;exact A
     have bC:Hid (Li w.heap.size wr (kX (lJ ⟨g,z,lI⟩) F.ug F.ug) (zu (zm F (zB F 8)) F.ug)):=by have A:=XL.out;rw[a2.out,BN]at A;exact A.mono HG.out
     have bA:Hid (Chg (zN b F val) w wr):=Chg.shed bc.out XC.out (fun q J hlt=>by rcases J with J|J;(exact J);(have:=HG.out;omega))
     go_wp2
     go_ret
     exact⟨lJ ⟨g,z,lI⟩,F.ug,rfl,bC.out,⟨ok,bF.out⟩,bA.out⟩
structure SR (base b:Nat)(E:Flt)(G:Nat->Int)(val:Tb->lN)(o:Old)(w0:lM)(s:FM)(w:lM):Prop where
  go:FGo (cG E G) s
  gn:Gn E s
  mem:RfM base w b (withM E s) val o
  chg:Chg (zN b E val) w0 w
structure SH (b:Nat)(E:Flt)(G:Nat->Int)(val:Tb->lN)(ga:Option Addr)(gc gb:Nat)(w0:lM):Prop where
  rf:RfO E
  ok:FOk (cG E G)
  le:∀i,i<6->E.ut i=lL->G i<=0
  li:Li gb w0 (kX ga E.ug gc) (zu G E.ug)
  own:∀k,zN b E val k->k<gb
section
variable{base b:Nat} {E:Flt} {G:Nat->Int} {val:Tb->lN} {o:Old} {ga:Option Addr} {gc gb:Nat} {w0 w:lM} {s:FM}
theorem SR.short (h:SR base b E G val o w0 s w) (k:SH b E G val ga gc gb w0) :
    Calls prog 167 #[kY (lJ ⟨b,0,lI⟩),kX ga E.ug gc] w fun e w'=>e=lF (kZ (zW (cG E G) s).isSome)/\SR base b E G val o w0 ((zW (cG E G) s).getD s) w':=
  (Em h.mem (k.rf.at h.go.kx h.gn) h.go k.le (pE k.li h.chg k.own) (JB _ _) (fun j hj=>qv (nZ _ hj)) k.own).mono (fun e w' ⟨h1,h2,h3⟩=>⟨h1,by
    cases hp:zW (cG E G) s with
    |none=>exact h.go
    |some t=>exact h.go.goal k.ok hp,by
    cases hp:zW (cG E G) s with
    |none=>exact h.gn
    |some t=>exact h.gn.goal h.go.kx.inv k.le hp,h2,h.chg.trans h3⟩)
theorem SR.more (h:SR base b E G val o w0 s w) (k:SH b E G val ga gc gb w0) :
    Calls prog 168 #[kY (lJ ⟨b,0,lI⟩)] w fun e w'=>e=lF (kZ (zw (cG E G) s).isSome)/\SR base b E G val o w0 ((zw (cG E G) s).getD s) w':=
  (Gt h.mem (k.rf.at h.go.kx h.gn) h.go.kx (fun i h6 ht=>(h.gn i h6 ht).1)).mono (fun e w' ⟨h1,h2,h3⟩=>⟨h1,by
    cases hp:zw (cG E G) s with
    |none=>exact h.go
    |some t=>exact h.go.fill hp,by
    cases hp:zw (cG E G) s with
    |none=>exact h.gn
    |some t=>exact h.gn.fill hp,h2,h.chg.trans h3⟩)
end
def Again (f:FM->Option FM)(mu:FM->Int)(s0 s:FM)(v:lN)(gg:Nat):Prop:=(∀z,Iter f s z->Iter f s0 z)/\((v=kZ lK/\gg=(mu s).toNat+1)\/(v=kZ lL/\gg=0/\f s=lI))
def Busy (c:FC)(m s:FM)(v:lN)(gg:Nat):Prop:=(v=kZ lK/\gg=(lack c s).toNat+1/\∀x z,Iter (zw c) s x->Outer c x z->Settles c m z)\/(v=kZ lL/\gg=0/\Settles c m s)
theorem Again.begin (f:FM->Option FM)(mu:FM->Int)(s:FM):Again f mu s s (kZ lK) ((mu s).toNat+1):=⟨fun z h=>h,.inl ⟨rfl,rfl⟩⟩
variable{f:FM->Option FM}{mu:FM->Int}{s0 s t:FM}{gg:Nat}
theorem Again.next (h:Again f mu s0 s v gg)(hp:f s=lJ t):Again f mu s0 t (kZ lK) ((mu t).toNat+1):=⟨fun z k=>h.1 z (.step hp k),.inl ⟨rfl,rfl⟩⟩
theorem Again.stop (h:Again f mu s0 s v gg)(hp:f s=lI):Again f mu s0 s (kZ lL) 0:=⟨h.1,.inr ⟨rfl,rfl,hp⟩⟩
theorem Again.fin (h:Again f mu s0 s v gg)(hp:f s=lI):Iter f s0 s:=h.1 s (.done hp)
variable{c:FC}
theorem FGo.lack_lt (h:FGo c s)(hp:zW c s=lJ t):(lack c t).toNat<(lack c s).toNat:=by
 obtain⟨u,m,l,g⟩:=mV h.kx.inv hp;have a:=g.lack;have b:=pS c t;omega
theorem FGo.waits_lt (h:FGo c s)(hp:zw c s=lJ t):(waits t).toNat<(waits s).toNat:=by
 obtain⟨u,m,f⟩:=mW hp;have a:=f.waits;have b:=(h.fill hp).kx.inv.waits;omega
theorem Dy (hdc:DuesC)(base b:Nat)(F:Flt)(val:Tb->lN)(o:Old)(w:lM)(hM:RfM base w b F val o)(hr:FReady F)(ho:RfO F)(ht:Tab w)(hn:Gn F F.m):Calls prog 134 #[kY (lJ ⟨b,0,lI⟩)] w fun e w'=>e=lF (lB #[])/\∃z o',RfM base w' b (withM (withD F (xU F (zB F 8))) z) val o'/\Settles (zC F (zB F 8) (zm F (zB F 8))) F.m z/\Chg (zN b F val) w w':=by
 have HM:=hid hM;have HR:=hid hr;have HO:=hid ho;have HT:=hid ht;have HN:=hid hn;have S:=hid hdc;clear hM hr ho ht hn hdc;go_enter func134,ntmps134;go_wp2_with fail;refine(S.out base b 0 F val o _ HM.out HR.out HO.out HT.out HN.out).mono ?_;rintro e1 q ⟨ga,gc,u,rfl,Y,Z,X⟩;obtain⟨E,C⟩:∃E,E=withD F (xU F (zB F 8)):=⟨_,rfl⟩;obtain⟨G,hG⟩:∃G,G=zm F (zB F 8):=⟨_,rfl⟩;(have K:Hid (cG E G=cG F (zm F (zB F 8))):=by unfold Hid;rw[C,hG];rfl);(have D:E.ug=F.ug:=by rw[C]);(have aa:RfO E:=by rw[C];have h:=HO.out;exact⟨h.k1,h.k4,h.mg,h.ug,h.mt,h.ut,h.ms,h.msz,h.msk,h.ud,h.udk,h.uw,h.on,h.tot,h.none,h.gone,h.kw,h.want,h.uw1⟩);(have P:zN b F val=zN b E val:=by rw[C];rfl);have V:Hid (SH b E G val ga gc w.heap.size q):=⟨aa,by rw[K.out];exact HR.out.ok,by rw[C,hG];exact Ey F _,by rw[D,hG];exact Y,fun k hk=>HM.out.kI k (by rw[P];exact hk)⟩;have ab:Hid (Chg (zN b F val) w q):=X;have d:Hid (SR base b E G val u q F.m q):=⟨by rw[K.out];exact HR.out.go,by rw[C];exact HN.out,by rw[C];exact Z,Chg.refl _ _⟩;have ae:=hid P;have ac:=hid C;rw[<-D];clear C hG D aa P Y Z X HM HR HO HT HN S;obtain⟨Q,O⟩:∃m,m=F.m:=⟨_,rfl⟩;rw[<-O]at d;have ad:=hid O;clear O;go_wp2
 go_loopg[3] ((lack (cG E G) Q).toNat+1) (fun gg sl wr=>∃q9:FM,Hid (Again (zW (cG E G)) (lack (cG E G)) Q q9 sl gg)/\Hid (SR base b E G val u q q9 wr))
 case atStart=>exact⟨Q,Again.begin _ _ _,d.out⟩
 case round=>
  obtain⟨s,g,d⟩:=hrel;obtain⟨H,l⟩:=g.out;rcases l with⟨rfl,p⟩|⟨rfl,p,c⟩
  ·clear H;go_wp2_with fail;refine(d.out.short V.out).mono ?_;rintro e7 J ⟨rfl,a⟩
   cases f:zW (cG E G) s with
   |none=>rw[f]at a;have j:Hid (SR base b E G val u q s J):=a;have i:=hid (g.out.stop f);clear a f g d;simp only[ju];go_wp2;go_roundg 0;(case measure=>omega);case rel=>exact⟨s,i.out,j.out⟩
   |some t=>rw[f]at a;have j:Hid (SR base b E G val u q t J):=a;have i:=hid (g.out.next f);have r:Hid ((lack (cG E G) t).toNat<(lack (cG E G) s).toNat):=d.out.go.lack_lt f;clear a f g d;simp only[jm];go_wp2;go_roundg ((lack (cG E G) t).toNat+1);(case measure=>have:=r.out;omega);case rel=>exact⟨t,i.out,j.out⟩
  ·have n:=hid (g.out.fin c);have R:Hid (Busy (cG E G) Q s (kZ lK) ((lack (cG E G) s).toNat+1)):=.inl ⟨rfl,rfl,fun x z hx ho=>⟨s,x,n.out,hx,ho⟩⟩;clear g H c p n;go_wp2
   go_loopg[4] ((lack (cG E G) s).toNat+1) (fun gg sl wr=>∃s:FM,Hid (Busy (cG E G) Q s sl gg)/\Hid (SR base b E G val u q s wr))
   case atStart=>exact⟨s,R.out,d.out⟩
   case round=>
    clear R d;obtain⟨s,R,d⟩:=hrel;rcases R.out with⟨rfl,p,W⟩|⟨rfl,p,I⟩
    ·have A:=hid W;have af:=hid d.out.go;clear W R;go_wp2
     go_loopg[5] ((waits s).toNat+1) (fun gg sl wr=>∃q9:FM,Hid (Again (zw (cG E G)) (waits) s q9 sl gg)/\Hid (SR base b E G val u q q9 wr))
     case atStart=>exact⟨s,Again.begin _ _ _,d.out⟩
     case round=>
      obtain⟨x,g,d⟩:=hrel;obtain⟨H,l⟩:=g.out;rcases l with⟨rfl,p⟩|⟨rfl,p,c⟩
      ·clear H;go_wp2_with fail;refine(d.out.more V.out).mono ?_;rintro e7 J ⟨rfl,a⟩
       cases f:zw (cG E G) x with
       |none=>rw[f]at a;have j:Hid (SR base b E G val u q x J):=a;have i:=hid (g.out.stop f);clear a f g d;simp only[ju];go_wp2;go_roundg 0;(case measure=>omega);case rel=>exact⟨x,i.out,j.out⟩
       |some t=>rw[f]at a;have j:Hid (SR base b E G val u q t J):=a;have i:=hid (g.out.next f);have r:Hid ((waits t).toNat<(waits x).toNat):=d.out.go.waits_lt f;clear a f g d;simp only[jm];go_wp2;go_roundg ((waits t).toNat+1);(case measure=>have:=r.out;omega);case rel=>exact⟨t,i.out,j.out⟩
      ·have n:=hid (g.out.fin c);have L:=hid (tm af.out n.out);have ah:=hid d.out.go;clear g H c;go_wp2_with fail;refine(d.out.short V.out).mono ?_;rintro e8 w8 ⟨rfl,v⟩
       cases f:zW (cG E G) x with
       |none=>
        rw[f]at v;have B:Hid (SR base b E G val u q x w8):=v;have M:Hid (Settles (cG E G) Q x):=A.out x x n.out (.done f);clear v f d A n L;simp only[ju];go_wp2
        go_loopg[6] 0 (fun gg sl wr=>sl=kZ lL/\Hid (SR base b E G val u q x wr))
        (case atStart=>exact⟨rfl,B.out⟩);case round=>clear B;obtain⟨rfl,B⟩:=hrel;go_wp2;go_roundg 0;(case measure=>omega);case rel=>exact⟨x,.inr ⟨rfl,rfl,M.out⟩,B.out⟩
       | some t=>
        rw[f]at v;have d:Hid (SR base b E G val u q t w8):=v;have T:=hid (ah.out.lack_lt f);have U:=hid f;have ag:=hid d.out.go;clear v f;simp only[jm];go_wp2
        go_loopg[6] ((lack (cG E G) t).toNat+1) (fun gg sl wr=>∃q9:FM,Hid (Again (zW (cG E G)) (lack (cG E G)) t q9 sl gg)/\Hid (SR base b E G val u q q9 wr))
        case atStart=>exact⟨t,Again.begin _ _ _,d.out⟩
        case round=>
         obtain⟨y,g,d⟩:=hrel;obtain⟨H,l⟩:=g.out;rcases l with⟨rfl,p⟩|⟨rfl,p,c⟩
         ·clear H;go_wp2_with fail;refine(d.out.short V.out).mono ?_;rintro e7 J ⟨rfl,a⟩
          cases f:zW (cG E G) y with
          |none=>rw[f]at a;have j:Hid (SR base b E G val u q y J):=a;have i:=hid (g.out.stop f);clear a f g d;simp only[ju];go_wp2;go_roundg 0;(case measure=>omega);case rel=>exact⟨y,i.out,j.out⟩
          |some t=>rw[f]at a;have j:Hid (SR base b E G val u q t J):=a;have i:=hid (g.out.next f);have r:Hid ((lack (cG E G) t).toNat<(lack (cG E G) y).toNat):=d.out.go.lack_lt f;clear a f g d;simp only[jm];go_wp2;go_roundg ((lack (cG E G) t).toNat+1);(case measure=>have:=r.out;omega);case rel=>exact⟨t,i.out,j.out⟩
         ·have N:=hid (g.out.fin c);(have M:Hid (∀x z,Iter (zw (cG E G)) y x->Outer (cG E G) x z->Settles (cG E G) Q z):=fun x9 z9 h8 h9=>A.out x z9 n.out (.more U.out N.out h8 h9));(have r:Hid ((lack (cG E G) y).toNat<(lack (cG E G) s).toNat):=by unfold Hid;have h1:=T.out;have h2:=L.out.2;have h3:=Aq V.out.ok ag.out N.out;have h4:=pS (cG E G) y;omega);clear g H c A N n U T L;go_wp2;go_roundg ((lack (cG E G) y).toNat+1);(case measure=>have:=r.out;omega);case rel=>exact⟨y,.inl ⟨rfl,rfl,M.out⟩,d.out⟩
    ·have XF:=hid I;clear I R;go_wp2;go_end0;refine⟨rfl,s,u,?_,?_,ab.out.trans ?_⟩
     ·rw[<-ac.out];exact d.out.mem
     ·rw[<-ad.out];have h9:=XF.out;rw[K.out]at h9;exact h9
     ·rw[ae.out];exact d.out.chg
end Go.Proofs.YtigokanoflkinaaGreatDoor
