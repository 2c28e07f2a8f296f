/- WStart, WHg, MFleet, joined. -/
import Derived.Test.YtigokanoflkinaaGreatDoorZE
set_option maxHeartbeats 4000000
set_option maxRecDepth 20000
namespace Go.Proofs.YtigokanoflkinaaGreatDoor
set_option linter.unusedSimpArgs false
set_option linter.unusedVariables false
open Go.RowKit Por Go.Proofs.Tryz
open Value renaming int->kW,slice->kX,pointer->kY,bool->kZ,agg->lA,string->lC
open IntKind renaming i64->lD
open Obj renaming cells->lE
open Ending renaming returned->lF
open World renaming setCell->lG,cell?->lH
open Option renaming none->lI,some->lJ
open Bool renaming true->lK,false->lL
open Go renaming World->lM,Value->lN
variable{r:Nat}
theorem B6 {f:Nat->Rat}{dem:List Int}(h:0<lm dem r):∀k,r<k->0<(enL f dem k).length:=by
 intro k
 induction k with
 |zero=>intro h;omega
 | succ k ih=>
  intro a;simp only[enL];by_cases e:r=k
  ·subst e;rw[ec (by omega),eK,iZ];omega
  ·have:=ih (by omega);split
   ·exact this
   ·rw[eK];omega
variable{w:lM}
theorem Bx.setc {b:Nat}{cs:Array lN}{T:TypeId}(h:Bx w b cs T)(j:Nat)(v:lN):Bx (lG w ⟨b,j,lI⟩ v) b (cs.setIfInBounds j v) T:=eP w b j _ _ v h
variable{pool:List Int}
theorem tG (h:∀i,yG (lm pool i)=lK)(i:Nat):Sm (zv pool i) 2:=Sm.amt (h i)
def ye (pool:List Int)(us:List Usr)(kk:Nat)(i:Nat):Rat:=rateQ (zv pool) (ug us i) kk
theorem IW {u:Usr}{dn:Nat}(hpa:∀i,yG (lm pool i)=lK)(hd:∀i,yG (lm u.dem i)=lK)(hl:0<(enL (zv pool) u.dem dn).length)(hw:1<=u.wt/\u.wt<=100):Sm (rateQ (zv pool) u dn) 9:=by
 unfold rateQ;have a:=rC (fun i hi=>Cq (n:=dn) (fun i hi=>tG hpa i) hd dn lR _ (rY hi)) hl _ lR;exact a.mul (Sm.int (by omega) (by omega))
variable{n:Nat}
theorem Dd {po:Option Addr}{pc:Nat}{ao:Option Addr}{cap:Nat}{us:List Usr}{kk:Nat}(hp:Arr w 1 po kk pc (zi pool))(hpa:∀i,yG (lm pool i)=lK)(hu:Users w ao n cap us)(hg:Good us kk)(hn6:n<=6)(hk4:kk<=4)(hk1:1<=kk)(ht:Tab w):Calls prog 24 #[kX po kk pc,kX ao n cap] w fun e w'=>∃d:FD,e=lF (kY (lJ ⟨d.sb,0,lI⟩))/\(d.n=n/\d.us=us/\d.kk=kk/\d.kw=zv pool)/\d.Ok w/\FS w d w' ⟨((0:Int):Rat),ye pool us kk,zeroF,zeroF⟩:=by
 have bg:=hp.len;rw[j9]at bg;have bN:=hu.1;have HP:=hid hp;have ab:=hid hpa;have HU:=hid hu;have HG:=hid hg;have HT:=hid ht;clear hp hpa hu hg ht;have aW:=(eB _ w).alloc lR (lE #[kX ao n cap,kX lI 0 0,kZ lL,kX lI 0 0,kX lI 0 0,kX lI 0 0,kX lI 0 0,kX lI 0 0] 92);have X0:=hid (i1 w #[kX ao n cap,kX lI 0 0,kZ lL,kX lI 0 0,kX lI 0 0,kX lI 0 0,kX lI 0 0,kX lI 0 0] 92);have Z:=hid aW;clear aW;obtain⟨q,aP⟩:∃q,(w.alloc (lE #[kX ao n cap,kX lI 0 0,kZ lL,kX lI 0 0,kX lI 0 0,kX lI 0 0,kX lI 0 0,kX lI 0 0] 92)).heap.size=q:=⟨_,rfl⟩;(have bi:w.heap.size<q:=by rw[<-aP];simp);have aU:=hid aP;clear aP;go_enter func24,ntmps24;go_wp2_with fail;refine(EN (HP.iP Z) ab (by omega) (HT.of Z)).mono ?_;rw[aU.out];rintro e1 w1 ⟨rfl,aY,aj⟩;rw[<-aU.out]at aj;have X1:=hid (X0.ji aj);have F1:=hid aY;have B1:Hid (Bl w w1):=et Z aj;clear aY aj X0;obtain⟨bk,br,bs⟩:=X1.s 1 rfl;(go_upto_region 3 with fail);obtain⟨W1,D⟩:∃W1,W1=lG w1 ⟨w.heap.size,1,lI⟩ (kX (lJ ⟨q,0,lI⟩) kk kk):=⟨_,rfl⟩;have aC:=hid (X1.setc 1 (kX (lJ ⟨q,0,lI⟩) kk kk));have aQ:w1.heap[w.heap.size]?=_:=X1;have ar:=hid (F1.jx (i:=1) (v:=kX (lJ ⟨q,0,lI⟩) kk kk) aQ (by decide) (by omega));have Q:Hid (Bl w (lG w1 ⟨w.heap.size,1,lI⟩ (kX (lJ ⟨q,0,lI⟩) kk kk))):=B1.setCell lR _;rw[<-D]at aC ar Q ⊢;clear D br bs bk aQ X1 F1 B1;go_wp2_with fail;refine(mx (by omega) (by omega) _ (HT.of Q)).mono ?_;rintro e2 w2 ⟨v2,rfl,⟨J,K,L,M,N,O,rfl,a1,a2⟩,ak⟩;have X2:=hid (aC.ji ak);have F2:=hid (ar.iP ak);have B2:Hid (Bl w w2):=et Q ak;have Z1:=hid a1;have Z2:=hid a2;clear a1 a2 ak aC ar Q;have y2:=X2.cell 2 _ rfl;have bo:=X2.frozen 2;have y3:=X2.cell 3 _ rfl;have bp:=X2.frozen 3;have y4:=X2.cell 4 _ rfl;have bq:=X2.frozen 4;have bl:=X2.lt;(go_upto_region 4 with fail);generalize D:World.setCell (World.setCell (World.setCell w2 _ _) _ _) _ _=W2;have eV:yr w2 w.heap.size 2 (kZ (negB ((0:Int):Rat))) (kX J K L) (kX M N O)=W2:=D;have F:w2.heap[w.heap.size]?=_:=X2;have ag:=hid (show Bx (yr w2 w.heap.size 2 (kZ (negB ((0:Int):Rat))) (kX J K L) (kX M N O)) w.heap.size #[kX ao n cap,kX (lJ ⟨q,0,lI⟩) kk kk,kZ (negB ((0:Int):Rat)),kX J K L,kX M N O,kX lI 0 0,kX lI 0 0,kX lI 0 0] 92 from rz F);have Y:=hid (F2.jH (o:=2) (u0:=kZ (negB ((0:Int):Rat))) (u1:=kX J K L) (u2:=kX M N O) F (by decide) (by omega));have aG:=hid (Z1.kF (o:=2) (u0:=kZ (negB ((0:Int):Rat))) (u1:=kX J K L) (u2:=kX M N O) F (by decide));have aH:=hid (Z2.kF (o:=2) (u0:=kZ (negB ((0:Int):Rat))) (u1:=kX J K L) (u2:=kX M N O) F (by decide));have X:=hid (np (o:=2) B2 lR (kZ (negB ((0:Int):Rat))) (kX J K L) (kX M N O));rw[eV]at ag Y aG aH X;clear D eV y2 y3 y4 bo bp bq bl F X2 F2 B2 Z1 Z2;go_wp2_with (at_make;refine sA _ rfl _ _ rfl _ _ n rfl rfl rfl rfl (by omega) ?_);intro w3 am E bx;have X3:=hid (ag.ji E);have F3:=hid (Y.iP E);have Z3:=hid (aG.iP E);have Z4:=hid (aH.iP E);have B3:Hid (Bl w w3):=et X E;have G3:=hid (am (ye pool us kk));have bA:=ag.lt;have bz:=Y.lt;clear am E ag Y aG aH X;obtain⟨bm,x5,bt⟩:=X3.s 5 rfl;(go_upto_region 5 with fail);obtain⟨W3,D⟩:∃W3,W3=lG w3 ⟨w.heap.size,5,lI⟩ (kX (lJ ⟨W2.heap.size,0,lI⟩) n n):=⟨_,rfl⟩;have W:w3.heap[w.heap.size]?=_:=X3;have aD:=hid (show Bx _ w.heap.size #[kX ao n cap,kX (lJ ⟨q,0,lI⟩) kk kk,kZ (negB ((0:Int):Rat)),kX J K L,kX M N O,kX (lJ ⟨W2.heap.size,0,lI⟩) n n,kX lI 0 0,kX lI 0 0] 92 from X3.setc 5 (kX (lJ ⟨W2.heap.size,0,lI⟩) n n));have au:=hid (F3.jx (i:=5) (v:=kX (lJ ⟨W2.heap.size,0,lI⟩) n n) W (by decide) (by omega));have ax:=hid (G3.jx (i:=5) (v:=kX (lJ ⟨W2.heap.size,0,lI⟩) n n) W (by decide) (by omega));have aI:=hid (Z3.kK w.heap.size 5 (kX (lJ ⟨W2.heap.size,0,lI⟩) n n) W (by decide));have aJ:=hid (Z4.kK w.heap.size 5 (kX (lJ ⟨W2.heap.size,0,lI⟩) n n) W (by decide));have aq:Hid (Bl w (lG w3 ⟨w.heap.size,5,lI⟩ (kX (lJ ⟨W2.heap.size,0,lI⟩) n n))):=B3.setCell lR _;rw[<-D]at aD au ax aI aJ aq ⊢;clear D x5 bt bm W X3 F3 G3 Z3 Z4 B3;go_wp2
 go_loopg[28] n (fun g ix wr=>∃k:Nat,g=n-k/\k<=n/\ix=kW lD k/\Hid (Bx wr w.heap.size #[kX ao n cap,kX (lJ ⟨q,0,lI⟩) kk kk,kZ (negB ((0:Int):Rat)),kX J K L,kX M N O,kX (lJ ⟨W2.heap.size,0,lI⟩) n n,kX lI 0 0,kX lI 0 0] 92)/\Hid (FB wr q kk kk (zv pool))/\Hid (FB wr W2.heap.size n k (ye pool us kk))/\Hid (Row wr J K L (zA ((0:Int):Rat).num.natAbs))/\Hid (Row wr M N O (zA ((0:Int):Rat).den))/\Hid (Bl w wr))
 case atStart=>exact⟨0,rfl,ep _,rfl,aD,au,ax,aI,aJ,aq⟩
 case round=>
  clear aD au ax aI aJ aq;obtain⟨k,bK,hk,rfl,hX,hF,hG,ah,ai,hB⟩:=hrel;by_cases aZ:k<n
  ·have bB:=hG.lt;(have bL:(k:Int)<(n:Int):=by omega);obtain⟨b,o,A,m,B,rfl,bJ,c0,c1,c2,hd⟩:=(HU.iP hB).get aZ;have aM:=hd.len;rw[j9,HG.out.len (i:=k) (by omega)]at aM;have aa:=hid aM;clear aM;have HD:=hid hd;clear hd;have c:=hid (i7 hX (lE #[kX A m B,kW lD (ug us k).wt,kW lD (ug us k).cap] 56));have f:=hid (i1 wr #[kX A m B,kW lD (ug us k).wt,kW lD (ug us k).cap] 56);have s:=hid (hF.alloc (lE #[kX A m B,kW lD (ug us k).wt,kW lD (ug us k).cap] 56));have t:=hid (hG.alloc (lE #[kX A m B,kW lD (ug us k).wt,kW lD (ug us k).cap] 56));have u:=hid (ah.alloc (lE #[kX A m B,kW lD (ug us k).wt,kW lD (ug us k).cap] 56));have x:=hid (ai.alloc (lE #[kX A m B,kW lD (ug us k).wt,kW lD (ug us k).cap] 56));have r:=hid (HD.alloc (lE #[kX A m B,kW lD (ug us k).wt,kW lD (ug us k).cap] 56));have l:Hid (Bl w (wr.alloc (lE #[kX A m B,kW lD (ug us k).wt,kW lD (ug us k).cap] 56))):=hB.alloc hB.size (lE #[kX A m B,kW lD (ug us k).wt,kW lD (ug us k).cap] 56);have bP:w.heap.size<=wr.heap.size:=hB.size;clear hX hF hG ah ai HD hB;go_wp2_with fail;generalize wr.alloc (lE #[kX A m B,kW lD (ug us k).wt,kW lD (ug us k).cap] 56)=V at c f s t u x r l ⊢;clear c0 c1 c2;obtain⟨I,m0,m1,m2⟩:=f.q3 rfl;have al:=c.lt;have s1:lH V ⟨w.heap.size,1,lI⟩=lJ (kX (lJ ⟨q,0,lI⟩) kk kk):=c.cell 1 _ rfl;have s5:lH V ⟨w.heap.size,5,lI⟩=lJ (kX (lJ ⟨W2.heap.size,0,lI⟩) n n):=c.cell 5 _ rfl;obtain⟨r0,bM,bh⟩:=HG.some (i:=k) (by omega);have aT:Hid (0<(enL (zv pool) (ug us k).dem m).length):=B6 bh m (by have:=aa.out;omega);have a0:=HG.wt (i:=k) (by omega);(have aX:m<=4:=by have:=aa.out;omega);have bw:=t.lt;(have SK:Hid (∀U,Bl V U->lH U ⟨w.heap.size,5,lI⟩=lJ (kX (lJ ⟨W2.heap.size,0,lI⟩) n n)/\lH U ⟨w.heap.size,1,lI⟩=lJ (kX (lJ ⟨q,0,lI⟩) kk kk)/\lH U ⟨wr.heap.size,0,lI⟩=lJ (kX A m B)/\lH U ⟨wr.heap.size,1,lI⟩=lJ (kW lD (ug us k).wt)/\lH U ⟨wr.heap.size,2,lI⟩=lJ (kW lD (ug us k).cap)):=fun U h=>⟨qs h s5 al,qs h s1 al,qs h m0 I,qs h m1 I,qs h m2 I⟩);(have KC:Hid (∀U,Bl V U->Calls prog 47 #[kX (lJ ⟨q,0,lI⟩) kk kk,lA #[kX A m B,kW lD (ug us k).wt,kW lD (ug us k).cap]] U (fun e w'=>∃v,e=lF v/\Frac w' v (rateQ (zv pool) (ug us k) m)/\Bl V w')):=fun U hU=>(EK (lJ ⟨q,0,lI⟩) kk kk (zv pool) A m B (ug us k) U ((s.iP hU).frs (by unfold maxLen;omega)) (fun i hi=>(tG ab i).mono (by omega)) (r.iP hU) (fun i=>HG.dem (i:=k) (by omega) i) (by have:=aa.out;omega) aX a0 aT (HT.of (et l hU))).mono (fun e w' ⟨v,h1,h2,h3⟩=>⟨v,h1,h2,hU.trans (h3.mono hU.size)⟩));have bI:V.drew.cell? ⟨w.heap.size,5,lI⟩=lJ (kX (lJ ⟨W2.heap.size,0,lI⟩) n n):=qd s5;have bH:V.drew.cell? ⟨w.heap.size,1,lI⟩=lJ (kX (lJ ⟨q,0,lI⟩) kk kk):=qd s1;have bE:V.drew.cell? ⟨wr.heap.size,0,lI⟩=lJ (kX A m B):=qd m0;have bF:V.drew.cell? ⟨wr.heap.size,1,lI⟩=lJ (kW lD (ug us k).wt):=qd m1;have bG:V.drew.cell? ⟨wr.heap.size,2,lI⟩=lJ (kW lD (ug us k).cap):=qd m2;go_region_held3 (fun w'=>lH w' ⟨w.heap.size,5,lI⟩=lJ (kX (lJ ⟨W2.heap.size,0,lI⟩) n n)/\lH w' ⟨w.heap.size,1,lI⟩=lJ (kX (lJ ⟨q,0,lI⟩) kk kk)/\lH w' ⟨wr.heap.size,0,lI⟩=lJ (kX A m B)/\lH w' ⟨wr.heap.size,1,lI⟩=lJ (kW lD (ug us k).wt)/\lH w' ⟨wr.heap.size,2,lI⟩=lJ (kW lD (ug us k).cap)) (first|exact SK _ brf.drew|exact SK _ a|exact SK _ a|exact⟨(ow (by omega)).trans (SK _ a).1,(ow (by omega)).trans (SK _ a).2.1,(ow (by omega)).trans (SK _ a).2.2.1,(ow (by omega)).trans (SK _ a).2.2.2.1,(ow (by omega)).trans (SK _ a).2.2.2.2⟩) (first|(go_at_call 47;refine(KC _ ?hU).mono ?_;(case hU=>exact brf.drew);rintro e7 w7 ⟨v7,rfl,⟨qa,qb,qc,qd,qe,qf,rfl,aN,aO⟩,a⟩;obtain⟨x0,bO⟩:=(t.iP a).has (j:=k*3) (by omega);have z0:=(t.iP a).frozen (k*3);obtain⟨x1,aQ⟩:=(t.iP a).has (j:=k*3+1) (by omega);have z1:=(t.iP a).frozen (k*3+1);obtain⟨x2,F⟩:=(t.iP a).has (j:=k*3+2) (by omega);have z2:=(t.iP a).frozen (k*3+2);have bW:=(t.iP a).lt));have aF:=hid (c.ji a);have aA:=hid (s.iP a);have S:=hid (t.iP a);have ae:=hid (u.iP a);have af:=hid (x.iP a);have az:Hid (Bl w w7):=et l a;clear f u x;clear SK KC;have ac:=hid aN;have ad:=hid aO;have aV:=hid (show Sm (rateQ (zv pool) (ug us k) m) 9 from IW ab (fun i=>HG.dem (i:=k) (by omega) i) aT a0);have bQ:=aN.sm1 aV;have bR:=aO.sm2 aV;clear aN aO a;go_wp2;go_roundg (n-(k+1));case measure=>omega
   case rel=>
    (have eq:rateQ (zv pool) (ug us k) m=ye pool us kk k:=by unfold ye;rw[aa.out]);have ap:=S.put aZ (ea k) (rateQ (zv pool) (ug us k) m) ac ad;rw[ed rfl]at ap;obtain⟨bv,aR⟩:=S.blk;refine⟨k+1,rfl,by omega,by go_num,Bx.jH aF _ _ _ (by omega),aA.jH aR (by decide) (by omega),ap.congr (fun j hj=>?_),ae.kF aR (by decide),af.kF aR (by decide),np az (by omega) _ _ _⟩;by_cases e:j=k
    ·subst e;rw[nW];exact eq
    ·rw[nS _ _ e]
  ·(obtain rfl:k=n:=by omega);have B4:=hB;have hbs:=hB.size;have bV:=hX.lt;have bU:=hF.lt;have bT:=hG.lt;go_wp2_with fail;refine(At (by omega) (HT.of hB)).mono ?_;rintro e4 w4 ⟨rfl,T,C⟩;have X4:=hid (hX.ji C);have F4:=hid (hF.iP C);have G4:=hid (hG.iP C);have Z5:=hid (ah.iP C);have Z6:=hid (ai.iP C);have T4:=hid T;have B4:Hid (Bl w w4):=et hB C;have bS:=T.lt;clear T C hX hF hG ah ai hB;obtain⟨a3,x6,bu⟩:=X4.s 6 rfl;(go_upto_region 11 with fail);obtain⟨P,D⟩:∃P,P=lG w4 ⟨w.heap.size,6,lI⟩ (kX (lJ ⟨wr.heap.size,0,lI⟩) k k):=⟨_,rfl⟩;have G:w4.heap[w.heap.size]?=_:=X4;have aE:=hid (show Bx _ w.heap.size #[kX ao k cap,kX (lJ ⟨q,0,lI⟩) kk kk,kZ (negB ((0:Int):Rat)),kX J K L,kX M N O,kX (lJ ⟨W2.heap.size,0,lI⟩) k k,kX (lJ ⟨wr.heap.size,0,lI⟩) k k,kX lI 0 0] 92 from X4.setc 6 (kX (lJ ⟨wr.heap.size,0,lI⟩) k k));have aw:=hid (F4.jx (i:=6) (v:=kX (lJ ⟨wr.heap.size,0,lI⟩) k k) G (by decide) (by omega));have ay:=hid (G4.jx (i:=6) (v:=kX (lJ ⟨wr.heap.size,0,lI⟩) k k) G (by decide) (by omega));have aB:=hid (T4.jx (i:=6) (v:=kX (lJ ⟨wr.heap.size,0,lI⟩) k k) G (by decide) (by omega));have aK:=hid (Z5.kK w.heap.size 6 (kX (lJ ⟨wr.heap.size,0,lI⟩) k k) G (by decide));have aL:=hid (Z6.kK w.heap.size 6 (kX (lJ ⟨wr.heap.size,0,lI⟩) k k) G (by decide));have R:Hid (Bl w (lG w4 ⟨w.heap.size,6,lI⟩ (kX (lJ ⟨wr.heap.size,0,lI⟩) k k))):=B4.setCell lR _;(have bj:w4.heap.size<=(lG w4 ⟨w.heap.size,6,lI⟩ (kX (lJ ⟨wr.heap.size,0,lI⟩) k k)).heap.size:=by simp[World.setCell]);rw[<-D]at aE aw ay aB aK aL R bj ⊢;clear D x6 bu G X4 F4 G4 T4 Z5 Z6 B4 a3;go_wp2_with fail;refine(At (by omega) (HT.of R)).mono ?_;rintro e5 w5 ⟨rfl,an,z⟩;have X5:=hid (aE.ji z);have F5:=hid (aw.iP z);have G5:=hid (ay.iP z);have T5:=hid (aB.iP z);have Z7:=hid (aK.iP z);have Z8:=hid (aL.iP z);have L5:=hid an;have B5:Hid (Bl w w5):=et R z;clear an z aE aw ay aB aK aL R;obtain⟨bC,x7,bX⟩:=X5.s 7 rfl;go_wp2;go_ret;have H:w5.heap[w.heap.size]?=_:=X5;(have bc:=show Bx _ w.heap.size #[kX ao k cap,kX (lJ ⟨q,0,lI⟩) kk kk,kZ (negB ((0:Int):Rat)),kX J K L,kX M N O,kX (lJ ⟨W2.heap.size,0,lI⟩) k k,kX (lJ ⟨wr.heap.size,0,lI⟩) k k,kX (lJ ⟨P.heap.size,0,lI⟩) k k] 92 from X5.setc 7 (kX (lJ ⟨P.heap.size,0,lI⟩) k k));have a5:=F5.jx (i:=7) (v:=kX (lJ ⟨P.heap.size,0,lI⟩) k k) H (by decide) (by omega);have a6:=G5.jx (i:=7) (v:=kX (lJ ⟨P.heap.size,0,lI⟩) k k) H (by decide) (by omega);have bb:=T5.jx (i:=7) (v:=kX (lJ ⟨P.heap.size,0,lI⟩) k k) H (by decide) (by omega);have a9:=L5.jx (i:=7) (v:=kX (lJ ⟨P.heap.size,0,lI⟩) k k) H (by decide) (by omega);have be:=Z7.kK w.heap.size 7 (kX (lJ ⟨P.heap.size,0,lI⟩) k k) H (by decide);have bf:=Z8.kK w.heap.size 7 (kX (lJ ⟨P.heap.size,0,lI⟩) k k) H (by decide);have a4:Bl w (lG w5 ⟨w.heap.size,7,lI⟩ (kX (lJ ⟨P.heap.size,0,lI⟩) k k)):=B5.setCell lR _;refine⟨⟨ao,k,cap,us,kk,zv pool,w.heap.size,q,W2.heap.size,wr.heap.size,P.heap.size⟩,rfl,⟨rfl,rfl,rfl,rfl⟩,⟨⟨?_,?_,?_,?_,?_,?_,?_,?_,?_,?_,?_,?_,?_,?_,?_⟩,HU,HG,hn6,hk4,hk1,fun i _=>tG ab i,HT⟩,⟨a4,⟨J,K,L,M,N,O,bc,be,bf⟩,a5,a6,bb,a9⟩⟩;all_goals (simp only[];omega)
def yt (d:FD)(lv:Nat->Rat)(i r:Nat):Nat->Bool
  |0=>lK
  |m+1=>yt d lv i r m&&!(decide (0<lm (ug d.us m).dem r)&&decide (lv i<lv m))
variable{d:FD}{lv:Nat->Rat}{i j m:Nat}
theorem DO (hj:j<m)(h0:0<lm (ug d.us j).dem r)(h1:lv i<lv j):yt d lv i r m=lL:=by
 induction m with
 |zero=>omega
 |succ m ih=>
  simp only[yt];by_cases e:j=m
  ·subst e;simp[h0,h1]
  ·rw[ih (by omega)];rfl
def yj (d:FD)(s:St)(i:Nat):Nat->Nat->Int
  |_,0=>-1
  |k,m+1=>if 0<lm (ug d.us i).dem k/\upB d s.ts k=lK/\yt d s.lv i k d.n=lK then(k:Int)else yj d s i (k+1) m
def yb (d:FD)(s:St)(i:Nat):Int:=if capB d s.ts i=lK then -1 else yj d s i 0 d.kk
variable{w0:lM}{s:St}
theorem C8 (h:FS w0 d w s)(ho:d.Ok w0)(hs:∀i,i<d.n->Sm (s.lv i) 60)(hi:i<d.n)(hr:r<d.kk):Calls prog 111 #[kY (lJ ⟨d.sb,0,lI⟩),kW lD i,kW lD r] w fun e w'=>e=lF (kZ (yt d s.lv i r d.n))/\Below w.heap.size w w':=by
 have aO:=ho.n6;have aM:=ho.k4;have aP:=ho.len;(have aL:(i:Int)<(d.n:Int):=by omega);have H:=h;clear h;obtain⟨la,lb,lc,ld,le,lf,y,z,A⟩:=H.box;have u:=y.lt;have g0:=y.cell 0 _ rfl;clear z A;clear y;have Y:=brw w;go_enter func111,ntmps111;go_wp2
 go_loopg[14] d.n (fun g ix wr=>∃k:Nat,g=d.n-k/\k<=d.n/\ix=kW lD k/\(yt d s.lv i r k=lK)/\Bl w wr)
 case atStart=>exact⟨0,rfl,ep _,rfl,rfl,Y⟩
 case round=>
  clear g0;obtain⟨k,aK,hk,rfl,hz,hB⟩:=hrel;clear Y;have au:=H.iP hB;by_cases D:k<d.n
  ·(have aN:(k:Int)<(d.n:Int):=by omega);obtain ⟨b,o,da,B,C,ap,aH,c0,c1,c2,hd⟩:=(ho.kr.iP au.bel).get D;have ac:=hd.len;rw[j9,ho.kx.len (i:=k) (by omega)] at ac;(have aJ:(r:Int)<(B:Int):=by omega);(have ar:r<B:=by omega);clear ac;obtain ⟨t,f,rfl,aI⟩:=hd.head (by omega);have aF:=JH (ho.kx.dem (i:=k) (by omega) r);have l:=i1 wr #[kX (lJ ⟨t,f,lI⟩) B C,kW lD (ug d.us k).wt,kW lD (ug d.us k).cap] 56;have m:=hd.alloc (lE #[kX (lJ ⟨t,f,lI⟩) B C,kW lD (ug d.us k).wt,kW lD (ug d.us k).cap] 56);have j:=hB.alloc hB.size (lE #[kX (lJ ⟨t,f,lI⟩) B C,kW lD (ug d.us k).wt,kW lD (ug d.us k).cap] 56);have aQ:=hB.size;clear hd hB;rw[ap];go_wp2_with fail;generalize wr.alloc (lE #[kX (lJ ⟨t,f,lI⟩) B C,kW lD (ug d.us k).wt,kW lD (ug d.us k).cap] 56)=V at l m j ⊢;clear c0 c1 c2;have cd:=m.int rfl ar;(have X:t<V.heap.size:=by obtain ⟨b9,o9,e9,h9⟩:=m.head (by omega);cases e9;exact h9);obtain ⟨W,m0,m1,m2⟩:=l.q3 rfl;generalize hx:lm (ug d.us k).dem r=x at cd aF;by_cases h0:0<x
   ·have T:=H.iP j;obtain⟨la,lb,lc,ld,le,lf,y,z,A⟩:=T.box;have u:=y.lt;have f7:=y.cell 7 _ rfl;clear y z A;have a:=T.lv.lt;obtain⟨F,G,I,J,K,L,u0,u1,u2,ad,ae⟩:=T.lv.cells D;have aR:=ad.sm1 (hs k D);have aS:=ae.sm2 (hs k D);obtain⟨M,N,O,P,Q,R,v0,v1,v2,af,ag⟩:=T.lv.cells hi;have aT:=af.sm1 (hs i hi);have aU:=ag.sm2 (hs i hi);obtain⟨c,aq⟩:∃c,xJ (s.lv k) (s.lv i)=c:=⟨_,rfl⟩;have an:=ei h0;by_cases hc:0<c
    ·have HE:=DO (d:=d) (lv:=s.lv) (i:=i) (r:=r) D (by rw[hx];exact h0) (by have h9:=aq;rw[<-h9]at hc;exact Cb.1 hc);have SK:=fun U (h:Bl V U)=>(⟨qs h m0 W,qs h cd X,qs h f7 u,qs h u0 a,qs h u1 a,qs h u2 a,qs h v0 a,qs h v1 a,qs h v2 a⟩:_/\_/\_/\_/\_/\_/\_/\_/\_);(have KC:∀U,Bl V U->Calls prog 101 #[lA #[kZ (negB (s.lv k)),kX F G I,kX J K L],lA #[kZ (negB (s.lv i)),kX M N O,kX P Q R]] U (fun e w'=>e=lF (kW lD c)/\Bl V w'):=fun U hU=>(o8 (ad.iP hU) (ae.iP hU) (af.iP hU) (ag.iP hU) (by omega) (by omega) (by omega) (by omega)).mono (fun e w' ⟨h1,h3⟩=>⟨h1.trans (by rw[aq]),hU.trans (h3.mono hU.size)⟩));have ay:=qq m0;have aw:=qq cd;have ax:=qq f7;have az:=qq u0;have aA:=qq u1;have aB:=qq u2;have aC:=qq v0;have aD:=qq v1;have aE:=qq v2;go_region_held3 (fun w'=>lH w' ⟨wr.heap.size,0,lI⟩=lJ (kX (lJ ⟨t,f,lI⟩) B C)/\lH w' ⟨t,f+r,lI⟩=lJ (kW lD x)/\lH w' ⟨d.sb,7,lI⟩=lJ (kX (lJ ⟨d.gl,0,lI⟩) d.n d.n)/\lH w' ⟨d.gl,k*3,lI⟩=lJ (kZ (negB (s.lv k)))/\lH w' ⟨d.gl,k*3+1,lI⟩=lJ (kX F G I)/\lH w' ⟨d.gl,k*3+2,lI⟩=lJ (kX J K L)/\lH w' ⟨d.gl,i*3,lI⟩=lJ (kZ (negB (s.lv i)))/\lH w' ⟨d.gl,i*3+1,lI⟩=lJ (kX M N O)/\lH w' ⟨d.gl,i*3+2,lI⟩=lJ (kX P Q R)) (first|exact SK _ brf.drew|exact SK _ q) (first|(go_at_call 101;refine(KC _ ?hU).mono ?_;(case hU=>exact brf.drew);rintro e7 w7 ⟨rfl,q⟩));have ab:=l.ji q;have aa:=m.iP q;have v:=et j q;clear l m j;clear q SK KC;go_wp2;go_ret;exact⟨by rw[HE];rfl,v⟩
    ·(have E:yt d s.lv i r (k+1)=lK:=by simp only[yt];rw[hz,ee (p:=s.lv i<s.lv k) (fun h=>hc (by rw[<-aq];exact Cb.2 h))];simp);have HE:=E;clear E;have SK:=fun U (h:Bl V U)=>(⟨qs h m0 W,qs h cd X,qs h f7 u,qs h u0 a,qs h u1 a,qs h u2 a,qs h v0 a,qs h v1 a,qs h v2 a⟩:_/\_/\_/\_/\_/\_/\_/\_/\_);(have KC:∀U,Bl V U->Calls prog 101 #[lA #[kZ (negB (s.lv k)),kX F G I,kX J K L],lA #[kZ (negB (s.lv i)),kX M N O,kX P Q R]] U (fun e w'=>e=lF (kW lD c)/\Bl V w'):=fun U hU=>(o8 (ad.iP hU) (ae.iP hU) (af.iP hU) (ag.iP hU) (by omega) (by omega) (by omega) (by omega)).mono (fun e w' ⟨h1,h3⟩=>⟨h1.trans (by rw[aq]),hU.trans (h3.mono hU.size)⟩));have ay:=qq m0;have aw:=qq cd;have ax:=qq f7;have az:=qq u0;have aA:=qq u1;have aB:=qq u2;have aC:=qq v0;have aD:=qq v1;have aE:=qq v2;go_region_held3 (fun w'=>lH w' ⟨wr.heap.size,0,lI⟩=lJ (kX (lJ ⟨t,f,lI⟩) B C)/\lH w' ⟨t,f+r,lI⟩=lJ (kW lD x)/\lH w' ⟨d.sb,7,lI⟩=lJ (kX (lJ ⟨d.gl,0,lI⟩) d.n d.n)/\lH w' ⟨d.gl,k*3,lI⟩=lJ (kZ (negB (s.lv k)))/\lH w' ⟨d.gl,k*3+1,lI⟩=lJ (kX F G I)/\lH w' ⟨d.gl,k*3+2,lI⟩=lJ (kX J K L)/\lH w' ⟨d.gl,i*3,lI⟩=lJ (kZ (negB (s.lv i)))/\lH w' ⟨d.gl,i*3+1,lI⟩=lJ (kX M N O)/\lH w' ⟨d.gl,i*3+2,lI⟩=lJ (kX P Q R)) (first|exact SK _ brf.drew|exact SK _ q) (first|(go_at_call 101;refine(KC _ ?hU).mono ?_;(case hU=>exact brf.drew);rintro e7 w7 ⟨rfl,q⟩));have ab:=l.ji q;have aa:=m.iP q;have v:=et j q;clear l m j;clear q SK KC;go_wp2;rw[<-ap];go_roundg (d.n-(k+1));exact⟨k+1,rfl,by omega,by go_num,HE,v⟩;omega
   ·have an:=ee h0;(have E:yt d s.lv i r (k+1)=lK:=by simp only[yt];rw[hz,hx,an];rfl);have HE:=E;clear E;go_quiet (fail);go_wp2;rw[<-ap];go_roundg (d.n-(k+1));exact⟨k+1,rfl,by omega,by go_num,HE,eY j _⟩;omega
  ·(obtain rfl:k=d.n:=by omega);go_wp2;go_ret;exact⟨by rw[hz];rfl,hB⟩
variable{k:Nat}
theorem rh (h:¬ (0<lm (ug d.us i).dem k/\upB d s.ts k=lK/\yt d s.lv i k d.n=lK)):yj d s i k (m+1)=yj d s i (k+1) m:=by
 rw[yj,ec h]
theorem wh (h1:0<lm (ug d.us i).dem k)(h2:upB d s.ts k=lK)(h3:yt d s.lv i k d.n=lK):yj d s i k (m+1)=(k:Int):=by
 rw[yj,ed ⟨h1,h2,h3⟩]
variable{g:Nat}
theorem E5 {L:Nat}(h:FS w0 d w s)(ho:d.Ok w0)(hs:∀i,i<d.n->Sm (s.lv i) 60)(hts:∀i,i<d.n->Sm (s.ts i) L)(hL:L<=10000)(hbb:BB w g d.kk d.kk (upB d s.ts))(hi:i<d.n):Calls prog 57 #[kY (lJ ⟨d.sb,0,lI⟩),kW lD i,kX (lJ ⟨g,0,lI⟩) d.kk d.kk] w fun e w'=>e=lF (kW lD (yb d s i))/\Below w.heap.size w w':=by
 have al:=ho.n6;have aj:=ho.k4;have am:=ho.len;(have ai:(i:Int)<(d.n:Int):=by omega);have H:=h;clear h;have j:=brw w;go_enter func57,ntmps57;go_wp2_with fail;refine(wJ H ho hts hL hi).mono ?_;rintro ae f ⟨rfl,t⟩;have a:=et j t;clear j;clear t
 cases q:capB d s.ts i with
 |true=>have l:=q;clear q;go_wp2;go_ret;exact⟨by unfold yb;rw[ed l];rfl,a⟩
 | false=>
  have l:=q;clear q;have F:=H.iP a;obtain⟨la,lb,lc,ld,le,lf,B,I,J⟩:=F.box;have ab:=B.lt;have Z:lH f ⟨d.sb,0,lI⟩=lJ (kX d.ao d.n d.cap):=B.cell 0 _ rfl;clear B I J;obtain⟨b,o,da,r,dc,z,af,c0,c1,c2,U⟩:=(ho.kr.iP F.bel).get hi;have C:=U.len;rw[j9,ho.kx.len (i:=i) (by omega)]at C;rw[z]at Z;clear z;go_wp2
  go_loopg[21] r (fun g ix wr=>∃k:Nat,g=r-k/\k<=r/\ix=kW lD k/\(yj d s i 0 d.kk=yj d s i k (d.kk-k))/\Bl f wr)
  case atStart=>exact⟨0,rfl,ep _,rfl,rfl,eB _ _⟩
  case round=>
   clear Z c0 c1 c2;obtain⟨k,ah,hk,rfl,M,hB⟩:=hrel;have c:=et a hB;(have ak:k<=d.kk:=by have:=C;omega);by_cases V:k<r
   ·(have G:k<d.kk:=by have:=C;omega);obtain ⟨m,hm⟩:∃ m,d.kk - k=m+1:=⟨d.kk - k - 1,by omega⟩;(have K:d.kk - (k+1)=m:=by omega);(have aa:(k:Int)<(d.kk:Int):=by omega);obtain ⟨db,ad,rfl,ag⟩:=U.head (by omega);have cd:=(U.iP hB).int rfl V;have q0:=(hbb.iP c).cell G;have an:=(hbb.iP c).lt;generalize hx:lm (ug d.us i).dem k=x at cd;generalize hy:upB d s.ts k=y at q0;by_cases h0:0<x
    ·cases y with
     |false=>(have E:yj d s i 0 d.kk=yj d s i (k+1) (d.kk-(k+1)):=by rw[M,hm,K];exact rh (fun h=>by rw[hy]at h;cases h.2.1));have p:=E;clear E;go_wp2;go_roundg (r-(k+1));exact⟨k+1,rfl,by omega,by go_num,p,hB⟩;omega
     |true=>
      go_wp2_with fail;refine(C8 (H.iP c) ho hs hi G).mono ?_;rintro e7 w7 ⟨rfl,A⟩;have Q:=et c A;have R:=et hB A;clear A
      cases P:yt d s.lv i k d.n with
      |false=>have S:=P;clear P;(have E:yj d s i 0 d.kk=yj d s i (k+1) (d.kk-(k+1)):=by rw[M,hm,K];exact rh (fun h=>by rw[S]at h;cases h.2.2));have p:=E;clear E;go_wp2;go_roundg (r-(k+1));exact⟨k+1,rfl,by omega,by go_num,p,R⟩;omega
      |true=>have S:=P;clear P;(have E:yj d s i 0 d.kk=(k:Int):=by rw[M,hm];exact wh (by rw[hx];exact h0) hy S);have p:=E;clear E;go_wp2;go_ret;exact⟨by unfold yb;rw[ec (by rw[l];simp),p];rfl,Q⟩
    ·(have E:yj d s i 0 d.kk=yj d s i (k+1) (d.kk-(k+1)):=by rw[M,hm,K];exact rh (fun h=>h0 (by have h9:=h.1;rw[hx]at h9;exact h9)));have p:=E;clear E;go_wp2;go_roundg (r-(k+1));exact⟨k+1,rfl,by omega,by go_num,p,hB⟩;omega
   ·(obtain rfl:k=r:=by omega);(have E:yj d s i 0 d.kk = -1:=by rw[M];have:=C;rw[show d.kk-k=0 by omega];rfl);have p:=E;clear E;go_wp2;go_ret;exact⟨by unfold yb;rw[ec (by rw[l];simp),p];rfl,c⟩
def ShB (w:lM)(g n k:Nat)(ts lv:Nat->Rat)(st:Nat->Int):Prop:=∃arr,w.heap[g]?=lJ (lE arr 35 (0,0))/\arr.size=n*3/\∀i,i<k->arr[i*3]?=lJ (lC ⟨(txt (ts i)).toArray⟩)/\arr[i*3+1]?=lJ (lC ⟨(txt (lv i)).toArray⟩)/\arr[i*3+2]?=lJ (kW lD (st i))
variable{ts:Nat->Rat}{st:Nat->Int}
theorem ShB.lt (h:ShB w g n k ts lv st):g<w.heap.size:=by
 obtain⟨a,b,_⟩:=h;exact(ek.1 b).1
variable{w':lM}
theorem ShB.iP (h:ShB w g n k ts lv st)(hb:Below w.heap.size w w'):ShB w' g n k ts lv st:=by
 obtain⟨a,b,c,d⟩:=h;exact⟨a,(hb.block g (ek.1 b).1).trans b,c,d⟩
theorem ShB.frozen (h:ShB w g n k ts lv st)(j:Nat):w.frozen? ⟨g,j,lI⟩=lL:=by
 obtain⟨a,b,_⟩:=h;exact jg w g j _ _ b
theorem ShB.has (h:ShB w g n k ts lv st)(hj:j<n*3):∃x,lH w ⟨g,j,lI⟩=lJ x:=by
 obtain⟨a,b,c,_⟩:=h;exact⟨a[j]'(by omega),(hH w g j _ _ _ b).trans (iN (by omega))⟩
def ShP (w:lM)(g n k j:Nat)(ts lv:Nat->Rat)(st:Nat->Int):Prop:=∃arr,w.heap[g]?=lJ (lE arr 35 (0,0))/\arr.size=n*3/\(∀i,i<k->arr[i*3]?=lJ (lC ⟨(txt (ts i)).toArray⟩)/\arr[i*3+1]?=lJ (lC ⟨(txt (lv i)).toArray⟩)/\arr[i*3+2]?=lJ (kW lD (st i)))/\(1<=j->arr[k*3]?=lJ (lC ⟨(txt (ts k)).toArray⟩))/\(2<=j->arr[k*3+1]?=lJ (lC ⟨(txt (lv k)).toArray⟩))
theorem ShP.iP (h:ShP w g n k j ts lv st)(hb:Below w.heap.size w w'):ShP w' g n k j ts lv st:=by
 obtain⟨a,b,c,d⟩:=h;exact⟨a,(hb.block g (ek.1 b).1).trans b,c,d⟩
theorem ShP.lt (h:ShP w g n k j ts lv st):g<w.heap.size:=by
 obtain⟨a,b,_⟩:=h;exact(ek.1 b).1
theorem ShP.frozen (h:ShP w g n k j ts lv st)(i:Nat):w.frozen? ⟨g,i,lI⟩=lL:=by
 obtain⟨a,b,_⟩:=h;exact jg w g i _ _ b
theorem ShP.has (h:ShP w g n k j ts lv st)(hj:i<n*3):∃x,lH w ⟨g,i,lI⟩=lJ x:=by
 obtain⟨a,b,c,_⟩:=h;exact⟨a[i]'(by omega),(hH w g i _ _ _ b).trans (iN (by omega))⟩
theorem ShB.part (h:ShB w g n k ts lv st):ShP w g n k 0 ts lv st:=by
 obtain⟨a,b,c,d⟩:=h;exact⟨a,b,c,d,fun h=>by omega,fun h=>by omega⟩
theorem ShP.put0 (h:ShP w g n k 0 ts lv st)(hk:k<n):ShP (lG w ⟨g,k*3,lI⟩ (lC ⟨(txt (ts k)).toArray⟩)) g n k 1 ts lv st:=by
 obtain⟨a,b,c,d,_⟩:=h;refine⟨_,eP w g _ _ _ _ b,by simp[c],fun i hi=>?_,fun _=>?_,fun h=>by omega⟩
 ·rw[eE (by omega),eE (by omega),eE (by omega)];exact d i hi
 ·rw[iA (by omega)]
theorem ShP.put1 (h:ShP w g n k 1 ts lv st)(hk:k<n):ShP (lG w ⟨g,k*3+1,lI⟩ (lC ⟨(txt (lv k)).toArray⟩)) g n k 2 ts lv st:=by
 obtain⟨a,b,c,d,e,_⟩:=h;refine⟨_,eP w g _ _ _ _ b,by simp[c],fun i hi=>?_,fun _=>?_,fun _=>?_⟩
 ·rw[eE (by omega),eE (by omega),eE (by omega)];exact d i hi
 ·rw[eE (by omega)];exact e (by omega)
 ·rw[iA (by omega)]
theorem ShP.put2 (h:ShP w g n k 2 ts lv st)(hk:k<n):ShB (lG w ⟨g,k*3+2,lI⟩ (kW lD (st k))) g n (k+1) ts lv st:=by
 obtain⟨a,b,c,d,f,j⟩:=h;refine⟨_,eP w g _ _ _ _ b,by simp[c],fun i hi=>?_⟩;by_cases e:i=k
 ·subst e;rw[eE (by omega),eE (by omega),iA (by omega)];exact⟨f (by omega),j (by omega),rfl⟩
 ·rw[eE (by omega),eE (by omega),eE (by omega)];exact d i (by omega)
theorem Tryz.infoShare:(prog.info? 35).map (fun i=>(i.zero,i.size,i.bytes))=lJ (lJ (lA #[lC ⟨#[]⟩,lC ⟨#[]⟩,kW lD 0]),3,40):=by kernel_rfl
theorem CB (w:lM){ops:Array Oper}{rest:List Oper}{o:Oper}{a:Act}{Q:Exit->Act->lM->Prop}(hg:o.guard=lI)(l c:Operand)(hop:o.op=Op.makeSlice 24 l c)(L C:Int)(n:Nat)(hl:a.eval l=kW lD L)(hc:a.eval c=kW lD C)(hL:L=(n:Int))(hC:C=(n:Int))(hn:n<=1000000)(hK:∀w',(∀ts lv st,ShB w' w.heap.size n 0 ts lv st)->Below w.heap.size w w'->w.heap.size<w'.heap.size->wpList prog ops Q rest (a.put o.dst (kX (lJ ⟨w.heap.size,0,lI⟩) n n)) w'):wpList prog ops Q (o::rest) a w:=by
 obtain⟨i,q,h,j,m⟩:=iM Tryz.infoShare;refine wpList_make_full w hg l c 24 hop w.heap.size 35 i (lA #[lC ⟨#[]⟩,lC ⟨#[]⟩,kW lD 0]) 3 underlying24 q h j lD lD L C n hl hc hL hC (by rw[m];omega) (by unfold maxLen;omega) lR ?_;intro w' u f;have t:Bl w w':=brf.grown f lR (fun k e=>by cases e);rcases u.2 with⟨b,_⟩|⟨g,r,d,b,_,p,v,x,s,y⟩
 ·cases b
 ·simp only[iV,io,Addr.mk.injEq,and_true,true_and]at b;obtain⟨rfl,rfl⟩:=b;exact hK w' (fun ts lv st=>⟨d,p,s,fun i q=>by omega⟩) t (ek.1 p).1
theorem Eh (h:FS w0 d w s)(ho:d.Ok w0)(hs:Small d s 60):Calls prog 26 #[kY (lJ ⟨d.sb,0,lI⟩)] w fun e w'=>∃g,w.heap.size<=g/\e=lF (kX (lJ ⟨g,0,lI⟩) d.n d.n)/\ShB w' g d.n d.n s.ts s.lv (yb d s)/\Below w.heap.size w w':=by
 have ah:=ho.n6;have ar:=ho.k4;have aw:=ho.len;have H:=hid h;have HO:=hid ho;have G:=hid hs;clear h ho hs;go_enter func26,ntmps26;(have ag:5+d.n*(60+3)<=10000:=by have:=hI 63 ah;omega);go_wp2_with fail;refine(wQ H.out HO.out G.out.ts ag).mono ?_;rintro e1 t ⟨rfl,K,V⟩;have A:=hid V;have ae:=hid K;have X:w.heap.size<t.heap.size:=K.lt;clear K V;have f:=hid (H.out.iP A.out);obtain⟨la,lb,lc,ld,le,lf,j,l,m⟩:=f.out.box;have ac:=j.lt;have g0:lH t ⟨d.sb,0,lI⟩=lJ (kX d.ao d.n d.cap):=j.cell 0 _ rfl;clear l m;clear j;go_wp2_with (at_make;refine CB _ rfl _ _ rfl _ _ d.n rfl rfl rfl rfl (by omega) ?_);intro w2 W I ap;have T:=hid (W s.ts s.lv (yb d s));have q0:=(I.cell (p:=⟨d.sb,0,lI⟩) ac).trans g0;(have az:d.sb<w2.heap.size:=by omega);have J:=hid I;clear W I g0;go_wp2
 go_loopg[19] d.n (fun g ix wr=>∃k:Nat,g=d.n-k/\k<=d.n/\ix=kW lD k/\Hid (ShB wr t.heap.size d.n k s.ts s.lv (yb d s))/\Hid (Below t.heap.size t wr))
 case atStart=>exact⟨0,rfl,ep _,rfl,T.out,J.out⟩
 case round=>
  clear q0 T J;obtain⟨k,aq,hk,rfl,hF,hB⟩:=hrel;have O:Hid (Below w.heap.size w wr):=et A.out hB.out;by_cases c:k<d.n
  ·(have au:(k:Int)<(d.n:Int):=by omega);have af:=hid hF.out.part;have a:=O;have b:=hB;have r:=hid (H.out.iP a.out);obtain⟨la,lb,lc,ld,le,lf,j,l,m⟩:=r.out.box;have aa:=j.lt;have f0:lH wr ⟨d.sb,6,lI⟩=lJ (kX (lJ ⟨d.gt,0,lI⟩) d.n d.n):=j.cell 6 _ rfl;clear j l m;obtain⟨ua,ub,uc,ud,ue,uf,c0,c1,c2,u,v⟩:=r.out.ts.cells c;have Y:=r.out.ts.lt;have L:=u.sm1 (G.out.ts k c);have M:=v.sm2 (G.out.ts k c);have D:=hid u;have E:=hid v;clear u v;go_wp2_with fail;refine(uW D.out E.out (by omega) (by omega) (HO.out.tab.of r.out.bel) (Cx (G.out.pos k c).1)).mono ?_;rintro e0 x0 ⟨rfl,x⟩;have B:=hid (af.out.iP x);have o:=hid (et a.out x);have q:=hid (et b.out x);clear x f0 c0 c1 c2 D E r a b aa Y L M;obtain⟨y0,ai⟩:=B.out.has (i:=k*3) (by omega);have z0:=B.out.frozen (k*3);have ak:=B.out.lt;have R:=hid (B.out.put0 c);have a:Hid (Below w.heap.size w (lG x0 ⟨t.heap.size,k*3,lI⟩ (lC ⟨(txt (s.ts k)).toArray⟩))):=o.out.setCell (ir X) _;have b:Hid (Below t.heap.size t (lG x0 ⟨t.heap.size,k*3,lI⟩ (lC ⟨(txt (s.ts k)).toArray⟩))):=q.out.setCell lR _;clear o q;(go_upto_region 7 with fail);obtain⟨N0,U⟩:∃N0,N0=lG x0 ⟨t.heap.size,k*3,lI⟩ (lC ⟨(txt (s.ts k)).toArray⟩):=⟨_,rfl⟩;rw[<-U]at R a b ⊢;clear U ai z0 ak B;have f:=hid (H.out.iP a.out);obtain⟨la,lb,lc,ld,le,lf,j,l,m⟩:=f.out.box;have ab:=j.lt;have f1:lH N0 ⟨d.sb,7,lI⟩=lJ (kX (lJ ⟨d.gl,0,lI⟩) d.n d.n):=j.cell 7 _ rfl;clear j l m;obtain⟨ua,ub,uc,ud,ue,uf,c0,c1,c2,u,v⟩:=f.out.lv.cells c;have Z:=f.out.lv.lt;have L:=u.sm1 (G.out.lv k c);have M:=v.sm2 (G.out.lv k c);have D:=hid u;have E:=hid v;clear u v;go_wp2_with fail;refine(uW D.out E.out (by omega) (by omega) (HO.out.tab.of f.out.bel) (Cx (G.out.pos k c).2)).mono ?_;rintro e1 x1 ⟨rfl,y⟩;have C:=hid (R.out.iP y);have o:=hid (et a.out y);have q:=hid (et b.out y);clear y f1 c0 c1 c2 D E f a b ab Z L M;obtain⟨y1,aj⟩:=C.out.has (i:=k*3+1) (by omega);have z1:=C.out.frozen (k*3+1);have al:=C.out.lt;have S:=hid (C.out.put1 c);have a:Hid (Below w.heap.size w (lG x1 ⟨t.heap.size,k*3+1,lI⟩ (lC ⟨(txt (s.lv k)).toArray⟩))):=o.out.setCell (ir X) _;have b:Hid (Below t.heap.size t (lG x1 ⟨t.heap.size,k*3+1,lI⟩ (lC ⟨(txt (s.lv k)).toArray⟩))):=q.out.setCell lR _;clear o q;(go_upto_region 8 with fail);obtain⟨N1,U⟩:∃N1,N1=lG x1 ⟨t.heap.size,k*3+1,lI⟩ (lC ⟨(txt (s.lv k)).toArray⟩):=⟨_,rfl⟩;rw[<-U]at S a b ⊢;clear U aj z1 al C;go_wp2_with fail;refine(E5 (H.out.iP a.out) HO.out G.out.lv G.out.ts (by omega) (ae.out.iP b.out) c).mono ?_;rintro e9 x9 ⟨rfl,z⟩;have F:=hid (S.out.iP z);have N:=hid (et b.out z);clear z;obtain⟨y9,ax⟩:=F.out.has (i:=k*3+2) (by omega);have z9:=F.out.frozen (k*3+2);have ay:=F.out.lt;go_wp2;go_roundg (d.n-(k+1));(case measure=>omega);case rel=>exact⟨k+1,rfl,by omega,by go_num,F.out.put2 c,N.out.setCell lR _⟩
  ·(obtain rfl:k=d.n:=by omega);go_wp2;go_ret;exact⟨t.heap.size,by omega,rfl,hF.out,O.out⟩
end Go.Proofs.YtigokanoflkinaaGreatDoor
namespace Go.Proofs.YtigokanoflkinaaGreatDoor.Por
set_option linter.unusedVariables false
def sumI (f:Nat->Int):Nat->Int
  |0=>0
  |n+1=>sumI f n+f n
variable{f g:Nat->Int}{n:Nat}
theorem oT (h:∀i,i<n->f i=g i):sumI f n=sumI g n:=by
 induction n with
 |zero=>rfl
 |succ n ih=>simp only[sumI];rw[ih (fun i hi=>h i (by omega)),h n (by omega)]
theorem pw (h:∀i,i<n->f i<=g i):sumI f n<=sumI g n:=by
 induction n with
 |zero=>exact Int.le_refl _
 |succ n ih=>simp only[sumI];have:=ih (fun i hi=>h i (by omega));have:=h n (by omega);omega
theorem mH (h:∀i,i<n->f i=0):sumI f n=0:=by
 induction n with
 |zero=>rfl
 |succ n ih=>simp only[sumI];rw[ih (fun i hi=>h i (by omega)),h n (by omega)];rfl
theorem JQ (h:∀i,i<n->0<=f i):0<=sumI f n:=by
 have:=pw (f:=fun _=>0) h
 rwa[mH (fun i _=>rfl)]at this
theorem GO (f g:Nat->Int)(n:Nat):sumI (fun i=>f i+g i) n=sumI f n+sumI g n:=by
 induction n with
 |zero=>rfl
 |succ n ih=>simp only[sumI];rw[ih];omega
theorem Hk (c:Int)(f:Nat->Int)(n:Nat):sumI (fun i=>c*f i) n=c*sumI f n:=by
 induction n with
 |zero=>simp[sumI]
 |succ n ih=>simp only[sumI];rw[ih,Int.mul_add]
variable{i:Nat}
theorem nz (hi:i<n)(h:∀j,j<n->j≠i->f j=g j):sumI f n=sumI g n+(f i-g i):=by
 induction n with
 |zero=>omega
 |succ n ih=>
  simp only[sumI];by_cases e:i=n
  ·subst e;rw[oT (fun j hj=>h j (by omega) (by omega))];omega
  ·rw[ih (by omega) (fun j hj hne=>h j (by omega) hne),h n (by omega) (fun e2=>e e2.symm)];omega
theorem l8 (h:∀j,j<n->0<=f j)(hi:i<n):f i<=sumI f n:=by
 induction n with
 |zero=>omega
 |succ n ih=>
  simp only[sumI];by_cases e:i=n
  ·subst e;have:=JQ (fun j hj=>h j (Nat.lt_succ_of_lt hj));omega
  ·have:=ih (fun j hj=>h j (by omega)) (by omega);have:=h n (by omega);omega
theorem mD {B:Int}(h:∀i,i<n->f i<=B):sumI f n<=n*B:=by
 induction n with
 |zero=>simp[sumI]
 |succ n ih=>have a:=ih (fun i hi=>h i (by omega));have b:=h n (by omega);(have e:((n+1:Nat):Int)*B=n*B+B:=by rw[Int.natCast_add,Int.add_mul];simp);simp only[sumI];rw[e];omega
theorem Fq (f:Nat->Nat->Int)(n m:Nat):sumI (fun i=>sumI (f i) m) n=sumI (fun j=>sumI (fun i=>f i j) n) m:=by
 induction n with
 |zero=>simp only[sumI];exact(mH (fun _ _=>rfl)).symm
 |succ n ih=>simp only[sumI];rw[ih,<-GO]
def zE (f:Nat->Int)(i:Nat)(x:Int):Nat->Int:=fun j=>if j=i then x else f j
theorem JP (f:Nat->Int)(i:Nat)(x:Int):zE f i x i=x:=if_pos rfl
variable{j:Nat}
theorem JJ (f:Nat->Int)(x:Int)(h:j≠i):zE f i x j=f j:=if_neg h
def yC (f:Nat->Nat->Int)(i k:Nat)(x:Int):Nat->Nat->Int:=fun j l=>if j=i/\l=k then x else f j l
theorem nU (f:Nat->Nat->Int)(i k:Nat)(x:Int):yC f i k x i k=x:=if_pos ⟨rfl,rfl⟩
theorem mR (f:Nat->Nat->Int)(k:Nat)(x:Int)(h:j≠i):yC f i k x j=f j:=funext fun l=>if_neg (fun h5=>h h5.1)
theorem pl (f:Nat->Nat->Int)(i j:Nat){k l:Nat}(x:Int)(h:l≠k):yC f i k x j l=f j l:=if_neg (fun h5=>h h5.2)
theorem rE (f:Nat->Nat->Int){k l:Nat}(x:Int)(h:¬ (j=i/\l=k)):yC f i k x j l=f j l:=if_neg h
structure FC where
  mt:Nat->Bool
  ms:Nat->Nat->Int
  ud:Nat->Nat->Int
  uw:Nat->Int
  uc:Nat->Int
  kq:Nat->Int
  goal:Nat->Int
structure FM where
  kV:Nat->Int
  on:Nat->Nat->Int
  ky:Nat->Int
def runs (s:FM)(u:Nat):Int:=sumI (s.on u) 8
def room (c:FC)(s:FM)(m r:Nat):Int:=c.ms m r-sumI (fun u=>c.ud u r*s.on u m) 6
def zU (a b:Nat->Int):Nat->Bool
  |0=>true
  |k+1=>zU a b k&&decide (b k<=a k)
theorem oe {a b:Nat->Int}:∀ {k},zU a b k=true↔∀r,r<k->b r<=a r:=by
 intro k
 induction k with
 |zero=>simp[zU]
 | succ k ih=>
  simp only[zU,Bool.and_eq_true,ih,decide_eq_true_eq];constructor
  ·intro h r c;by_cases e:r=k
   ·subst e;exact h.2
   ·exact h.1 r (by omega)
  ·exact fun h=>⟨fun r c=>h r (by omega),h k (by omega)⟩
def yT (c:FC)(s:FM)(u m:Nat):Bool:=c.mt m&&zU (room c s m) (c.ud u) 4
def zP (c:FC)(s:FM)(u:Nat):Nat->Nat×Int×Bool
  |0=>(0,0,false)
  |k+1=>let x:=zP c s u k
             if yT c s u k then(if !x.2.2||decide (sumI (room c s k) 4<x.2.1)then(k,sumI (room c s k) 4,true)else x)else x
def tight (c:FC)(s:FM)(u:Nat):Nat×Bool:=((zP c s u 8).1,(zP c s u 8).2.2)
theorem DT (c:FC)(s:FM)(u:Nat):∀k,((zP c s u k).2.2=true->(zP c s u k).1<k/\yT c s u (zP c s u k).1=true)/\((zP c s u k).2.2=false->∀m,m<k->yT c s u m=false):=by
 intro k
 induction k with
 |zero=>exact⟨fun h=>(by cases h),fun _ m hm=>by omega⟩
 | succ k ih=>
  simp only[zP]
  cases a:yT c s u k with
  |false=>
   simp only[Bool.false_eq_true,if_false];refine⟨fun h=>⟨by have:=(ih.1 h).1;omega,(ih.1 h).2⟩,fun h m hm=>?_⟩;by_cases e:m=k
   ·subst e;exact a
   ·exact ih.2 h m (by omega)
  | true=>
   simp only[if_true]
   cases b:(!(zP c s u k).2.2||decide (sumI (room c s k) 4<(zP c s u k).2.1))with
   |true=>simp only[if_true];exact⟨fun _=>⟨by omega,a⟩,fun h=>by cases h⟩
   | false=>
    simp only[Bool.false_eq_true,if_false]
    have d:(zP c s u k).2.2=true:=by
     cases f:(zP c s u k).2.2 with
     |true=>rfl
     |false=>rw[f]at b;cases b
    refine⟨fun h=>⟨by have:=(ih.1 h).1;omega,(ih.1 h).2⟩,fun h=>by rw[d]at h;cases h⟩
variable{c:FC}{s:FM}{u:Nat}
theorem jCt (h:(tight c s u).2=true):(tight c s u).1<8/\yT c s u (tight c s u).1=true:=(DT c s u 8).1 h
def yK (s:FM)(u m:Nat):FM:=⟨zE s.kV u (s.kV u-1),yC s.on u m (s.on u m+1),s.ky⟩
def wayF (s:FM)(u m:Nat):FM:=⟨zE s.kV u (s.kV u+1),yC s.on u m (s.on u m-1),zE s.ky u (s.ky u+1)⟩
def zj (a b:Int×Int):Bool:=decide (a.1*b.2<b.1*a.2)
def yI (c:FC)(u:Nat):Nat->Int×Int
  |0=>(0,1)
  |k+1=>if decide (0<c.ud u k)&&zj (yI c u k) (c.ud u k,c.kq k)then(c.ud u k,c.kq k)else yI c u k
def zl (c:FC)(u:Nat)(t:Int):Int×Int:=if t=0 then(0,1)else((yI c u 4).1*t,(yI c u 4).2*c.uw u)
def yV (c:FC)(s:FM)(u:Nat):Bool:=!(decide (s.kV u<1)||decide (c.uc u<=runs s u))&&(tight c s u).2
def zL (c:FC)(s:FM):Nat->Nat×(Int×Int)×Bool
  |0=>(0,(0,0),false)
  |k+1=>let x:=zL c s k
             if yV c s k then(if !x.2.2||zj (zl c k (runs s k)) x.2.1 then(k,zl c k (runs s k),true)else x)else x
theorem ti (c:FC)(s:FM):∀k,((zL c s k).2.2=true->(zL c s k).1<k/\yV c s (zL c s k).1=true)/\((zL c s k).2.2=false->∀m,m<k->yV c s m=false):=by
 intro k
 induction k with
 |zero=>exact⟨fun h=>(by cases h),fun _ m hm=>by omega⟩
 | succ k ih=>
  simp only[zL]
  cases a:yV c s k with
  |false=>
   simp only[Bool.false_eq_true,if_false];refine⟨fun h=>⟨by have:=(ih.1 h).1;omega,(ih.1 h).2⟩,fun h m hm=>?_⟩;by_cases e:m=k
   ·subst e;exact a
   ·exact ih.2 h m (by omega)
  | true=>
   simp only[if_true]
   cases b:(!(zL c s k).2.2||zj (zl c k (runs s k)) (zL c s k).2.1)with
   |true=>simp only[if_true];exact⟨fun _=>⟨by omega,a⟩,fun h=>by cases h⟩
   | false=>
    simp only[Bool.false_eq_true,if_false]
    have d:(zL c s k).2.2=true:=by
     cases f:(zL c s k).2.2 with
     |true=>rfl
     |false=>rw[f]at b;cases b
    refine⟨fun h=>⟨by have:=(ih.1 h).1;omega,(ih.1 h).2⟩,fun h=>by rw[d]at h;cases h⟩
def zw (c:FC)(s:FM):Option FM:=if (zL c s 6).2.2 then some (yK s (zL c s 6).1 (tight c s (zL c s 6).1).1)else none
structure FK where
  rm:Nat->Int
  kt:Nat->Int
  run:Nat->Int
  off:List Nat
def kBeg (c:FC)(s:FM)(m:Nat):FK:=⟨room c s m,fun u=>s.on u m,runs s,[]⟩
def zx (c:FC)(u:Nat)(k:FK)(j:Nat):Bool:=!(decide (j=u)||decide (k.kt j<1)||decide (k.run j<=c.goal j))
def zT (c:FC)(u:Nat)(k:FK):Nat->Nat×(Int×Int)×Bool
  |0=>(0,(0,0),false)
  |j+1=>let x:=zT c u k j
             if zx c u k j then(if !x.2.2||zj x.2.1 (zl c j (k.run j))then(j,zl c j (k.run j),true)else x)else x
theorem tB (c:FC)(u:Nat)(k:FK):∀n,((zT c u k n).2.2=true->(zT c u k n).1<n/\zx c u k (zT c u k n).1=true)/\((zT c u k n).2.2=false->∀m,m<n->zx c u k m=false):=by
 intro n
 induction n with
 |zero=>exact⟨fun h=>(by cases h),fun _ m hm=>by omega⟩
 | succ n ih=>
  simp only[zT]
  cases a:zx c u k n with
  |false=>
   simp only[Bool.false_eq_true,if_false];refine⟨fun h=>⟨by have:=(ih.1 h).1;omega,(ih.1 h).2⟩,fun h m hm=>?_⟩;by_cases e:m=n
   ·subst e;exact a
   ·exact ih.2 h m (by omega)
  | true=>
   simp only[if_true]
   cases b:(!(zT c u k n).2.2||zj (zT c u k n).2.1 (zl c n (k.run n)))with
   |true=>simp only[if_true];exact⟨fun _=>⟨by omega,a⟩,fun h=>by cases h⟩
   | false=>
    simp only[Bool.false_eq_true,if_false]
    have d:(zT c u k n).2.2=true:=by
     cases f:(zT c u k n).2.2 with
     |true=>rfl
     |false=>rw[f]at b;cases b
    refine⟨fun h=>⟨by have:=(ih.1 h).1;omega,(ih.1 h).2⟩,fun h=>by rw[d]at h;cases h⟩
def kOff (c:FC)(k:FK)(j:Nat):FK:=⟨fun r=>k.rm r+c.ud j r,zE k.kt j (k.kt j-1),zE k.run j (k.run j-1),k.off++[j]⟩
def yW (c:FC)(u:Nat)(k:FK):Option FK:=if zU k.rm (c.ud u) 4 then none else if (zT c u k 6).2.2 then some (kOff c k (zT c u k 6).1)else none
def zz (c:FC)(u:Nat):List Nat->(Nat->Int)->List Nat
  |[],_=>[]
  |j::l,rm=>if zU (fun r=>rm r-c.ud j r) (c.ud u) 4 then zz c u l (fun r=>rm r-c.ud j r)else j::zz c u l rm
inductive Iter {α:Type} (f:α->Option α):α->α->Prop
  |done {s:α} (h:f s=none):Iter f s s
  |step {s t z:α} (h:f s=some t) (i:Iter f t z):Iter f s z
theorem Iter.det {α:Type}{f:α->Option α}{s a b:α}(h:Iter f s a)(k:Iter f s b):a=b:=by
 induction h with
 |done h=>
  cases k with
  |done _=>rfl
  |step h2 _=>rw[h]at h2;cases h2
 |step h i ih=>
  cases k with
  |done h2=>rw[h]at h2;cases h2
  |step h2 j=>rw[h]at h2;cases h2;exact ih j
theorem Iter.last {α:Type}{f:α->Option α}{s a:α}(h:Iter f s a):f a=none:=by
 induction h with
 |done h=>exact h
 |step _ _ ih=>exact ih
theorem Iter.inv {α:Type}{f:α->Option α}{P:α->Prop}(hP:∀s t,P s->f s=some t->P t){s a:α}(h:Iter f s a)(h0:P s):P a:=by
 induction h with
 |done _=>exact h0
 |step h _ ih=>exact ih (hP _ _ h0 h)
theorem Iter.rel {α:Type}{f:α->Option α}{R:α->α->Prop}(hr:∀s,R s s)(ht:∀s t z,f s=some t->R t z->R s z){s a:α}(h:Iter f s a):R s a:=by
 induction h with
 |done _=>exact hr _
 |step h _ ih=>exact ht _ _ _ h ih
theorem Iter.ends {α:Type}{f:α->Option α}{P:α->Prop}(hP:∀s t,P s->f s=some t->P t)(μ:α->Nat)(hμ:∀s t,P s->f s=some t->μ t < μ s):∀n s,μ s<=n->P s->∃a,Iter f s a:=by
 intro n
 induction n with
 |zero=>
  intro s hs b
  cases e:f s with
  |none=>exact⟨s,.done e⟩
  |some t=>have:=hμ s t b e;omega
 |succ n ih=>
  intro s hs b
  cases e:f s with
  |none=>exact⟨s,.done e⟩
  |some t=>obtain⟨a,h⟩:=ih t (by have:=hμ s t b e;omega) (hP s t b e);exact⟨a,.step e h⟩
theorem Iter.part {α:Type}{f:α->Option α}{s a z:α}(h:Iter f s z)(hs:f s=some a):Iter f a z:=by
 cases h with
 |done h2=>rw[hs]at h2;cases h2
 |step h2 j=>rw[hs]at h2;cases h2;exact j
def kRun (c:FC)(u:Nat):Nat->FK->FK
  |0,k=>k
  | n+1,k=>match yW c u k with
    |none=>k
    |some k'=>kRun c u n k'
def kEnd (c:FC)(u:Nat)(k:FK):FK:=kRun c u (sumI k.kt 6).toNat k
variable{k k':FK}
theorem qR (h:yW c u k=some k'):∃j,j<6/\j≠u/\1<=k.kt j/\c.goal j<k.run j/\k'=kOff c k j/\zU k.rm (c.ud u) 4=false:=by
 unfold yW at h
 cases d:zU k.rm (c.ud u) 4 with
 |true=>rw[d]at h;simp at h
 |false=>
  rw[d]at h;simp only[Bool.false_eq_true,if_false]at h
  cases b:(zT c u k 6).2.2 with
  |false=>rw[b]at h;simp at h
  |true=>rw[b]at h;simp only[if_true,Option.some.injEq]at h;obtain⟨e,a⟩:=(tB c u k 6).1 b;unfold zx at a;simp only[Bool.not_eq_true',Bool.or_eq_false_iff,decide_eq_false_iff_not]at a;exact⟨_,e,a.1.1,by omega,by omega,h.symm,rfl⟩
theorem qN (h:yW c u k=some k'):sumI k'.kt 6=sumI k.kt 6-1:=by
 obtain⟨j,a,_,_,_,rfl,_⟩:=qR h;have:=nz (f:=(kOff c k j).kt) (g:=k.kt) a (fun i _ hne=>JJ _ _ hne);rw[this];show sumI k.kt 6+(zE k.kt j (k.kt j-1) j-k.kt j)=_;rw[JP];omega
theorem qE (h:yW c u k=some k')(h0:∀j,j<6->0<=k.kt j):∀j,j<6->0<=k'.kt j:=by
 obtain⟨i,d,_,b,_,rfl,_⟩:=qR h;intro j a;show 0<=zE k.kt i (k.kt i-1) j;by_cases e:j=i
 ·subst e;rw[JP];omega
 ·rw[JJ _ _ e];exact h0 j a
theorem GI:∀n k,(sumI k.kt 6).toNat<=n->(∀j,j<6->0<=k.kt j)->Iter (yW c u) k (kRun c u n k):=by
 intro n
 induction n with
 |zero=>
  intro k f a;have b:=JQ a
  cases e:yW c u k with
  |none=>exact .done e
  |some k'=>have d:=qN e;have g:=JQ (qE e a);omega
 |succ n ih=>
  intro k f a;simp only[kRun]
  cases e:yW c u k with
  |none=>exact .done e
  |some k'=>have d:=qN e;have b:=JQ a;exact .step e (ih k' (by omega) (qE e a))
theorem xz (h0:∀j,j<6->0<=k.kt j):Iter (yW c u) k (kEnd c u k):=GI _ k (Nat.le_refl _) h0
def yL (c:FC)(s:FM)(u m:Nat):Option (List Nat):=let k:=kEnd c u (kBeg c s m)
  if zU k.rm (c.ud u) 4 then some (zz c u k.off k.rm)else none
def zG (c:FC)(s:FM)(u:Nat):Nat->Nat×List Nat×Bool
  |0=>(0,[],false)
  |m+1=>let x:=zG c s u m
             if c.mt m then(match yL c s u m with
               |none=>x
               |some l=>if !x.2.2||decide (l.length<x.2.1.length)then(m,l,true)else x)else x
def zI (s:FM)(m:Nat):List Nat->FM
  |[]=>s
  |j::l=>zI (wayF s j m) m l
def yJ (c:FC)(s:FM)(u:Nat):Option FM:=
  if (tight c s u).2 then some (yK s u (tight c s u).1)
  else let x:=zG c s u 8
       if x.2.2 then some (yK (zI s x.1 x.2.1) u x.1)else none
def xW (c:FC)(s:FM):Nat->Nat->Option FM
  |_,0=>none
  | i,n+1=>if decide (c.goal i<=runs s i) then xW c s (i+1) n else match yJ c s i with
    |some t=>some t
    |none=>xW c s (i+1) n
def zW (c:FC)(s:FM):Option FM:=xW c s 0 6
inductive Outer (c:FC):FM->FM->Prop
  |done {s:FM} (h:zW c s=none):Outer c s s
  |more {s t v x z:FM} (h:zW c s=some t) (i:Iter (zW c) t v) (j:Iter (zw c) v x) (k:Outer c x z):Outer c s z
def Settles (c:FC)(s z:FM):Prop:=∃v x,Iter (zW c) s v/\Iter (zw c) v x/\Outer c x z
variable{a:FM}
theorem Outer.det (h:Outer c s a):∀b,Outer c s b->a=b:=by
 induction h with
 |done h=>
  intro b k
  cases k with
  |done _=>rfl
  |more h2 _ _ _=>rw[h]at h2;cases h2
 |more h i j _ ih=>
  intro b k
  cases k with
  |done h2=>rw[h]at h2;cases h2
  |more h2 i2 j2 k2=>rw[h]at h2;cases h2;have:=i.det i2;subst this;have:=j.det j2;subst this;exact ih b k2
theorem Settles.det {b:FM}(h:Settles c s a)(k:Settles c s b):a=b:=by
 obtain⟨v,x,d,e,f⟩:=h;obtain⟨l,m,g,i,j⟩:=k;have:=d.det g;subst this;have:=e.det i;subst this;exact f.det _ j
structure FOk (c:FC):Prop where
  ud:∀u,u<6->∀r,r<4->0<=c.ud u r
  goal:∀u,u<6->0<=c.goal u
structure FInv (c:FC)(s:FM):Prop where
  on:∀u,u<6->∀m,m<8->0<=s.on u m
  kV:∀u,u<6->0<=s.kV u
  kw:∀m,m<8->∀r,r<4->0<=room c s m r
  goal:∀u,u<6->c.goal u<=s.kV u+runs s u
  gone:∀m,m<8->c.mt m=false->∀u,u<6->s.on u m=0
variable{m:Nat}
theorem qK (hm:m<8)(j:Nat):runs (yK s u m) j=if j=u then runs s u+1 else runs s j:=by
 by_cases e:j=u
 ·subst e;rw[if_pos rfl];have:=nz (f:=(yK s j m).on j) (g:=s.on j) hm (fun i _ hne=>pl _ _ _ _ hne);show sumI ((yK s j m).on j) 8=_;rw[this];show sumI (s.on j) 8+(yC s.on j m (s.on j m+1) j m-s.on j m)=sumI (s.on j) 8+1;rw[nU];omega
 ·rw[if_neg e];show sumI (yC s.on u m (s.on u m+1) j) 8=_;rw[mR _ _ _ e];rfl
theorem AY (hm:m<8)(j:Nat):runs (wayF s u m) j=if j=u then runs s u-1 else runs s j:=by
 by_cases e:j=u
 ·subst e;rw[if_pos rfl];have:=nz (f:=(wayF s j m).on j) (g:=s.on j) hm (fun i _ hne=>pl _ _ _ _ hne);show sumI ((wayF s j m).on j) 8=_;rw[this];show sumI (s.on j) 8+(yC s.on j m (s.on j m-1) j m-s.on j m)=sumI (s.on j) 8-1;rw[nU];omega
 ·rw[if_neg e];show sumI (yC s.on u m (s.on u m-1) j) 8=_;rw[mR _ _ _ e];rfl
variable{t:FM}
theorem Bm (hu:u<6){x:Int}(ht:t.on=yC s.on u m x)(l r:Nat):room c t l r=if l=m then room c s m r-c.ud u r*(x-s.on u m)else room c s l r:=by
 unfold room;rw[ht];by_cases e:l=m
 ·subst e;rw[if_pos rfl];have:=nz (f:=fun i=>c.ud i r*yC s.on u l x i l) (g:=fun i=>c.ud i r*s.on i l) hu (fun i _ hne=>by show _*_=_;rw[mR _ _ _ hne]);rw[this];simp only[nU];rw[Int.mul_sub];omega
 ·rw[if_neg e];rw[oT (g:=fun u=>c.ud u r*s.on u l) (fun i _=>by show _*_=_;rw[pl _ _ _ _ e])]
theorem E9 (hu:u<6)(l r:Nat):room c (yK s u m) l r=if l=m then room c s m r-c.ud u r else room c s l r:=by
 rw[Bm (s:=s) hu (t:=yK s u m) rfl l r];split
 ·rw[show s.on u m+1-s.on u m=1 by omega,Int.mul_one]
 ·rfl
theorem AD (hu:u<6)(l r:Nat):room c (wayF s u m) l r=if l=m then room c s m r+c.ud u r else room c s l r:=by
 rw[Bm (s:=s) hu (t:=wayF s u m) rfl l r];split
 ·rw[show s.on u m-1-s.on u m = -1 by omega,Int.mul_neg,Int.mul_one];omega
 ·rfl
theorem tH:yT c s u m=true↔c.mt m=true/\∀r,r<4->c.ud u r<=room c s m r:=by
 unfold yT;rw[Bool.and_eq_true,oe]
theorem FInv.start (h:FInv c s)(hu:u<6)(hm:m<8)(hf:yT c s u m=true)(hw:0<s.kV u):FInv c (yK s u m):=by
 obtain⟨b,a⟩:=tH.1 hf;refine⟨fun v hv l hl=>?_,fun v hv=>?_,fun l hl r hr'=>?_,fun v hv=>?_,fun l hl hg v hv=>?_⟩
 ·show 0<=yC s.on u m (s.on u m+1) v l;unfold yC;split
  ·have:=h.on u hu m hm;omega
  ·exact h.on v hv l hl
 ·show 0<=zE s.kV u (s.kV u-1) v;unfold zE;split
  ·omega
  ·exact h.kV v hv
 ·rw[E9 hu];split
  ·have:=a r hr';omega
  ·exact h.kw l hl r hr'
 ·rw[qK hm];show c.goal v<=zE s.kV u (s.kV u-1) v+_;by_cases e:v=u
  ·subst e;rw[if_pos rfl,JP];have:=h.goal v hv;omega
  ·rw[if_neg e,JJ _ _ e];exact h.goal v hv
 ·show yC s.on u m (s.on u m+1) v l=0;rw[rE _ _ (fun h5=>by rw[h5.2,b]at hg;cases hg)];exact h.gone l hl hg v hv
theorem FInv.way (ho:FOk c)(h:FInv c s)(hu:u<6)(hm:m<8)(hn:0<s.on u m):FInv c (wayF s u m):=by
 refine⟨fun v hv l hl=>?_,fun v hv=>?_,fun l hl r hr'=>?_,fun v hv=>?_,fun l hl hg v hv=>?_⟩
 ·show 0<=yC s.on u m (s.on u m-1) v l;unfold yC;split
  ·omega
  ·exact h.on v hv l hl
 ·show 0<=zE s.kV u (s.kV u+1) v;unfold zE;split
  ·have:=h.kV u hu;omega
  ·exact h.kV v hv
 ·rw[AD hu];split
  ·rename_i e;subst e;have:=h.kw l hl r hr';have:=ho.ud u hu r hr';omega
  ·exact h.kw l hl r hr'
 ·rw[AY hm];show c.goal v<=zE s.kV u (s.kV u+1) v+_;by_cases e:v=u
  ·subst e;rw[if_pos rfl,JP];have:=h.goal v hv;omega
  ·rw[if_neg e,JJ _ _ e];exact h.goal v hv
 ·show yC s.on u m (s.on u m-1) v l=0;rw[rE _ _ (fun h5=>by have:=h.gone l hl hg v hv;rw[h5.1,h5.2]at this;omega)];exact h.gone l hl hg v hv
def xD (c:FC)(r:Nat):List Nat->Int
  |[]=>0
  |j::l=>c.ud j r+xD c r l
theorem tX (c:FC)(r:Nat)(l m:List Nat):xD c r (l++m)=xD c r l+xD c r m:=by
 induction l with
 |nil=>simp[xD]
 |cons j l ih=>simp only[List.cons_append,xD];rw[ih];omega
def zh (j:Nat)(l:List Nat):Int:=(l.count j:Int)
structure KInv (c:FC)(s:FM)(u m:Nat)(k:FK):Prop where
  kt:∀j,j<6->k.kt j=s.on j m-zh j k.off
  here0:∀j,j<6->0<=k.kt j
  run:∀j,j<6->k.run j=runs s j-zh j k.off
  ji:∀j,j∈k.off->j<6/\j≠u/\c.goal j<=k.run j
  rm:∀r,k.rm r=room c s m r+xD c r k.off
theorem Bn (i j:Nat)(l:List Nat):zh i (l++[j])=zh i l+if i=j then 1 else 0:=by
 unfold zh;rw[List.count_append,List.count_singleton];by_cases e:i=j
 ·subst e;simp
 ·rw[if_neg e];(have:(j == i)=false:=by simp;exact fun h=>e h.symm);rw[this];simp
theorem KInv.beg (h:FInv c s)(hm:m<8):KInv c s u m (kBeg c s m):=by
 refine⟨fun j hj=>?_,fun j hj=>h.on j hj m hm,fun j hj=>?_,fun j hj=>(by cases hj),fun r=>?_⟩
 ·show s.on j m=s.on j m-((List.count j []:Nat):Int);simp
 ·show runs s j=runs s j-((List.count j []:Nat):Int);simp
 ·show room c s m r=room c s m r+0;omega
theorem KInv.step (h:KInv c s u m k)(hk:yW c u k=some k'):KInv c s u m k':=by
 obtain⟨i,f,d,g,l,rfl,_⟩:=qR hk;refine⟨fun j hj=>?_,qE hk h.here0,fun j hj=>?_,fun j hj=>?_,fun r=>?_⟩
 ·show zE k.kt i (k.kt i-1) j=s.on j m-zh j (k.off++[i]);rw[Bn];have:=h.kt j hj;by_cases e:j=i
  ·subst e;rw[JP,if_pos rfl];omega
  ·rw[JJ _ _ e,if_neg e];omega
 ·show zE k.run i (k.run i-1) j=runs s j-zh j (k.off++[i]);rw[Bn];have:=h.run j hj;by_cases e:j=i
  ·subst e;rw[JP,if_pos rfl];omega
  ·rw[JJ _ _ e,if_neg e];omega
 ·have b:j∈k.off\/j=i:=by
   have:j∈k.off++[i]:=hj
   simpa using this
  show j<6/\j≠u/\c.goal j<=zE k.run i (k.run i-1) j;by_cases e:j=i
  ·subst e;rw[JP];exact⟨f,d,by omega⟩
  ·rw[JJ _ _ e];rcases b with a|a
   ·exact h.ji j a
   ·exact absurd a e
 ·show k.rm r+c.ud i r=room c s m r+xD c r (k.off++[i]);rw[tX,h.rm r];simp only[xD];omega
theorem KInv.fin (h:FInv c s)(hm:m<8):KInv c s u m (kEnd c u (kBeg c s m))/\yW c u (kEnd c u (kBeg c s m))=none:=by
 have a:=xz (c:=c) (u:=u) (k:=kBeg c s m) (fun j hj=>h.on j hj m hm);exact⟨a.inv (P:=KInv c s u m) (fun _ _ h1 h2=>h1.step h2) (KInv.beg h hm),a.last⟩
theorem Id:∀(l:List Nat) (rm:Nat->Int),(zz c u l rm).Sublist l:=by
 intro l
 induction l with
 |nil=>intro rm;exact List.Sublist.refl _
 |cons j l ih=>
  intro rm;simp only[zz];split
  ·exact(ih _).cons j
  ·exact(ih _).cons_cons j
theorem ET:∀(l:List Nat) (rm:Nat->Int),(∀r,r<4->c.ud u r<=rm r)->∀r,r<4->c.ud u r<=rm r-xD c r l+xD c r (zz c u l rm):=by
 intro l
 induction l with
 |nil=>intro rm h r a;simp only[xD,zz];have:=h r a;omega
 |cons j l ih=>
  intro rm h r a;simp only[zz]
  cases d:zU (fun r=>rm r-c.ud j r) (c.ud u) 4 with
  |true=>simp only[if_true];have b:=ih (fun r=>rm r-c.ud j r) (oe.1 d) r a;simp only[xD];omega
  |false=>simp only[Bool.false_eq_true,if_false];have b:=ih rm h r a;simp only[xD];omega
structure Cleared (c:FC)(s:FM)(u m:Nat)(l:List Nat):Prop where
  mem:∀j,j∈l->j<6/\j≠u/\c.goal j<=runs s j-zh j l
  on:∀j,j<6->zh j l<=s.on j m
  fits:∀r,r<4->c.ud u r<=room c s m r+xD c r l
variable{l:List Nat}
theorem sV (h:FInv c s)(hm:m<8)(hc:yL c s u m=some l):Cleared c s u m l:=by
 obtain⟨d,_⟩:=KInv.fin (u:=u) h hm;unfold yL at hc;simp only at hc
 cases f:zU (kEnd c u (kBeg c s m)).rm (c.ud u) 4 with
 |false=>rw[f]at hc;simp at hc
 |true=>
  rw[f]at hc;simp only[if_true,Option.some.injEq]at hc;subst hc;generalize kEnd c u (kBeg c s m)=k at *;have b:=Id (c:=c) (u:=u) k.off k.rm;(have a:∀j,zh j (zz c u k.off k.rm)<=zh j k.off:=fun j=>by unfold zh;have:=b.count_le j;omega);refine⟨fun j hj=>?_,fun j hj=>?_,fun r hr=>?_⟩
  ·obtain⟨e,g,i⟩:=d.ji j (b.subset hj);have:=d.run j e;have:=a j;exact⟨e,g,by omega⟩
  ·have:=d.kt j hj;have:=d.here0 j hj;have:=a j;omega
  ·have e:=ET (c:=c) (u:=u) k.off k.rm (oe.1 f) r hr;rw[d.rm r]at e;omega
theorem oQ (j a:Nat)(l:List Nat):zh j (a::l)=zh j l+if j=a then 1 else 0:=by
 unfold zh;by_cases e:j=a
 ·subst e;rw[List.count_cons_self,if_pos rfl];omega
 ·rw[List.count_cons_of_ne (fun h=>e h.symm),if_neg e];omega
theorem lU (j:Nat)(l:List Nat):0<=zh j l:=by unfold zh;omega
theorem lY (m:Nat):∀(l:List Nat) (s:FM) (j k:Nat),(zI s m l).on j k=s.on j k-if k=m then zh j l else 0:=by
 intro l
 induction l with
 |nil=>intro s j k;show s.on j k=_;unfold zh;simp
 |cons a l ih=>
  intro s j k;show(zI (wayF s a m) m l).on j k=_;rw[ih,oQ];show yC s.on a m (s.on a m-1) j k-_=_;unfold yC;by_cases c:j=a<;>by_cases b:k=m
  ·subst c;subst b;simp;omega
  ·simp[b]
  ·simp[c,b]
  ·simp[c,b]
theorem oO (m:Nat):∀(l:List Nat) (s:FM) (j:Nat),(zI s m l).kV j=s.kV j+zh j l:=by
 intro l
 induction l with
 |nil=>intro s j;show s.kV j=_;unfold zh;simp
 |cons a l ih=>
  intro s j;show(zI (wayF s a m) m l).kV j=_;rw[ih,oQ];show zE s.kV a (s.kV a+1) j+_=_;unfold zE;by_cases b:j=a
  ·subst b;simp;omega
  ·simp[b]
theorem AQ (m:Nat):∀(l:List Nat) (s:FM) (j:Nat),(zI s m l).ky j=s.ky j+zh j l:=by
 intro l
 induction l with
 |nil=>intro s j;show s.ky j=_;unfold zh;simp
 |cons a l ih=>
  intro s j;show(zI (wayF s a m) m l).ky j=_;rw[ih,oQ];show zE s.ky a (s.ky a+1) j+_=_;unfold zE;by_cases b:j=a
  ·subst b;simp;omega
  ·simp[b]
theorem pY (hm:m<8):∀(l:List Nat) (s:FM) (j:Nat),runs (zI s m l) j=runs s j-zh j l:=by
 intro l
 induction l with
 |nil=>intro s j;show runs s j=_;unfold zh;simp
 |cons a l ih=>
  intro s j;show runs (zI (wayF s a m) m l) j=_;rw[ih,oQ,AY hm];by_cases b:j=a
  ·subst b;simp;omega
  ·simp[b]
theorem oP:∀(l:List Nat) (s:FM),(∀j,j∈l->j<6)->∀k r,room c (zI s m l) k r=room c s k r+if k=m then xD c r l else 0:=by
 intro l
 induction l with
 |nil=>intro s _ k r;show room c s k r=_;simp[xD]
 |cons a l ih=>
  intro s b k r;show room c (zI (wayF s a m) m l) k r=_;rw[ih _ (fun j hj=>b j (List.mem_cons_of_mem _ hj)),AD (b a List.mem_cons_self)];by_cases e:k=m
  ·subst e;simp[xD];omega
  ·simp[e]
theorem DJ (ho:FOk c){r:Nat}(hr:r<4):∀l:List Nat,(∀j,j∈l->j<6)->0<=xD c r l:=by
 intro l
 induction l with
 |nil=>intro _;exact Int.le_refl _
 |cons a l ih=>intro b;have:=ih (fun j hj=>b j (List.mem_cons_of_mem _ hj));have:=ho.ud a (b a List.mem_cons_self) r hr;simp only[xD];omega
theorem Cleared.inv (ho:FOk c)(h:FInv c s)(hm:m<8)(hc:Cleared c s u m l):FInv c (zI s m l):=by
 (have a:∀j,j∈l->j<6:=fun j hj=>(hc.mem j hj).1);refine⟨fun v hv k hk=>?_,fun v hv=>?_,fun k hk r hr=>?_,fun v hv=>?_,fun k hk hg v hv=>?_⟩
 ·rw[lY];split
  ·rename_i e;subst e;have:=hc.on v hv;omega
  ·have:=h.on v hv k hk;omega
 ·rw[oO];have:=h.kV v hv;have:=lU v l;omega
 ·rw[oP l s a];have:=h.kw k hk r hr;have:=DJ ho hr l a;split<;>omega
 ·rw[oO,pY hm];have:=h.goal v hv;omega
 ·rw[lY];have b:=h.gone k hk hg v hv;split
  ·rename_i e;subst e;have:=hc.on v hv;have:=lU v l;omega
  ·omega
theorem Cleared.zero (hc:Cleared c s u m l):zh u l=0:=by
 unfold zh;rw[List.count_eq_zero.2 (fun h=>(hc.mem u h).2.1 rfl)];rfl
structure Goal1 (c:FC)(s t:FM)(u m:Nat)(l:List Nat):Prop where
  hu:u<6
  hm:m<8
  lt:runs s u<c.goal u
  mt:c.mt m=true
  cl:Cleared c s u m l
  eq:t=yK (zI s m l) u m
theorem Goal1.inv (ho:FOk c)(h:FInv c s)(g:Goal1 c s t u m l):FInv c t:=by
 rw[g.eq];refine(g.cl.inv ho h g.hm).start g.hu g.hm (tH.2 ⟨g.mt,fun r hr=>?_⟩) ?_
 ·rw[oP l s (fun j hj=>(g.cl.mem j hj).1),if_pos rfl];exact g.cl.fits r hr
 ·rw[oO,g.cl.zero];have:=h.goal u g.hu;have:=g.lt;omega
theorem Goal1.runs (g:Goal1 c s t u m l)(j:Nat):Por.runs t j=Por.runs s j-zh j l+if j=u then 1 else 0:=by
 rw[g.eq,qK g.hm,pY g.hm,pY g.hm];by_cases e:j=u
 ·subst e;simp
 ·simp[e]
theorem Goal1.kV (g:Goal1 c s t u m l)(j:Nat):t.kV j=s.kV j+zh j l-if j=u then 1 else 0:=by
 rw[g.eq];show zE (zI s m l).kV u ((zI s m l).kV u-1) j=_;unfold zE;by_cases e:j=u
 ·subst e;simp[oO]
 ·simp[e,oO]
theorem Goal1.ky (g:Goal1 c s t u m l)(j:Nat):t.ky j=s.ky j+zh j l:=by
 rw[g.eq];exact AQ m l s j
theorem choose_spec (c:FC)(s:FM)(u:Nat):∀k,((zG c s u k).2.2=true->(zG c s u k).1<k/\c.mt (zG c s u k).1=true/\yL c s u (zG c s u k).1=some (zG c s u k).2.1)/\((zG c s u k).2.2=false->∀m,m<k->c.mt m=true->yL c s u m=none):=by
 intro k
 induction k with
 |zero=>exact⟨fun h=>(by cases h),fun _ m hm=>by omega⟩
 | succ k ih=>
  simp only[zG]
  cases b:c.mt k with
  |false=>
   simp only[Bool.false_eq_true,if_false];refine⟨fun h=>⟨by have:=(ih.1 h).1;omega,(ih.1 h).2⟩,fun h m hm hmt=>?_⟩;by_cases e:m=k
   ·subst e;rw[b]at hmt;cases hmt
   ·exact ih.2 h m (by omega) hmt
  | true=>
   simp only[if_true]
   cases a:yL c s u k with
   |none=>
    simp only;refine⟨fun h=>⟨by have:=(ih.1 h).1;omega,(ih.1 h).2⟩,fun h m hm hmt=>?_⟩;by_cases e:m=k
    ·subst e;exact a
    ·exact ih.2 h m (by omega) hmt
   | some l=>
    simp only
    cases d:(!(zG c s u k).2.2||decide (l.length<(zG c s u k).2.1.length))with
    |true=>simp only[if_true];exact⟨fun _=>⟨by omega,b,a⟩,fun h=>(by cases h)⟩
    | false=>
     simp only[Bool.false_eq_true,if_false]
     have f:(zG c s u k).2.2=true:=by
      cases g:(zG c s u k).2.2 with
      |true=>rfl
      |false=>rw[g]at d;cases d
     exact⟨fun h=>⟨by have:=(ih.1 h).1;omega,(ih.1 h).2⟩,fun h=>by rw[f]at h;cases h⟩
theorem ER (h:FInv c s)(hu:u<6)(hlt:runs s u<c.goal u)(hp:yJ c s u=some t):∃m l,Goal1 c s t u m l:=by
 unfold yJ at hp
 cases e:(tight c s u).2 with
 |true=>
  rw[e]at hp;simp only[if_true,Option.some.injEq]at hp;obtain⟨a,b⟩:=jCt e;obtain⟨d,g⟩:=tH.1 b;refine⟨_,[],hu,a,hlt,d,⟨fun j hj=>(by cases hj),fun j hj=>?_,fun r hr=>?_⟩,hp.symm⟩
  ·have:=h.on j hj _ a;show((List.count j []:Nat):Int)<=_;simpa using this
  ·have:=g r hr;show _<=_+(0:Int);omega
 |false=>
  rw[e]at hp;simp only[Bool.false_eq_true,if_false]at hp
  cases f:(zG c s u 8).2.2 with
  |false=>rw[f]at hp;simp at hp
  |true=>rw[f]at hp;simp only[if_true,Option.some.injEq]at hp;obtain⟨a,b,d⟩:=(choose_spec c s u 8).1 f;exact⟨(zG c s u 8).1,(zG c s u 8).2.1,hu,a,hlt,b,sV h a d,hp.symm⟩
theorem F6:∀n i,xW c s i n=some t->∃u,i<=u/\u<i+n/\runs s u<c.goal u/\yJ c s u=some t:=by
 intro n
 induction n with
 |zero=>intro i h;cases h
 | succ n ih=>
  intro i h;simp only[xW]at h;by_cases d:c.goal i<=runs s i
  ·rw[decide_eq_true d]at h;simp only[if_true]at h;obtain⟨u,e,f,a⟩:=ih (i+1) h;exact⟨u,by omega,by omega,a⟩
  ·rw[decide_eq_false d]at h;simp only[Bool.false_eq_true,if_false]at h
   cases b:yJ c s i with
   |some t'=>rw[b]at h;simp only[Option.some.injEq]at h;subst h;exact⟨i,by omega,by omega,by omega,b⟩
   |none=>rw[b]at h;simp only at h;obtain⟨u,e,f,a⟩:=ih (i+1) h;exact⟨u,by omega,by omega,a⟩
theorem mV (h:FInv c s)(hg:zW c s=some t):∃u m l,Goal1 c s t u m l:=by
 obtain⟨u,_,e,a,b⟩:=F6 6 0 hg;obtain⟨m,l,d⟩:=ER h (by omega) a b;exact⟨u,m,l,d⟩
structure Fill1 (c:FC)(s t:FM)(u m:Nat):Prop where
  hu:u<6
  hm:m<8
  lt:runs s u<c.uc u
  kV:0<s.kV u
  fits:yT c s u m=true
  eq:t=yK s u m
theorem mW (hf:zw c s=some t):∃u m,Fill1 c s t u m:=by
 unfold zw at hf
 cases b:(zL c s 6).2.2 with
 |false=>rw[b]at hf;simp at hf
 |true=>rw[b]at hf;simp only[if_true,Option.some.injEq]at hf;obtain⟨d,a⟩:=(ti c s 6).1 b;unfold yV at a;simp only[Bool.and_eq_true,Bool.not_eq_true',Bool.or_eq_false_iff,decide_eq_false_iff_not]at a;obtain⟨e,f⟩:=jCt a.2;exact⟨_,_,d,e,by omega,by omega,f,hf.symm⟩
theorem Fill1.inv (h:FInv c s)(f:Fill1 c s t u m):FInv c t:=by
 rw[f.eq];exact h.start f.hu f.hm f.fits f.kV
theorem Fill1.runs (f:Fill1 c s t u m)(j:Nat):Por.runs t j=if j=u then Por.runs s u+1 else Por.runs s j:=by rw[f.eq,qK f.hm]
theorem Fill1.wt (f:Fill1 c s t u m)(j:Nat):t.kV j=if j=u then s.kV u-1 else s.kV j:=by rw[f.eq];rfl
variable{z:FM}{R:FM->FM->Prop}
theorem Outer.rel (hr:∀s,R s s)(hg:∀s t z,zW c s=some t->R t z->R s z)(hf:∀s t z,zw c s=some t->R t z->R s z)(h:Outer c s z):R s z:=by
 have e:∀ {f:FM->Option FM},(∀s t z,f s=some t->R t z->R s z)->∀ {a b z:FM},Iter f a b->R b z->R a z:=by
  intro f g a b z k d
  induction k with
  |done _=>exact d
  |step h _ ih=>exact g _ _ _ h (ih d)
 induction h with
 |done _=>exact hr _
 |more h i j _ ih=>exact hg _ _ _ h (e hg i (e hf j ih))
theorem Settles.rel (hr:∀s,R s s)(hg:∀s t z,zW c s=some t->R t z->R s z)(hf:∀s t z,zw c s=some t->R t z->R s z)(h:Settles c s z):R s z:=by
 have e:∀ {f:FM->Option FM},(∀s t z,f s=some t->R t z->R s z)->∀ {a b z:FM},Iter f a b->R b z->R a z:=by
  intro f g a b z l d
  induction l with
  |done _=>exact d
  |step h _ ih=>exact g _ _ _ h (ih d)
 obtain⟨v,x,i,j,k⟩:=h;exact e hg i (e hf j (k.rel hr hg hf))
theorem Settles.inv {P:FM->Prop} (hg:∀s t,P s->zW c s=some t->P t) (hf:∀s t,P s->zw c s=some t->P t) (h:Settles c s z) (h0:P s):P z:=
  h.rel (R:=fun a b=>P a->P b) (fun _ h=>h) (fun _ _ _ h1 h2 h3=>h2 (hg _ _ h3 h1)) (fun _ _ _ h1 h2 h3=>h2 (hf _ _ h3 h1)) h0
theorem Outer.fin (h:Outer c s z):zw c s=none->zW c z=none/\zw c z=none:=by
 induction h with
 |done h=>exact fun h2=>⟨h,h2⟩
 |more _ _ j _ ih=>exact fun _=>ih j.last
theorem Settles.fin (h:Settles c s z):zW c z=none/\zw c z=none:=by
 obtain⟨v,x,_,j,k⟩:=h;exact k.fin j.last
theorem Settles.finv (ho:FOk c) (h:Settles c s z) (h0:FInv c s):FInv c z:=
  h.inv (P:=FInv c) (fun s t h1 h2=>by obtain⟨u,m,l,g⟩:=mV h1 h2;exact g.inv ho h1) (fun s t h1 h2=>by obtain⟨u,m,f⟩:=mW h2;exact f.inv h1) h0
theorem Settles.tasks (ho:FOk c)(h:Settles c s z)(h0:FInv c s)(u:Nat):z.kV u+runs z u=s.kV u+runs s u:=by
 have:=h.inv (P:=fun t=>FInv c t /\ t.kV u+runs t u=s.kV u+runs s u) (fun a t h1 h2=>by
  obtain⟨v,m,l,g⟩:=mV h1.1 h2
  refine⟨g.inv ho h1.1,?_⟩
  rw[g.runs u,g.kV u];have:=h1.2;omega) (fun a t h1 h2=>by
  obtain⟨v,m,f⟩:=mW h2
  refine⟨f.inv h1.1,?_⟩
  rw[f.runs u,f.wt u];have:=h1.2
  by_cases e:u=v
  ·subst e;simp;omega
  ·simp[e];omega) ⟨h0,rfl⟩
 exact this.2
structure Gent (c:FC)(s z:FM):Prop where
  ky:∀u,u<6->s.ky u<=z.ky u
  way:∀u,u<6->s.ky u<z.ky u->c.goal u<=runs z u
  kept:∀u,u<6->s.ky u=z.ky u->runs s u<=runs z u
  low:∀u,u<6->runs s u<=runs z u\/c.goal u<=runs z u
  gain:(∃u,u<6/\s.ky u<z.ky u)->∃v,v<6/\runs s v<c.goal v/\runs s v<runs z v
theorem Gent.goal (h:Gent c a s)(g:Goal1 c s t u m l):Gent c a t:=by
 have q:=g.cl.zero;(have f:∀j,j<6->0<zh j l->c.goal j<=runs s j-zh j l:=fun j hj d=>by refine(g.cl.mem j ?_).2.2;apply Classical.byContradiction;intro o;unfold zh at d;rw[List.count_eq_zero.2 o]at d;simp at d);(have n:∀j,j≠u->runs t j=runs s j-zh j l:=fun j hj=>by rw[g.runs j,if_neg hj];omega);(have i:runs t u=runs s u+1:=by rw[g.runs u,if_pos rfl,q];omega);have b:=g.ky;have w:=g.lt;(have k:a.ky u=s.ky u:=by have r:=h.ky u g.hu;apply Classical.byContradiction;intro o;have:=h.way u g.hu (by omega);omega);have v:=h.kept u g.hu k;refine⟨fun j hj=>?_,fun j hj hlt2=>?_,fun j hj he=>?_,fun j hj=>?_,fun _=>?_⟩
 ·have:=h.ky j hj;have:=b j;have:=lU j l;omega
 ·by_cases e:j=u
  ·subst e;rw[b j,q]at hlt2;omega
  ·rw[n j e];by_cases d:0<zh j l
   ·have:=f j hj d;omega
   ·(have p:zh j l=0:=by have:=lU j l;omega);rw[b j,p]at hlt2;rw[p];have:=h.way j hj (by omega);omega
 ·have d:=lU j l;have r:=h.ky j hj;rw[b j]at he;by_cases e:j=u
  ·subst e;rw[i];omega
  ·rw[n j e];have:=h.kept j hj (by omega);omega
 ·by_cases e:j=u
  ·subst e;rw[i];left;omega
  ·rw[n j e];by_cases d:0<zh j l
   ·right;exact f j hj d
   ·(have p:zh j l=0:=by have:=lU j l;omega);rw[p];rcases h.low j hj with o|o
    ·left;omega
    ·right;omega
 ·exact⟨u,g.hu,by omega,by omega⟩
theorem Gent.fill (h:Gent c a s)(f:Fill1 c s t u m):Gent c a t:=by
 have b:∀j,runs s j<=runs t j:=fun j=>by
  rw[f.runs j];by_cases e:j=u
  ·subst e;simp;omega
  ·simp[e]
 (have d:t.ky=s.ky:=by rw[f.eq];rfl);refine⟨fun j hj=>by rw[d];exact h.ky j hj,fun j hj h1=>?_,fun j hj h1=>?_,fun j hj=>?_,fun h1=>?_⟩
 ·rw[d]at h1;have:=h.way j hj h1;have:=b j;omega
 ·rw[d]at h1;have:=h.kept j hj h1;have:=b j;omega
 ·have:=b j;rcases h.low j hj with k|k<;>omega
 ·rw[d]at h1;obtain⟨v,g,i,l⟩:=h.gain h1;exact⟨v,g,i,by have:=b v;omega⟩
theorem Settles.gentle (ho:FOk c)(h:Settles c s z)(h0:FInv c s):Gent c s z:=by
 have:=h.inv (P:=fun t=>FInv c t /\ Gent c s t) (fun a t h1 h2=>by
  obtain⟨v,m,l,g⟩:=mV h1.1 h2
  exact⟨g.inv ho h1.1,h1.2.goal g⟩) (fun a t h1 h2=>by
  obtain⟨v,m,f⟩:=mW h2
  exact⟨f.inv h1.1,h1.2.fill f⟩) ⟨h0,fun u _=>Int.le_refl _,fun u _ h=>by omega,fun u _ _=>Int.le_refl _,fun u _=>Or.inl (Int.le_refl _),fun⟨u,_,h⟩=>by omega⟩
 exact this.2
def lack (c:FC)(s:FM):Int:=sumI (fun u=>max 0 (c.goal u-runs s u)) 6
theorem pS (c:FC)(s:FM):0<=lack c s:=JQ (fun u _=>by omega)
theorem Goal1.lack (g:Goal1 c s t u m l):lack c t=lack c s-1:=by
 have d:=g.cl.zero
 have:=nz (f:=fun j=>max 0 (c.goal j-Por.runs t j)) (g:=fun j=>max 0 (c.goal j-Por.runs s j)) g.hu (fun j hj hne=>by
  show max 0 (c.goal j-Por.runs t j)=max 0 (c.goal j-Por.runs s j)
  rw[g.runs j,if_neg hne]
  have e:=lU j l
  by_cases a:0<zh j l
  ·have h:=(g.cl.mem j (by
    apply Classical.byContradiction
    intro b
    unfold zh at a
    rw[List.count_eq_zero.2 b]at a;simp at a)).2.2
   omega
  ·have:zh j l=0:=by omega
   rw[this];omega)
 unfold Por.lack;rw[this,g.runs u,if_pos rfl,d];have:=g.lt;omega
theorem Fill1.lack (f:Fill1 c s t u m):lack c t<=lack c s:=by
 refine pw (fun j hj=>?_);show max 0 (c.goal j-Por.runs t j)<=max 0 (c.goal j-Por.runs s j);rw[f.runs j];by_cases e:j=u
 ·subst e;rw[if_pos rfl];omega
 ·rw[if_neg e];omega
def waits (s:FM):Int:=sumI s.kV 6
theorem Fill1.waits (f:Fill1 c s t u m):waits t=waits s-1:=by
 have:=nz (f:=t.kV) (g:=s.kV) f.hu (fun j hj hne=>by rw[f.wt j,if_neg hne]);unfold Por.waits;rw[this,f.wt u,if_pos rfl];omega
theorem FInv.waits (h:FInv c s):0<=waits s:=JQ h.kV
theorem um (l:List Nat)(hl:∀j,j∈l->j<6):sumI (fun j=>zh j l) 6=l.length:=by
 induction l with
 |nil=>exact mH (fun j _=>by show((List.count j []:Nat):Int)=0;simp)
 |cons a l ih=>have b:=ih (fun j hj=>hl j (List.mem_cons_of_mem _ hj));have c:=nz (f:=fun j=>zh j (a::l)) (g:=fun j=>zh j l) (i:=a) (hl a List.mem_cons_self) (fun j _ hne=>by show zh j (a::l)=zh j l;rw[oQ,if_neg hne];omega);rw[c,b];show _+(zh a (a::l)-zh a l)=_;rw[oQ,if_pos rfl];simp;omega
theorem Settles.revs (ho:FOk c)(h:Settles c s z)(h0:FInv c s){T:Int}(hT:∀u,u<6->s.kV u+runs s u<=T)(u:Nat)(hu:u<6):z.ky u<=s.ky u+T*lack c s:=by
 have d:0<=T:=by have b:=h0.kV u hu;have i:=hT u hu;have k:0<=runs s u:=JQ (h0.on u hu);omega
 have:=h.inv (P:=fun t=>FInv c t /\ (∀u,u<6 -> t.kV u+runs t u<=T) /\ t.ky u+T*lack c t<=s.ky u+T*lack c s) (fun a t b i=>by
  obtain⟨v,m,l,g⟩:=mV b.1 i
  refine⟨g.inv ho b.1,fun j hj=>?_,?_⟩
  ·rw[g.runs j,g.kV j];have:=b.2.1 j hj;omega
  ·rw[g.ky u,g.lack,Int.mul_sub,Int.mul_one]
   have k:=g.cl.on u hu
   have n:=l8 (b.1.on u hu) g.hm
   have o:=b.2.1 u hu
   have p:=b.1.kV u hu
   have q:=b.2.2
   change a.on u m<=runs a u at n
   omega) (fun a t b i=>by
  obtain⟨v,m,f⟩:=mW i
  refine⟨f.inv b.1,fun j hj=>?_,?_⟩
  ·rw[f.runs j,f.wt j];have:=b.2.1 j hj
   by_cases e:j=v
   ·subst e;simp;omega
   ·simp[e];omega
  ·have e:t.ky=a.ky:=by rw[f.eq];rfl
   rw[e]
   have:=Int.mul_le_mul_of_nonneg_left f.lack d
   have:=b.2.2
   omega) ⟨h0,hT,Int.le_refl _⟩
 have r:=this.2.2;have:=Int.mul_nonneg d (pS c z);omega
end Go.Proofs.YtigokanoflkinaaGreatDoor.Por
