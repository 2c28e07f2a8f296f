/- RgC, RgDE, RgF, joined. -/
import Derived.Test.YtigokanoflkinaaGreatDoorZP
set_option maxHeartbeats 16000000
set_option maxRecDepth 20000
namespace Go.Proofs.YtigokanoflkinaaGreatDoor
set_option linter.unusedSimpArgs false
set_option linter.unusedVariables false
open Go.RowKit Por Go.Proofs.Tryz
open Value renaming int->kW,slice->kX,pointer->kY,bool->kZ,agg->lA,tuple->lB,string->lC
open IntKind renaming i64->lD
open Obj renaming cells->lE
open Ending renaming returned->lF
open World renaming setCell->lG,cell?->lH
open Option renaming none->lI,some->lJ
open Bool renaming true->lK,false->lL
open Go renaming World->lM,Value->lN
theorem Tryz.infoBoR:(prog.info? 4).map (fun i=>(i.zero,i.size,i.bytes))=lJ (lJ (kZ lL),1,1):=by kernel_rfl
theorem Tryz.infoStR:(prog.info? 9).map (fun i=>(i.zero,i.size,i.bytes))=lJ (lJ (lC ⟨#[]⟩),1,16):=by kernel_rfl
variable{n:Nat}
theorem tR (w:lM)(hn:n<=1000):(w.alloc (lE (madeCells #[kW lD 0] n) 3)).ownsRow w.heap.size 3 1 (kX (lJ ⟨w.heap.size,0,lI⟩) n n) n (ni n (fun _=>0)):=by
 refine⟨by simp,.inr ⟨w.heap.size,n,_,rfl,lR,i1 w _ _,lR,by unfold maxLen;omega,by rw[size_madeCells,ic],?_⟩⟩;rw[ic,ew (by rw[Array.length_toList,size_madeCells];exact lR)];apply List.ext_getElem?;intro i;by_cases a:i<n
 ·rw[JF _ a];simp[madeCells,a,Nat.mod_one]
 ·rw[eW (by rw[Array.length_toList,size_madeCells];omega),eW (by rw[mB];omega)]
variable{xs:List Int}
theorem kR (h:yw xs=lK){r:Nat}(hr:r<xs.length):0<=lm xs r/\lm xs r<=10000:=by
 unfold yw at h;rw[ie]at h;have a:=h xs[r] (ij hr);unfold yG at a;rw[qv (en hr)];exact iI a
variable{Y:Usr}
theorem ph {k:Nat}(h:yY k Y=lK):Y.dem.length=k/\yw Y.dem=lK:=by
 unfold yY at h;simp only[eJ,eN]at h;exact⟨h.1.1.1,h.1.2⟩
def addUD (F:Flt)(Y:Usr):Flt:=withD (yz F Y) (yR F.due F.ug ⟨#[48]⟩)
def addO (F:Flt)(o:Old)(Y:Usr):Old:=⟨yM o.dm F.ug (zt Y.dem),zE o.wt F.ug Y.wt,zE o.cp F.ug Y.cap,yR o.du F.ug ⟨#[48]⟩⟩
variable{F:Flt}{R:Int}
theorem FWf.withD (h:FWf R F)(D:Nat->ByteArray):FWf R (withD F D):=⟨h.k1,h.k4,h.mg,h.ug,h.mt,h.ut,h.ms,h.msz,h.msk,h.ud,h.udk,h.want,h.uw,h.uw1,h.uc,h.on,h.kV,h.none,h.gone,h.kw,h.tot,h.ky,h.ck,h.ks,h.ku⟩
variable{G:Flt}
theorem Settled.due {D:Nat->ByteArray}(h:Settled (Go.Proofs.YtigokanoflkinaaGreatDoor.withD F D) G)(hD:∀u,¬ (u<6/\F.ut u=lK)->D u=F.due u):Settled F G:=by
 obtain⟨z,rfl,b⟩:=h;refine⟨z,?_,b⟩
 have e:xU (Go.Proofs.YtigokanoflkinaaGreatDoor.withD F D) (zB (Go.Proofs.YtigokanoflkinaaGreatDoor.withD F D) 8)=xU F (zB F 8):=by
  funext u;unfold xU;by_cases a:u<6/\F.ut u=lK
  ·rw[ed a,ed a];rfl
  ·rw[ec a,ec a];exact hD u a
 rw[e]
variable{o:Old}
theorem OldOk.user (h:OldOk F o)(hU:yY F.k Y=lK):OldOk (addUD F Y) (addO F o Y):=by
 obtain⟨l,c⟩:=ph hU;refine⟨fun u hu r hr=>?_,fun u hu ht=>?_⟩
 ·show 0<=yM o.dm F.ug (zt Y.dem) u r/\yM o.dm F.ug (zt Y.dem) u r<=10000;by_cases e:u=F.ug
  ·rw[e,mh];exact kR c (by have d:r<F.k:=hr;omega)
  ·rw[l3 _ _ e];exact h.dm u (by have b:u<F.ug+1:=hu;omega) r hr
 ·by_cases e:u=F.ug
  ·subst e;refine⟨fun r _=>?_,?_,?_,?_⟩
   ·show yM o.dm F.ug (zt Y.dem) F.ug r=yM F.ud F.ug (zt Y.dem) F.ug r;rw[mh,mh]
   ·show zE o.wt F.ug Y.wt F.ug=zE F.uw F.ug Y.wt F.ug;rw[JP,JP]
   ·show zE o.cp F.ug Y.cap F.ug=zE F.uc F.ug Y.cap F.ug;rw[JP,JP]
   ·show yR o.du F.ug _ F.ug=yR F.due F.ug _ F.ug;unfold yR;rw[ed rfl,ed rfl]
  ·have a:yZ F.ut F.ug lK u=lK:=ht;rw[nl _ _ e]at a;obtain⟨f,g,i,j⟩:=h.now u (by have b:u<F.ug+1:=hu;omega) a;refine⟨fun r hr=>?_,?_,?_,?_⟩
   ·show yM o.dm F.ug _ u r=yM F.ud F.ug _ u r;rw[l3 _ _ e,l3 _ _ e];exact f r hr
   ·show zE o.wt F.ug _ u=zE F.uw F.ug _ u;rw[JJ _ _ e,JJ _ _ e];exact g
   ·show zE o.cp F.ug _ u=zE F.uc F.ug _ u;rw[JJ _ _ e,JJ _ _ e];exact i
   ·show yR o.du F.ug _ u=yR F.due F.ug _ u;unfold yR;rw[ec e,ec e];exact j
theorem pu {α:Type}{f g:Nat->α}{x:α}(h1:∀i,i<n->g i=f i)(h2:g n=x):(List.range n).map f++[x]=(List.range (n+1)).map g:=by
 rw[jy,ii,<-h2];exact congrArg (· ++ [g n]) (iJ (fun i hi=>(h1 i (iW.1 hi)).symm))
variable{base b:Nat}{w:lM}{val:Tb->lN}
theorem RT.user {P:Nat->Prop}{w0:lM}{dom:Tb->Prop}{V:Tb->lN}{n:Tb->Nat}{xs:Tb->List lN}(h:RT base P w0 w b F.k F.ck dom V n xs)(hU:yY F.k Y=lK)(ho:OldOk F o)(hd:∀t,(t=.dem F.ug\/t=.rnr F.ug\/t=.usr F.ug\/xF F t)->dom t)(vs:∀m,V (.szr m)=val (.szr m))(vd:∀u,u≠F.ug->V (.dem u)=val (.dem u))(vr:∀u,u≠F.ug->V (.rnr u)=val (.rnr u))(vu:∀u,u≠F.ug->V (.usr u)=val (.usr u))(n0:n .size=F.mg/\n .ku=F.k)(n1:n .kr=F.ug+1/\n .kt=F.ug+1/\n .kV=F.ug+1/\n .run=F.ug+1/\n .due=F.ug+1/\n .off=F.ug+1/\n .ks=F.ug+1)(n2:∀m,n (.szr m)=F.k)(n3:∀u,n (.dem u)=F.k)(n4:∀u,n (.rnr u)=F.mg)(n5:∀u,n (.usr u)=F.k)(x1:xs .size=zJ F val o .size)(x2:xs .kr=zJ F val o .kr++[V (.dem F.ug),kW lD Y.wt,kW lD Y.cap])(x3:xs .kt=zJ F val o .kt++[kZ lK])(x4:xs .kV=zJ F val o .kV++[kW lD 0])(x5:xs .run=zJ F val o .run++[V (.rnr F.ug)])(x6:xs .due=zJ F val o .due++[lC ⟨#[48]⟩])(x7:xs .off=zJ F val o .off++[kW lD 0])(x8:xs .ks=zJ F val o .ks++[V (.usr F.ug)])(x9:xs .ku=zJ F val o .ku)(y1:∀m,xs (.szr m)=zJ F val o (.szr m))(y2:∀u,u≠F.ug->xs (.dem u)=zJ F val o (.dem u))(y3:xs (.dem F.ug)=ni F.k (zt Y.dem))(y4:∀u,u≠F.ug->xs (.rnr u)=zJ F val o (.rnr u))(y5:xs (.rnr F.ug)=ni F.mg (fun _=>0))(y6:∀u,u≠F.ug->xs (.usr u)=zJ F val o (.usr u))(y7:xs (.usr F.ug)=ni F.k (fun _=>0)):RfM base w b (addUD F Y) V (addO F o Y)/\∀g,zN b (addUD F Y) V g->P g:=by
 obtain⟨j,l,p,q,r,s,v⟩:=n1
 have f:∀t,xF (addUD F Y) t -> dom t:=fun t ht=>hd t (by
  have c:∀u,u<F.ug+1 -> u=F.ug\/u<F.ug:=fun u hu=>by omega
  cases t with
  |dem u=>rcases c u ht with e|e;(exact .inl (by rw[e]));(exact .inr (.inr (.inr e)))
  |rnr u=>rcases c u ht with e|e;(exact .inr (.inl (by rw[e])));(exact .inr (.inr (.inr e)))
  |usr u=>rcases c u ht with e|e;(exact .inr (.inr (.inl (by rw[e]))));(exact .inr (.inr (.inr e)))
  |_=>exact .inr (.inr (.inr ht)))
 refine h.fin rfl rfl f (fun t ht=>?_) (fun t ht=>?_) (ho.user hU)
 ·cases t with
  |size=>exact n0.1
  |kr=>exact j
  |kt=>exact l
  |kV=>exact p
  |run=>exact q
  |due=>exact r
  |off=>exact s
  |ks=>exact v
  |ku=>exact n0.2
  |szr m=>exact n2 m
  |dem u=>exact n3 u
  |rnr u=>exact n4 u
  |usr u=>exact n5 u
 ·have d:∀ {i:Nat},i<F.ug->i≠F.ug:=fun h=>by omega
  cases t with
  |size=>rw[x1];exact iJ (fun m _=>by show _=if F.mt m then V (.szr m)else _;rw[vs m])
  |kr=>rw[x2];show(List.range F.ug).flatMap (fun u=>[val (.dem u),kW lD (o.wt u),kW lD (o.cp u)]) ++ _=(List.range (F.ug+1)).flatMap (fun u=>[V (.dem u),kW lD (zE o.wt F.ug Y.wt u),kW lD (zE o.cp F.ug Y.cap u)]);rw[jy,jA];refine _root_.congr (congrArg _ ?_) (by show _=[V (.dem F.ug),Value.int lD (zE o.wt F.ug Y.wt F.ug),Value.int lD (zE o.cp F.ug Y.cap F.ug)]++[];rw[JP,JP];rfl);rw[List.flatMap_def,List.flatMap_def];refine congrArg _ (iJ (fun u hu=>?_));have a:=d (iW.1 hu);rw[vd u a,JJ _ _ a,JJ _ _ a]
  |kt=>rw[x3];exact pu (fun i hi=>by show Value.bool (yZ F.ut F.ug lK i)=_;rw[nl _ _ (d hi)]) (by show Value.bool (yZ F.ut F.ug lK F.ug)=_;rw[mX])
  |kV=>rw[x4];exact pu (fun i hi=>by show Value.int lD (zE F.m.kV F.ug 0 i)=_;rw[JJ _ _ (d hi)]) (by show Value.int lD (zE F.m.kV F.ug 0 F.ug)=_;rw[JP])
  |run=>rw[x5];exact pu (fun i hi=>vr i (d hi)) rfl
  |due=>rw[x6];exact pu (fun i hi=>by show Value.string (yR o.du F.ug ⟨#[48]⟩ i)=_;unfold yR;rw[ec (d hi)]) (by show Value.string (yR o.du F.ug ⟨#[48]⟩ F.ug)=_;unfold yR;rw[ed rfl])
  |off=>rw[x7];exact pu (fun i hi=>by show Value.int lD (zE F.m.ky F.ug 0 i)=_;rw[JJ _ _ (d hi)]) (by show Value.int lD (zE F.m.ky F.ug 0 F.ug)=_;rw[JP])
  |ks=>rw[x8];exact pu (fun i hi=>vu i (d hi)) rfl
  |ku=>exact x9
  |szr m=>exact y1 m
  |dem u=>
   by_cases e:u=F.ug
   ·subst e;rw[y3];show _=ni F.k (yM o.dm F.ug (zt Y.dem) F.ug);rw[mh]
   ·rw[y2 u e];show _=ni F.k (yM o.dm F.ug (zt Y.dem) u);rw[l3 _ _ e];rfl
  |rnr u=>
   by_cases e:u=F.ug
   ·subst e;rw[y5];show _=ni F.mg (yM F.m.on F.ug (fun _=>0) F.ug);rw[mh]
   ·rw[y4 u e];show _=ni F.mg (yM F.m.on F.ug (fun _=>0) u);rw[l3 _ _ e];rfl
  |usr u=>
   by_cases e:u=F.ug
   ·subst e;rw[y7];show _=ni F.k (yM F.ks F.ug (fun _=>0) F.ug);rw[mh]
   ·rw[y6 u e];show _=ni F.k (yM F.ks F.ug (fun _=>0) u);rw[l3 _ _ e];rfl
theorem Dt {ao:Option Addr}{cap:Nat}(hM:RfM base w b F val o)(hr:FWf R F)(hR:R<=999999999999990000)(ht:Tab w)(hl:yi base)(hx:Arr w 1 ao n cap (zi Y.dem)):Calls prog 130 #[kY (lJ ⟨b,0,lI⟩),lA #[kX ao n cap,kW lD Y.wt,kW lD Y.cap]] w fun e w'=>e=lF (lB #[kW lD (auN F Y),kW lD (auE F Y)])/\REnds base b F (yz F Y) val (auE F Y) w w':=by
 have a0:=hx.len;rw[j9]at a0;subst a0;have a3:=hx.cellsF;have HO:=hr.rfo;have HT:=ht;clear ht;have bi:=HO.ug;have bh:=HO.mg;have bc:=HO.k4;have N:=hM.box.lt;have ac:=brw w;have af:=i1 w #[kX ao Y.dem.length cap,kW lD Y.wt,kW lD Y.cap] 56;have A:=ac.alloc ac.size (lE #[kX ao Y.dem.length cap,kW lD Y.wt,kW lD Y.cap] 56);have bl:=ac.size;clear ac;go_enter func130,ntmps130;(go_upto_region 1 with fail);generalize w.alloc (lE #[kX ao Y.dem.length cap,kW lD Y.wt,kW lD Y.cap] 56)=V at af A ⊢;obtain⟨H,aW⟩:∃H,H=w.heap.size:=⟨_,rfl⟩;have hU:=af;rw[<-aW]at hU ⊢;(have aF:H≠b:=by omega);clear aW af;obtain⟨lu,c0,c1,c2⟩:=hU.q3 rfl;have ck:=(hM.iP A).box.cell 0 _ rfl;have aq:=(hM.iP A).box.lt;have SK:=fun U (h:Bl V U)=>(⟨qs h c0 lu,qs h c1 lu,qs h c2 lu,qs h ck aq⟩:_/\_/\_/\_);(have KC:∀U,Bl V U->Calls prog 34 #[lA #[kX ao Y.dem.length cap,kW lD Y.wt,kW lD Y.cap],kW lD F.k] U (fun e w'=>e=lF (kZ (yY F.k Y))/\Bl V w'):=fun U hU=>(Au ((hx.iP A).iP hU) bc).mono (fun e w' ⟨h1,h3⟩=>⟨h1,hU.trans (h3.mono hU.size)⟩));have a7:=qq c0;have a8:=qq c1;have az:=qq c2;have a9:=qq ck;go_region_held3 (fun w'=>lH w' ⟨H,0,lI⟩=lJ (kX ao Y.dem.length cap)/\lH w' ⟨H,1,lI⟩=lJ (kW lD Y.wt)/\lH w' ⟨H,2,lI⟩=lJ (kW lD Y.cap)/\lH w' ⟨b,0,lI⟩=lJ (kW lD F.k)) (first|exact SK _ brf.drew|exact SK _ ad) (first|(go_at_call 34;refine(KC _ ?hU).mono ?_;(case hU=>exact brf.drew);rintro bg aI ⟨rfl,ad⟩));clear SK KC a7 a8 az a9;have ag:=hU.ji ad;have M:=et A ad;clear hU A;clear ad;clear c0 c1 c2 lu ck aq N
 cases hs:yY F.k Y with
 |false=>(have HE:auE F Y=4:=by unfold auE;rw[hs];rfl);clear hs;go_wp2;go_ret2;exact⟨by rw[r4 HE (by decide),HE];rfl,by rw[HE];exact REnds.kD hM M (by decide)⟩
 | true=>
  have HS:=hs;have aq:=(hM.iP M).box.lt;obtain⟨uo,uc,aX⟩:=JM (hM.tb.own .kr trivial);have an:val .kr=kX uo F.ug uc:=aX;have c2:lH aI ⟨b,2,lI⟩=lJ (val .kr):=(hM.iP M).box.cell 2 _ rfl;rw[an]at c2;clear aX;by_cases hg:F.ug=6
  ·(have HE:auE F Y=6:=by unfold auE;rw[hs];simp only[eS];rw[ec (by omega)]);clear hs;(have g6:((F.ug:Int) == 6)=lK:=by rw[hg];rfl);go_wp2;go_ret2;exact⟨by rw[r4 HE (by decide),HE];rfl,by rw[HE];exact REnds.kD hM M (by decide)⟩
  ·(have aP:F.ug<6:=by omega);(have HE:auE F Y=0:=by unfold auE;rw[hs];simp only[eS];rw[ed aP]);have HN:=BC HE;clear hs;(have g6:((F.ug:Int) == 6)=lL:=by rw[eg];omega);(have HP:∀ k,w.heap.size<=k->(PW b F val w) k:=fun k hk=>.inr hk);have T0:=(RT.of hM).iP M;obtain ⟨lu,u0⟩:=ag.q1 rfl;(have bj:Y.dem.length<=4:=by have c:=(ph HS).1;omega);go_wp2_with fail;refine (sQ (a3.iP M) (by omega)).mono ?_;rintro e1 J ⟨v1,rfl,aD,aC⟩;obtain ⟨f,g,aY⟩:=aD.kE;rw[JB] at aY;subst aY;have T1:=T0.new HP aC (.dem F.ug) rfl (show J.ownsRow aI.heap.size 3 1 (Value.slice f Y.dem.length g) Y.dem.length (ni Y.dem.length (lm Y.dem)) from uU aD);have au:=ag.ji aC;clear aD aC u0 lu c2 aq T0;have u1:lH J ⟨H,1,lI⟩=lJ (kW lD Y.wt):=au.cell 1 _ rfl;have u2:lH J ⟨H,2,lI⟩=lJ (kW lD Y.cap):=au.cell 2 _ rfl;have lu:=au.lt;have N:=T1.box.lt;(have c2:lH J ⟨b,2,lI⟩=lJ (kX uo F.ug uc):=by rw[<-an];exact T1.box.cell 2 _ rfl);have f2:=T1.box.frozen 2;have z:=T1.le;obtain ⟨bd,aQ,a1,aT,aN⟩:=iM Tryz.infoUsrF;(go_upto_region 7 with fail);have ba:=qq u1;have bb:=qq u2;have az:=qq c2
   go_cut[] (fun wx=>∃vv:lN,RT base (PW b F val w) w wx b F.k F.ck (fun s=>s=.dem F.ug\/xF F s) (zF (zF val (.dem F.ug) (Value.slice f Y.dem.length g)) .kr vv) (zF (zF (xG F) (.dem F.ug) Y.dem.length) .kr (F.ug+1)) (zF (zF (zJ F val o) (.dem F.ug) (ni Y.dem.length (lm Y.dem))) .kr (zJ F val o .kr++[(Value.slice f Y.dem.length g),kW lD Y.wt,kW lD Y.cap])))
   case first=>go_region_law (first|(refine Go.step_append_lies _ rfl _ _ 23 rfl base 56 bd (lA #[kX lI 0 0,kW lD 0,kW lD 0]) 3 40 underlying23 aQ a1 aT aN rfl (by decide) (kX uo F.ug uc) F.ug (zJ F val o .kr) rfl (show World.ownsRow ((J.alloc (lE #[(Value.slice f Y.dem.length g),kW lD Y.wt,kW lD Y.cap] 56)).drew) base 56 3 (kX uo F.ug uc) F.ug (zJ F val o .kr)from by have c:=(T1.iP ((brw J).alloc lR (lE #[(Value.slice f Y.dem.length g),kW lD Y.wt,kW lD Y.cap] 56)).drew).tb.own .kr (.inr trivial);rw[<-an];exact c) ⟨J.heap.size,0,lI⟩ 1 1 [(Value.slice f Y.dem.length g),kW lD Y.wt,kW lD Y.cap] rfl (by simp) (sO (i1 J #[(Value.slice f Y.dem.length g),kW lD Y.wt,kW lD Y.cap] 56).drew) (by intro u hu;simp only[jn,iU,or_false]at hu;rcases hu with e|e|e<;>(rw[e];rfl)) (by decide) (by unfold maxLen;omega) (by omega) (by show base<=(J.alloc (lE #[(Value.slice f Y.dem.length g),kW lD Y.wt,kW lD Y.cap] 56)).heap.size;rw[em];omega) _ rfl ?_;intro g8 ar L d a i aw;have y:=(T1.iP ((brw J).alloc lR (lE #[(Value.slice f Y.dem.length g),kW lD Y.wt,kW lD Y.cap] 56)).drew).bx (t:=.kr) (.inr trivial) (by rw[show(zF val (.dem F.ug) (Value.slice f Y.dem.length g)) .kr=kX uo F.ug uc from an];exact a);have p8:lH L ⟨b,2,lI⟩=lJ (val .kr):=y.cell 2 _ rfl;have f8:=y.frozen 2;have m8:=y.lt;clear y));(all_goals (try go_wp2_with fail));(all_goals go_meet);all_goals exact⟨(kX (lJ ⟨g8,0,lI⟩) (F.ug+1) ar),by first|exact(T1.iP ((brw J).alloc lR (lE #[(Value.slice f Y.dem.length g),kW lD Y.wt,kW lD Y.cap] 56)).drew).app HP (t:=.kr) (m:=1) (.inr trivial) (by decide) d (by rw[show(zF val (.dem F.ug) (Value.slice f Y.dem.length g)) .kr=kX uo F.ug uc from an];exact a) (by rw[show(zF val (.dem F.ug) (Value.slice f Y.dem.length g)) .kr=kX uo F.ug uc from an];rcases i with c|c;(exact .inl c.symm);(exact .inr (congrArg lJ c)))|exact((T1.iP ((brw J).alloc lR (lE #[(Value.slice f Y.dem.length g),kW lD Y.wt,kW lD Y.cap] 56)).drew).app HP (t:=.kr) (m:=1) (.inr trivial) (by decide) d (by rw[show(zF val (.dem F.ug) (Value.slice f Y.dem.length g)) .kr=kX uo F.ug uc from an];exact a) (by rw[show(zF val (.dem F.ug) (Value.slice f Y.dem.length g)) .kr=kX uo F.ug uc from an];rcases i with c|c;(exact .inl c.symm);(exact .inr (congrArg lJ c)))).iP brf.drew⟩
   case rest=>
    obtain⟨I,T2⟩:=hcut;clear ba bb az u1 u2 lu c2 f2 N T1 au z;have Q:=T2.iP (brf.alloc lR (lE #[kZ lK] 4));have C:(zJ F val o .kt).length=F.ug:=mB _ _;(have B:(wc.alloc (lE #[kZ lK] 4)).ownsRow base 4 1 (val .kt) (zJ F val o .kt).length (zJ F val o .kt):=by have c:=Q.tb.own .kt (.inr trivial);rw[C];exact c);have N:=T2.box.lt;have g1:lH wc ⟨b,3,lI⟩=lJ (val .kt):=T2.box.cell 3 _ rfl;obtain⟨n8,D⟩:∃n,(zJ F val o .kt).length+1=n:=⟨_,rfl⟩;have z:=T2.le;go_wp2_with (at_builtin;refine nH _ 4 73 (kZ lL) 1 underlying73 Tryz.infoBoR rfl (by decide) rfl _ _ rfl base _ (zJ F val o .kt) ⟨wc.heap.size,0,lI⟩ 1 1 [kZ lK] rfl rfl B n8 D rfl (by decide) (mG ((i1 wc #[kZ lK] 4).cell 0 _ rfl)) (mJ rfl) (by omega) (by simp only[em];omega) ?_);intro v8 L d a i;obtain⟨T,S,ab⟩:=JM d;(obtain rfl:n8=F.ug+1:=by omega);subst ab;have j:=Q.bx (t:=.kt) (.inr trivial) a;have p8:lH L ⟨b,3,lI⟩=lJ (val .kt):=j.cell 3 _ rfl;have f8:=j.frozen 3;have m8:=j.lt;have T3:RT base (PW b F val w) w (lG L ⟨b,3,lI⟩ (kX T (F.ug+1) S)) b F.k F.ck (fun s=>s=.dem F.ug\/xF F s) (zF (zF (zF val (.dem F.ug) (Value.slice f Y.dem.length g)) .kr I) .kt (kX T (F.ug+1) S)) (zF (zF (zF (xG F) (.dem F.ug) Y.dem.length) .kr (F.ug+1)) .kt (F.ug+1)) (zF (zF (zF (zJ F val o) (.dem F.ug) (ni Y.dem.length (lm Y.dem))) .kr (zJ F val o .kr++[(Value.slice f Y.dem.length g),kW lD Y.wt,kW lD Y.cap])) .kt (zJ F val o .kt++[kZ lK])):=Q.app HP (t:=.kt) (m:=1) (.inr trivial) (by decide) d a (by rw[em];exact i);clear d a i j g1 N B D C Q z;(go_upto_region 9 with fail);obtain⟨V3,hV⟩:∃V,V=lG L ⟨b,3,lI⟩ (kX T (F.ug+1) S):=⟨_,rfl⟩;obtain⟨K,hv⟩:∃v,v=Value.slice T (F.ug+1) S:=⟨_,rfl⟩;rw[<-hV]at T3 ⊢;rw[<-hv]at T3;clear hV hv p8 f8 m8 T2;have Q:=T3.iP (brf.alloc lR (lE #[kW lD 0] 3));have C:(zJ F val o .kV).length=F.ug:=mB _ _;(have B:(V3.alloc (lE #[kW lD 0] 3)).ownsRow base 3 1 (val .kV) (zJ F val o .kV).length (zJ F val o .kV):=by have c:=Q.tb.own .kV (.inr trivial);rw[C];exact c);have N:=T3.box.lt;have g1:lH V3 ⟨b,4,lI⟩=lJ (val .kV):=T3.box.cell 4 _ rfl;obtain⟨n8,D⟩:∃n,(zJ F val o .kV).length+1=n:=⟨_,rfl⟩;have z:=T3.le;go_wp2_with (at_builtin;refine nH _ 3 22 (kW lD 0) 8 eR Tryz.infoInt rfl (by decide) rfl _ _ rfl base _ (zJ F val o .kV) ⟨V3.heap.size,0,lI⟩ 1 1 [kW lD 0] rfl rfl B n8 D rfl (by decide) (mG ((i1 V3 #[kW lD 0] 3).cell 0 _ rfl)) (mJ rfl) (by omega) (by simp only[em];omega) ?_);intro v8 L d a i;obtain⟨T,S,ab⟩:=JM d;(obtain rfl:n8=F.ug+1:=by omega);subst ab;have j:=Q.bx (t:=.kV) (.inr trivial) a;have p8:lH L ⟨b,4,lI⟩=lJ (val .kV):=j.cell 4 _ rfl;have f8:=j.frozen 4;have m8:=j.lt;have T4:RT base (PW b F val w) w (lG L ⟨b,4,lI⟩ (kX T (F.ug+1) S)) b F.k F.ck (fun s=>s=.dem F.ug\/xF F s) (zF (zF (zF (zF val (.dem F.ug) (Value.slice f Y.dem.length g)) .kr I) .kt K) .kV (kX T (F.ug+1) S)) (zF (zF (zF (zF (xG F) (.dem F.ug) Y.dem.length) .kr (F.ug+1)) .kt (F.ug+1)) .kV (F.ug+1)) (zF (zF (zF (zF (zJ F val o) (.dem F.ug) (ni Y.dem.length (lm Y.dem))) .kr (zJ F val o .kr++[(Value.slice f Y.dem.length g),kW lD Y.wt,kW lD Y.cap])) .kt (zJ F val o .kt++[kZ lK])) .kV (zJ F val o .kV++[kW lD 0])):=Q.app HP (t:=.kV) (m:=1) (.inr trivial) (by decide) d a (by rw[em];exact i);clear d a i j g1 N B D C Q z;(go_upto_region 10 with fail);obtain⟨r,hV⟩:∃V,V=lG L ⟨b,4,lI⟩ (kX T (F.ug+1) S):=⟨_,rfl⟩;obtain⟨O,hv⟩:∃v,v=Value.slice T (F.ug+1) S:=⟨_,rfl⟩;rw[<-hV]at T4 ⊢;rw[<-hv]at T4;clear hV hv p8 f8 m8 T3;obtain⟨X,W,am⟩:=JM (hM.tb.own .run trivial);have E:val .run=kX X F.ug W:=am;have l:=E;(have cT:lH r ⟨b,5,lI⟩=lJ (kX X F.ug W):=by rw[<-E];exact T4.box.cell 5 _ rfl);clear am E;obtain⟨so,sc,aV⟩:=JM (hM.tb.own .size trivial);have ax:val .size=kX so F.mg sc:=aV;(have cL:lH r ⟨b,1,lI⟩=lJ (kX so F.mg sc):=by rw[<-ax];exact T4.box.cell 1 _ rfl);clear aV ax;have N:=T4.box.lt;have z:=T4.le;have aE:=run_make_row' (P:=prog) 22 3 (kW lD 0) 8 eR Tryz.infoInt rfl lD lD F.mg (by omega) (by omega);obtain⟨aH,ai,ap,ak,ah⟩:=iM Tryz.infoSli;have Tm:RT base (PW b F val w) w (((r.alloc (lE (madeCells #[kW lD 0] F.mg) 3)).alloc (lE #[(Value.slice (lJ ⟨r.heap.size,0,lI⟩) F.mg F.mg)] 22)).drew) b F.k F.ck (fun s=>s=(.rnr F.ug)\/(fun s=>s=.dem F.ug\/xF F s) s) (zF (zF (zF (zF (zF val (.dem F.ug) (Value.slice f Y.dem.length g)) .kr I) .kt K) .kV O) (.rnr F.ug) (Value.slice (lJ ⟨r.heap.size,0,lI⟩) F.mg F.mg)) (zF (zF (zF (zF (zF (xG F) (.dem F.ug) Y.dem.length) .kr (F.ug+1)) .kt (F.ug+1)) .kV (F.ug+1)) (.rnr F.ug) F.mg) (zF (zF (zF (zF (zF (zJ F val o) (.dem F.ug) (ni Y.dem.length (lm Y.dem))) .kr (zJ F val o .kr++[(Value.slice f Y.dem.length g),kW lD Y.wt,kW lD Y.cap])) .kt (zJ F val o .kt++[kZ lK])) .kV (zJ F val o .kV++[kW lD 0])) (.rnr F.ug) (ni F.mg (fun _=>0))):=(T4.new HP ((brw r).alloc lR (lE (madeCells #[kW lD 0] F.mg) 3)) (.rnr F.ug) rfl (tR r (by omega))).iP ((eB (r.alloc (lE (madeCells #[kW lD 0] F.mg) 3)).heap.size (r.alloc (lE (madeCells #[kW lD 0] F.mg) 3))).alloc lR (lE #[(Value.slice (lJ ⟨r.heap.size,0,lI⟩) F.mg F.mg)] 22)).drew;have ae:(r.alloc (lE (madeCells #[kW lD 0] F.mg) 3)).heap.size=r.heap.size+1:=em _ _;have aB:=qq cT;have aA:=qq cL
    go_cut[] (fun wx=>∃rv vv:lN,RT base (PW b F val w) w wx b F.k F.ck (fun s=>s=(.rnr F.ug)\/(fun s=>s=.dem F.ug\/xF F s) s) (zF (zF (zF (zF (zF (zF val (.dem F.ug) (Value.slice f Y.dem.length g)) .kr I) .kt K) .kV O) (.rnr F.ug) rv) .run vv) (zF (zF (zF (zF (zF (zF (xG F) (.dem F.ug) Y.dem.length) .kr (F.ug+1)) .kt (F.ug+1)) .kV (F.ug+1)) (.rnr F.ug) F.mg) .run (F.ug+1)) (zF (zF (zF (zF (zF (zF (zJ F val o) (.dem F.ug) (ni Y.dem.length (lm Y.dem))) .kr (zJ F val o .kr++[(Value.slice f Y.dem.length g),kW lD Y.wt,kW lD Y.cap])) .kt (zJ F val o .kt++[kZ lK])) .kV (zJ F val o .kV++[kW lD 0])) (.rnr F.ug) (ni F.mg (fun _=>0))) .run (zJ F val o .run++[rv])))
    case first=>go_region_law (first|(refine Go.step_append_lies _ rfl _ _ 29 rfl base 22 aH (kX lI 0 0) 1 24 underlying29 ai ap ak ah rfl (by decide) (kX X F.ug W) F.ug (zJ F val o .run) rfl (show World.ownsRow (((r.alloc (lE (madeCells #[kW lD 0] F.mg) 3)).alloc (lE #[(Value.slice (lJ ⟨r.heap.size,0,lI⟩) F.mg F.mg)] 22)).drew) base 22 1 (kX X F.ug W) F.ug (zJ F val o .run)from by have c:=Tm.tb.own .run (.inr (.inr trivial));rw[<-l];exact c) ⟨r.heap.size+1,0,lI⟩ 1 1 [(Value.slice (lJ ⟨r.heap.size,0,lI⟩) F.mg F.mg)] rfl (by simp) (mG (by have c:=(i1 (r.alloc (lE (madeCells #[kW lD 0] F.mg) 3)) #[(Value.slice (lJ ⟨r.heap.size,0,lI⟩) F.mg F.mg)] 22).drew.cell 0 _ rfl;rw[ae]at c;exact c)) (mJ rfl) (by decide) (by unfold maxLen;omega) (by omega) (by show base<=((r.alloc (lE (madeCells #[kW lD 0] F.mg) 3)).alloc (lE #[(Value.slice (lJ ⟨r.heap.size,0,lI⟩) F.mg F.mg)] 22)).heap.size;rw[em,em];omega) _ rfl ?_;intro g8 ar L d a i aw;have y:=Tm.bx (t:=.run) (.inr (.inr trivial)) (by rw[show(zF (zF (zF (zF (zF val (.dem F.ug) (Value.slice f Y.dem.length g)) .kr I) .kt K) .kV O) (.rnr F.ug) (Value.slice (lJ ⟨r.heap.size,0,lI⟩) F.mg F.mg)) .run=kX X F.ug W from l];exact a);have p8:lH L ⟨b,5,lI⟩=lJ (val .run):=y.cell 5 _ rfl;have f8:=y.frozen 5;have m8:=y.lt;clear y));(all_goals (try go_wp2_with fail));(all_goals go_meet);all_goals exact⟨(Value.slice (lJ ⟨r.heap.size,0,lI⟩) F.mg F.mg),(kX (lJ ⟨g8,0,lI⟩) (F.ug+1) ar),by first|exact Tm.app HP (t:=.run) (m:=1) (.inr (.inr trivial)) (by decide) d (by rw[show(zF (zF (zF (zF (zF val (.dem F.ug) (Value.slice f Y.dem.length g)) .kr I) .kt K) .kV O) (.rnr F.ug) (Value.slice (lJ ⟨r.heap.size,0,lI⟩) F.mg F.mg)) .run=kX X F.ug W from l];exact a) (by rw[show(zF (zF (zF (zF (zF val (.dem F.ug) (Value.slice f Y.dem.length g)) .kr I) .kt K) .kV O) (.rnr F.ug) (Value.slice (lJ ⟨r.heap.size,0,lI⟩) F.mg F.mg)) .run=kX X F.ug W from l];rcases i with c|c;(exact .inl c.symm);(exact .inr (congrArg lJ c)))|exact(Tm.app HP (t:=.run) (m:=1) (.inr (.inr trivial)) (by decide) d (by rw[show(zF (zF (zF (zF (zF val (.dem F.ug) (Value.slice f Y.dem.length g)) .kr I) .kt K) .kV O) (.rnr F.ug) (Value.slice (lJ ⟨r.heap.size,0,lI⟩) F.mg F.mg)) .run=kX X F.ug W from l];exact a) (by rw[show(zF (zF (zF (zF (zF val (.dem F.ug) (Value.slice f Y.dem.length g)) .kr I) .kt K) .kV O) (.rnr F.ug) (Value.slice (lJ ⟨r.heap.size,0,lI⟩) F.mg F.mg)) .run=kX X F.ug W from l];rcases i with c|c;(exact .inl c.symm);(exact .inr (congrArg lJ c)))).iP brf.drew⟩
    case rest=>
     obtain⟨Z,v5,T5⟩:=hcut;clear aB aA cT cL N z aE Tm ae l T4;generalize wc=V5 at T5 ⊢;have Q:=T5.iP (brf.alloc lR (lE #[lC ⟨#[48]⟩] 9));have C:(zJ F val o .due).length=F.ug:=mB _ _;(have B:(V5.alloc (lE #[lC ⟨#[48]⟩] 9)).ownsRow base 9 1 (val .due) (zJ F val o .due).length (zJ F val o .due):=by have c:=Q.tb.own .due (.inr (.inr trivial));rw[C];exact c);have N:=T5.box.lt;have g1:lH V5 ⟨b,6,lI⟩=lJ (val .due):=T5.box.cell 6 _ rfl;obtain⟨n8,D⟩:∃n,(zJ F val o .due).length+1=n:=⟨_,rfl⟩;have z:=T5.le;go_wp2_with (at_builtin;refine nH _ 9 116 (lC ⟨#[]⟩) 16 underlying116 Tryz.infoStR rfl (by decide) rfl _ _ rfl base _ (zJ F val o .due) ⟨V5.heap.size,0,lI⟩ 1 1 [lC ⟨#[48]⟩] rfl rfl B n8 D rfl (by decide) (mG ((i1 V5 #[lC ⟨#[48]⟩] 9).cell 0 _ rfl)) (mJ rfl) (by omega) (by simp only[em];omega) ?_);intro v8 L d a i;obtain⟨T,S,ab⟩:=JM d;(obtain rfl:n8=F.ug+1:=by omega);subst ab;have j:=Q.bx (t:=.due) (.inr (.inr trivial)) a;have p8:lH L ⟨b,6,lI⟩=lJ (val .due):=j.cell 6 _ rfl;have f8:=j.frozen 6;have m8:=j.lt;have T6:RT base (PW b F val w) w (lG L ⟨b,6,lI⟩ (kX T (F.ug+1) S)) b F.k F.ck (fun s=>s=(.rnr F.ug)\/(fun s=>s=.dem F.ug\/xF F s) s) (zF (zF (zF (zF (zF (zF (zF val (.dem F.ug) (Value.slice f Y.dem.length g)) .kr I) .kt K) .kV O) (.rnr F.ug) Z) .run v5) .due (kX T (F.ug+1) S)) (zF (zF (zF (zF (zF (zF (zF (xG F) (.dem F.ug) Y.dem.length) .kr (F.ug+1)) .kt (F.ug+1)) .kV (F.ug+1)) (.rnr F.ug) F.mg) .run (F.ug+1)) .due (F.ug+1)) (zF (zF (zF (zF (zF (zF (zF (zJ F val o) (.dem F.ug) (ni Y.dem.length (lm Y.dem))) .kr (zJ F val o .kr++[(Value.slice f Y.dem.length g),kW lD Y.wt,kW lD Y.cap])) .kt (zJ F val o .kt++[kZ lK])) .kV (zJ F val o .kV++[kW lD 0])) (.rnr F.ug) (ni F.mg (fun _=>0))) .run (zJ F val o .run++[Z])) .due (zJ F val o .due++[lC ⟨#[48]⟩])):=Q.app HP (t:=.due) (m:=1) (.inr (.inr trivial)) (by decide) d a (by rw[em];exact i);clear d a i j g1 N B D C Q z;(go_upto_region 12 with fail);obtain⟨V6,hV⟩:∃V,V=lG L ⟨b,6,lI⟩ (kX T (F.ug+1) S):=⟨_,rfl⟩;obtain⟨v6,hv⟩:∃v,v=Value.slice T (F.ug+1) S:=⟨_,rfl⟩;rw[<-hV]at T6 ⊢;rw[<-hv]at T6;clear hV hv p8 f8 m8 T5;have Q:=T6.iP (brf.alloc lR (lE #[kW lD 0] 3));have C:(zJ F val o .off).length=F.ug:=mB _ _;(have B:(V6.alloc (lE #[kW lD 0] 3)).ownsRow base 3 1 (val .off) (zJ F val o .off).length (zJ F val o .off):=by have c:=Q.tb.own .off (.inr (.inr trivial));rw[C];exact c);have N:=T6.box.lt;have g1:lH V6 ⟨b,7,lI⟩=lJ (val .off):=T6.box.cell 7 _ rfl;obtain⟨n8,D⟩:∃n,(zJ F val o .off).length+1=n:=⟨_,rfl⟩;have z:=T6.le;go_wp2_with (at_builtin;refine nH _ 3 22 (kW lD 0) 8 eR Tryz.infoInt rfl (by decide) rfl _ _ rfl base _ (zJ F val o .off) ⟨V6.heap.size,0,lI⟩ 1 1 [kW lD 0] rfl rfl B n8 D rfl (by decide) (mG ((i1 V6 #[kW lD 0] 3).cell 0 _ rfl)) (mJ rfl) (by omega) (by simp only[em];omega) ?_);intro v8 L d a i;obtain⟨T,S,ab⟩:=JM d;(obtain rfl:n8=F.ug+1:=by omega);subst ab;have j:=Q.bx (t:=.off) (.inr (.inr trivial)) a;have p8:lH L ⟨b,7,lI⟩=lJ (val .off):=j.cell 7 _ rfl;have f8:=j.frozen 7;have m8:=j.lt;have T7:RT base (PW b F val w) w (lG L ⟨b,7,lI⟩ (kX T (F.ug+1) S)) b F.k F.ck (fun s=>s=(.rnr F.ug)\/(fun s=>s=.dem F.ug\/xF F s) s) (zF (zF (zF (zF (zF (zF (zF (zF val (.dem F.ug) (Value.slice f Y.dem.length g)) .kr I) .kt K) .kV O) (.rnr F.ug) Z) .run v5) .due v6) .off (kX T (F.ug+1) S)) (zF (zF (zF (zF (zF (zF (zF (zF (xG F) (.dem F.ug) Y.dem.length) .kr (F.ug+1)) .kt (F.ug+1)) .kV (F.ug+1)) (.rnr F.ug) F.mg) .run (F.ug+1)) .due (F.ug+1)) .off (F.ug+1)) (zF (zF (zF (zF (zF (zF (zF (zF (zJ F val o) (.dem F.ug) (ni Y.dem.length (lm Y.dem))) .kr (zJ F val o .kr++[(Value.slice f Y.dem.length g),kW lD Y.wt,kW lD Y.cap])) .kt (zJ F val o .kt++[kZ lK])) .kV (zJ F val o .kV++[kW lD 0])) (.rnr F.ug) (ni F.mg (fun _=>0))) .run (zJ F val o .run++[Z])) .due (zJ F val o .due++[lC ⟨#[48]⟩])) .off (zJ F val o .off++[kW lD 0])):=Q.app HP (t:=.off) (m:=1) (.inr (.inr trivial)) (by decide) d a (by rw[em];exact i);clear d a i j g1 N B D C Q z;(go_upto_region 13 with fail);obtain⟨x,hV⟩:∃V,V=lG L ⟨b,7,lI⟩ (kX T (F.ug+1) S):=⟨_,rfl⟩;obtain⟨v7,hv⟩:∃v,v=Value.slice T (F.ug+1) S:=⟨_,rfl⟩;rw[<-hV]at T7 ⊢;rw[<-hv]at T7;clear hV hv p8 f8 m8 T6;obtain⟨X,W,am⟩:=JM (hM.tb.own .ks trivial);have E:val .ks=kX X F.ug W:=am;have l:=E;(have cT:lH x ⟨b,8,lI⟩=lJ (kX X F.ug W):=by rw[<-E];exact T7.box.cell 8 _ rfl);clear am E;have cL:lH x ⟨b,0,lI⟩=lJ (kW lD F.k):=T7.box.cell 0 _ rfl;have N:=T7.box.lt;have z:=T7.le;have aE:=run_make_row' (P:=prog) 22 3 (kW lD 0) 8 eR Tryz.infoInt rfl lD lD F.k (by omega) (by omega);obtain⟨aH,ai,ap,ak,ah⟩:=iM Tryz.infoSli;have Tm:RT base (PW b F val w) w (((x.alloc (lE (madeCells #[kW lD 0] F.k) 3)).alloc (lE #[(Value.slice (lJ ⟨x.heap.size,0,lI⟩) F.k F.k)] 22)).drew) b F.k F.ck (fun s=>s=(.usr F.ug)\/(fun s=>s=(.rnr F.ug)\/(fun s=>s=.dem F.ug\/xF F s) s) s) (zF (zF (zF (zF (zF (zF (zF (zF (zF val (.dem F.ug) (Value.slice f Y.dem.length g)) .kr I) .kt K) .kV O) (.rnr F.ug) Z) .run v5) .due v6) .off v7) (.usr F.ug) (Value.slice (lJ ⟨x.heap.size,0,lI⟩) F.k F.k)) (zF (zF (zF (zF (zF (zF (zF (zF (zF (xG F) (.dem F.ug) Y.dem.length) .kr (F.ug+1)) .kt (F.ug+1)) .kV (F.ug+1)) (.rnr F.ug) F.mg) .run (F.ug+1)) .due (F.ug+1)) .off (F.ug+1)) (.usr F.ug) F.k) (zF (zF (zF (zF (zF (zF (zF (zF (zF (zJ F val o) (.dem F.ug) (ni Y.dem.length (lm Y.dem))) .kr (zJ F val o .kr++[(Value.slice f Y.dem.length g),kW lD Y.wt,kW lD Y.cap])) .kt (zJ F val o .kt++[kZ lK])) .kV (zJ F val o .kV++[kW lD 0])) (.rnr F.ug) (ni F.mg (fun _=>0))) .run (zJ F val o .run++[Z])) .due (zJ F val o .due++[lC ⟨#[48]⟩])) .off (zJ F val o .off++[kW lD 0])) (.usr F.ug) (ni F.k (fun _=>0))):=(T7.new HP ((brw x).alloc lR (lE (madeCells #[kW lD 0] F.k) 3)) (.usr F.ug) rfl (tR x (by omega))).iP ((eB (x.alloc (lE (madeCells #[kW lD 0] F.k) 3)).heap.size (x.alloc (lE (madeCells #[kW lD 0] F.k) 3))).alloc lR (lE #[(Value.slice (lJ ⟨x.heap.size,0,lI⟩) F.k F.k)] 22)).drew;have ae:(x.alloc (lE (madeCells #[kW lD 0] F.k) 3)).heap.size=x.heap.size+1:=em _ _;have aB:=qq cT;have aA:=qq cL
     go_cut[] (fun wx=>∃rv vv:lN,RT base (PW b F val w) w wx b F.k F.ck (fun s=>s=(.usr F.ug)\/(fun s=>s=(.rnr F.ug)\/(fun s=>s=.dem F.ug\/xF F s) s) s) (zF (zF (zF (zF (zF (zF (zF (zF (zF (zF val (.dem F.ug) (Value.slice f Y.dem.length g)) .kr I) .kt K) .kV O) (.rnr F.ug) Z) .run v5) .due v6) .off v7) (.usr F.ug) rv) .ks vv) (zF (zF (zF (zF (zF (zF (zF (zF (zF (zF (xG F) (.dem F.ug) Y.dem.length) .kr (F.ug+1)) .kt (F.ug+1)) .kV (F.ug+1)) (.rnr F.ug) F.mg) .run (F.ug+1)) .due (F.ug+1)) .off (F.ug+1)) (.usr F.ug) F.k) .ks (F.ug+1)) (zF (zF (zF (zF (zF (zF (zF (zF (zF (zF (zJ F val o) (.dem F.ug) (ni Y.dem.length (lm Y.dem))) .kr (zJ F val o .kr++[(Value.slice f Y.dem.length g),kW lD Y.wt,kW lD Y.cap])) .kt (zJ F val o .kt++[kZ lK])) .kV (zJ F val o .kV++[kW lD 0])) (.rnr F.ug) (ni F.mg (fun _=>0))) .run (zJ F val o .run++[Z])) .due (zJ F val o .due++[lC ⟨#[48]⟩])) .off (zJ F val o .off++[kW lD 0])) (.usr F.ug) (ni F.k (fun _=>0))) .ks (zJ F val o .ks++[rv])))
     case first=>go_region_law (first|(refine Go.step_append_lies _ rfl _ _ 29 rfl base 22 aH (kX lI 0 0) 1 24 underlying29 ai ap ak ah rfl (by decide) (kX X F.ug W) F.ug (zJ F val o .ks) rfl (show World.ownsRow (((x.alloc (lE (madeCells #[kW lD 0] F.k) 3)).alloc (lE #[(Value.slice (lJ ⟨x.heap.size,0,lI⟩) F.k F.k)] 22)).drew) base 22 1 (kX X F.ug W) F.ug (zJ F val o .ks)from by have c:=Tm.tb.own .ks (.inr (.inr (.inr trivial)));rw[<-l];exact c) ⟨x.heap.size+1,0,lI⟩ 1 1 [(Value.slice (lJ ⟨x.heap.size,0,lI⟩) F.k F.k)] rfl (by simp) (mG (by have c:=(i1 (x.alloc (lE (madeCells #[kW lD 0] F.k) 3)) #[(Value.slice (lJ ⟨x.heap.size,0,lI⟩) F.k F.k)] 22).drew.cell 0 _ rfl;rw[ae]at c;exact c)) (mJ rfl) (by decide) (by unfold maxLen;omega) (by omega) (by show base<=((x.alloc (lE (madeCells #[kW lD 0] F.k) 3)).alloc (lE #[(Value.slice (lJ ⟨x.heap.size,0,lI⟩) F.k F.k)] 22)).heap.size;rw[em,em];omega) _ rfl ?_;intro g8 ar L d a i aw;have y:=Tm.bx (t:=.ks) (.inr (.inr (.inr trivial))) (by rw[show(zF (zF (zF (zF (zF (zF (zF (zF (zF val (.dem F.ug) (Value.slice f Y.dem.length g)) .kr I) .kt K) .kV O) (.rnr F.ug) Z) .run v5) .due v6) .off v7) (.usr F.ug) (Value.slice (lJ ⟨x.heap.size,0,lI⟩) F.k F.k)) .ks=kX X F.ug W from l];exact a);have p8:lH L ⟨b,8,lI⟩=lJ (val .ks):=y.cell 8 _ rfl;have f8:=y.frozen 8;have m8:=y.lt;clear y));(all_goals (try go_wp2_with fail));(all_goals go_meet);all_goals exact⟨(Value.slice (lJ ⟨x.heap.size,0,lI⟩) F.k F.k),(kX (lJ ⟨g8,0,lI⟩) (F.ug+1) ar),by first|exact Tm.app HP (t:=.ks) (m:=1) (.inr (.inr (.inr trivial))) (by decide) d (by rw[show(zF (zF (zF (zF (zF (zF (zF (zF (zF val (.dem F.ug) (Value.slice f Y.dem.length g)) .kr I) .kt K) .kV O) (.rnr F.ug) Z) .run v5) .due v6) .off v7) (.usr F.ug) (Value.slice (lJ ⟨x.heap.size,0,lI⟩) F.k F.k)) .ks=kX X F.ug W from l];exact a) (by rw[show(zF (zF (zF (zF (zF (zF (zF (zF (zF val (.dem F.ug) (Value.slice f Y.dem.length g)) .kr I) .kt K) .kV O) (.rnr F.ug) Z) .run v5) .due v6) .off v7) (.usr F.ug) (Value.slice (lJ ⟨x.heap.size,0,lI⟩) F.k F.k)) .ks=kX X F.ug W from l];rcases i with c|c;(exact .inl c.symm);(exact .inr (congrArg lJ c)))|exact(Tm.app HP (t:=.ks) (m:=1) (.inr (.inr (.inr trivial))) (by decide) d (by rw[show(zF (zF (zF (zF (zF (zF (zF (zF (zF val (.dem F.ug) (Value.slice f Y.dem.length g)) .kr I) .kt K) .kV O) (.rnr F.ug) Z) .run v5) .due v6) .off v7) (.usr F.ug) (Value.slice (lJ ⟨x.heap.size,0,lI⟩) F.k F.k)) .ks=kX X F.ug W from l];exact a) (by rw[show(zF (zF (zF (zF (zF (zF (zF (zF (zF val (.dem F.ug) (Value.slice f Y.dem.length g)) .kr I) .kt K) .kV O) (.rnr F.ug) Z) .run v5) .due v6) .off v7) (.usr F.ug) (Value.slice (lJ ⟨x.heap.size,0,lI⟩) F.k F.k)) .ks=kX X F.ug W from l];rcases i with c|c;(exact .inl c.symm);(exact .inr (congrArg lJ c)))).iP brf.drew⟩
     case rest=>
      obtain⟨r8,v8,T8⟩:=hcut;clear aB aA cT cL N z aE Tm ae l T7;obtain⟨aR,aS⟩:=T8.user (val:=val) (o:=o) (Y:=Y) HS hM.old (fun t ht=>by rcases ht with e|e|e|e;(exact .inr (.inr (.inl e)));(exact .inr (.inl e));(exact .inl e);(exact .inr (.inr (.inr e)))) (fun m=>rfl) (fun u hu=>j7 (s:=.dem u) (t:=.dem F.ug) _ _ (fun e=>hu (by injection e))) (fun u hu=>j7 (s:=.rnr u) (t:=.rnr F.ug) _ _ (fun e=>hu (by injection e))) (fun u hu=>j7 (s:=.usr u) (t:=.usr F.ug) _ _ (fun e=>hu (by injection e))) ⟨rfl,rfl⟩ ⟨rfl,rfl,rfl,rfl,rfl,rfl,rfl⟩ (fun m=>rfl) (fun u=>by show zF (xG F) (.dem F.ug) Y.dem.length (.dem u)=_;unfold zF;split;(first|rfl|exact(ph HS).1);rfl) (fun u=>by show zF (xG F) (.rnr F.ug) F.mg (.rnr u)=_;unfold zF;split;(first|rfl|exact(ph HS).1);rfl) (fun u=>by show zF (xG F) (.usr F.ug) F.k (.usr u)=_;unfold zF;split;(first|rfl|exact(ph HS).1);rfl) rfl (by rw[show((zF (zF (zF (zF (zF (zF (zF (zF (zF (zF val (.dem F.ug) (Value.slice f Y.dem.length g)) .kr I) .kt K) .kV O) (.rnr F.ug) Z) .run v5) .due v6) .off v7) (.usr F.ug) r8) .ks v8):Tb->lN) (.dem F.ug)=(Value.slice f Y.dem.length g)from jR _ _ _];rfl) rfl rfl (by rw[show((zF (zF (zF (zF (zF (zF (zF (zF (zF (zF val (.dem F.ug) (Value.slice f Y.dem.length g)) .kr I) .kt K) .kV O) (.rnr F.ug) Z) .run v5) .due v6) .off v7) (.usr F.ug) r8) .ks v8):Tb->lN) (.rnr F.ug)=Z from jR _ _ _];rfl) rfl rfl (by rw[show((zF (zF (zF (zF (zF (zF (zF (zF (zF (zF val (.dem F.ug) (Value.slice f Y.dem.length g)) .kr I) .kt K) .kV O) (.rnr F.ug) Z) .run v5) .due v6) .off v7) (.usr F.ug) r8) .ks v8):Tb->lN) (.usr F.ug)=r8 from jR _ _ _];rfl) rfl (fun m=>rfl) (fun u hu=>j7 (s:=.dem u) (t:=.dem F.ug) _ _ (fun e=>hu (by injection e))) ((jR _ _ _).trans (by rw[(ph HS).1];rfl)) (fun u hu=>j7 (s:=.rnr u) (t:=.rnr F.ug) _ _ (fun e=>hu (by injection e))) (jR _ _ _) (fun u hu=>j7 (s:=.usr u) (t:=.usr F.ug) _ _ (fun e=>hu (by injection e))) (jR _ _ _);have aJ:=T8.chg;clear T8;obtain⟨vl,aZ⟩:∃v:Tb->lN,v=(zF (zF (zF (zF (zF (zF (zF (zF (zF (zF val (.dem F.ug) (Value.slice f Y.dem.length g)) .kr I) .kt K) .kV O) (.rnr F.ug) Z) .run v5) .due v6) .off v7) (.usr F.ug) r8) .ks v8):=⟨_,rfl⟩;rw[<-aZ]at aR aS;clear aZ;have a6:Tab wc:=HT.chg hl aJ (fun k hk=>by rcases hk with c|c;(exact hM.kJ k c);(have:=hM.le;omega)) hM.le;have a2:Chg (zN b F val) w wc:=Chg.shed brf aJ (fun k hk hlt=>by rcases hk with c|c;(exact c);omega);go_wp2_with fail;refine(nP aR ((hr.addU (by have c:=hr.ky 0 (by omega);omega) aP HS).withD _) hR a6).mono ?_;rintro e9 w9 ⟨rfl,G,o9,aj,aG,aO⟩;have a5:G.ug=F.ug+1:=by obtain⟨z9,e9,_⟩:=aG;rw[e9];rfl
      have aU:Settled (yz F Y) G:=aG.due (fun u hu=>by
       show yR F.due F.ug ⟨#[48]⟩ u=yR F.due F.ug ⟨#[]⟩ u
       have aF:u≠F.ug:=fun e=>hu ⟨by omega,by rw[e];exact mX _ _ _⟩
       unfold yR;rw[ec aF,ec aF])
      have a4:=REnds.of (F:=F) (F1:=yz F Y) (er:=0) a2 aj aU aO aS rfl;have bk:=aj.box.lt;have c9:lH w9 ⟨b,2,lI⟩=lJ (vl .kr):=aj.box.cell 2 _ rfl;obtain⟨s9,x9,ay⟩:=JM (aj.tb.own .kr trivial);(have al:vl .kr=kX s9 (F.ug+1) x9:=by rw[ay];exact congrArg (fun q=>Value.slice s9 q x9) a5);rw[al]at c9;clear aj aG aO ay al aU;go_wp2;go_ret2;exact⟨by rw[HE,HN];go_num,by rw[HE];exact a4⟩
theorem Settled.det {G':Flt}(h:Settled F G)(k:Settled F G'):G=G':=by
 obtain⟨z,rfl,v,x,c,d,e⟩:=h;obtain⟨m,rfl,j,l,f,g,i⟩:=k;have a:=c.det f;subst a;have b:=d.det g;subst b;rw[e.det _ i]
theorem Tb.nefl (t:Tb):t.ty≠115:=by cases t<;>(simp only[Tb.ty];decide)
theorem Tb.new (t:Tb):t.ty≠67:=by cases t<;>(simp only[Tb.ty];decide)
structure LW (base:Nat)(R:Int)(w:lM)(x fb rb:Nat)(F:Flt)(val:Tb->lN)(o:Old):Prop where
  bx:Bx w x #[kY (lJ ⟨fb,0,lI⟩),kY (lJ ⟨rb,0,lI⟩)] 67
  fl:FL w fb F
  rf:RfM base w rb F val o
  wf:FWf R F
  low:base<=fb
  xlow:base<=x
abbrev PL (fb rb:Nat)(F:Flt)(val:Tb->lN):Nat->Prop:=fun k=>k=fb\/zN rb F val k
def LStep (base:Nat)(R:Int)(w w':lM)(x fb rb:Nat)(F:Flt)(val:Tb->lN):Prop:=∃G val' o',LW base (R+9600) w' x fb rb G val' o'/\Tab w'/\Chg (PL fb rb F val) w w'/\∀k,PL fb rb G val' k->PL fb rb F val k\/w.heap.size<=k
section
variable{base x fb rb:Nat} {R er:Int} {F F1 G:Flt} {val val':Tb->lN} {o o':Old} {w w1 w2:lM}
theorem uj {H:Flt} (hf:FL w fb H) (hr:RfM base w rb F val o):¬ zN rb F val fb:=fun h=>by
 rcases h with e|⟨t,h1,h2⟩
 ·exact hf.kH hr.box (by decide) e.symm
 ·obtain⟨_,cur,h3⟩:=p6 (hr.tb.own t h1) h2
  exact hf.ne_of h3 (Tb.nefl t) rfl
theorem RfM.same (h:RfM base w rb F val o)(hs:∀k,zN rb F val k->w1.heap[k]?=w.heap[k]?):RfM base w1 rb F val o:=by
 refine⟨(hs rb (.inl rfl)).trans h.box,h.low,⟨fun t ht=>?_,h.tb.kB⟩,h.old⟩;have d:=h.tb.own t ht;refine⟨d.1,?_⟩;rcases d.2 with a|⟨g,b,c,a,e,f,i⟩
 ·exact .inl a
 ·exact .inr ⟨g,b,c,a,e,(hs g (.inr ⟨t,ht,by rw[a];rfl⟩)).trans f,i⟩
theorem FL.same {H:Flt}(h:FL w fb H)(hs:w1.heap[fb]?=w.heap[fb]?):FL w1 fb H:=by
 obtain⟨M,a,b⟩:=h;exact⟨M,hs.trans a,b⟩
theorem LW.xno (h:LW base R w x fb rb F val o):¬ PL fb rb F val x:=fun hx=>by
 rcases hx with e|e|⟨t,h1,h2⟩
 ·exact h.fl.kH h.bx (by decide) e
 ·subst e
  have h3:=h.bx
  have h4:=h.rf.box
  unfold Bx at h3 h4
  rw[h3]at h4;injection h4 with h4;injection h4 with _ h4;exact absurd h4 (by decide)
 ·exact mC (h.rf.tb.own t h1) h.bx (Tb.new t) h2
theorem LW.lt (h:LW base R w x fb rb F val o):∀k,PL fb rb F val k->base<=k/\k<w.heap.size:=fun k hk=>by
  rcases hk with e|e
  · rw[e];exact⟨h.low,h.fl.lt⟩
  · exact⟨h.rf.kJ k e,h.rf.kI k e⟩
theorem LW.iP (h:LW base R w x fb rb F val o)(hb:Below w.heap.size w w1):LW base R w1 x fb rb F val o:=⟨h.bx.ji hb,h.fl.iP hb,h.rf.iP hb,h.wf,h.low,h.xlow⟩
theorem LW.mono (h:LW base R w x fb rb F val o){S:Int}(hR:R<=S):LW base S w x fb rb F val o:=⟨h.bx,h.fl,h.rf,h.wf.mono hR,h.low,h.xlow⟩
theorem LW.jx (h:LW base R w x fb rb F val o) {P:Nat->Prop} (hc:Chg P w w1) (hp:∀k,PL fb rb F val k->¬ P k) (hx:¬ P x):LW base R w1 x fb rb F val o:=
  ⟨(hc.block x h.bx.lt hx).trans h.bx,h.fl.same (hc.block fb h.fl.lt (hp fb (.inl rfl))),h.rf.same (fun k hk=>hc.block k (h.rf.kI k hk) (hp k (.inr hk))),h.wf,h.low,h.xlow⟩
theorem LW.mid (h:LW base R w x fb rb F val o) (ho:Only w.heap.size fb w w1):RfM base w1 rb F val o/\Bx w1 x #[kY (lJ ⟨fb,0,lI⟩),kY (lJ ⟨rb,0,lI⟩)] 67:=
  ⟨h.rf.same (fun k hk=>ho.block k (h.rf.kI k hk) (fun e=>uj h.fl h.rf (e ▸ hk))),(ho.block x h.bx.lt (h.fl.kH h.bx (by decide))).trans h.bx⟩
theorem LW.both (h:LW base R w x fb rb F val o)(hl:yi base)(hf:FL w1 fb G)(hw:FWf (R+9600) G)(ht:Tab w1)(ho:Only w.heap.size fb w w1)(hm:RfM base w2 rb G val' o')(hc:Chg (zN rb F val) w1 w2)(hown:∀k,zN rb G val' k->zN rb F val k\/w1.heap.size<=k):LStep base R w w2 x fb rb F val:=by
 obtain⟨f,g⟩:=h.mid ho;have d:=uj hf f;have b:Chg (PL fb rb F val) w w1:=⟨ho.os,ho.tape,ho.output,ho.size,fun k hk hn=>ho.block k hk (fun e=>hn (.inl e))⟩;have c:Chg (PL fb rb F val) w1 w2:=hc.mono (fun k hk=>.inr hk);refine⟨G,val',o',⟨(hc.block x g.lt (fun e=>h.xno (.inr e))).trans g,hf.same (hc.block fb hf.lt d),hm,hw,h.low,h.xlow⟩,ht.chg hl hc f.kJ f.le,b.trans c,fun k hk=>?_⟩;rcases hk with e|e
 ·exact .inl (.inl e)
 ·rcases hown k e with a|a
  ·exact .inl (.inr a)
  ·exact .inr (eh ho.size a)
theorem LW.step (h:LW base R w x fb rb F val o)(hl:yi base)(he:Ends fb R F F1 er w w1)(hr:REnds base rb F F1 val er w1 w2):LStep base R w w2 x fb rb F val:=by
 obtain⟨G,j,k,l,m,n⟩:=he;obtain⟨i,g,s,p,q,r,f⟩:=hr
 have e:i=G:=by
  rcases n with⟨a,b⟩|⟨a,b⟩
  ·rcases f with⟨_,d⟩|⟨c,_⟩
   ·exact d.det b
   ·exact absurd a c
  ·rcases f with⟨c,_⟩|⟨_,d⟩
   ·exact absurd c a
   ·rw[d,b]
 subst e;exact h.both hl j k l m p q r
theorem LStep.kv (h:LW base R w x fb rb F val o)(ht:Tab w)(hb:Below w.heap.size w w1):LStep base R w w1 x fb rb F val:=⟨F,val,o,(h.iP hb).mono (by omega),ht.iP hb,Chg.jE _ hb,fun k hk=>.inl hk⟩
theorem LStep.pre {v:lM}(hb:Below v.heap.size v w)(h:LStep base R w w1 x fb rb F val):LStep base R v w1 x fb rb F val:=by
 obtain⟨G,a,f,b,c,d,e⟩:=h;exact⟨G,a,f,b,c,(Chg.jE _ hb).trans d,fun k hk=>(e k hk).imp_right (fun q=>eh hb.size q)⟩
theorem LStep.post (hb:Below w1.heap.size w1 w2)(h:LStep base R w w1 x fb rb F val):LStep base R w w2 x fb rb F val:=by
 obtain⟨G,a,f,b,c,d,e⟩:=h;exact⟨G,a,f,b.iP hb,c.iP hb,d.trans (Chg.jE _ hb),e⟩
end
def RNewEnd (k:Int)(w w':lM)(e:Ending):Prop:=
  if xE 1 4 k then∃b val o,e=lF (lB #[kY (lJ ⟨b,0,lI⟩),kW lD 0])/\RfM w.heap.size w' b (newF k.toNat) val o/\Below w.heap.size w w'
  else e=lF (lB #[kY lI,kW lD 3])/\w'=w
variable{k:Int}
theorem A8:Calls prog 29 #[kW lD k] w fun e w'=>RNewEnd k w w' e:=by
 go_enter func29,ntmps29;by_cases i:k<1
 ·have b:xE 1 4 k=lL:=ee (by omega);have p:=ei i;go_wp2;go_ret2;unfold RNewEnd;rw[b];exact⟨rfl,rfl⟩
 ·have p:=ee i;by_cases j:4<k
  ·have b:xE 1 4 k=lL:=ee (by omega);have q:=ei j;go_wp2;go_ret2;unfold RNewEnd;rw[b];exact⟨rfl,rfl⟩
  ·have q:decide (4<k)=lL:=ee j;obtain⟨n,rfl⟩:∃n:Nat,k=n:=⟨k.toNat,by omega⟩;have b:xE 1 4 (n:Int)=lK:=ei (by omega);have f:=run_make_row' (P:=prog) 22 3 (kW lD 0) 8 eR Tryz.infoInt rfl lD lD n (by omega) (by omega);have a:Bl w (w.alloc (lE (madeCells #[kW lD 0] n) 3)):=brf.alloc lR _;have d:=tR w (n:=n) (by omega);go_wp2;clear f;go_ret2;unfold RNewEnd;rw[b,ed rfl];refine⟨_,zF (fun _=>kX lI 0 0) .ku (kX (lJ ⟨w.heap.size,0,lI⟩) n n),⟨fun _ _=>0,fun _=>0,fun _=>0,fun _=>⟨#[]⟩⟩,rfl,⟨(by have o:=i1 (w.alloc (lE (madeCells #[kW lD 0] n) 3)) #[kW lD (n:Int),kX lI 0 0,kX lI 0 0,kX lI 0 0,kX lI 0 0,kX lI 0 0,kX lI 0 0,kX lI 0 0,kX lI 0 0,kX (lJ ⟨w.heap.size,0,lI⟩) n n,kW lD 0] 118;rw[em]at o;exact o),(by first|omega|(rw[em];omega)),⟨fun t ht=>?_,fun t s ht hs hne g e1 e2=>?_⟩,⟨fun u hu=>absurd hu (iF u),fun u hu=>absurd hu (iF u)⟩⟩,a.alloc a.size _⟩
   ·cases t with
    |size=>exact iy _ _ _ _
    |kr=>exact iy _ _ _ _
    |kt=>exact iy _ _ _ _
    |kV=>exact iy _ _ _ _
    |run=>exact iy _ _ _ _
    |due=>exact iy _ _ _ _
    |off=>exact iy _ _ _ _
    |ks=>exact iy _ _ _ _
    |ku=>exact JO d (brf.alloc lR _)
    |szr m=>exact absurd ht.1 (iF m)
    |dem u=>exact absurd ht (iF u)
    |rnr u=>exact absurd ht (iF u)
    |usr u=>exact absurd ht (iF u)
   ·(have c:∀t:Tb,t≠.ku->(zF (fun _=>Value.slice lI 0 0) .ku (Value.slice (lJ ⟨w.heap.size,0,lI⟩) n n) t).ownBlock=lI:=fun t h=>by rw[j7 _ _ h];rfl);by_cases l:t=.ku
    ·rw[c s (fun e=>hne (by rw[l,e]))]at e2;cases e2
    ·rw[c t l]at e1;cases e1
variable{x fb rb:Nat}{u m:Int}
theorem xy (hw:LW base R w x fb rb F val o):Calls prog 59 #[kY (lJ ⟨x,0,lI⟩),kW lD u,kW lD m] w fun e w'=>e=lF (kZ lK)/\w'=w:=by
 have h:=hw.wf.rfo;have l:=hw.bx.cell 0 _ rfl;have n:=hw.bx.cell 1 _ rfl;have q:=hw.bx.lt;go_enter func59,ntmps59;go_wp2_with fail;refine(Running_any hw.fl).mono ?_;rintro p r ⟨rfl,c⟩;obtain rfl:=c.symm
 cases d:(yH F u&&yl F m)with
 |false=>have f:=d;simp only[yh];(try simp only[eS,ig,ev]);go_wp2_with fail;refine(vT hw.rf h).mono ?_;rintro j k ⟨b,c⟩;obtain rfl:=c.symm;rw[f]at b;simp only[yh,ig,ev]at b;subst b;go_wp2;go_ret;exact⟨by simp,rfl⟩
 |true=>have f:=d;simp only[yh];obtain⟨X,g⟩:∃X,F.m.on u.toNat m.toNat=X:=⟨_,rfl⟩;rw[g];(try simp only[eS,ig,ev]);go_wp2_with fail;refine(vT hw.rf h).mono ?_;rintro j k ⟨b,c⟩;obtain rfl:=c.symm;rw[f]at b;simp only[yh,eS]at b;rw[g]at b;subst b;go_wp2;go_ret;exact⟨by simp,rfl⟩
theorem wP (hw:LW base R w x fb rb F val o):Calls prog 60 #[kY (lJ ⟨x,0,lI⟩),kW lD u] w fun e w'=>e=lF (kZ lK)/\w'=w:=by
 have h:=hw.wf.rfo;have l:=hw.bx.cell 0 _ rfl;have n:=hw.bx.cell 1 _ rfl;have q:=hw.bx.lt;go_enter func60,ntmps60;go_wp2_with fail;refine(Waiting_any hw.fl).mono ?_;rintro p r ⟨rfl,c⟩;obtain rfl:=c.symm
 cases d:(yH F u)with
 |false=>have f:=d;simp only[yh];(try simp only[eS,ig,ev]);go_wp2_with fail;refine(vV hw.rf h).mono ?_;rintro j k ⟨b,c⟩;obtain rfl:=c.symm;rw[f]at b;simp only[yh,ig,ev]at b;subst b;go_wp2;go_ret;exact⟨by simp,rfl⟩
 |true=>have f:=d;simp only[yh];obtain⟨X,g⟩:∃X,F.m.kV u.toNat=X:=⟨_,rfl⟩;rw[g];(try simp only[eS,ig,ev]);go_wp2_with fail;refine(vV hw.rf h).mono ?_;rintro j k ⟨b,c⟩;obtain rfl:=c.symm;rw[f]at b;simp only[yh,eS]at b;rw[g]at b;subst b;go_wp2;go_ret;exact⟨by simp,rfl⟩
theorem y8 (hw:LW base R w x fb rb F val o):Calls prog 61 #[kY (lJ ⟨x,0,lI⟩),kW lD u] w fun e w'=>e=lF (kZ lK)/\w'=w:=by
 have g:=hw.wf.rfo;have l:=hw.bx.cell 0 _ rfl;have n:=hw.bx.cell 1 _ rfl;have q:=hw.bx.lt;go_enter func61,ntmps61;go_wp2_with fail;refine(Revoked_any hw.fl g.ug).mono ?_;rintro p r ⟨rfl,c⟩;obtain rfl:=c.symm
 cases d:(xB F u)with
 |false=>have f:=d;simp only[yh];(try simp only[eS,ig,ev]);go_wp2_with fail;refine(vM hw.rf g).mono ?_;rintro j k ⟨b,c⟩;obtain rfl:=c.symm;rw[f]at b;simp only[yh,ig,ev]at b;subst b;go_wp2;go_ret;exact⟨by simp,rfl⟩
 |true=>have f:=d;simp only[yh];obtain⟨X,h⟩:∃X,F.m.ky u.toNat=X:=⟨_,rfl⟩;rw[h];(try simp only[eS,ig,ev]);go_wp2_with fail;refine(vM hw.rf g).mono ?_;rintro j k ⟨b,c⟩;obtain rfl:=c.symm;rw[f]at b;simp only[yh,eS]at b;rw[h]at b;subst b;go_wp2;go_ret;exact⟨by simp,rfl⟩
theorem wY (hw:LW base R w x fb rb F val o):Calls prog 62 #[kY (lJ ⟨x,0,lI⟩),kW lD u] w fun e w'=>e=lF (kZ lK)/\w'=w:=by
 have h:=hw.wf.rfo;have l:=hw.bx.cell 0 _ rfl;have m:=hw.bx.cell 1 _ rfl;have p:=hw.bx.lt;go_enter func62,ntmps62;go_wp2_with fail;refine(Due_any hw.fl).mono ?_;rintro n q ⟨rfl,c⟩;obtain rfl:=c.symm
 cases d:(yH F u)with
 |false=>have f:=d;simp only[yh];(try simp only[eS,ig,ev]);go_wp2_with fail;refine(AV hw.rf h).mono ?_;rintro j k ⟨b,c⟩;obtain rfl:=c.symm;rw[f]at b;simp only[yh,ig,ev]at b;subst b;go_wp2;go_ret;exact⟨by simp,rfl⟩
 |true=>have f:=d;simp only[yh];obtain⟨X,g⟩:∃X,F.due u.toNat=X:=⟨_,rfl⟩;rw[g];(try simp only[eS,ig,ev]);go_wp2_with fail;refine(AV hw.rf h).mono ?_;rintro j k ⟨b,c⟩;obtain rfl:=c.symm;rw[f]at b;simp only[yh,eS]at b;rw[g]at b;subst b;go_wp2;go_ret;exact⟨by simp,rfl⟩
theorem Az (hw:LW base R w x fb rb F val o):Calls prog 63 #[kY (lJ ⟨x,0,lI⟩),kW lD u,kW lD m] w fun e w'=>e=lF (kZ lK)/\w'=w:=by
 have d:=hw.wf.rfo;have l:=hw.bx.cell 0 _ rfl;have n:=hw.bx.cell 1 _ rfl;have q:=hw.bx.lt;go_enter func63,ntmps63;go_wp2_with fail;refine(Used_any hw.fl d.ug d.k4).mono ?_;rintro p r ⟨rfl,c⟩;obtain rfl:=c.symm
 cases f:(xB F u&&yx F m)with
 |false=>have g:=f;simp only[yh];(try simp only[eS,ig,ev]);go_wp2_with fail;refine(Av hw.rf d).mono ?_;rintro j k ⟨b,c⟩;obtain rfl:=c.symm;rw[g]at b;simp only[yh,ig,ev]at b;subst b;go_wp2;go_ret;exact⟨by simp,rfl⟩
 |true=>have g:=f;simp only[yh];obtain⟨X,h⟩:∃X,F.ks u.toNat m.toNat=X:=⟨_,rfl⟩;rw[h];(try simp only[eS,ig,ev]);go_wp2_with fail;refine(Av hw.rf d).mono ?_;rintro j k ⟨b,c⟩;obtain rfl:=c.symm;rw[g]at b;simp only[yh,eS]at b;rw[h]at b;subst b;go_wp2;go_ret;exact⟨by simp,rfl⟩
theorem wX (hw:LW base R w x fb rb F val o):Calls prog 64 #[kY (lJ ⟨x,0,lI⟩),kW lD m] w fun e w'=>e=lF (kZ lK)/\w'=w:=by
 have g:=hw.wf.rfo;have l:=hw.bx.cell 0 _ rfl;have n:=hw.bx.cell 1 _ rfl;have q:=hw.bx.lt;go_enter func64,ntmps64;go_wp2_with fail;refine(Idle_any hw.fl g.k4).mono ?_;rintro p r ⟨rfl,c⟩;obtain rfl:=c.symm
 cases d:(yx F m)with
 |false=>have f:=d;simp only[yh];(try simp only[eS,ig,ev]);go_wp2_with fail;refine(wZ hw.rf g).mono ?_;rintro j k ⟨b,c⟩;obtain rfl:=c.symm;rw[f]at b;simp only[yh,ig,ev]at b;subst b;go_wp2;go_ret;exact⟨by simp,rfl⟩
 |true=>have f:=d;simp only[yh];obtain⟨X,h⟩:∃X,F.ku m.toNat=X:=⟨_,rfl⟩;rw[h];(try simp only[eS,ig,ev]);go_wp2_with fail;refine(wZ hw.rf g).mono ?_;rintro j k ⟨b,c⟩;obtain rfl:=c.symm;rw[f]at b;simp only[yh,eS]at b;rw[h]at b;subst b;go_wp2;go_ret;exact⟨by simp,rfl⟩
theorem we (hw:LW base R w x fb rb F val o):Calls prog 65 #[kY (lJ ⟨x,0,lI⟩)] w fun e w'=>e=lF (kZ lK)/\w'=w:=by
 have g:=hw.bx.cell 0 _ rfl;have h:=hw.bx.cell 1 _ rfl;have k:=hw.bx.lt;go_enter func65,ntmps65;go_wp2_with fail;refine(Clock_any hw.fl).mono ?_;rintro i l ⟨rfl,c⟩;obtain rfl:=c.symm;obtain⟨X,b⟩:∃X,F.ck=X:=⟨_,rfl⟩;rw[b];go_wp2_with fail;refine(Eb hw.rf).mono ?_;rintro j m ⟨rfl,c⟩;obtain rfl:=c.symm;rw[b];go_wp2;go_ret;exact⟨by simp,rfl⟩
theorem wS {g:Nat}(hb:Blk w g xs)(hl:xs.length=n+2)(hn:n<=17592186044416):Calls prog 127 #[kX (lJ ⟨g,0,lI⟩) n (n+2)] w fun e w'=>e=lF (lB #[])/\Chg (fun k=>k=g) w w':=by
 go_enter func127,ntmps127;(have u:(n:Int)+2<=((n+2:Nat):Int):=by omega);(have r:n+2<=maxLen:=by unfold maxLen;omega);go_wp2
 go_loopg[3] (n+2) (fun gg ix wr=>∃(i:Nat) (c:List Int),gg=n+2-i/\i<=n+2/\ix=kW lD i/\(c.length=n+2)/\Blk wr g c/\Chg (fun k=>k=g) w wr)
 case atStart=>exact⟨0,xs,rfl,ep _,rfl,hl,hb,Chg.refl _ _⟩
 case round=>
  clear hb;obtain⟨i,c,p,t,rfl,o,b,m⟩:=hrel;by_cases q:i<n+2
  ·(have j:(i:Int)<((n+2:Nat):Int):=by omega);(have a:(i:Int)<(n:Int)+2:=by omega);have s:=b.cell i (by have:=o;omega);have x:=b.frozen i;have v:=b.lt;have d:=b.set i 1;(have h:(c.set i 1).length=n+2:=by rw[jr];exact o);have f:Chg (fun k=>k=g) w (lG wr ⟨g,i,lI⟩ (kW lD 1)):=m.trans (Chg.set (P:=fun k=>k=g) rfl _ _ _);go_wp2;go_roundg (n+2-(i+1));exact⟨i+1,_,rfl,by omega,by go_num,h,d,f⟩;omega
  ·(obtain rfl:i=n+2:=by omega);(have j:¬ (((n+2:Nat):Int)<((n+2:Nat):Int)):=by omega);(have a:¬ (((n+2:Nat):Int)<(n:Int)+2):=by omega);go_wp2;go_end0;exact⟨rfl,m⟩
variable{hold:Int}
theorem Ft (hw:LW base R w x fb rb F val o):Calls prog 32 #[kY (lJ ⟨x,0,lI⟩),kW lD u,kW lD k,kW lD hold] w fun e w'=>e=lF (kZ lK)/\w'=w:=by
 have a:=hw;go_enter func32,ntmps32
 cases f:(bits .and lD hold 2 != 0)<;>cases g:(bits .and lD hold 4 != 0)<;>cases h:(bits .and lD hold 8 != 0)
 (all_goals (repeat (go_wp2_with fail;first|(refine(xy a).mono ?_;rintro c d ⟨rfl,b⟩;obtain rfl:=b.symm)|(refine(wP a).mono ?_;rintro c d ⟨rfl,b⟩;obtain rfl:=b.symm)|(refine(y8 a).mono ?_;rintro c d ⟨rfl,b⟩;obtain rfl:=b.symm)|(refine(wY a).mono ?_;rintro c d ⟨rfl,b⟩;obtain rfl:=b.symm)|(refine(Az a).mono ?_;rintro c d ⟨rfl,b⟩;obtain rfl:=b.symm)|(refine(wX a).mono ?_;rintro c d ⟨rfl,b⟩;obtain rfl:=b.symm)|(refine(we a).mono ?_;rintro c d ⟨rfl,b⟩;obtain rfl:=b.symm))));(all_goals (try go_wp2));(all_goals go_ret);all_goals exact⟨by simp,rfl⟩
theorem qS (hw:LW base R w x fb rb F val o):Calls prog 18 #[kY (lJ ⟨x,0,lI⟩),kW lD hold] w fun e w'=>e=lF (kZ lK)/\w'=w:=by
 go_enter func18,ntmps18;by_cases b:hold=1
 ·subst b;go_wp2;go_ret;exact⟨rfl,rfl⟩
 ·have n:=ef b;go_wp2
  go_loopg[5] 8 (fun gg ix wr=>∃i:Nat,gg=8-i/\i<=8/\ix=kW lD ((i:Int)-1)/\w=wr)
  case atStart=>exact⟨0,rfl,by omega,rfl,rfl⟩
  case round=>
   obtain⟨i,c,p,rfl,rfl⟩:=hrel;by_cases g:i<8
   ·(have f:(i:Int) - 1<=6:=by omega);go_wp2
    go_loopg[6] 10 (fun gg ix wr=>∃j:Nat,gg=10-j/\j<=10/\ix=kW lD ((j:Int)-1)/\w=wr)
    case atStart=>exact⟨0,rfl,by omega,rfl,rfl⟩
    case round=>
     obtain⟨j,d,q,rfl,rfl⟩:=hrel;by_cases k:j<10
     ·(have h:(j:Int)-1<=8:=by omega);go_wp2_with fail;refine(Ft hw).mono ?_;rintro m r ⟨rfl,l⟩;obtain rfl:=l.symm;go_wp2;go_roundg (10-(j+1));exact⟨j+1,rfl,by omega,by congr 1;omega,rfl⟩;omega
     ·(obtain rfl:j=10:=by omega);go_wp2;go_roundg (8-(i+1));exact⟨i+1,rfl,by omega,by congr 1;omega,rfl⟩;omega
   ·(obtain rfl:i=8:=by omega);go_wp2;go_ret;exact⟨rfl,rfl⟩
variable{kd cx:Int}{da:Option Addr}{dn dc:Nat}{oth:Bool}
theorem Ht (hw:LW base R w x fb rb F val o):Calls prog 30 #[kY (lJ ⟨x,0,lI⟩),lA #[kW lD kd,kW lD u,kW lD k,kW lD cx,kX da dn dc,kZ oth],kW lD hold] w fun e w'=>e=lF (kZ lK)/\Below w.heap.size w w':=by
 have f:=hid hw;clear hw;go_enter func30,ntmps30;(go_upto_region 1 with fail);have a:Hid (Below w.heap.size w (w.alloc (lE #[kW lD kd,kW lD u,kW lD k,kW lD cx,kX da dn dc,kZ oth] 46))):=brf.alloc lR _;have g:Hid (Bx (w.alloc (lE #[kW lD kd,kW lD u,kW lD k,kW lD cx,kX da dn dc,kZ oth] 46)) w.heap.size #[kW lD kd,kW lD u,kW lD k,kW lD cx,kX da dn dc,kZ oth] 46):=i1 _ _ _;obtain⟨V,m⟩:∃V,V=w.alloc (lE #[kW lD kd,kW lD u,kW lD k,kW lD cx,kX da dn dc,kZ oth] 46):=⟨_,rfl⟩;rw[<-m]at a g ⊢;clear m;obtain⟨L,l⟩:∃b,b=w.heap.size:=⟨_,rfl⟩;rw[<-l]at g ⊢;clear l;have c:=hid (f.out.iP a.out);clear f;have H:=g.out.cell 1 _ rfl;have I:=g.out.cell 2 _ rfl;have y:=g.out.cell 3 _ rfl;have J:=g.out.lt;(go_upto_region 2 with fail);clear y;generalize Int.tmod cx 7=K;by_cases n:K=0
 ·subst n
  cases i:(bits .and lD hold 2 != 0)with
  |false=>go_wp2;go_ret;exact⟨rfl,a.out⟩
  |true=>go_wp2_with fail;refine(xy c.out).mono ?_;rintro h j ⟨rfl,d⟩;obtain rfl:=d.symm;go_wp2;go_ret;exact⟨rfl,a.out⟩
 ·have z:=ef n;by_cases p:K=1
  ·subst p
   cases i:(bits .and lD hold 2 != 0)with
   |false=>go_wp2;go_ret;exact⟨rfl,a.out⟩
   |true=>go_wp2_with fail;refine(wP c.out).mono ?_;rintro h j ⟨rfl,d⟩;obtain rfl:=d.symm;go_wp2;go_ret;exact⟨rfl,a.out⟩
  ·have A:=ef p;by_cases q:K=2
   ·subst q
    cases i:(bits .and lD hold 2 != 0)with
    |false=>go_wp2;go_ret;exact⟨rfl,a.out⟩
    |true=>go_wp2_with fail;refine(y8 c.out).mono ?_;rintro h j ⟨rfl,d⟩;obtain rfl:=d.symm;go_wp2;go_ret;exact⟨rfl,a.out⟩
   ·have B:=ef q;by_cases r:K=3
    ·subst r
     cases i:(bits .and lD hold 4 != 0)with
     |false=>go_wp2;go_ret;exact⟨rfl,a.out⟩
     |true=>go_wp2_with fail;refine(wY c.out).mono ?_;rintro h j ⟨rfl,d⟩;obtain rfl:=d.symm;go_wp2;go_ret;exact⟨rfl,a.out⟩
    ·have C:=ef r;by_cases s:K=4
     ·subst s
      cases i:(bits .and lD hold 8 != 0)with
      |false=>go_wp2;go_ret;exact⟨rfl,a.out⟩
      |true=>go_wp2_with fail;refine(Az c.out).mono ?_;rintro h j ⟨rfl,d⟩;obtain rfl:=d.symm;go_wp2;go_ret;exact⟨rfl,a.out⟩
     ·have D:=ef s;by_cases t:K=5
      ·subst t
       cases i:(bits .and lD hold 8 != 0)with
       |false=>go_wp2;go_ret;exact⟨rfl,a.out⟩
       |true=>go_wp2_with fail;refine(wX c.out).mono ?_;rintro h j ⟨rfl,d⟩;obtain rfl:=d.symm;go_wp2;go_ret;exact⟨rfl,a.out⟩
      ·have E:=ef t;by_cases v:K=6
       ·subst v
        cases i:(bits .and lD hold 8 != 0)with
        |false=>go_wp2;go_ret;exact⟨rfl,a.out⟩
        |true=>go_wp2_with fail;refine(we c.out).mono ?_;rintro h j ⟨rfl,d⟩;obtain rfl:=d.symm;go_wp2;go_ret;exact⟨rfl,a.out⟩
       ·have G:=ef v;go_wp2;go_ret;exact⟨rfl,a.out⟩
def MidF (fb:Nat)(R:Int)(Gs:Flt->Prop)(w w':lM):Prop:=∃G,FL w' fb G/\FWf (R+9600) G/\Tab w'/\Only w.heap.size fb w w'/\Gs G
def MidR (base rb:Nat)(F:Flt)(val:Tb->lN)(Gs:Flt->Prop)(w w':lM):Prop:=∃G val' o',RfM base w' rb G val' o'/\Chg (zN rb F val) w w'/\(∀k,zN rb G val' k->zN rb F val k\/w.heap.size<=k)/\Gs G
def GsC (F F1:Flt)(er:Int)(G:Flt):Prop:=(er=0/\Settled F1 G)\/(er≠0/\G=F)
def GsT (F:Flt)(n er:Int)(G:Flt):Prop:=(er=0/\G=tickF F n)\/(er≠0/\G=F)
def Det (Gs:Flt->Prop):Prop:=∀G G',Gs G->Gs G'->G'=G
theorem GsC.det (F F1:Flt) (er:Int):Det (GsC F F1 er):=fun G G' h k=>by
 rcases h with⟨a1,a2⟩|⟨a1,a2⟩
 ·rcases k with⟨_,b2⟩|⟨b1,_⟩
  ·exact b2.det a2
  ·exact absurd a1 b1
 ·rcases k with⟨b1,_⟩|⟨_,b2⟩
  ·exact absurd b1 a1
  ·rw[b2,a2]
theorem GsT.det (F:Flt) (n er:Int):Det (GsT F n er):=fun G G' h k=>by
 rcases h with⟨a1,a2⟩|⟨a1,a2⟩
 ·rcases k with⟨_,b2⟩|⟨b1,_⟩
  ·rw[b2,a2]
  ·exact absurd a1 b1
 ·rcases k with⟨b1,_⟩|⟨_,b2⟩
  ·exact absurd b1 a1
  ·rw[b2,a2]
section
variable{base x fb rb:Nat} {R:Int} {F:Flt} {val:Tb->lN} {o:Old} {w v u w1 w2:lM} {Gs:Flt->Prop}
theorem LW.kQ (h:LW base R w x fb rb F val o)(hl:yi base)(hd:Det Gs)(hb:Below w.heap.size w v)(hf:MidF fb R Gs v u)(hc:Chg (fun k=>w.heap.size<=k) u w1)(hr:MidR base rb F val Gs w1 w2):LStep base R w w2 x fb rb F val:=by
 obtain⟨G,p,r,s,a,t⟩:=hf;obtain⟨i,f,B,C,b,D,E⟩:=hr;have e:=hd G i t E;subst e;have y:=h.iP hb;obtain⟨n,A⟩:=y.mid a;(have g:∀k,k<w.heap.size->w1.heap[k]?=u.heap[k]?:=fun k hk=>hc.block k (ez hk (eh hb.size a.size)) (by omega));have l:=n.same (fun k hk=>g k (h.rf.kI k hk));have c:=p.same (g fb h.fl.lt);have d:Bx w1 x _ _:=(g x h.bx.lt).trans A;have j:Tab w1:=s.chg hl hc (fun k hk=>by have:=h.rf.le;omega) n.le;refine⟨i,f,B,⟨(b.block x d.lt (fun q=>h.xno (.inr q))).trans d,c.same (b.block fb c.lt (uj c l)),C,r,h.low,h.xlow⟩,j.chg hl b l.kJ l.le,?_,fun k hk=>?_⟩
 ·refine⟨b.os.trans (hc.os.trans (a.os.trans hb.os)),b.tape.trans (hc.tape.trans (a.tape.trans hb.tape)),b.output.trans (hc.output.trans (a.output.trans hb.output)),eh hb.size (eh a.size (eh hc.size b.size)),fun k hk hn=>?_⟩;have m:=jl hb hk;have z:=ez m (eh a.size hc.size);exact(b.block k z (fun q=>hn (.inr q))).trans ((g k hk).trans ((a.block k m (fun q=>hn (.inl q))).trans (hb.block k hk)))
 ·rcases hk with q|q
  ·exact .inl (.inl q)
  ·rcases D k q with q|q
   ·exact .inl (.inr q)
   ·exact .inr (eh hb.size (eh a.size (eh hc.size q)))
theorem LW.ready (h:LW base R w x fb rb F val o)(hl:yi base)(hb:Below w.heap.size w v)(hf:MidF fb R Gs v u)(hc:Chg (fun k=>w.heap.size<=k) u w1):RfM base w1 rb F val o/\Tab w1/\Bx w1 x #[kY (lJ ⟨fb,0,lI⟩),kY (lJ ⟨rb,0,lI⟩)] 67:=by
 obtain⟨G,f,g,d,a,i⟩:=hf;obtain⟨c,e⟩:=(h.iP hb).mid a;(have b:∀k,k<w.heap.size->w1.heap[k]?=u.heap[k]?:=fun k hk=>hc.block k (ez hk (eh hb.size a.size)) (by omega));exact⟨c.same (fun k hk=>b k (h.rf.kI k hk)),d.chg hl hc (fun k hk=>by have:=h.rf.le;omega) c.le,(b x h.bx.lt).trans e⟩
theorem MidF.cell (h:MidF fb R Gs w v){g i:Nat}{a:lN}(hg:g<w.heap.size)(hn:g≠fb)(hc:lH w ⟨g,i,lI⟩=lJ a):lH v ⟨g,i,lI⟩=lJ a:=by
 obtain⟨_,_,_,_,b,_⟩:=h;exact(iw (b.block g hg hn)).trans hc
theorem MidR.cell (h:MidR base rb F val Gs w v){g i:Nat}{a:lN}(hg:g<w.heap.size)(hn:¬ zN rb F val g)(hc:lH w ⟨g,i,lI⟩=lJ a):lH v ⟨g,i,lI⟩=lJ a:=by
 obtain⟨_,_,_,_,b,_⟩:=h;exact(rM b hg hn).trans hc
end
theorem Aa {ax bx:Int}(hw:LW base R w x fb rb F val o)(hR:R<=999999999999990000)(ht:Tab w)(hl:yi base)(hxl:xs.length<=17592186044416)(hx:∀w',Below base w w'->Arr w' 1 da dn dc (zi xs)):Calls prog 66 #[kY (lJ ⟨x,0,lI⟩),lA #[kW lD kd,kW lD ax,kW lD bx,kW lD cx,kX da dn dc,kZ oth]] w fun e w'=>e=lF (kZ lK)/\LStep base R w w' x fb rb F val:=by
 have s:=hw.rf.le;have aA:=hw.fl.kH hw.bx (by decide);(have au:¬ zN rb F val x:=fun q=>hw.xno (.inr q));go_enter func66,ntmps66;(go_upto_region 1 with fail);have I:Bl w (w.alloc (lE #[kW lD kd,kW lD ax,kW lD bx,kW lD cx,kX da dn dc,kZ oth] 46)):=brf.alloc lR _;have XO:Bx (w.alloc (lE #[kW lD kd,kW lD ax,kW lD bx,kW lD cx,kX da dn dc,kZ oth] 46)) w.heap.size #[kW lD kd,kW lD ax,kW lD bx,kW lD cx,kX da dn dc,kZ oth] 46:=i1 _ _ _;generalize w.alloc (lE #[kW lD kd,kW lD ax,kW lD bx,kW lD cx,kX da dn dc,kZ oth] 46)=V at I XO ⊢;obtain⟨a,ay⟩:∃b,b=w.heap.size:=⟨_,rfl⟩;rw[<-ay]at XO ⊢;(have ai:a≠fb:=by have:=hw.fl.lt;omega);(have aj:¬ zN rb F val a:=fun q=>by have:=hw.rf.kI a q;omega);clear ay;have Y:=hw.iP I;have x0:=Y.bx.cell 0 _ rfl;have x1:=Y.bx.cell 1 _ rfl;have H:=Y.bx.lt;have i:=XO.lt;have P:=XO.cell 4 _ rfl;have k0:=XO.cell 0 _ rfl;(have az:dn=xs.length:=by have u:=(hx w brf).len;rw[j9]at u;exact u.symm);subst az;go_wp2_with fail;refine(EH (ao:=da) (n:=xs.length) (cap:=dc) (xs:=xs) (hx _ (I.mono s)) hxl).mono ?_;rintro e1 n ⟨g,hg,rfl,ak,aq⟩;have Q:=et I aq;have HG:=eh I.size hg;have v:=XO.ji aq;clear aq hg XO x0 x1 H i P k0 Y I;have Y:=hw.iP Q;obtain⟨i,k0⟩:=v.q1 rfl;have x0:=Y.bx.cell 0 _ rfl;have H:=Y.bx.lt;have ar:=ht.iP Q;by_cases h1:kd=1
 ·subst h1;obtain⟨Gs,M⟩:∃G,G=GsC F (addMF F xs) (amE F xs):=⟨_,rfl⟩;(have am:Det Gs:=by rw[M];exact GsC.det _ _ _);obtain⟨er,ae⟩:∃e,amE F xs=e:=⟨_,rfl⟩;obtain⟨nr,af⟩:∃e,amN F xs=e:=⟨_,rfl⟩;have T:=M;have z:=ae;have X:=af;clear M ae af;(have KF:∀U,Bl n U->Calls prog 126 #[kY (lJ ⟨fb,0,lI⟩),kX (lJ ⟨g,0,lI⟩) xs.length (xs.length+2)] U (fun e w'=>e=lF (lB #[kW lD nr,kW lD er])/\MidF fb R Gs U w'):=fun U hU=>(AddMachine_any (b:=fb) (R:=R) (F:=F) (ao:=lJ ⟨g,0,lI⟩) (n:=xs.length) (cap:=xs.length+2) (xs:=xs) (Y.fl.iP hU) Y.wf hR (ar.iP hU) ((ak.iP hU ak.lt).arr (by unfold maxLen;omega))).mono (fun e w' h=>by rw[z,X]at h;exact⟨h.1,by rw[T,z];exact h.2⟩));go_wp2_with fail;refine(KF _ brf).mono ?_;rintro e3 w3 ⟨rfl,O⟩;have t:=O;clear O;clear x0 H k0 i KF;have m:=Q;(have an:g≠fb:=by have u:=hw.fl.lt;have h8:=HG;omega);(have A:Only n.heap.size fb n w3:=by obtain⟨_,_,_,_,f4,_⟩:=t;exact f4);have j:Blk w3 g (xs++[7,7]):=(A.block g ak.lt an).trans ak;have B:Bx w3 a #[kW lD 1,kW lD ax,kW lD bx,kW lD cx,kX da xs.length dc,kZ oth] 46:=(A.block a v.lt ai).trans v;have J:=(m.mono s).trans (A.iP (eh s m.size) hw.low);clear ak v A;have P:=B.cell 4 _ rfl;have i:=B.lt;go_wp2_with fail;refine(xu (g:=g) (ao:=da) (n:=xs.length) (cap:=dc) (xs:=xs) j (hx _ J) hxl).mono ?_;rintro e4 w4 ⟨rfl,D⟩;have y:=D;have r:=j.iP D j.lt;have C:=B.ji D;clear D P i j B;go_wp2_with fail;refine(wS (g:=g) (n:=xs.length) (xs:=xs++[7,7]) r (by simp) hxl).mono ?_;rintro e5 d ⟨rfl,f⟩;have S:Chg (fun k=>w.heap.size<=k) w3 d:=(Chg.jE _ y).trans (f.mono (fun k hk=>by rw[hk];exact HG));have K:Bx d a #[kW lD 1,kW lD ax,kW lD bx,kW lD cx,kX da xs.length dc,kZ oth] 46:=(f.block a C.lt (fun e=>by have u:=C;have h8:=r;rw[e]at u;unfold Bx at u;unfold Blk at h8;rw[h8]at u;injection u with u;injection u with _ u;exact absurd u (by decide))).trans C;obtain⟨N,ag,ah⟩:=hw.ready hl m t S;have W:=N;have ap:=ag;have Z:=ah;have al:Below base w d:=J.trans (((y.mono (eh s (eh m.size (by obtain⟨_,_,_,_,f4,_⟩:=t;exact f4.size))))).trans ⟨f.os,f.tape,f.output,f.size,fun k hk=>f.block k (by have h1:=y.size;have h2:=N.le;have h3:=s;have h4:=m.size;obtain⟨_,_,_,_,f4,_⟩:=t;have h5:=f4.size;omega) (by have h1:=HG;have h2:=s;omega)⟩);clear f N ag ah y r C J;have x1:lH d ⟨x,1,lI⟩=lJ (kY (lJ ⟨rb,0,lI⟩)):=Z.cell 1 _ rfl;have H:=Z.lt;have P:=K.cell 4 _ rfl;have i:=K.lt;(have KR:∀U,Bl d U->Calls prog 128 #[kY (lJ ⟨rb,0,lI⟩),kX da xs.length dc] U (fun e w'=>e=lF (lB #[kW lD nr,kW lD er])/\MidR base rb F val Gs U w'):=fun U hU=>(CT (base:=base) (b:=rb) (R:=R) (F:=F) (val:=val) (o:=o) (ao:=da) (n:=xs.length) (cap:=dc) (xs:=xs) (W.iP hU) hw.wf hR (ap.iP hU) hl (hx _ (al.trans (hU.mono W.le)))).mono (fun e w' h=>by rw[z,X]at h;exact⟨h.1,by rw[T,z];exact h.2⟩));(go_upto_region 6 with fail);have ad:d.drew.cell? ⟨x,1,lI⟩=lJ (kY (lJ ⟨rb,0,lI⟩)):=qq x1;have ac:d.drew.cell? ⟨a,4,lI⟩=lJ (kX da xs.length dc):=qq P;have SK:=fun U (h:Bl d U)=>(⟨qs h x1 H,qs h P i⟩:_/\_);have E:=fun U (h:MidR base rb F val Gs d.drew U)=>(⟨h.cell (by exact H) au ad,h.cell (by exact i) aj ac⟩:_/\_);go_region_held3 (fun w'=>lH w' ⟨x,1,lI⟩=lJ (kY (lJ ⟨rb,0,lI⟩))/\lH w' ⟨a,4,lI⟩=lJ (kX da xs.length dc)) (first|exact SK _ brf.drew|exact E _ L) (first|(go_at_call 128;refine(KR _ brf.drew).mono ?_;rintro e6 w6 ⟨rfl,L⟩));clear SK E ad ac;have ao:LStep base R w w6 x fb rb F val:=hw.kQ hl am m t (S.trans (Chg.jE _ brf.drew)) L;clear L KR x1 H P i;go_wp2;go_ret;exact⟨by simp,ao⟩
 ·have g1:=ef h1;obtain⟨Gs,M⟩:∃G,G=GsC F (yz F ⟨xs,ax,bx⟩) (auE F ⟨xs,ax,bx⟩):=⟨_,rfl⟩;(have am:Det Gs:=by rw[M];exact GsC.det _ _ _);obtain⟨er,ae⟩:∃e,auE F ⟨xs,ax,bx⟩=e:=⟨_,rfl⟩;obtain⟨nr,af⟩:∃e,auN F ⟨xs,ax,bx⟩=e:=⟨_,rfl⟩;have T:=M;have z:=ae;have X:=af;clear M ae af;(have KF:∀U,Bl n U->Calls prog 129 #[kY (lJ ⟨fb,0,lI⟩),lA #[kX (lJ ⟨g,0,lI⟩) xs.length (xs.length+2),kW lD ax,kW lD bx]] U (fun e w'=>e=lF (lB #[kW lD nr,kW lD er])/\MidF fb R Gs U w'):=fun U hU=>(AddUser_any (b:=fb) (R:=R) (F:=F) (ao:=lJ ⟨g,0,lI⟩) (n:=xs.length) (cap:=xs.length+2) (Y:=⟨xs,ax,bx⟩) (Y.fl.iP hU) Y.wf hR (ar.iP hU) ((ak.iP hU ak.lt).arr (by unfold maxLen;omega))).mono (fun e w' h=>by rw[z,X]at h;exact⟨h.1,by rw[T,z];exact h.2⟩));have k1:=v.cell 1 _ rfl;have k2:=v.cell 2 _ rfl;(go_upto_region 8 with fail);have aw:n.drew.cell? ⟨x,0,lI⟩=lJ (kY (lJ ⟨fb,0,lI⟩)):=qq x0;have aa:n.drew.cell? ⟨a,1,lI⟩=lJ (kW lD ax):=qq k1;have ab:n.drew.cell? ⟨a,2,lI⟩=lJ (kW lD bx):=qq k2;have SK:=fun U (h:Bl n U)=>(⟨qs h x0 H,qs h k1 i,qs h k2 i⟩:_/\_/\_);have E:=fun U (h:MidF fb R Gs n.drew U)=>(⟨h.cell (by exact H) aA aw,h.cell (by exact i) ai aa,h.cell (by exact i) ai ab⟩:_/\_/\_);go_region_held3 (fun w'=>lH w' ⟨x,0,lI⟩=lJ (kY (lJ ⟨fb,0,lI⟩))/\lH w' ⟨a,1,lI⟩=lJ (kW lD ax)/\lH w' ⟨a,2,lI⟩=lJ (kW lD bx)) (first|exact SK _ brf.drew|exact E _ O) (first|(go_at_call 129;refine(KF _ brf.drew).mono ?_;rintro e3 w3 ⟨rfl,O⟩));clear SK E aw aa ab;have t:=O;clear O k1 k2;clear x0 H k0 i KF;have m:Bl w n.drew:=(Q.trans ((brw n).drew.mono Q.size));(have an:g≠fb:=by have u:=hw.fl.lt;have h8:=HG;omega);(have A:Only n.drew.heap.size fb n.drew w3:=by obtain⟨_,_,_,_,f4,_⟩:=t;exact f4);have j:Blk w3 g (xs++[7,7]):=(A.block g (ak.iP brf.drew ak.lt).lt an).trans (ak.iP brf.drew ak.lt);have B:Bx w3 a #[kW lD kd,kW lD ax,kW lD bx,kW lD cx,kX da xs.length dc,kZ oth] 46:=(A.block a (v.ji brf.drew).lt ai).trans (v.ji brf.drew);have J:Below base w w3:=(m.mono s).trans (A.iP (eh s m.size) hw.low);clear ak v A;have P:=B.cell 4 _ rfl;have i:=B.lt;go_wp2_with fail;refine(xu (g:=g) (ao:=da) (n:=xs.length) (cap:=dc) (xs:=xs) j (hx _ J) hxl).mono ?_;rintro e4 w4 ⟨rfl,D⟩;have y:=D;have r:=j.iP D j.lt;have C:=B.ji D;clear D P i j B;go_wp2_with fail;refine(wS (g:=g) (n:=xs.length) (xs:=xs++[7,7]) r (by simp) hxl).mono ?_;rintro e5 d ⟨rfl,f⟩;have S:Chg (fun k=>w.heap.size<=k) w3 d:=(Chg.jE _ y).trans (f.mono (fun k hk=>by rw[hk];exact HG));have K:Bx d a #[kW lD kd,kW lD ax,kW lD bx,kW lD cx,kX da xs.length dc,kZ oth] 46:=(f.block a C.lt (fun e=>by have u:=C;have h8:=r;rw[e]at u;unfold Bx at u;unfold Blk at h8;rw[h8]at u;injection u with u;injection u with _ u;exact absurd u (by decide))).trans C;obtain⟨N,ag,ah⟩:=hw.ready hl m t S;have W:=N;have ap:=ag;have Z:=ah;have al:Below base w d:=J.trans (((y.mono (eh s (eh m.size (by obtain⟨_,_,_,_,f4,_⟩:=t;exact f4.size))))).trans ⟨f.os,f.tape,f.output,f.size,fun k hk=>f.block k (by have h1:=y.size;have h2:=N.le;have h3:=s;have h4:=m.size;obtain⟨_,_,_,_,f4,_⟩:=t;have h5:=f4.size;omega) (by have h1:=HG;have h2:=s;omega)⟩);clear f N ag ah y r C J;have x1:lH d ⟨x,1,lI⟩=lJ (kY (lJ ⟨rb,0,lI⟩)):=Z.cell 1 _ rfl;have H:=Z.lt;have P:=K.cell 4 _ rfl;have i:=K.lt;(have KR:∀U,Bl d U->Calls prog 130 #[kY (lJ ⟨rb,0,lI⟩),lA #[kX da xs.length dc,kW lD ax,kW lD bx]] U (fun e w'=>e=lF (lB #[kW lD nr,kW lD er])/\MidR base rb F val Gs U w'):=fun U hU=>(Dt (base:=base) (b:=rb) (R:=R) (F:=F) (val:=val) (o:=o) (ao:=da) (n:=xs.length) (cap:=dc) (Y:=⟨xs,ax,bx⟩) (W.iP hU) hw.wf hR (ap.iP hU) hl (hx _ (al.trans (hU.mono W.le)))).mono (fun e w' h=>by rw[z,X]at h;exact⟨h.1,by rw[T,z];exact h.2⟩));have k1:=K.cell 1 _ rfl;have k2:=K.cell 2 _ rfl;(go_upto_region 11 with fail);have ad:d.drew.cell? ⟨x,1,lI⟩=lJ (kY (lJ ⟨rb,0,lI⟩)):=qq x1;have ac:d.drew.cell? ⟨a,4,lI⟩=lJ (kX da xs.length dc):=qq P;have aa:d.drew.cell? ⟨a,1,lI⟩=lJ (kW lD ax):=qq k1;have ab:d.drew.cell? ⟨a,2,lI⟩=lJ (kW lD bx):=qq k2;have SK:=fun U (h:Bl d U)=>(⟨qs h x1 H,qs h P i,qs h k1 i,qs h k2 i⟩:_/\_/\_/\_);have E:=fun U (h:MidR base rb F val Gs d.drew U)=>(⟨h.cell (by exact H) au ad,h.cell (by exact i) aj ac,h.cell (by exact i) aj aa,h.cell (by exact i) aj ab⟩:_/\_/\_/\_);go_region_held3 (fun w'=>lH w' ⟨x,1,lI⟩=lJ (kY (lJ ⟨rb,0,lI⟩))/\lH w' ⟨a,4,lI⟩=lJ (kX da xs.length dc)/\lH w' ⟨a,1,lI⟩=lJ (kW lD ax)/\lH w' ⟨a,2,lI⟩=lJ (kW lD bx)) (first|exact SK _ brf.drew|exact E _ L) (first|(go_at_call 130;refine(KR _ brf.drew).mono ?_;rintro e6 w6 ⟨rfl,L⟩));clear SK E ad ac aa ab;have ao:LStep base R w w6 x fb rb F val:=hw.kQ hl am m t (S.trans (Chg.jE _ brf.drew)) L;clear L KR x1 H P i;go_wp2;go_ret;exact⟨by simp,ao⟩
end Go.Proofs.YtigokanoflkinaaGreatDoor
