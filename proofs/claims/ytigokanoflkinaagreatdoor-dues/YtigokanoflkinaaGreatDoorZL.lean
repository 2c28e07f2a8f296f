/- CmAB, KTL, joined. -/
import Derived.Test.YtigokanoflkinaaGreatDoorFlWY
import Derived.LaidSub
set_option maxHeartbeats 2000000
set_option maxRecDepth 20000
namespace Go.Proofs.YtigokanoflkinaaGreatDoor
set_option linter.unusedSimpArgs false
set_option linter.unusedVariables false
open Go.RowKit Por Go.Proofs.Tryz
open Value renaming int->kW,pointer->kY,slice->kX,bool->kZ
open IntKind renaming i64->lD
open Ending renaming returned->lF
open World renaming setCell->lG,cell?->lH
open Option renaming none->lI,some->lJ
open Bool renaming true->lK,false->lL
open Go renaming World->lM,Value->lN
open Obj renaming cells->lE
def yZ (f:Nat->Bool)(i:Nat)(x:Bool):Nat->Bool:=fun j=>if j=i then x else f j
def yM (f:Nat->Nat->Int)(i:Nat)(g:Nat->Int):Nat->Nat->Int:=fun j=>if j=i then g else f j
theorem mX (f:Nat->Bool)(i:Nat)(x:Bool):yZ f i x i=x:=ed rfl
variable{i j:Nat}
theorem nl (f:Nat->Bool)(x:Bool)(h:j≠i):yZ f i x j=f j:=ec h
theorem mh (f:Nat->Nat->Int)(i:Nat)(g:Nat->Int):yM f i g i=g:=ed rfl
theorem l3 (f:Nat->Nat->Int)(g:Nat->Int)(h:j≠i):yM f i g j=f j:=ec h
def zt (xs:List Int)(r:Nat):Int:=lm xs r
variable{xs:List Int}{r:Nat}
theorem uL (h:xs.length<=r):lm xs r=0:=by unfold lm;rw[ej,eW h];rfl
def subF (F:Flt)(u:Nat)(n:Int):Flt:={F with m:={F.m with kV:=zE F.m.kV u (F.m.kV u+n)} }
def finF (F:Flt)(u m:Nat):Flt:={F with m:={F.m with on:=yC F.m.on u m (F.m.on u m-1)} }
def chgF (F:Flt)(u:Nat)(wt cp:Int):Flt:={F with uw:=zE F.uw u wt,uc:=zE F.uc u cp}
def addMF (F:Flt)(xs:List Int):Flt:={F with mt:=yZ F.mt F.mg lK,ms:=yM F.ms F.mg (zt xs),mg:=F.mg+1}
def yz (F:Flt)(U:Usr):Flt:={F with ut:=yZ F.ut F.ug lK,ud:=yM F.ud F.ug (zt U.dem),uw:=zE F.uw F.ug U.wt,uc:=zE F.uc F.ug U.cap,m:=⟨zE F.m.kV F.ug 0,yM F.m.on F.ug (fun _=>0),zE F.m.ky F.ug 0⟩,due:=yR F.due F.ug ⟨#[]⟩,ks:=yM F.ks F.ug (fun _=>0),ug:=F.ug+1}
def yq (F:Flt)(u:Nat):Flt:={F with ut:=yZ F.ut u lL,ud:=yM F.ud u (fun _=>0),uw:=zE F.uw u 0,uc:=zE F.uc u 0,m:=⟨zE F.m.kV u 0,yM F.m.on u (fun _=>0),F.m.ky⟩,due:=yR F.due u ⟨#[]⟩}
def xC (s:FM)(m k:Nat):FM:=⟨fun u=>if u<k then s.kV u+s.on u m else s.kV u,fun u l=>if u<k/\l=m then 0 else s.on u l,s.ky⟩
def yu (F:Flt)(m:Nat):Flt:={F with mt:=yZ F.mt m lL,ms:=yM F.ms m (fun _=>0),m:=xC F.m m 6}
def tickF (F:Flt)(n:Int):Flt:={F with ck:=F.ck+n,ks:=fun u r=>F.ks u r+F.ud u r*runs F.m u*n,ku:=fun r=>F.ku r+(zB F 8 r-Por.sumI (fun u=>F.ud u r*runs F.m u) 6)*n}
variable{R n:Int}{F:Flt}{u:Nat}
theorem FWf.sub (h:FWf R F)(hu:u<6)(ht:F.ut u=lK)(h0:0<=F.m.kV u+n)(h1:F.m.kV u+n+runs F.m u<=40):FWf R (subF F u n):=by
 (have b:∀v,runs (subF F u n).m v=runs F.m v:=fun v=>rfl);have a:∀v,(subF F u n).m.kV v=if v=u then F.m.kV u+n else F.m.kV v:=fun v=>rfl
 exact{h with
  kV:=fun v hv=>by
   rw[a];split
   ·exact h0
   ·exact h.kV v hv
  none:=fun v hv hn=>by
   rw[a,b,ec (fun e=>by subst e;rw[show(subF F v n).ut v=F.ut v from rfl,ht]at hn;cases hn)];exact h.none v hv hn
  tot:=fun v hv=>by
   rw[a,b];split
   ·rename_i e;subst e;exact h1
   ·exact h.tot v hv}
variable{m:Nat}
theorem FWf.fin (h:FWf R F)(hu:u<6)(hm:m<8)(h0:1<=F.m.on u m):FWf R (finF F u m):=by
 have a:∀v l,(finF F u m).m.on v l=if v=u/\l=m then F.m.on u m-1 else F.m.on v l:=fun v l=>rfl
 have c:∀v,runs (finF F u m).m v=if v=u then runs F.m u-1 else runs F.m v:=fun v=>by
  by_cases e:v=u
  ·subst e;rw[ed rfl];have:=nz (f:=(finF F v m).m.on v) (g:=F.m.on v) hm (fun i _ hne=>by rw[a,ec (fun h5=>hne h5.2)]);show Por.sumI ((finF F v m).m.on v) 8=_;rw[this,a,ed ⟨rfl,rfl⟩];show Por.sumI (F.m.on v) 8+_=Por.sumI (F.m.on v) 8-1;omega
  ·rw[ec e];exact oT (fun i _=>by rw[a,ec (fun h5=>e h5.1)])
 exact{h with
  on:=fun v hv l hl=>by
   rw[a];split
   ·omega
   ·exact h.on v hv l hl
  none:=fun v hv hn=>by
   have b:=h.none v hv hn
   have k:=h.kV v hv
   have d:=h.runs0 hv
   have e:v≠u:=fun e=>by
    subst e
    have:=l8 (f:=F.m.on v) (n:=8) (fun j hj=>h.on v hv j hj) hm
    unfold runs at b d;omega
   rw[c,ec e];exact b
  gone:=fun l hl hg v hv=>by
   rw[a,ec (fun h5=>by have:=h.gone l hl hg v hv;rw[h5.1,h5.2]at this;omega)];exact h.gone l hl hg v hv
  kw:=fun l hl r hr'=>by
   refine Int.le_trans (pw (fun v hv=>?_)) (h.kw l hl r hr')
   refine eX ?_ (h.ud v hv r hr').1
   rw[a];split
   ·rename_i e;rw[e.1,e.2];omega
   ·exact ik _
  tot:=fun v hv=>by
   rw[c]
   have:=h.tot v hv
   split
   ·rename_i e;subst e;show F.m.kV v+_<=_;omega
   ·exact this}
variable{wt cp:Int}
theorem FWf.chg (h:FWf R F) (hu:u<6) (ht:F.ut u=lK) (hw:1<=wt/\wt<=100) (hc:0<=cp/\cp<=1000):FWf R (chgF F u wt cp):=
  {h with
    uw:=fun v hv=>by
      show 0<=zE F.uw u wt v/\zE F.uw u wt v<=100
      unfold zE;split
      · omega
      · exact h.uw v hv
    uw1:=fun v hv hn=>by
      show 1<=zE F.uw u wt v
      unfold zE;split
      · omega
      · exact h.uw1 v hv hn
    uc:=fun v hv=>by
      show 0<=zE F.uc u cp v/\zE F.uc u cp v<=1000
      unfold zE;split
      · omega
      · exact h.uc v hv}
theorem FWf.addM (h:FWf R F)(hg:F.mg<8)(hl:xs.length=F.k)(hx:∀r,r<F.k->0<=lm xs r/\lm xs r<=1000):FWf R (addMF F xs):=by
 have g:F.mt F.mg=lL:=by
  cases e:F.mt F.mg with
  |false=>rfl
  |true=>have:=h.mt F.mg hg e;omega
 (have a:∀i,(addMF F xs).ms i=if i=F.mg then zt xs else F.ms i:=fun i=>rfl);have c:∀i,(addMF F xs).mt i=if i=F.mg then lK else F.mt i:=fun i=>rfl
 have f:∀r,0<=zt xs r/\zt xs r<=1000:=fun r=>by
  unfold zt;by_cases b:r<F.k
  ·exact hx r b
  ·rw[uL (by omega)];omega
 exact{h with
  mg:=by show F.mg+1<=8;omega
  mt:=fun i hi ht=>by
   show i<F.mg+1
   rw[c]at ht;split at ht
   ·omega
   ·have:=h.mt i hi ht;omega
  ms:=fun i hi r b=>by
   rw[a];split
   ·exact f r
   ·exact h.ms i hi r b
  msz:=fun i hi ht r b=>by
   rw[c]at ht;split at ht
   ·cases ht
   ·rename_i e;rw[a,ec e];exact h.msz i hi ht r b
  msk:=fun i hi r b d=>by
   have d:F.k<=r:=d
   rw[a];split
   ·exact uL (by omega)
   ·exact h.msk i hi r b d
  gone:=fun m hm ht u hu=>by
   rw[c]at ht;split at ht
   ·cases ht
   ·exact h.gone m hm ht u hu
  kw:=fun m hm r b=>by
   rw[a];split
   ·rename_i e
    refine Int.le_trans (Int.le_of_eq (mH (fun u hu=>?_))) (f r).1
    show F.ud u r*F.m.on u m=0
    rw[h.gone m hm (by rw[e];exact g) u hu,jK]
   ·exact h.kw m hm r b}
theorem FWf.addU (h:FWf R F)(hR:0<=R)(hg:F.ug<6){U:Usr}(hU:yY F.k U=lK):FWf R (yz F U):=by
 unfold yY at hU;simp only[eJ,eN]at hU;obtain⟨⟨⟨H,I⟩,w⟩,d⟩:=hU
 have l:F.ut F.ug=lL:=by
  cases e:F.ut F.ug with
  |false=>rfl
  |true=>have:=h.ut F.ug hg e;omega
 (have b:∀v,(yz F U).ud v=if v=F.ug then zt U.dem else F.ud v:=fun v=>rfl);(have c:∀v,(yz F U).ut v=if v=F.ug then lK else F.ut v:=fun v=>rfl);(have g:∀v,(yz F U).m.kV v=if v=F.ug then 0 else F.m.kV v:=fun v=>rfl);(have a:∀v,(yz F U).m.on v=if v=F.ug then(fun _=>0)else F.m.on v:=fun v=>rfl);(have q:∀v,(yz F U).m.ky v=if v=F.ug then 0 else F.m.ky v:=fun v=>rfl);have s:∀v,(yz F U).ks v=if v=F.ug then(fun _=>0)else F.ks v:=fun v=>rfl
 have o:∀v,runs (yz F U).m v=if v=F.ug then 0 else runs F.m v:=fun v=>by
  unfold runs;rw[a];by_cases e:v=F.ug
  ·rw[ed e,ed e];exact mH (fun _ _=>rfl)
  ·rw[ec e,ec e]
 have B:=h.none F.ug hg l;(have u:∀m,m<8->F.m.on F.ug m=0:=fun m hm=>by have C:=h.kV F.ug hg;have D:=h.on F.ug hg m hm;have E:=l8 (f:=F.m.on F.ug) (n:=8) (fun j hj=>h.on F.ug hg j hj) hm;unfold runs at B;omega);have y:∀r,0<=zt U.dem r/\zt U.dem r<=10000:=fun r=>by unfold zt;have:=uP w r;unfold yG at this;exact iI this
 exact{h with
  ug:=by show F.ug+1<=6;omega
  ut:=fun v hv ht=>by
   show v<F.ug+1
   rw[c]at ht;split at ht
   ·omega
   ·have:=h.ut v hv ht;omega
  ud:=fun v hv r hr=>by
   rw[b];split
   ·exact y r
   ·exact h.ud v hv r hr
  udk:=fun v hv r hr p=>by
   have p:F.k<=r:=p
   rw[b];split
   ·exact uL (by omega)
   ·exact h.udk v hv r hr p
  want:=fun v hv ht=>by
   rw[b];rw[c]at ht
   by_cases e:v=F.ug
   ·rw[ed e]
    unfold xS at d
    rw[List.any_eq_true]at d
    obtain⟨x,A,t⟩:=d
    obtain⟨i,z,rfl⟩:=List.getElem_of_mem A
    refine⟨i,by show i<F.k;omega,?_⟩
    unfold zt lm
    rw[ej,en z]
    exact iI t
   ·rw[ec e];rw[ec e]at ht;exact h.want v hv ht
  uw:=fun v hv=>by
   show 0<=zE F.uw F.ug U.wt v /\ zE F.uw F.ug U.wt v<=100
   unfold zE;split
   ·omega
   ·exact h.uw v hv
  uw1:=fun v hv l=>by
   show 1<=zE F.uw F.ug U.wt v
   rw[c]at l
   unfold zE;split
   ·omega
   ·rename_i e;rw[ec e]at l;exact h.uw1 v hv l
  uc:=fun v hv=>by
   show 0<=zE F.uc F.ug U.cap v /\ zE F.uc F.ug U.cap v<=1000
   unfold zE;split
   ·omega
   ·exact h.uc v hv
  on:=fun v hv m hm=>by
   rw[a];split
   ·exact ik _
   ·exact h.on v hv m hm
  kV:=fun v hv=>by
   rw[g];split
   ·exact ik _
   ·exact h.kV v hv
  none:=fun v hv ht=>by
   rw[c]at ht
   rw[g,o]
   by_cases e:v=F.ug
   ·rw[ed e]at ht;cases ht
   ·rw[ec e]at ht;rw[ec e,ec e];exact h.none v hv ht
  gone:=fun m hm ht v hv=>by
   rw[a];split
   ·rfl
   ·exact h.gone m hm ht v hv
  kw:=fun m hm r hr=>by
   refine Int.le_trans (Int.le_of_eq (oT (fun v hv=>?_))) (h.kw m hm r hr)
   show(yz F U).ud v r*(yz F U).m.on v m=F.ud v r*F.m.on v m
   rw[b,a]
   by_cases e:v=F.ug
   ·rw[ed e,ed e,e,u m hm];simp
   ·rw[ec e,ec e]
  tot:=fun v hv=>by
   rw[g,o]
   by_cases e:v=F.ug
   ·rw[ed e,ed e];omega
   ·rw[ec e,ec e];exact h.tot v hv
  ky:=fun v hv=>by
   rw[q];split
   ·omega
   ·exact h.ky v hv
  ks:=fun v hv r hr=>by
   rw[s]
   have G:0<=F.ck:=h.ck.1
   split
   ·show(0:Int)<=0 /\ (0:Int)<=400000*F.ck
    omega
   ·exact h.ks v hv r hr}
theorem FWf.dropU (h:FWf R F)(hu:u<6):FWf R (yq F u):=by
 (have b:∀v,(yq F u).ud v=if v=u then(fun _=>0)else F.ud v:=fun v=>rfl);(have c:∀v,(yq F u).ut v=if v=u then lL else F.ut v:=fun v=>rfl);(have d:∀v,(yq F u).m.kV v=if v=u then 0 else F.m.kV v:=fun v=>rfl);have a:∀v,(yq F u).m.on v=if v=u then(fun _=>0)else F.m.on v:=fun v=>rfl
 have f:∀v,runs (yq F u).m v=if v=u then 0 else runs F.m v:=fun v=>by
  unfold runs;rw[a];by_cases e:v=u
  ·rw[ed e,ed e];exact mH (fun _ _=>rfl)
  ·rw[ec e,ec e]
 exact{h with
  ut:=fun v hv ht=>by
   rw[c]at ht;split at ht
   ·cases ht
   ·exact h.ut v hv ht
  ud:=fun v hv r hr=>by
   rw[b];split
   ·show(0:Int)<=0 /\ (0:Int)<=10000;omega
   ·exact h.ud v hv r hr
  udk:=fun v hv r hr hk=>by
   rw[b];split
   ·rfl
   ·exact h.udk v hv r hr hk
  want:=fun v hv ht=>by
   rw[b];rw[c]at ht
   by_cases e:v=u
   ·rw[ed e]at ht;cases ht
   ·rw[ec e];rw[ec e]at ht;exact h.want v hv ht
  uw:=fun v hv=>by
   show 0<=zE F.uw u 0 v /\ zE F.uw u 0 v<=100
   unfold zE;split
   ·omega
   ·exact h.uw v hv
  uw1:=fun v hv hn=>by
   show 1<=zE F.uw u 0 v
   rw[c]at hn
   unfold zE;split
   ·rename_i e;rw[ed e]at hn;cases hn
   ·rename_i e;rw[ec e]at hn;exact h.uw1 v hv hn
  uc:=fun v hv=>by
   show 0<=zE F.uc u 0 v /\ zE F.uc u 0 v<=1000
   unfold zE;split
   ·omega
   ·exact h.uc v hv
  on:=fun v hv m hm=>by
   rw[a];split
   ·exact ik _
   ·exact h.on v hv m hm
  kV:=fun v hv=>by
   rw[d];split
   ·exact ik _
   ·exact h.kV v hv
  none:=fun v hv ht=>by
   rw[c]at ht
   rw[d,f]
   by_cases e:v=u
   ·rw[ed e,ed e];rfl
   ·rw[ec e]at ht;rw[ec e,ec e];exact h.none v hv ht
  gone:=fun m hm ht v hv=>by
   rw[a];split
   ·rfl
   ·exact h.gone m hm ht v hv
  kw:=fun m hm r hr=>by
   refine Int.le_trans (pw (fun v hv=>?_)) (h.kw m hm r hr)
   show(yq F u).ud v r*(yq F u).m.on v m<=F.ud v r*F.m.on v m
   rw[b,a]
   by_cases e:v=u
   ·rw[ed e,ed e]
    show(0:Int)*0<=_
    rw[jK];exact il (h.ud v hv r hr).1 (h.on v hv m hm)
   ·rw[ec e,ec e];exact ik _
  tot:=fun v hv=>by
   rw[d,f]
   by_cases e:v=u
   ·rw[ed e,ed e];omega
   ·rw[ec e,ec e];exact h.tot v hv}
theorem Fo {s:FM}(hm:m<8)(hu:u<6):runs (xC s m 6) u=runs s u-s.on u m:=by
 have:=nz (f:=(xC s m 6).on u) (g:=s.on u) hm (fun i _ hne=>by show(if u<6/\i=m then 0 else s.on u i)=_;rw[ec (fun h5=>hne h5.2)]);show Por.sumI ((xC s m 6).on u) 8=Por.sumI (s.on u) 8-s.on u m;rw[this];show Por.sumI (s.on u) 8+((if u<6/\m=m then 0 else s.on u m)-s.on u m)=_;rw[ed ⟨hu,rfl⟩];omega
theorem FWf.dropM (h:FWf R F)(hm:m<8):FWf R (yu F m):=by
 (have a:∀i,(yu F m).ms i=if i=m then(fun _=>0)else F.ms i:=fun i=>rfl);(have c:∀i,(yu F m).mt i=if i=m then lL else F.mt i:=fun i=>rfl);have d:∀v,v<6->(yu F m).m.kV v=F.m.kV v+F.m.on v m:=fun v hv=>ed hv
 have b:∀v,v<6->∀l,(yu F m).m.on v l=if l=m then 0 else F.m.on v l:=fun v hv l=>by
  show(if v<6/\l=m then 0 else F.m.on v l)=_;by_cases e:l=m
  ·rw[ed ⟨hv,e⟩,ed e]
  ·rw[ec (fun h5=>e h5.2),ec e]
 have f:∀v,v<6->runs (yu F m).m v=runs F.m v-F.m.on v m:=fun v hv=>Fo hm hv
 exact{h with
  mt:=fun i hi ht=>by
   rw[c]at ht;split at ht
   ·cases ht
   ·exact h.mt i hi ht
  ms:=fun i hi r hr=>by
   rw[a];split
   ·show(0:Int)<=0 /\ (0:Int)<=1000;omega
   ·exact h.ms i hi r hr
  msz:=fun i hi ht r hr=>by
   rw[a];rw[c]at ht
   by_cases e:i=m
   ·rw[ed e]
   ·rw[ec e]at ht;rw[ec e];exact h.msz i hi ht r hr
  msk:=fun i hi r hr hk=>by
   rw[a];split
   ·rfl
   ·exact h.msk i hi r hr hk
  on:=fun v hv l hl=>by
   rw[b v hv];split
   ·exact ik _
   ·exact h.on v hv l hl
  kV:=fun v hv=>by
   rw[d v hv];have:=h.kV v hv;have:=h.on v hv m hm;omega
  none:=fun v hv ht=>by
   rw[d v hv,f v hv];have:=h.none v hv ht;omega
  gone:=fun l hl ht v hv=>by
   rw[b v hv];rw[c]at ht
   by_cases e:l=m
   ·rw[ed e]
   ·rw[ec e]at ht;rw[ec e];exact h.gone l hl ht v hv
  kw:=fun l hl r hr=>by
   rw[a]
   by_cases e:l=m
   ·rw[ed e]
    refine Int.le_of_eq (mH (fun v hv=>?_))
    show F.ud v r*(yu F m).m.on v l=0
    rw[b v hv,ed e,jK]
   ·rw[ec e]
    refine Int.le_trans (Int.le_of_eq (oT (fun v hv=>?_))) (h.kw l hl r hr)
    show F.ud v r*(yu F m).m.on v l=F.ud v r*F.m.on v l
    rw[b v hv,ec e]
  tot:=fun v hv=>by
   rw[d v hv,f v hv];have:=h.tot v hv;omega}
theorem FWf.spare (h:FWf R F)(hr:r<4):0<=zB F 8 r-Por.sumI (fun u=>F.ud u r*runs F.m u) 6:=by
 (have a:Por.sumI (fun u=>F.ud u r*runs F.m u) 6=Por.sumI (fun m=>Por.sumI (fun u=>F.ud u r*F.m.on u m) 6) 8:=by have b:Por.sumI (fun u=>F.ud u r*runs F.m u) 6=Por.sumI (fun u=>Por.sumI (fun m=>F.ud u r*F.m.on u m) 8) 6:=oT (fun u _=>by show _=Por.sumI (fun m=>F.ud u r*F.m.on u m) 8;rw[Hk];rfl);rw[b,Fq]);have c:=pw (f:=fun m=>Por.sumI (fun u=>F.ud u r*F.m.on u m) 6) (g:=fun m=>F.ms m r) (n:=8) (fun m hm=>h.kw m hm r hr);rw[a];change Por.sumI _ 8<=zB F 8 r at c;omega
theorem FWf.tick (h:FWf R F) (h0:0<=n) (h1:F.ck+n<=1000000):FWf R (tickF F n):=
  {h with
    ck:=by have:=h.ck.1;show 0<=F.ck+n/\F.ck+n<=1000000;omega
    ks:=fun u hu r hr=>by
      show 0<=F.ks u r+F.ud u r*runs F.m u*n/\F.ks u r+F.ud u r*runs F.m u*n<=400000*(F.ck+n)
      have b:=h.ks u hu r hr
      have a:=lZ (h.ud u hu r hr) (show 0<=runs F.m u/\runs F.m u<=40 from⟨h.runs0 hu,by have:=h.tot u hu;have:=h.kV u hu;omega⟩)
      have c:=il a.1 h0
      have d:=iH a.2 h0
      rw[Int.mul_add]
      omega
    ku:=fun r hr=>by
      show 0<=F.ku r+(zB F 8 r-Por.sumI (fun u=>F.ud u r*runs F.m u) 6)*n/\F.ku r+(zB F 8 r-Por.sumI (fun u=>F.ud u r*runs F.m u) 6)*n<=8000*(F.ck+n)
      have b:=h.ku r hr
      have a:=h.spare hr
      have c:=h.stat.kq r hr
      have d:=JQ (fun u hu=>il (h.ud u hu r hr).1 (h.runs0 hu))
      have e:=il a h0
      have f:(zB F 8 r-Por.sumI (fun u=>F.ud u r*runs F.m u) 6)*n<=8000*n:=iH (by omega) h0
      rw[Int.mul_add]
      omega}
def Ends (b:Nat)(R:Int)(F F1:Flt)(er:Int)(w w':lM):Prop:=∃G,FL w' b G/\FWf (R+9600) G/\Tab w'/\Only w.heap.size b w w'/\((er=0/\Settled F1 G)\/(er≠0/\G=F))
variable{b:Nat}{w w':lM}{F1:Flt}{er:Int}
theorem Ends.kD (hf:FL w b F) (hr:FWf R F) (ht:Tab w) (hb:Below w.heap.size w w') (he:er≠0):Ends b R F F1 er w w':=
  ⟨F,hf.iP hb,hr.mono (by omega),ht.iP hb,Only.jE b hb,.inr ⟨he,rfl⟩⟩
variable{M:Nat->lN}
theorem Enc.setUw (h:Enc M F)(hu:u<6)(x:Int):Enc (xV M (43+u*22+5) (kW lD x)) {F with uw:=zE F.uw u x}:=by
 refine⟨?_,?_,?_,fun i hi=>?_,fun i hi r hr=>?_,fun v hv=>?_,fun v hv r hr=>?_,fun v hv=>?_,fun v hv=>?_,fun v hv=>?_,fun v hv m hm=>?_,fun v hv=>?_,fun v hv=>?_,fun v hv r hr=>?_,?_,fun r hr=>?_⟩
 ·rw[i6 _ _ (by omega)];exact h.k
 ·rw[i6 _ _ (by omega)];exact h.mg
 ·rw[i6 _ _ (by omega)];exact h.ug
 ·rw[i6 _ _ (by omega)];exact h.mt i hi
 ·rw[i6 _ _ (by omega)];exact h.ms i hi r hr
 ·rw[i6 _ _ (by omega)];exact h.ut v hv
 ·rw[i6 _ _ (by omega)];exact h.ud v hv r hr
 ·by_cases e:v=u
  ·subst e;rw[mq];show _=Value.int lD (zE F.uw v x v);rw[JP]
  ·rw[i6 _ _ (by omega)];show _=Value.int lD (zE F.uw u x v);rw[JJ _ _ e];exact h.uw v hv
 ·rw[i6 _ _ (by omega)];exact h.uc v hv
 ·rw[i6 _ _ (by omega)];exact h.kV v hv
 ·rw[i6 _ _ (by omega)];exact h.on v hv m hm
 ·rw[i6 _ _ (by omega)];exact h.due v hv
 ·rw[i6 _ _ (by omega)];exact h.ky v hv
 ·rw[i6 _ _ (by omega)];exact h.ks v hv r hr
 ·rw[i6 _ _ (by omega)];exact h.ck
 ·rw[i6 _ _ (by omega)];exact h.ku r hr
theorem FL.setUw (h:FL w b F)(hu:u<6)(x:Int):FL (lG w ⟨b,43+u*22+5,lI⟩ (kW lD x)) b {F with uw:=zE F.uw u x}:=by
 obtain⟨M,a,c⟩:=h;exact⟨_,a.set _ _,c.setUw hu x⟩
theorem FL.cUw (h:FL w b F)(hu:u<6):lH w ⟨b,43+u*22+5,lI⟩=lJ (kW lD (F.uw u))/\w.frozen? ⟨b,43+u*22+5,lI⟩=lL:=by
 obtain⟨M,a,c⟩:=h;rw[a.cell (by omega),c.uw u hu];exact⟨rfl,a.frozen _⟩
theorem Enc.setUc (h:Enc M F)(hu:u<6)(x:Int):Enc (xV M (43+u*22+6) (kW lD x)) {F with uc:=zE F.uc u x}:=by
 refine⟨?_,?_,?_,fun i hi=>?_,fun i hi r hr=>?_,fun v hv=>?_,fun v hv r hr=>?_,fun v hv=>?_,fun v hv=>?_,fun v hv=>?_,fun v hv m hm=>?_,fun v hv=>?_,fun v hv=>?_,fun v hv r hr=>?_,?_,fun r hr=>?_⟩
 ·rw[i6 _ _ (by omega)];exact h.k
 ·rw[i6 _ _ (by omega)];exact h.mg
 ·rw[i6 _ _ (by omega)];exact h.ug
 ·rw[i6 _ _ (by omega)];exact h.mt i hi
 ·rw[i6 _ _ (by omega)];exact h.ms i hi r hr
 ·rw[i6 _ _ (by omega)];exact h.ut v hv
 ·rw[i6 _ _ (by omega)];exact h.ud v hv r hr
 ·rw[i6 _ _ (by omega)];exact h.uw v hv
 ·by_cases e:v=u
  ·subst e;rw[mq];show _=Value.int lD (zE F.uc v x v);rw[JP]
  ·rw[i6 _ _ (by omega)];show _=Value.int lD (zE F.uc u x v);rw[JJ _ _ e];exact h.uc v hv
 ·rw[i6 _ _ (by omega)];exact h.kV v hv
 ·rw[i6 _ _ (by omega)];exact h.on v hv m hm
 ·rw[i6 _ _ (by omega)];exact h.due v hv
 ·rw[i6 _ _ (by omega)];exact h.ky v hv
 ·rw[i6 _ _ (by omega)];exact h.ks v hv r hr
 ·rw[i6 _ _ (by omega)];exact h.ck
 ·rw[i6 _ _ (by omega)];exact h.ku r hr
theorem FL.setUc (h:FL w b F)(hu:u<6)(x:Int):FL (lG w ⟨b,43+u*22+6,lI⟩ (kW lD x)) b {F with uc:=zE F.uc u x}:=by
 obtain⟨M,a,c⟩:=h;exact⟨_,a.set _ _,c.setUc hu x⟩
theorem FL.cUc (h:FL w b F)(hu:u<6):lH w ⟨b,43+u*22+6,lI⟩=lJ (kW lD (F.uc u))/\w.frozen? ⟨b,43+u*22+6,lI⟩=lL:=by
 obtain⟨M,a,c⟩:=h;rw[a.cell (by omega),c.uc u hu];exact⟨rfl,a.frozen _⟩
def xM (F:Flt)(x n:Int):Int:=if yH F x then(if n<1\/40-(F.m.kV x.toNat+runs F.m x.toNat)<n then 8 else 0)else 7
def xN (F:Flt)(x n:Int):Int:=if yH F x then(if n<1\/F.m.kV x.toNat<n then 8 else 0)else 7
def xP (F:Flt)(x y:Int):Int:=if yH F x&&yl F y then(if F.m.on x.toNat y.toNat<1 then 8 else 0)else 7
def xh (F:Flt)(x wt cp:Int):Int:=if yH F x then(if xE 1 100 wt&&xE 0 1000 cp then 0 else 4)else 7
theorem FY (b:Nat) (F:Flt) (u:Nat) (w:lM) (hf:FL w b F) (hu:u<6) (hw:0<=F.m.kV u/\F.m.kV u<=1000000) (ho:∀m,m<8->0<=F.m.on u m/\F.m.on u m<=1000000) :
    Calls prog 137 #[kY (lJ ⟨b,43+u*22,lI⟩)] w fun e w'=>e=lF (kW lD (F.m.kV u+runs F.m u))/\Below w.heap.size w w':=
  Aw hf.lt (hf.cWait hu).1 (fun m hm=>(hf.cOn hu hm).1) hw ho
theorem Ends.of {G:Flt} {V:lM} (h0:Only w.heap.size b w V) (h1:FL w' b G) (h2:Settled F1 G) (h3:FWf (R+9600) G) (h4:Tab w') (h5:Only V.heap.size b V w') (he:er=0):Ends b R F F1 er w w':=
  ⟨G,h1,h3,h4,h0.trans (h5.mono h0.size),.inl ⟨he,h2⟩⟩
variable{x:Int}
theorem Submit_any (hf:FL w b F)(hr:FWf R F)(hR:R<=999999999999990000)(ht:Tab w):Calls prog 73 #[kY (lJ ⟨b,0,lI⟩),kW lD x,kW lD n] w fun e w'=>e=lF (kW lD (xM F x n))/\Ends b R F (subF F x.toNat n) (xM F x n) w w':=by
 have s:=brw w;go_enter func73,ntmps73;go_wp2_with fail;refine(nL hf).mono ?_;rintro e1 w1 ⟨rfl,J⟩;obtain rfl:=J.symm
 cases H:yH F x with
 |false=>(have d:xM F x n=7:=by unfold xM;rw[H];rfl);clear H;go_wp2;go_ret;exact⟨by rw[d];rfl,by rw[d];exact Ends.kD hf hr ht s (by decide)⟩
 | true=>
  obtain⟨u,rfl,j,N⟩:=lV H;(have ac:(u:Int)<6:=by omega);(have M:(u:Int).toNat=u:=by omega);have lb:=hf.lt;by_cases S:n<1
  ·(have d:xM F u n=8:=by unfold xM;rw[H];simp only[eS];rw[ed (.inl S)]);have d1:=ei S;go_wp2;go_ret;exact⟨by rw[d];rfl,by rw[d];exact Ends.kD hf hr ht s (by decide)⟩
  ·have d1:=ee S;have f:=hr.wait40 j;have X:=hr.runs0 j;have C:=hr.tot u j;go_wp2_with fail;refine(FY b F u _ hf j (by have:=f;omega) (fun m hm=>by have:=hr.on40 j hm;omega)).mono ?_;rintro e2 P ⟨rfl,D⟩;generalize p:F.m.kV u+runs F.m u=ts;(have ab:0<=ts/\ts<=40:=by have S:=f;have h2:=X;have h3:=C;omega);by_cases h2:40-ts<n
   ·(have d:xM F u n=8:=by unfold xM;rw[H];simp only[eS];rw[M,p];rw[ed (.inr h2)]);go_wp2;go_ret;exact⟨by rw[d];rfl,by rw[d];exact Ends.kD hf hr ht D (by decide)⟩
   ·(have d:xM F u n=0:=by unfold xM;rw[H];simp only[eS];rw[M,p];rw[ec (by omega)]);(go_upto_region 5 with fail);have h:=hf.iP D;have Z:=ht.iP D;have W:=Only.jE b D;obtain⟨r,q⟩:∃t,F.m.kV u=t:=⟨_,rfl⟩;obtain⟨c0,z0⟩:=h.cWait j;have aa:=f;rw[q]at c0 aa;have ad:=h.lt;go_region;clear c0 z0;(have v:FL (lG P ⟨b,43+u*22+7,lI⟩ (kW lD (r+n))) b (subF F u n):=by have h9:=h.setWait j (r+n);rw[<-q]at h9 ⊢;exact h9);have c:=W.setCell _ (43+u*22+7) (kW lD (r+n));have A:=Z.only h ((Only.refl P.heap.size b P).setCell _ (43+u*22+7) (kW lD (r+n))) lR;(go_upto_region 6 with fail);generalize lG P ⟨b,43+u*22+7,lI⟩ (kW lD (r+n))=V3 at v c A ⊢;have y:FL V3.drew b _:=v;have z:Only w.heap.size b w V3.drew:=⟨c.os,c.tape,c.output,c.size,c.block⟩;have B:=A.drew;go_wp2_with fail;refine(nT b R (subF F u n) _ y (hr.sub j N (by have h3:=q;have h4:=f;omega) (by have h3:=p;have h4:=q;omega)) hR B).mono ?_;rintro e9 w9 ⟨rfl,G,E,K,O,L,I⟩;have T:=Ends.of (F:=F) (er:=0) z E K O L I rfl;clear E K O L I;go_wp2;go_ret;exact⟨by rw[d];rfl,by rw[d,M];exact T⟩
theorem Cancel_any (hf:FL w b F)(hr:FWf R F)(hR:R<=999999999999990000)(ht:Tab w):Calls prog 75 #[kY (lJ ⟨b,0,lI⟩),kW lD x,kW lD n] w fun e w'=>e=lF (kW lD (xN F x n))/\Ends b R F (subF F x.toNat (-n)) (xN F x n) w w':=by
 have f:=brw w;go_enter func75,ntmps75;go_wp2_with fail;refine(nL hf).mono ?_;rintro e1 w1 ⟨rfl,D⟩;obtain rfl:=D.symm
 cases B:yH F x with
 |false=>(have d:xN F x n=7:=by unfold xN;rw[B];rfl);clear B;go_wp2;go_ret;exact⟨by rw[d];rfl,by rw[d];exact Ends.kD hf hr ht f (by decide)⟩
 | true=>
  obtain⟨u,rfl,p,J⟩:=lV B;(have ab:(u:Int)<6:=by omega);(have I:(u:Int).toNat=u:=by omega);have lb:=hf.lt;by_cases U:n<1
  ·(have d:xN F u n=8:=by unfold xN;rw[B];simp only[eS];rw[ed (.inl U)]);have d1:=ei U;go_wp2;go_ret;exact⟨by rw[d];rfl,by rw[d];exact Ends.kD hf hr ht f (by decide)⟩
  ·have d1:=ee U;have k:=hr.wait40 p;have P:=hr.tot u p;obtain⟨o,l⟩:∃t,F.m.kV u=t:=⟨_,rfl⟩;obtain⟨Y,z0⟩:=hf.cWait p;have X:=k;rw[l]at Y X;by_cases h2:o<n
   ·(have d:xN F u n=8:=by unfold xN;rw[B];simp only[eS];rw[I,l];rw[ed (.inr h2)]);go_wp2;go_ret;exact⟨by rw[d];rfl,by rw[d];exact Ends.kD hf hr ht f (by decide)⟩
   ·(have d:xN F u n=0:=by unfold xN;rw[B];simp only[eS];rw[I,l];rw[ec (by omega)]);(go_upto_region 5 with fail);have O:=Only.refl w.heap.size b w;go_region;clear Y z0;(have q:FL (lG w ⟨b,43+u*22+7,lI⟩ (kW lD (o-n))) b (subF F u (-n)):=by have W:=hf.setWait p (o-n);rw[<-l]at W ⊢;rw[show F.m.kV u-n=F.m.kV u + -n by omega]at W ⊢;exact W);have c:=O.setCell _ (43+u*22+7) (kW lD (o-n));have y:=ht.only hf ((Only.refl w.heap.size b w).setCell _ (43+u*22+7) (kW lD (o-n))) lR;(go_upto_region 6 with fail);generalize lG w ⟨b,43+u*22+7,lI⟩ (kW lD (o-n))=T at q c y ⊢;have r:FL T.drew b _:=q;have v:Only w.heap.size b w T.drew:=⟨c.os,c.tape,c.output,c.size,c.block⟩;have z:=y.drew;go_wp2_with fail;refine(nT b R (subF F u (-n)) _ r (hr.sub p J (by have h3:=l;have h4:=k;omega) (by have h3:=P;have h4:=l;omega)) hR z).mono ?_;rintro e9 w9 ⟨rfl,G,A,E,K,H,C⟩;have M:=Ends.of (F:=F) (er:=0) v A E K H C rfl;clear A E K H C;go_wp2;go_ret;exact⟨by rw[d];rfl,by rw[d,I];exact M⟩
theorem Finish_any {y:Int}(hf:FL w b F)(hr:FWf R F)(hR:R<=999999999999990000)(ht:Tab w):Calls prog 77 #[kY (lJ ⟨b,0,lI⟩),kW lD x,kW lD y] w fun e w'=>e=lF (kW lD (xP F x y))/\Ends b R F (finF F x.toNat y.toNat) (xP F x y) w w':=by
 have h:=brw w;go_enter func77,ntmps77;go_wp2_with fail;refine(nL hf).mono ?_;rintro e1 w1 ⟨rfl,B⟩;obtain rfl:=B.symm
 cases k:yH F x with
 |false=>(have d:xP F x y=7:=by unfold xP;rw[k];rfl);clear k;go_wp2;go_ret;exact⟨by rw[d];rfl,by rw[d];exact Ends.kD hf hr ht h (by decide)⟩
 | true=>
  go_wp2_with fail;refine(sB hf).mono ?_;rintro e2 w2 ⟨rfl,C⟩;obtain rfl:=C.symm
  cases z:yl F y with
  |false=>(have d:xP F x y=7:=by unfold xP;rw[k,z];rfl);clear k z;go_wp2;go_ret;exact⟨by rw[d];rfl,by rw[d];exact Ends.kD hf hr ht h (by decide)⟩
  |true=>
   obtain⟨u,rfl,L,T⟩:=lV k;obtain⟨m,rfl,f,g⟩:=pm z;(have ab:(u:Int)<6:=by omega);(have aa:(m:Int)<8:=by omega);clear T g;(have H:(u:Int).toNat=u:=by omega);(have g:(m:Int).toNat=m:=by omega);have lb:=hf.lt;have N:=hr.on40 L f;obtain⟨q,Q⟩:∃t,F.m.on u m=t:=⟨_,rfl⟩;obtain⟨X,z0⟩:=hf.cOn L f;rw[Q]at X N;by_cases Y:q<1
   ·(have d:xP F u m=8:=by unfold xP;rw[k,z];simp only[Bool.and_self,eS];rw[H,g,Q,ed Y]);go_wp2;go_ret;exact⟨by rw[d];rfl,by rw[d];exact Ends.kD hf hr ht h (by decide)⟩
   ·(have d:xP F u m=0:=by unfold xP;rw[k,z];simp only[Bool.and_self,eS];rw[H,g,Q,ec Y]);(go_upto_region 5 with fail);have O:=Only.refl w.heap.size b w;go_region;clear X z0;(have l:FL (lG w ⟨b,43+u*22+8+m,lI⟩ (kW lD (q-1))) b (finF F u m):=by have Z:=hf.setOn L f (q-1);rw[<-Q]at Z ⊢;exact Z);have c:=O.setCell _ (43+u*22+8+m) (kW lD (q-1));have p:=ht.only hf ((Only.refl w.heap.size b w).setCell _ (43+u*22+8+m) (kW lD (q-1))) lR;(go_upto_region 6 with fail);generalize lG w ⟨b,43+u*22+8+m,lI⟩ (kW lD (q-1))=P at l c p ⊢;have n:FL P.drew b _:=l;have o:Only w.heap.size b w P.drew:=⟨c.os,c.tape,c.output,c.size,c.block⟩;have r:=p.drew;go_wp2_with fail;refine(nT b R (finF F u m) _ n (hr.fin L f (by omega)) hR r).mono ?_;rintro e9 w9 ⟨rfl,G,v,D,I,E,A⟩;have M:=Ends.of (F:=F) (er:=0) o v D I E A rfl;clear v D I E A;go_wp2;go_ret;exact⟨by rw[d];rfl,by rw[d,H,g];exact M⟩
theorem Change_any (hf:FL w b F)(hr:FWf R F)(hR:R<=999999999999990000)(ht:Tab w):Calls prog 71 #[kY (lJ ⟨b,0,lI⟩),kW lD x,kW lD wt,kW lD cp] w fun e w'=>e=lF (kW lD (xh F x wt cp))/\Ends b R F (chgF F x.toNat wt cp) (xh F x wt cp) w w':=by
 have h:=brw w;go_enter func71,ntmps71;go_wp2_with fail;refine(nL hf).mono ?_;rintro U w1 ⟨rfl,s⟩;obtain rfl:=s.symm
 cases f:yH F x with
 |false=>(have c:xh F x wt cp=7:=by unfold xh;rw[f];rfl);go_wp2;go_ret;exact⟨by rw[c];rfl,by rw[c];exact Ends.kD hf hr ht h (by decide)⟩
 | true=>
  go_wp2_with fail;refine(qH).mono ?_;rintro W w2 ⟨rfl,t⟩;obtain rfl:=t.symm
  cases g:xE 1 100 wt with
  |false=>(have c:xh F x wt cp=4:=by unfold xh;rw[f,g];rfl);go_wp2;go_ret;exact⟨by rw[c];rfl,by rw[c];exact Ends.kD hf hr ht h (by decide)⟩
  |true=>
   go_wp2_with fail;refine(tq).mono ?_;rintro X w3 ⟨rfl,v⟩;obtain rfl:=v.symm
   cases i:xE 0 1000 cp with
   |false=>(have c:xh F x wt cp=4:=by unfold xh;rw[f,g,i];rfl);go_wp2;go_ret;exact⟨by rw[c];rfl,by rw[c];exact Ends.kD hf hr ht h (by decide)⟩
   |true=>(have c:xh F x wt cp=0:=by unfold xh;rw[f,g,i];rfl);(have N:1<=wt/\wt<=100:=by unfold xE at g;simpa using g);(have I:0<=cp/\cp<=1000:=by unfold xE at i;simpa using i);obtain⟨u,rfl,C,B⟩:=lV f;(have Q:(u:Int)<6:=by omega);(have A:(u:Int).toNat=u:=by omega);have Z:=hf.lt;obtain⟨O,P⟩:=hf.cUw C;have K:=Only.refl w.heap.size b w;have d:=hf.setUw C wt;have k:=K.setCell _ (43+u*22+5) (kW lD wt);have m:=ht.only hf ((Only.refl w.heap.size b w).setCell _ (43+u*22+5) (kW lD wt)) lR;(go_upto_region 6 with fail);generalize lG w ⟨b,43+u*22+5,lI⟩ (kW lD wt)=o at d k m ⊢;have S:=d.lt;obtain⟨O,P⟩:=d.cUc C;have j:=d.setUc C cp;have l:=k.setCell _ (43+u*22+6) (kW lD cp);have n:=m.only d ((Only.refl o.heap.size b o).setCell _ (43+u*22+6) (kW lD cp)) lR;(go_upto_region 7 with fail);generalize lG o ⟨b,43+u*22+6,lI⟩ (kW lD cp)=T at j l n ⊢;go_wp2_with fail;refine(nT b R (chgF F u wt cp) _ j (hr.chg C B N I) hR n).mono ?_;rintro Y w9 ⟨rfl,G,q,y,D,z,r⟩;have J:=Ends.of (F:=F) (er:=0) l q y D z r rfl;go_wp2;go_ret;exact⟨by rw[c];rfl,by rw[c,A];exact J⟩
theorem own:ownKnob prog.godebug=lI:=by kernel_rfl
theorem gTab:prog.globalNamed "internal/strconv.uint64pow10" = lJ 0:=by kernel_rfl
theorem gTabType:(prog.globals[0]?).map (·.type) =lJ 196:=by kernel_rfl
theorem cellsTab:prog.cellsOf 196=20:=by kernel_rfl
theorem cellsU64:prog.cellsOf 180=1:=by kernel_rfl
variable{W:lM}
theorem qQ (h:laidMetH prog [("math/bits.deBruijn32tab",Rows.laid_math_bits_deBruijn32tab),("math/bits.deBruijn64tab",Rows.laid_math_bits_deBruijn64tab),("internal/strconv.uint64pow10",Rows.laid_internal_strconv_uint64pow10)] W):Tab W:=by
 have h2:=laidMetH.filter (fun x=>x.1 == "internal/strconv.uint64pow10") h;have h3:laidMetH prog [("internal/strconv.uint64pow10",Rows.laid_internal_strconv_uint64pow10)] W:=h2;have h4:laidMet prog [("internal/strconv.uint64pow10",Go.Lib.tabData .u64 Go.Lib.pow10Tab)] W:=h3;exact Go.Lib.tabIs_of_head (rest:=[]) gTab gTabType underlying196 underlying180 cellsU64 cellsTab h4
def refill (c:Array lN):Obj->Obj
  |lE _ t frozen=>lE c t frozen
  |o=>o
noncomputable def yQ (os:Os):lM:=
  {World.holding prog os ⟨#[],#[],[]⟩with
    heap:=(((World.holding prog os ⟨#[],#[],[]⟩).heap.modify 0 (refill #[kW .u64 1,kW .u64 10,kW .u64 100,kW .u64 1000,kW .u64 10000,kW .u64 100000,kW .u64 1000000,kW .u64 10000000,kW .u64 100000000,kW .u64 1000000000,kW .u64 10000000000,kW .u64 100000000000,kW .u64 1000000000000,kW .u64 10000000000000,kW .u64 100000000000000,kW .u64 1000000000000000,kW .u64 10000000000000000,kW .u64 100000000000000000,kW .u64 1000000000000000000,kW .u64 10000000000000000000])).modify 1 (refill #[kW .u8 0,kW .u8 1,kW .u8 28,kW .u8 2,kW .u8 29,kW .u8 14,kW .u8 24,kW .u8 3,kW .u8 30,kW .u8 22,kW .u8 20,kW .u8 15,kW .u8 25,kW .u8 17,kW .u8 4,kW .u8 8,kW .u8 31,kW .u8 27,kW .u8 13,kW .u8 23,kW .u8 21,kW .u8 19,kW .u8 16,kW .u8 7,kW .u8 26,kW .u8 12,kW .u8 18,kW .u8 6,kW .u8 11,kW .u8 5,kW .u8 10,kW .u8 9])).modify 2 (refill #[kW .u8 0,kW .u8 1,kW .u8 56,kW .u8 2,kW .u8 57,kW .u8 49,kW .u8 28,kW .u8 3,kW .u8 61,kW .u8 58,kW .u8 42,kW .u8 50,kW .u8 38,kW .u8 29,kW .u8 17,kW .u8 4,kW .u8 62,kW .u8 47,kW .u8 59,kW .u8 36,kW .u8 45,kW .u8 43,kW .u8 51,kW .u8 22,kW .u8 53,kW .u8 39,kW .u8 33,kW .u8 30,kW .u8 24,kW .u8 18,kW .u8 12,kW .u8 5,kW .u8 63,kW .u8 55,kW .u8 48,kW .u8 27,kW .u8 60,kW .u8 41,kW .u8 37,kW .u8 16,kW .u8 46,kW .u8 35,kW .u8 44,kW .u8 21,kW .u8 52,kW .u8 32,kW .u8 23,kW .u8 11,kW .u8 54,kW .u8 26,kW .u8 40,kW .u8 15,kW .u8 34,kW .u8 20,kW .u8 31,kW .u8 10,kW .u8 25,kW .u8 14,kW .u8 19,kW .u8 9,kW .u8 13,kW .u8 8,kW .u8 7,kW .u8 6])}
open Go.RowKit Por Go.ChangeShapes Go.WideShapes Go.Proofs.Tryz
structure OpV where
  kind:Int
  a:Int
  b:Int
  c:Int
  l:List Int
  oth:Bool
def In64 (x:Int):Prop:=-9223372036854775808<=x/\x<=9223372036854775807
structure OpI4 (o:OpV):Prop where
  kind:In64 o.kind
  a:In64 o.a
  b:In64 o.b
  c:In64 o.c
structure OpIn (o:OpV):Prop extends OpI4 o where
  l:o.l.length<=17592186044416
abbrev OpV.usr (o:OpV):Usr:=⟨o.l,o.a,o.b⟩
def og (os:List OpV)(i:Nat):OpV:=os.getD i ⟨0,0,0,0,[],lL⟩
abbrev opcells (o:OpV)(da:Option Addr)(dn dc:Nat):List lN:=[kW lD o.kind,kW lD o.a,kW lD o.b,kW lD o.c,kX da dn dc,kZ o.oth]
structure Scr (w:lM)(ao:Option Addr)(n cap:Nat)(os:List OpV):Prop where
  len:os.length=n
  le:n<=cap
  cm:cap<=maxLen
  cell:∀i,i<n->∃b o da dn dc,ao=lJ ⟨b,o,lI⟩/\b<w.heap.size/\(∀j v,(opcells (og os i) da dn dc)[j]?=lJ v->lH w ⟨b,o+(i*6+j),lI⟩=lJ v)/\Arr w 1 da dn dc (zi (og os i).l)/\OpI4 (og os i)
theorem Scr.iP {ao:Option Addr} {n cap:Nat} {os:List OpV} (h:Scr w ao n cap os) (hb:Below w.heap.size w w'):Scr w' ao n cap os:=
  ⟨h.len,h.le,h.cm,fun i hi=>by
    obtain⟨b,o,da,dn,dc,h1,h2,h3,h4,h5⟩:=h.cell i hi
    exact⟨b,o,da,dn,dc,h1,ez h2 hb.size,fun j v hv=>(hb.cell (p:=⟨b,_,lI⟩) h2).trans (h3 j v hv),h4.iP hb,h5⟩⟩
theorem Tryz.cellsOp:prog.cellsOf 46=6:=by kernel_rfl
theorem Tryz.cellsBool:prog.cellsOf 4=1:=by kernel_rfl
variable{fuel:Nat}{cs:List lN}
theorem Dr {H:Type}{enc:TypeId×lN->H}{P:Program}{base:Nat}{spare:Nat->Bool}{held:Bool}{t:TypeId}{f0 f1 f2 f3 f4 f5:Field}{x:DataW H×List MemPlace}(ht:P.underlying t=lJ (.struct #[f0,f1,f2,f3,f4,f5]))(h:DataW.trod enc P w base spare held fuel t cs=lJ x):∃y0 y1 y2 y3 y4 y5 n,cs.length=P.cellsOf t/\x.1=.agg [y0.1,y1.1,y2.1,y3.1,y4.1,y5.1]/\DataW.trod enc P w base spare held n f0.type ((cs.drop f0.offset).take (P.cellsOf f0.type))=lJ y0/\DataW.trod enc P w base spare held n f1.type ((cs.drop f1.offset).take (P.cellsOf f1.type))=lJ y1/\DataW.trod enc P w base spare held n f2.type ((cs.drop f2.offset).take (P.cellsOf f2.type))=lJ y2/\DataW.trod enc P w base spare held n f3.type ((cs.drop f3.offset).take (P.cellsOf f3.type))=lJ y3/\DataW.trod enc P w base spare held n f4.type ((cs.drop f4.offset).take (P.cellsOf f4.type))=lJ y4/\DataW.trod enc P w base spare held n f5.type ((cs.drop f5.offset).take (P.cellsOf f5.type))=lJ y5:=by
 obtain⟨d,n,_,rfl,c,b,a⟩:=DataW.trod_struct ht h
 match d,b with
 |[y0,y1,y2,y3,y4,y5],_=>exact⟨y0,y1,y2,y3,y4,y5,n,c,by simp,by simpa using a 0 f0 rfl,by simpa using a 1 f1 rfl,by simpa using a 2 f2 rfl,by simpa using a 3 f3 rfl,by simpa using a 4 f4 rfl,by simpa using a 5 f5 rfl⟩
theorem six {α:Type}{l:List α}(h:l.length=6):∃a b c d e f,l=[a,b,c,d,e,f]:=by
 match l,h with
 |[a,b,c,d,e,f],_=>exact⟨a,b,c,d,e,f,rfl⟩
theorem rW (h:(Lit.int lD x).wf=lK):In64 x:=by
 simp only[Lit.wf,eJ,eN]at h;exact h
theorem Tryz.bytesOp:prog.bytesOf 46=64:=by kernel_rfl
variable{sp:Nat->Bool}{hd:Bool}
set_option maxRecDepth 100000 in
theorem Fu {H:Type}{enc:TypeId×lN->H}{x:DataW H×List MemPlace}(h:DataW.trod enc prog W 0 sp hd fuel 46 cs=lJ x):∃(o:OpV) (da:Option Addr) (dn dc:Nat),cs=opcells o da dn dc/\Arr W 1 da dn dc (zi o.l)/\OpI4 o/\(WB 46 x.1->o.l.length*8<=reachBytes):=by
 obtain⟨U,V,X,Y,Z,y5,m,D,L,u,v,w,y,A,B⟩:=Dr underlying46 h;rw[Tryz.cellsOp]at D;obtain⟨a,b,c,d,e,f,rfl⟩:=six D;have G:prog.cellsOf 22=1:=Tryz.cellsInts;have I:prog.cellsOf 3=1:=Tryz.cellsInt;have J:prog.cellsOf 4=1:=Tryz.cellsBool;simp only[G,I,J,List.drop,List.take]at u v w y A B;obtain⟨M,p,_,Q⟩:=DataW.trod_int iz u;obtain⟨N,r,_,R⟩:=DataW.trod_int iz v;obtain⟨O,s,_,S⟩:=DataW.trod_int iz w;obtain⟨P,t,_,T⟩:=DataW.trod_int iz y;obtain⟨F,n,i,E,j,C,k⟩:=DF A;obtain⟨q,K,_⟩:=DataW.trod_bool underlying4 B
 cases p;cases r;cases s;cases t;cases j;cases K
 refine⟨⟨M,N,O,P,E,q⟩,F,n,i,rfl,C,⟨rW Q,rW R,rW S,rW T⟩,fun hw=>?_⟩;have g:=C.len;rw[j9]at g;show E.length*8<=_;rw[g];rw[L]at hw;refine k (fun z hz=>hw z ?_);simp only[DataW.weights,underlying46];show z∈DataW.weightsEach prog [3,3,3,3,22,4] _;simp only[DataW.weightsEach,iu];exact Or.inr (Or.inr (Or.inr (Or.inr (Or.inl hz))))
theorem rj {H:Type}{enc:TypeId×lN->H}{x:DataW H×List MemPlace}(h:DataW.trod enc prog W 0 sp hd fuel 39 cs=lJ x):∃ao n cap os,cs=[kX ao n cap]/\Scr W ao n cap os/\(WB 39 x.1->n*64<=reachBytes)/\(WB 39 x.1->∀i,i<n->(og os i).l.length*8<=reachBytes):=by
 classical
 rcases Go.Deep.open_slice underlying39 h with⟨g,I⟩|⟨a,b,cap,m,k,D,S,g,_,O,Q,G,I,p⟩
 ·exact⟨lI,0,0,[],g,⟨rfl,lR,ep _,fun i hi=>absurd hi (iF i)⟩,fun _=>(by unfold reachBytes;omega),fun _ i hi=>absurd hi (iF i)⟩
 ·(have P:b<=m:=by rw[G];split <;> omega);rw[Tryz.cellsOp] at p;have r:∀ i,i<b->∃ (o:OpV) (ao:Option Addr) (n c:Nat),(∀ j w,(opcells o ao n c)[j]? = lJ w->W.cell? ((a.add (i*6)).add j)=lJ w)/\Arr W 1 ao n c (zi o.l)/\OpI4 o/\(WB 46 (D i)->o.l.length*8<=reachBytes):=fun i hi=>by obtain ⟨M,s,J⟩:=p i (by omega);obtain ⟨o,ao,n,c,rfl,B,F,f⟩:=Fu J;obtain ⟨_,_,u⟩:=World.cells?_some s;refine ⟨o,ao,n,c,fun j w hj=>?_,B,F,f⟩;(have E:j<6:=by simpa using (eA.1 hj).1);rw[u j E];exact hj
  let U:Nat->OpV:=fun i=>if hi:i<b then(r i hi).choose else⟨0,0,0,0,[],lL⟩
  (have A:∀i,i<b->∃(ao:Option Addr) (n c:Nat),(∀j w,(opcells (U i) ao n c)[j]?=lJ w->W.cell? ((a.add (i*6)).add j)=lJ w)/\Arr W 1 ao n c (zi (U i).l)/\OpI4 (U i)/\(WB 46 (D i)->(U i).l.length*8<=reachBytes):=fun i hi=>by simp only[U];rw[dif_pos hi];exact(r i hi).choose_spec);(have q:∀i,i<b->og ((List.range b).map U) i=U i:=fun i hi=>by unfold og;rw[ej,eD,iL hi];rfl);refine⟨lJ a,b,cap,(List.range b).map U,g,⟨by simp,O,Q,fun i hi=>?_⟩,fun f=>?_,fun f i hi=>?_⟩
  ·obtain⟨ao,n,c,u,B,R,_⟩:=A i hi;rw[q i hi];have s:=u 0 _ rfl;have J:=tx s;(have t:a=⟨a.block,a.off,lI⟩:=by obtain⟨_,_,_,C,_⟩:=A 0 (by omega);have L:=C 0 _ rfl;(have e:(a.add (0*6)).add 0=a:=by unfold Addr.add;simp);rw[e]at L;exact tx L);(have y:(a.add (i*6)).block=a.block:=by rw[t,add_plain]);refine⟨a.block,a.off,ao,n,c,by rw[<-t],?_,fun j v hv=>?_,B,R⟩
   ·have K:=World.block_lt_of_cell? W _ s;rw[t,add_plain,add_plain]at K;exact K
   ·have y:=u j v hv;rw[t,add_plain,add_plain,hJ]at y;exact y
  ·rw[I]at f;unfold WB at f;simp only[DataW.weights,underlying39,Tryz.bytesOp]at f;have N:=f _ (List.mem_cons_self);simp only[iv,List.length_range]at N;omega
  ·obtain⟨ao,n,c,_,_,_,F⟩:=A i hi;rw[q i hi];refine F (fun z hz=>f z ?_);rw[I];simp only[DataW.weights,underlying39,jn,iu];exact Or.inr (Or.inl (Jl (d:=D i) (jB.2 ⟨i,iW.2 hi,rfl⟩) z hz))
end Go.Proofs.YtigokanoflkinaaGreatDoor
