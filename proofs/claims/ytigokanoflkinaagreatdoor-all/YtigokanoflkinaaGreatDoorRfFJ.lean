/- RfP, RfF, RfG, RfH, RfI, RfJ, joined. -/
import Derived.Test.YtigokanoflkinaaGreatDoorRfAE
import Derived.Test.YtigokanoflkinaaGreatDoorZM
set_option maxHeartbeats 8000000
set_option maxRecDepth 20000
namespace Go.Proofs.YtigokanoflkinaaGreatDoor
set_option linter.unusedSimpArgs false
set_option linter.unusedVariables false
open Go.RowKit Por Go.Proofs.Tryz
open Value renaming int->kW,slice->kX,pointer->kY,bool->kZ,agg->lA
open IntKind renaming i64->lD
open Obj renaming cells->lE
open Ending renaming returned->lF
open World renaming setCell->lG,cell?->lH
open Option renaming none->lI,some->lJ
open Bool renaming true->lK,false->lL
open Go renaming World->lM,Value->lN
structure PartI (c:FC)(u k:Nat)(x:Int×Int):Prop where
  pos:0<x.2
  nn:0<=x.1
  max:∀r,r<k->c.ud u r*x.2<=x.1*c.kq r
  form:x=(0,1)\/∃q,q<k/\0<c.ud u q/\x=(c.ud u q,c.kq q)
variable{c:FC}{u:Nat}
theorem PartI.step {k:Nat}{x:Int×Int}(h:PartI c u k x)(hd:0<=c.ud u k)(hp:∀r,r<k+1->0<=c.kq r)(hz:0<c.ud u k->0<c.kq k):PartI c u (k+1) (if decide (0<c.ud u k)&&zj x (c.ud u k,c.kq k)then(c.ud u k,c.kq k)else x):=by
 have b:c.ud u k*x.2<=x.1*c.kq k -> PartI c u (k+1) x:=fun d=>⟨h.pos,h.nn,fun r hr=>by
  by_cases e:r=k
  ·subst e;exact d
  ·exact h.max r (by omega),h.form.imp id (fun⟨q,f,g⟩=>⟨q,by omega,g⟩)⟩
 by_cases d:0<c.ud u k
 ·by_cases f:x.1*c.kq k<c.ud u k*x.2
  ·rw[ed (by unfold zj;rw[ei d,ei f];rfl)];refine⟨hz d,hd,fun r hr=>?_,.inr ⟨k,by omega,d,rfl⟩⟩;show c.ud u r*c.kq k<=c.ud u k*c.kq r;by_cases e:r=k
   ·subst e;exact ik _
   ·have g:=iH (h.max r (by omega)) (hp k (by omega));have i:=iH (Int.le_of_lt f) (hp r hr);refine Int.le_of_mul_le_mul_right (a:=x.2) ?_ h.pos
    calc c.ud u r*c.kq k*x.2=c.ud u r*x.2*c.kq k:=by ac_rfl
     _<=x.1*c.kq r*c.kq k:=g
     _=x.1*c.kq k*c.kq r:=by ac_rfl
     _<=c.ud u k*x.2*c.kq r:=i
     _=c.ud u k*c.kq r*x.2:=by ac_rfl
  ·rw[ec (by unfold zj;rw[ee (show¬ x.1*c.kq k<c.ud u k*x.2 from f)];simp)];exact b (by omega)
 ·rw[ec (by rw[ee d];simp)];exact b (by rw[show c.ud u k=0 by omega,jC];exact il h.nn (hp k (by omega)))
theorem Hy (hd:∀r,r<4->0<=c.ud u r) (hp:∀r,r<4->0<=c.kq r) (hz:∀r,r<4->0<c.ud u r->0<c.kq r):∀k,k<=4->PartI c u k (yI c u k):=fun k=>by
  induction k with
  |zero=>intro _;exact⟨(by show(0:Int)<1;decide),(by show(0:Int)<=0;decide),fun r hr=>absurd hr (iF r),.inl rfl⟩
  |succ k ih=>intro hk;exact(ih (by omega)).step (hd k (by omega)) (fun r hr=>hp r (by omega)) (hz k (by omega))
variable{m:Nat}
theorem PartI.top {x:Int×Int}(h:PartI c u 4 x)(hm:m<4)(h2:∀r,r<4->0<c.ud u r->c.ud u r*c.kq m<=c.ud u m*c.kq r)(hd:0<=c.ud u m):c.ud u m*x.2=x.1*c.kq m:=by
 refine Int.le_antisymm (h.max m hm) ?_;rcases h.form with rfl|⟨q,a,b,rfl⟩
 ·show 0*_<=_*1;omega
 ·exact h2 q a b
theorem Gi {di pi Di Pi dj pj Dj Pj a b wi wj:Int}(hi:di*Pi=Di*pi)(hj:dj*Pj=Dj*pj)(h1:0<pi)(h2:0<Pi)(h3:0<pj)(h4:0<Pj):(b*dj*pi*wi<a*di*pj*wj)↔(Dj*b*(Pi*wi)<Di*a*(Pj*wj)):=by
 (have c:b*dj*pi*wi*(Pi*Pj)=Dj*b*(Pi*wi)*(pi*pj):=by(have:b*dj*pi*wi*(Pi*Pj)=(dj*Pj)*(b*pi*wi*Pi):=by ac_rfl);rw[this,hj];ac_rfl);(have d:a*di*pj*wj*(Pi*Pj)=Di*a*(Pj*wj)*(pi*pj):=by(have:a*di*pj*wj*(Pi*Pj)=(di*Pi)*(a*pj*wj*Pj):=by ac_rfl);rw[this,hi];ac_rfl);rw[<-Int.mul_lt_mul_right (Int.mul_pos h2 h4) (b:=b*dj*pi*wi),c,d,Int.mul_lt_mul_right (Int.mul_pos h1 h3)]
variable{F:Flt}{r:Nat}
theorem RfO.fits0 (h:RfO F)(hu:u<6)(hr:r<4)(h0:0<runs F.m u):F.ud u r<=zB F 8 r:=by
 have b:∃m,m<8/\1<=F.m.on u m:=by
  refine eO (fun hn=>?_)
  have:runs F.m u=0:=mH (fun m a=>by
   have c:=h.on u hu m a
   by_cases e:1<=F.m.on u m
   ·exact absurd ⟨m,a,e⟩ hn
   ·omega)
  omega
 obtain⟨m,a,c⟩:=b;have g:=l8 (f:=fun v=>F.ud v r*F.m.on v m) (n:=6) (fun j hj=>il (h.ud j hj r hr).1 (h.on j hj m a)) hu;have i:=h.kw m a r hr;have k:=l8 (f:=fun m=>F.ms m r) (n:=8) (fun j hj=>(h.ms j hj r hr).1) a;have d:=(h.ud u hu r hr).1;have l:=eX c d;unfold zB;omega
theorem RfO.partI (h:RfO F) (G:Nat->Int) (hu:u<6) (h0:0<runs F.m u):PartI (zC F (zB F 8) G) u 4 (yI (zC F (zB F 8) G) u 4):=
  Hy (fun r hr=>(h.ud u hu r hr).1) (fun r hr=>(nI h.sm (ea 8) hr).1) (fun r hr hd=>Int.lt_of_lt_of_le hd (h.fits0 hu hr h0)) 4 (ea 4)
theorem RfO.part1 (h:RfO F)(G:Nat->Int)(hu:u<6)(ht:F.ut u=lK)(h0:0<runs F.m u):0<(yI (zC F (zB F 8) G) u 4).1:=by
 have b:=h.partI G hu h0;obtain⟨r,g,d⟩:=h.want u hu ht;have f:=h.k4;have c:=b.max r (by omega);have e:=Int.mul_pos d b.pos;rcases Int.lt_or_eq_of_le b.nn with a|a
 ·exact a
 ·exfalso;rw[<-a,jC]at c;exact absurd e (Int.not_lt.2 c)
def hiB (F:Flt)(G:Nat->Int)(i j:Nat):Bool:=zj (zl (zC F (zB F 8) G) j (runs F.m j)) (zl (zC F (zB F 8) G) i (runs F.m i))
variable{i j:Nat}
theorem RfO.hi0' (h:RfO F)(G:Nat->Int)(hi:i<6)(hj:j<6)(ht:F.ut i=lK)(h0:runs F.m i=0\/runs F.m j=0):hiB F G i j=decide (0<runs F.m i):=by
 (have e:=fun u (hu:u<6)=>(oz h.sm hu).1);unfold hiB zl zj;by_cases a:runs F.m i=0
 ·rw[ed a,a];by_cases b:runs F.m j=0
  ·rw[ed b];rfl
  ·rw[ec b];have c:=(h.partI G hj (by have:=e j hj;omega)).nn;have f:=il c (e j hj);rw[ee (by dsimp only;rw[Int.mul_one,jC];omega)];rfl
 ·have b:=h0.resolve_left a;(have d:0<runs F.m i:=by have:=e i hi;omega);rw[ec a,ed b,ei d];have c:=Int.mul_pos (h.part1 G hi ht d) d;exact ei (by dsimp only;rw[jC,Int.mul_one];exact c)
theorem RfO.hiP (h:RfO F)(G:Nat->Int){p q:Nat}(hi:i<6)(hj:j<6)(hi0:0<runs F.m i)(hj0:0<runs F.m j)(hp:p<4)(hq:q<4)(hpp:0<zB F 8 p)(hqq:0<zB F 8 q)(h1:∀r,r<4->0<F.ud i r->F.ud i r*zB F 8 p<=F.ud i p*zB F 8 r)(h2:∀r,r<4->0<F.ud j r->F.ud j r*zB F 8 q<=F.ud j q*zB F 8 r):hiB F G i j=decide (runs F.m j*F.ud j q*zB F 8 p*F.uw i<runs F.m i*F.ud i p*zB F 8 q*F.uw j):=by
 have c:=(h.partI G hi hi0).top hp h1 (h.ud i hi p hp).1;have d:=(h.partI G hj hj0).top hq h2 (h.ud j hj q hq).1;have x:=Gi (a:=runs F.m i) (b:=runs F.m j) (wi:=F.uw i) (wj:=F.uw j) c d hpp (h.partI G hi hi0).pos hqq (h.partI G hj hj0).pos;unfold hiB zl zj;rw[ec (by omega),ec (by omega)];exact decide_eq_decide.2 x.symm
variable{w:lM}{f:Nat->Int}
theorem Cm {d e k dc:Nat}(h1:d<w.heap.size)(h2:k<=dc)(h3:dc<=maxLen)(h4:∀r,r<k->lH w ⟨d,e+r,lI⟩=lJ (kW lD (f r))):Arr w 1 (lJ ⟨d,e,lI⟩) k dc (zi (zu f k)):=by
 refine⟨by rw[j9,JB],h2,h3,fun _=>⟨d,e,rfl,h1⟩,fun b o he i v hv j u hu=>?_⟩
 cases he
 (have c:i<k:=by have:=(eA.1 hv).1;rw[j9,JB]at this;exact this);(have a:v=kW lD (f i):=by(have g:(zi (zu f k))[i]?=lJ (kW lD (f i)):=by show((zu f k).map (Value.int lD))[i]?=_;rw[eD,nZ _ c];rfl);rw[g]at hv;exact(iE hv).symm);subst a
 match j with
 |0=>rw[ic,ia,h4 i c];exact hu
 |j+1=>simp[Value.cells]at hu
theorem m5 {k:Nat}(h:r<k):lm (zu f k) r=f r:=qv (nZ f h)
theorem rQ {k:Nat}(h:∀r,r<k->0<=f r/\f r<=10000)(i:Nat):yG (lm (zu f k) i)=lK:=by
 by_cases e:i<k
 ·rw[m5 e];exact ei (h i e)
 ·(have:lm (zu f k) i=0:=by unfold lm;rw[ej,eW (by rw[JB];omega)];rfl);rw[this];rfl
theorem RfO.top_use (h:RfO F)(hu:u<6)(ht:F.ut u=lK)(h0:0<runs F.m u){wt cp t:Int}(hx:TopIs (zu (zB F 8) F.k) ⟨zu (F.ud u) F.k,wt,cp⟩ t):∃p:Nat,t=p/\p<F.k/\0<zB F 8 p/\∀r,r<4->0<F.ud u r->F.ud u r*zB F 8 p<=F.ud u p*zB F 8 r:=by
 have j:=h.k4;unfold TopIs at hx;rw[JB]at hx;dsimp only at hx;rcases hx with⟨_,f⟩|⟨p,b,a,c,d,g,i⟩
 ·exfalso;rcases f with⟨r,b,a,c⟩|f
  ·rw[m5 b]at a c;have d:=h.fits0 hu (show r<4 by omega) h0;have g:=(h.ud u hu r (by omega)).1;omega
  ·obtain⟨r,b,a⟩:=h.want u hu ht;have:=f r b;rw[m5 b]at this;omega
 ·rw[m5 a]at c d;refine⟨p,b,a,d,fun r hr hd=>?_⟩;by_cases e:r<F.k
  ·have:=i r e;rw[m5 e,m5 e,m5 a,m5 a]at this;exact this
  ·rw[h.udk u hu r hr (by omega)]at hd;omega
variable{b:Nat}
theorem wI (G:Nat->Int)(i j:Nat)(w:lM)(hv:RfW w b F)(hw:RfO F)(hi:i<F.ug)(hj:j<F.ug)(hti:F.ut i=lK)(htj:F.ut j=lK):Calls prog 190 #[kY (lJ ⟨b,0,lI⟩),kW lD i,kW lD j] w fun e w'=>e=lF (kZ (hiB F G i j))/\Below w.heap.size w w':=by
 have Y:=hv;obtain⟨so,sc,uo,uc,ho,hc,ro,rc,hv⟩:=hv;have lb:=hv.lt;have a:=hid hw;have be:=a.ug;have aB:=a.k4;have bb:=a.k1;(have a9:(i:Int)<(F.ug:Int):=by omega);(have ba:(j:Int)<(F.ug:Int):=by omega);have o:=hid hti;have X:=hid htj;have ra:=oz a.sm (u:=i) (by omega);have rb:=oz a.sm (u:=j) (by omega);go_enter func190,ntmps190;go_wp2_with fail;refine(nO Y a hi).mono ?_;rintro v w1 ⟨rfl,hq⟩;obtain rfl:=hq.symm;go_wp2_with fail;refine(nO Y a hj).mono ?_;rintro y w2 ⟨rfl,hq⟩;obtain rfl:=hq.symm;obtain⟨A,hA⟩:∃A,runs F.m i=A:=⟨_,rfl⟩;obtain⟨B,hB⟩:∃B,runs F.m j=B:=⟨_,rfl⟩;have HA:=hid hA;have HB:=hid hB;rw[hA]at ra ⊢;rw[hB]at rb ⊢;by_cases z:A=0
 ·(have h:Hid (hiB F G i j=lL):=by unfold Hid;rw[a.out.hi0' G (by omega) (by omega) o.out (.inl (HA.out.trans z)),HA.out,z];rfl);subst z;go_wp2;go_ret;exact⟨by rw[h.out];(first|done|rfl),eB _ _⟩
 ·have aU:=ef z;(have ac:0<A:=by omega);by_cases K:B=0
  ·(have h:Hid (hiB F G i j=lK):=by unfold Hid;rw[a.out.hi0' G (by omega) (by omega) o.out (.inr (HB.out.trans K)),HA.out];exact ei ac);subst K;go_wp2;go_ret;exact⟨by rw[h.out];(first|done|rfl),eB _ _⟩
  ·have aV:=ef K;(have aA:0<B:=by omega);go_wp2_with fail;refine(th Y a).mono ?_;rintro e3 c ⟨pv,rfl,aC,ad⟩;obtain⟨pa,pc,aG,P⟩:=aC.arr;rw[JB]at aG P;subst aG;obtain⟨pg,po,rfl,aD⟩:=P.head (by omega);have s:=hv.iP ad;have a0:=s.lt;have c2:=s.us;obtain⟨g1,o1,C,v,f,bf,ab,aH,a7,c5,aW,aX,N,h7,c8,c9,am⟩:=s.user i hi;obtain⟨g2,o2,D,y,g,bg,a6,Q,a8,k5,aY,aZ,O,k7,k8,k9,aN⟩:=s.user j hj;rw[aH]at Q;(injection Q with Q);(injection Q with x1 x2);subst x1;subst x2;subst aH;obtain⟨rfl,rfl⟩:=am o;obtain⟨rfl,rfl⟩:=aN X;(have T:∀r,r<F.k->lH c ⟨C,v+r,lI⟩=lJ (kW lD (F.ud i r)):=fun r hr=>by obtain⟨x,q1,_,_,q4⟩:=h7 r hr;rw[q1,q4 o.out]);(have W:∀r,r<F.k->lH c ⟨D,y+r,lI⟩=lJ (kW lD (F.ud j r)):=fun r hr=>by obtain⟨x,q1,_,_,q4⟩:=k7 r hr;rw[q1,q4 X.out]);have ai:=Cm N aW aX T;have aj:=Cm O aY aZ W;(go_upto_region 8 with fail);have XU:Bx ((c.alloc (lE #[kX (lJ ⟨C,v,lI⟩) F.k f,kW lD (F.uw i),kW lD (F.uc i)] 56)).alloc (lE #[kX (lJ ⟨D,y,lI⟩) F.k g,kW lD (F.uw j),kW lD (F.uc j)] 56)) c.heap.size #[kX (lJ ⟨C,v,lI⟩) F.k f,kW lD (F.uw i),kW lD (F.uc i)] 56:=i7 (i1 _ _ _) _;(have XV:Bx ((c.alloc (lE #[kX (lJ ⟨C,v,lI⟩) F.k f,kW lD (F.uw i),kW lD (F.uc i)] 56)).alloc (lE #[kX (lJ ⟨D,y,lI⟩) F.k g,kW lD (F.uw j),kW lD (F.uc j)] 56)) (c.heap.size+1) #[kX (lJ ⟨D,y,lI⟩) F.k g,kW lD (F.uw j),kW lD (F.uc j)] 56:=by have R:=i1 (c.alloc (lE #[kX (lJ ⟨C,v,lI⟩) F.k f,kW lD (F.uw i),kW lD (F.uc i)] 56)) #[kX (lJ ⟨D,y,lI⟩) F.k g,kW lD (F.uw j),kW lD (F.uc j)] 56;rw[em]at R;exact R);have XW:Bl c ((c.alloc (lE #[kX (lJ ⟨C,v,lI⟩) F.k f,kW lD (F.uw i),kW lD (F.uc i)] 56)).alloc (lE #[kX (lJ ⟨D,y,lI⟩) F.k g,kW lD (F.uw j),kW lD (F.uc j)] 56)):=(brf.alloc lR _).alloc (by simp) _;(try simp only[em]);obtain⟨V,hV⟩:∃V,V=((c.alloc (lE #[kX (lJ ⟨C,v,lI⟩) F.k f,kW lD (F.uw i),kW lD (F.uc i)] 56)).alloc (lE #[kX (lJ ⟨D,y,lI⟩) F.k g,kW lD (F.uw j),kW lD (F.uc j)] 56)):=⟨_,rfl⟩;obtain⟨ub,af⟩:∃x,x=c.heap.size:=⟨_,rfl⟩;obtain⟨vb,ag⟩:∃x,x=c.heap.size+1:=⟨_,rfl⟩;rw[<-hV,<-ag]at XV;rw[<-hV,<-af]at XU;rw[<-hV]at XW ⊢;rw[<-ag,<-af];clear hV af ag;obtain⟨lu,u0,u1,u2⟩:=XU.q3 rfl;obtain⟨lv,v0,v1,v2⟩:=XV.q3 rfl;(have T1:∀U,Bl c U->Calls prog 36 #[kX (lJ ⟨pg,po,lI⟩) F.k pc,lA #[kX (lJ ⟨C,v,lI⟩) F.k f,kW lD (F.uw i),kW lD (F.uc i)]] U (fun e w'=>(∃t,e=lF (kW lD t)/\TopIs (zu (zB F 8) F.k) ⟨zu (F.ud i) F.k,F.uw i,F.uc i⟩ t)/\Bl U w'):=fun U hU=>by have R:=tT (po:=lJ ⟨pg,po,lI⟩) (pool:=zu (zB F 8) F.k) (da:=lJ ⟨C,v,lI⟩) (u:=⟨zu (F.ud i) F.k,F.uw i,F.uc i⟩) (by rw[JB];exact P.iP hU) (ai.iP hU) (by rw[JB,JB]) (rQ (fun r hr=>by have:=nI a.sm (ea 8) (show r<4 by omega);omega)) (rQ (fun r hr=>a.ud i (by omega) r (by omega))) (by rw[JB];exact aB);rw[JB]at R;exact R);(have T2:∀U,Bl c U->Calls prog 36 #[kX (lJ ⟨pg,po,lI⟩) F.k pc,lA #[kX (lJ ⟨D,y,lI⟩) F.k g,kW lD (F.uw j),kW lD (F.uc j)]] U (fun e w'=>(∃t,e=lF (kW lD t)/\TopIs (zu (zB F 8) F.k) ⟨zu (F.ud j) F.k,F.uw j,F.uc j⟩ t)/\Bl U w'):=fun U hU=>by have R:=tT (po:=lJ ⟨pg,po,lI⟩) (pool:=zu (zB F 8) F.k) (da:=lJ ⟨D,y,lI⟩) (u:=⟨zu (F.ud j) F.k,F.uw j,F.uc j⟩) (by rw[JB];exact P.iP hU) (aj.iP hU) (by rw[JB,JB]) (rQ (fun r hr=>by have:=nI a.sm (ea 8) (show r<4 by omega);omega)) (rQ (fun r hr=>a.ud j (by omega) r (by omega))) (by rw[JB];exact aB);rw[JB]at R;exact R);go_wp2_with fail;refine(T1 _ XW).mono ?_;rintro e4 w4 ⟨⟨t1,rfl,aL⟩,L⟩;obtain⟨p,rfl,hp,aF,aE⟩:=a.top_use (by omega) o (by rw[HA.out];exact ac) aL;have J:=et XW L;have ak:=XU.ji L;have l:=XV.ji L;clear L u0 u1 u2 lu v0 v1 v2 lv XU XV XW aL;obtain⟨lv,v0,v1,v2⟩:=l.q3 rfl;go_wp2_with fail;refine(T2 _ J).mono ?_;rintro e5 S ⟨⟨t2,rfl,aM⟩,M⟩;obtain⟨q,rfl,hq,aJ,aI⟩:=a.top_use (by omega) X (by rw[HB.out];exact aA) aM;have d:=et J M;have H:=ak.ji M;have I:=l.ji M;have h:=hid (a.hiP G (i:=i) (j:=j) (p:=p) (q:=q) (by omega) (by omega) (by rw[HA.out];exact ac) (by rw[HB.out];exact aA) (by omega) (by omega) aF aJ aE aI);rw[HA.out,HB.out]at h;clear M v0 v1 v2 lv ak l J aI aM aE T1 T2;have aO:=(a.ud i (by omega) p (by omega));have aP:=(a.ud j (by omega) q (by omega));have aQ:=nI a.sm (ea 8) (show p<4 by omega);have aR:=nI a.sm (ea 8) (show q<4 by omega);have a1:=a.uw i (by omega);have a2:=a.uw j (by omega);have ab:=(P.iP d).int rfl hp;rw[m5 hp]at ab;have al:=(P.iP d).int rfl hq;rw[m5 hq]at al;have aS:=qs d (T p hp) N;have aT:=qs d (W q hq) O;have a3:=jl d N;have a4:=jl d O;have a5:=jl d aD;clear N O aD T W P ai aj s;obtain⟨X1,aw⟩:∃x,F.ud i p=x:=⟨_,rfl⟩;obtain⟨Y1,ay⟩:∃x,F.ud j q=x:=⟨_,rfl⟩;obtain⟨X2,ax⟩:∃x,zB F 8 p=x:=⟨_,rfl⟩;obtain⟨Y2,az⟩:∃x,zB F 8 q=x:=⟨_,rfl⟩;rw[aw]at aO aS h;rw[ay]at aP aT h;rw[ax]at aQ ab h aF;rw[az]at aR al h aJ;clear aw ay ax az;obtain⟨M1,an⟩:∃x,A*X1=x:=⟨_,rfl⟩;obtain⟨M2,ao⟩:∃x,M1*Y2=x:=⟨_,rfl⟩;obtain⟨M3,ap⟩:∃x,M2*F.uw j=x:=⟨_,rfl⟩;obtain⟨N1,aq⟩:∃x,B*Y1=x:=⟨_,rfl⟩;obtain⟨N2,ar⟩:∃x,N1*X2=x:=⟨_,rfl⟩;obtain⟨N3,au⟩:∃x,N2*F.uw i=x:=⟨_,rfl⟩;(have m1:0<=M1/\M1<=320*10000:=by rw[<-an];exact nX ra aO);(have m2:0<=M2/\M2<=320*10000*8000:=by rw[<-ao];exact nX m1 aR);(have m3:0<=M3/\M3<=320*10000*8000*100:=by rw[<-ap];exact nX m2 a2);(have n1:0<=N1/\N1<=320*10000:=by rw[<-aq];exact nX rb aP);(have n2:0<=N2/\N2<=320*10000*8000:=by rw[<-ar];exact nX n1 aQ);(have n3:0<=N3/\N3<=320*10000*8000*100:=by rw[<-au];exact nX n2 a1);rw[an,ao,ap,aq,ar,au]at h;obtain⟨lu,u0,u1⟩:=H.q2 rfl;obtain⟨lv,v0,v1⟩:=I.q2 rfl;(have bc:(p:Int)<(F.k:Int):=by omega);(have bd:(q:Int)<(F.k:Int):=by omega);have E:=et ad d;clear H I d;(go_upto_region 12 with fail);by_cases aK:N3<M3
   ·have ae:=ei aK;rw[ae]at h;go_quiet (fail);have aa:=hid (E.trans ((eY (brw S) nq).mono E.size));go_wp2;go_ret;exact⟨by rw[h.out];(first|done|rfl),aa⟩
   ·have ae:=ee aK;rw[ae]at h;go_quiet (fail);have aa:=hid (E.trans ((eY (brw S) nq).mono E.size));go_wp2;go_ret;exact⟨by rw[h.out];(first|done|rfl),aa⟩
variable{k:FK}
theorem ul (h:zx c u k j=lL):zT c u k (j+1)=zT c u k j:=by simp only[zT];rw[h];simp
theorem t6 (h:zx c u k j=lK):zT c u k (j+1)=if !(zT c u k j).2.2||zj (zT c u k j).2.1 (zl c j (k.run j))then(j,zl c j (k.run j),lK)else zT c u k j:=by simp only[zT];rw[h];simp
theorem He (c:FC) (u:Nat) (k:FK):∀n,(zT c u k n).2.2=lK->(zT c u k n).2.1=zl c (zT c u k n).1 (k.run (zT c u k n).1):=fun n=>by
 induction n with
 |zero=>intro h;cases h
 | succ n ih=>
  cases hs:zx c u k n with
  |false=>rw[ul hs];exact ih
  |true=>
   rw[t6 hs]
   cases hx:(!(zT c u k n).2.2||zj (zT c u k n).2.1 (zl c n (k.run n)))with
   |true=>intro _;rfl
   |false=>exact ih
def ya (c:FC)(u:Nat)(k:FK)(n:Nat):Int:=if (zT c u k n).2.2 then((zT c u k n).1:Int)else -1
abbrev cG (F:Flt)(G:Nat->Int):FC:=zC F (zB F 8) G
abbrev kG (F:Flt)(G:Nat->Int)(m:Nat):FK:=kBeg (cG F G) F.m m
variable{G:Nat->Int}
theorem Ba (h:zx (cG F G) u (kG F G m) j=lK):1<=F.m.on j m:=by
 unfold zx at h;by_cases e:(kG F G m).kt j<1
 ·rw[ei e]at h;simp at h
 ·have:(kG F G m).kt j=F.m.on j m:=rfl;omega
theorem RfO.off_ug (h:RfO F)(G:Nat->Int)(u:Nat)(hm:m<8):zT (cG F G) u (kG F G m) 6=zT (cG F G) u (kG F G m) F.ug:=by
 have a:∀j,F.ug<=j->j<=6->zT (cG F G) u (kG F G m) j=zT (cG F G) u (kG F G m) F.ug:=fun j=>by
  induction j with
  |zero=>intro b _;rw[show F.ug=0 by omega]
  | succ j ih=>
   intro b f;by_cases e:F.ug=j+1
   ·rw[e]
   ·have hs:zx (cG F G) u (kG F G m) j=lL:=by
     cases d:zx (cG F G) u (kG F G m) j with
     |false=>rfl
     |true=>have c:=Ba d;rw[h.none j (by omega) (h.gut (by omega) (by omega)) m hm]at c;omega
    rw[ul hs,ih (by omega) (by omega)]
 exact a 6 h.ug (ea 6)
variable{n:Nat}
theorem AF (h:ya c u k n<0):(zT c u k n).2.2=lL:=by
 unfold ya at h
 cases e:(zT c u k n).2.2 with
 |false=>rfl
 |true=>rw[e,ed rfl]at h;omega
theorem tZ (h:¬ ya c u k n<0):(zT c u k n).2.2=lK/\ya c u k n=((zT c u k n).1:Int)/\(zT c u k n).1<n/\zx c u k (zT c u k n).1=lK:=by
 unfold ya at h ⊢
 cases e:(zT c u k n).2.2 with
 |false=>rw[e,ec (by decide)]at h;omega
 |true=>exact⟨rfl,ed rfl,(tB c u k n).1 e⟩
theorem xt (h:zx c u k n=lK)(h1:ya c u k n<0\/zj (zT c u k n).2.1 (zl c n (k.run n))=lK):ya c u k (n+1)=(n:Int):=by
 have e:zT c u k (n+1)=(n,zl c n (k.run n),lK):=by
  rw[t6 h];refine ed ?_;rcases h1 with h1|h1
  ·rw[AF h1];rfl
  ·rw[h1,Bool.or_true]
 unfold ya;rw[e];rfl
theorem Fd (h:zx c u k n=lK)(h1:¬ ya c u k n<0)(h2:zj (zT c u k n).2.1 (zl c n (k.run n))=lL):ya c u k (n+1)=ya c u k n:=by
 (have e:zT c u k (n+1)=zT c u k n:=by rw[t6 h,(tZ h1).1,h2];exact ec (by decide));unfold ya;rw[e]
theorem uB (h:zx c u k n=lL):ya c u k (n+1)=ya c u k n:=by unfold ya;rw[ul h]
theorem Ed {ga:Option Addr}{gc:Nat}{gl:List Int}(hv:RfW w b F)(hw:RfO F)(hm:m<F.mg)(hga:Arr w 1 ga F.ug gc (zi gl))(hgv:∀j,j<F.ug->lm gl j=G j):Calls prog 223 #[kY (lJ ⟨b,0,lI⟩),kW lD u,kW lD m,kX ga F.ug gc] w fun e w'=>e=lF (kW lD (ya (cG F G) u (kG F G m) 6))/\Below w.heap.size w w':=by
 have v:=hid hv;obtain⟨so,sc,uo,uc,ho,hc,ro,rc,hv⟩:=hv;have lb:=hv.lt;have Y:=hid hv;have n:=hid hw;clear hv hw;have ag:=n.ug;have ae:=n.mg;(have af:(m:Int)<(F.mg:Int):=by omega);have t:=hid hga;have H:=hid hgv;clear hga hgv;go_enter func223,ntmps223;go_wp2
 go_loopg[9,10] F.ug (fun gg s9 ix wr=>∃j:Nat,gg=F.ug-j/\j<=F.ug/\s9=kW lD (ya (cG F G) u (kG F G m) j)/\ix=kW lD j/\Hid (Bl w wr))
 case atStart=>exact⟨0,rfl,ep _,rfl,rfl,eB _ _⟩
 case round=>
  obtain⟨j,ad,hj,rfl,rfl,a⟩:=hrel;have d:=hid (Y.iP a);have R:=d.lt;have Z:=d.us;by_cases f:j<F.ug
  ·(have O:(j:Int)<(F.ug:Int):=by omega);go_wp2_with fail;refine (nO (v.iP a) n f).mono ?_;rintro e1 w1 ⟨rfl,hq⟩;obtain rfl:=hq.symm;have c5:=d.rn;obtain ⟨g1,o1,a1,aa,rfl,K,c6,U⟩:=d.row j f;obtain ⟨g2,o2,rfl,L,S⟩:=U m hm;dsimp only at S;obtain ⟨g3,o3,rfl,M⟩:=(t.iP a).head (by omega);have T:=(t.iP a).int rfl f;rw[H.out j f] at T;clear U;have ah:=n.on40 (u:=j) (m:=m) (by omega) (by omega);have g:Hid (zx (cG F G) u (kG F G m) j = !(decide (j=u)||decide (F.m.on j m<1)||decide (runs F.m j<=G j))):=rfl;by_cases i:j=u
   ·have c:=hid (uB (by rw[g.out,ei i];rfl));(have N:((j:Int) == (u:Int))=lK:=by rw[i];simp);clear i;go_wp2;go_roundg (F.ug-(j+1));exact⟨j+1,rfl,by omega,by rw[c.out];(first|done|rfl),by go_num,a⟩;omega
   ·(have N:((j:Int) == (u:Int))=lL:=by rw[eg];omega);by_cases k:F.m.on j m=0
    ·have c:=hid (uB (by rw[g.out,ei (show F.m.on j m<1 by omega)];simp));(have P:(F.m.on j m == 0)=lK:=by rw[k];rfl);clear k;go_wp2;go_roundg (F.ug-(j+1));exact⟨j+1,rfl,by omega,by rw[c.out];(first|done|rfl),by go_num,a⟩;omega
    ·have P:=ef k;by_cases s:runs F.m j<=G j
     ·have c:=hid (uB (by rw[g.out,ei s];simp));have A:=ei s;go_wp2;go_roundg (F.ug-(j+1));exact⟨j+1,rfl,by omega,by rw[c.out];(first|done|rfl),by go_num,a⟩;omega
     ·have A:=ee s;have r:Hid (zx (cG F G) u (kG F G m) j=lK):=by unfold Hid;rw[g.out,ee i,ee (show¬ F.m.on j m<1 by omega),A];rfl
      have I:Hid (F.ut j=lK):=by
       cases e:F.ut j with
       |true=>rfl
       |false=>have V:=n.none j (by omega) e m (by omega);exact absurd V k
      by_cases h:ya (cG F G) u (kG F G m) j<0
      ·have c:=hid (xt r (.inl h));have ab:=ee (by omega);(have ac:¬ 0<=ya (cG F G) u (kG F G m) j:=by omega);go_wp2;go_roundg (F.ug-(j+1));exact⟨j+1,rfl,by omega,by rw[c.out];(first|done|rfl),by go_num,a⟩;omega
      ·obtain⟨B,l,Q,C⟩:=tZ h;(have q:Hid (zj (zT (cG F G) u (kG F G m) j).2.1 (zl (cG F G) j (runs F.m j))=hiB F G j (zT (cG F G) u (kG F G m) j).1):=by unfold Hid;rw[He _ _ _ _ B];rfl);have o:=Ba C;have E:=hid (h);obtain⟨p,W⟩:∃p,(zT (cG F G) u (kG F G m) j).1=p:=⟨_,rfl⟩;have x:=hid l;rw[W]at x l Q o q;rw[l]at h ⊢
       have J:Hid (F.ut p=lK):=by
        cases e:F.ut p with
        |true=>rfl
        |false=>have V:=n.none p (by omega) e m (by omega);omega
       clear B l C W o;go_wp2_with fail;refine(wI G j p _ (v.iP a) n f (by omega) I J).mono ?_;rintro e2 w2 ⟨rfl,z⟩;have y:=hid (et a z);clear z a Z c5 c6 S T d R K L M;have a:=y;clear y
       cases D:hiB F G j p with
       |true=>have c:=hid (xt r (.inr (q.trans D)));clear D;go_wp2;go_roundg (F.ug-(j+1));exact⟨j+1,rfl,by omega,by rw[c.out];(first|done|rfl),by go_num,a⟩;omega
       |false=>have c:=hid ((Fd r (by have:=E.out;omega) (q.trans D)).trans x);clear D;go_wp2;go_roundg (F.ug-(j+1));exact⟨j+1,rfl,by omega,by rw[c.out];(first|done|rfl),by go_num,a⟩;omega
  ·(obtain rfl:j=F.ug:=by omega);(have O:¬ (F.ug:Int)<(F.ug:Int):=by omega);(have X:Hid (ya (cG F G) u (kG F G m) 6=ya (cG F G) u (kG F G m) F.ug):=by unfold Hid ya;rw[n.out.off_ug G u (by omega)]);go_wp2;go_ret;exact⟨by rw[X.out];(first|done|rfl),a⟩
structure Chg (P:Nat->Prop)(w w':lM):Prop where
  os:w'.os=w.os
  tape:w'.tape=w.tape
  output:w'.output=w.output
  size:w.heap.size<=w'.heap.size
  block:∀k,k<w.heap.size->¬ P k->w'.heap[k]?=w.heap[k]?
theorem Chg.refl (P:Nat->Prop)(w:lM):Chg P w w:=⟨rfl,rfl,rfl,lR,fun _ _ _=>rfl⟩
theorem Chg.trans {P:Nat->Prop}{x y z:lM}(h:Chg P x y)(k:Chg P y z):Chg P x z:=⟨k.os.trans h.os,k.tape.trans h.tape,k.output.trans h.output,eh h.size k.size,fun i hi hn=>(k.block i (ez hi h.size) hn).trans (h.block i hi hn)⟩
variable{w':lM}
theorem Chg.jE (P:Nat->Prop)(h:Below w.heap.size w w'):Chg P w w':=⟨h.os,h.tape,h.output,h.size,fun k hk _=>h.block k hk⟩
def upl (f:Nat->Int)(i j:Nat):Int:=if j<i then f j else 0
theorem Hf (f:Nat->Int)(k:Nat):zu (upl f 0) k=List.replicate k 0:=by
 unfold zu;rw[List.eq_replicate_iff];refine⟨by simp,fun x hx=>?_⟩;obtain⟨r,_,rfl⟩:=jB.1 hx;rfl
variable{s:FM}{so uo ho ro:Option Addr}{sc uc hc rc:Nat}
theorem RfV.swap {gb:Nat} {ro':Option Addr} {rc':Nat} {T:TypeId} (h:RfV w b F so sc uo uc ho hc ro rc) (hb:Bx w gb #[kW lD F.k,kX so F.mg sc,kX uo F.ug uc,kX ho F.ug hc,kX lI 0 0,kX ro' F.ug rc',kX lI 0 0,kX lI 0 0,kX lI 0 0,kX lI 0 0,kW lD 0] T)
 (hr:∀ u,u<F.ug->∃ g o a dc,ro'=lJ ⟨g,o,lI⟩/\g<w.heap.size/\lH w ⟨g,o+u,lI⟩=lJ (kX a F.mg dc)/\CellsF w a F.mg (fun m=>kW lD (s.on u m))):RfV w gb (withM F s) so sc uo uc ho hc ro' rc':=
  ⟨hb.lt,hb.cell 0 _ rfl,hb.cell 1 _ rfl,hb.cell 2 _ rfl,hb.cell 3 _ rfl,hb.cell 5 _ rfl,h.up,h.down,h.kt,h.user,hr⟩
def domG (i:Nat):Tb->Prop
  |.run=>True
  |.rnr u=>u<i
  |_=>False
def encG (s:FM)(mg i:Nat)(val:Tb->lN):Tb->List lN
  |.run=>(List.range i).map fun u=>val (.rnr u)
  |.rnr u=>ni mg (s.on u)
  |_=>[]
def cntG (mg i:Nat):Tb->Nat
  |.run=>i
  |.rnr _=>mg
  |_=>0
abbrev GT (base:Nat)(w:lM)(s:FM)(mg i:Nat)(val:Tb->lN):Prop:=Tbs base w (domG i) val (cntG mg i) (encG s mg i val)
variable{base mg:Nat}{val:Tb->lN}
theorem GT.row (h:GT base w s mg i val):∃ro rc,val .run=kX ro i rc/\∀u,u<i->∃g o a dc,ro=lJ ⟨g,o,lI⟩/\g<w.heap.size/\lH w ⟨g,o+u,lI⟩=lJ (kX a mg dc)/\CellsF w a mg (fun m=>kW lD (s.on u m)):=by
 obtain⟨ro,rc,e,_,_,b⟩:=h.cells .run trivial;refine⟨ro,rc,e,fun u hu=>?_⟩;obtain⟨g,o,c,d,f⟩:=b u _ (JF _ hu);obtain⟨a,dc,j,_,_,k⟩:=h.cells (.rnr u) hu;exact⟨g,o,a,dc,c,d,by rw[f,j];rfl,fun m hm=>k m _ (JF _ hm)⟩
variable{v':lN}
theorem GT.grow {w1 w2:lM}{v:lN}(h:GT base w s mg i val)(hb:Below w.heap.size w w1)(hB:base<=w.heap.size)(hv:w1.ownsRow w.heap.size 3 1 v mg (ni mg (s.on i)))(g1:w2.ownsRow base 22 1 v' (i+1) (encG s mg i val .run++[v]))(hg:w1.grownBy w2 (val .run).ownBlock)(ha:v'.ownBlock=(val .run).ownBlock\/v'.ownBlock=lJ w1.heap.size):GT base w2 s mg (i+1) (zF (zF val (.rnr i) v) .run v'):=by
 have j:=h.new hb hB (.rnr i) (v:=v) (m:=mg) (ys:=ni mg (s.on i)) hv;have c:zF val (.rnr i) v .run=val .run:=j7 _ _ (by simp);have d:=j.app (t:=.run) (.inr trivial) (v':=v') (ys:=[v]) (m:=1) (w':=w2) (by rw[j7 _ _ (by simp),j7 _ _ (by simp)];exact g1) (by rw[c];exact hg) (by rw[c];exact ha)
 have g:∀t,domG (i+1) t->(t=.rnr i\/domG i t):=fun t ht=>by
  cases t with
  |run=>exact .inr trivial
  |rnr u=>by_cases e:u=i;(exact .inl (by rw[e]));(exact .inr (by have:u<i+1:=ht;show u<i;omega))
  |_=>exact ht.elim
 refine⟨fun t ht=>?_,(d.sub g).kB⟩;have a:=(d.sub g).own t ht
 cases t with
 |run=>rw[jR,jR,jR,j7 _ _ (by simp),j7 _ _ (by simp)]at a;rw[jR];(have e:encG s mg (i+1) (zF (zF val (.rnr i) v) .run v') .run=encG s mg i val .run++[v]:=by show(List.range (i+1)).map _=(List.range i).map _++[v];rw[jy,ii];refine congr (congrArg _ (iJ (fun u hu=>?_))) (by show[zF (zF val (.rnr i) v) .run v' (.rnr i)]=_;rw[j7 _ _ (by simp),jR]);have:u<i:=iW.1 hu;rw[j7 _ _ (by simp),j7 _ _ (fun e=>by injection e with e;omega)]);rw[e];exact a
 | rnr u=>
  have b:∀(α:Type) (f:Tb->α) (x y:α),zF (zF f (.rnr i) x) .run y (.rnr u)=if u=i then x else f (.rnr u):=fun α f x y=>by
   rw[j7 _ _ (show Tb.rnr u≠.run by simp)];unfold zF;by_cases e:u=i
   ·rw[ed e,ed (by rw[e])]
   ·rw[ec e,ec (fun x=>e (by injection x))]
  rw[b,b,b]at a;rw[b];by_cases e:u=i
  ·rw[ed e,ed e,ed e]at a;rw[ed e];subst e;exact a
  ·rw[ec e,ec e,ec e]at a;rw[ec e];exact a
 |_=>exact ht.elim
theorem sQ {ao:Option Addr}{cap:Nat}(ha:CellsF w ao n (fun i=>kW lD (f i)))(hn:n<=1000):Calls prog 161 #[kX ao n cap] w fun e w'=>∃v,e=lF v/\Li w.heap.size w' v (zu f n)/\Below w.heap.size w w':=by
 have O:=hid ha;clear ha;go_enter func161,ntmps161;go_wp2_with (at_make;refine qB _ rfl _ _ rfl _ _ n rfl rfl rfl rfl (by omega) ?_);intro N m o;(have c:Hid (Li w.heap.size N (kX (lJ ⟨w.heap.size,0,lI⟩) n n) (zu (upl f 0) n)):=by have t:=m.li lR (by simp;unfold maxLen;omega);rw[iD]at t;unfold Hid;rw[Hf];exact t);have k:=hid o;clear m o;obtain⟨g,b⟩:∃g:Nat,Hid (g=w.heap.size):=⟨_,rfl⟩;obtain⟨z,u⟩:∃z:Nat,Hid (z=0):=⟨_,rfl⟩;have P:=hid (Nat.le_of_eq b.symm);(have q:Value.slice (lJ ⟨w.heap.size,0,lI⟩) n n=Value.slice (lJ ⟨g,z,lI⟩) n n:=by rw[b.out,u.out]);rw[q]at c ⊢;clear q b;go_wp2
 go_loopg[4] n (fun gg ix wr=>∃(i:Nat),gg=n-i/\i<=n/\ix=kW lD i/\Hid (Li w.heap.size wr (kX (lJ ⟨g,z,lI⟩) n n) (zu (upl f i) n))/\Hid (Bl w wr))
 case atStart=>exact⟨0,rfl,ep _,rfl,c,k⟩
 case round=>
  clear c k;obtain⟨i,U,Y,rfl,A,y⟩:=hrel;by_cases h:i<n
  ·(have H:(i:Int)<(n:Int):=by omega);obtain⟨V,o1,rfl,T,I⟩:=O.iP y i h;dsimp only at I;obtain⟨W,J,L,F,Z,s,S⟩:=lS A (i:=i) (by rw[ic,JB];exact h);obtain⟨d,B,C⟩:=nR L;(injection d with d);(injection d with D E);subst D;rw[<-u.out]at s S;rw[eD,nZ _ h]at s;clear L F B C E;obtain⟨X,G⟩:∃x,f i=x:=⟨_,rfl⟩;have Q:=hid G;rw[G]at I;clear G;(have a:Hid (Li w.heap.size (lG wr ⟨g,z+i,lI⟩ (kW lD X)) (kX (lJ ⟨g,z,lI⟩) n n) (zu (upl f (i+1)) n)):=by have t:=u.out;subst t;have M:=A.put (i:=i) (by rw[JB]) X;rw[show(zu (upl f i) n).set i X=zu (upl f (i+1)) n from mr _ _ _ _ _ (fun j _=>by unfold upl;by_cases e:j=i;(subst e;rw[ed (Nat.lt_succ_self _),ed rfl];exact Q);(rw[ec e];by_cases K:j<i;(rw[ed K,ed (by omega)]);(rw[ec K,ec (by omega)])))]at M;unfold Hid;rw[eC];exact M);have l:Hid (Bl w (lG wr ⟨g,z+i,lI⟩ (kW lD X))):=y.setCell (p:=⟨g,z+i,lI⟩) P _;go_wp2;go_roundg (n-(i+1));exact⟨i+1,rfl,by omega,by go_num,by first|exact a|exact a.iP brf.drew,by first|exact l|exact l.drew⟩;omega
  ·(obtain rfl:i=n:=by omega);(have H:¬ (i:Int)<(i:Int):=by omega);(have a:Hid (Li w.heap.size wr (kX (lJ ⟨g,z,lI⟩) i i) (zu f i)):=by unfold Hid;rw[show zu f i=zu (upl f i) i from oZ (fun r hr=>(ed hr).symm)];exact A);go_wp2;go_ret;exact⟨_,rfl,a,y⟩
theorem Tryz.infoSli:(prog.info? 22).map (fun i=>(i.zero,i.size,i.bytes))=lJ (lJ (kX lI 0 0),1,24):=by kernel_rfl
theorem nH (w:lM){ops:Array Oper}{rest:List Oper}{o:Oper}{a:Act}{Q:Exit->Act->lM->Prop}(T Ts:TypeId)(z:lN)(bytes:Nat)(hu:prog.underlying Ts=lJ (.slice T))(hinf:(prog.info? T).map (fun i=>(i.zero,i.size,i.bytes))=lJ (lJ z,1,bytes))(hz:z.cells.size=1)(hby:bytes<=24)(hgd:o.guard=lI)(s x:Operand)(hop:o.op=Op.call {callee:=Callee.builtin Builtin.append,args:=#[s,x],argTypes:=#[Ts,Ts]})(base:Nat)(v:lN)(xs:List lN)(ad:Addr)(m c:Nat)(ys:List lN)(hs:a.eval s=v)(hx:a.eval x=kX (lJ ad) m c)(hown:w.ownsRow base T 1 v xs.length xs)(N:Nat)(hN:xs.length+m=N)(hm:ys.length=m)(hm0:0<m)(h0:∀(j:Nat) (u:lN),ys[j]?=lJ u->w.cell? (ad.add j)=lJ u)(h1:∀u,u∈ys->u.oneCell'=lK)(hle:xs.length+m<=1000000)(hb:base<=w.heap.size)(h:∀v' w',w'.ownsRow base T 1 v' N (xs++ys)->w.grownBy w' v.ownBlock->(v'.ownBlock=v.ownBlock\/v'.ownBlock=lJ w.heap.size)->wpList prog ops Q rest (a.put o.dst v') w'):wpList prog ops Q (o::rest) a w:=by
 obtain⟨i,f,b,d,e⟩:=iM hinf;subst hm;subst hN;refine qz w hgd s x _ hop base T i z 1 bytes hu f b d e hz (by decide) v xs.length _ hs hown ad ys.length c ys hx (by simp) h0 h1 (by unfold maxLen;omega) ?_ hb hm0 h;have:(xs.length+ys.length)*bytes<=1000000*24:=iS hle hby;omega
theorem mG {ad:Addr} {u:lN} (h:w.cell? (ad.add 0)=lJ u):∀(j:Nat) (x:lN),[u][j]?=lJ x->w.cell? (ad.add j)=lJ x:=fun j x hj=>by
  match j with
  |0=>rw[h];simpa using hj
  |j+1=>simp at hj
theorem mJ {u:lN}(h:u.oneCell'=lK):∀x,x∈[u]->x.oneCell'=lK:=fun x hx=>by simp at hx;subst hx;exact h
theorem uU {v:lN}(h:Li base w v (zu f n)):w.ownsRow base 3 1 v n (ni n f):=by
 unfold Li at h;rw[JB,show(zu f n).map (Value.int lD)=ni n f from by unfold zu;rw[List.map_map];rfl]at h;exact h
theorem GT.nil (base:Nat) (w:lM) (s:FM) (mg:Nat):GT base w s mg 0 (fun _=>kX lI 0 0):=
  ⟨fun t ht=>by
    cases t with
    |run=>exact iy _ _ _ _
    |rnr u=>exact absurd ht (iF u)
    |_=>exact ht.elim,fun t s _ _ _ g hg=>by cases hg⟩
theorem pV {T size:Nat}{v:lN}{xs:List lN}(h:w.ownsRow base T size v n xs)(hg:w.grownBy w' v.ownBlock)(hb:base<=w.heap.size):Below base w w':=tk hg hb (fun k hk=>(jN h k hk).1)
theorem Tb.nef (t:Tb):t.ty≠118:=by cases t<;>(simp only[Tb.ty];decide)
theorem Tbs.bxset {dom:Tb->Prop} {n:Tb->Nat} {xs:Tb->List lN} (h:Tbs base w dom val n xs) {cs:Array lN} (hx:Bx w b cs 118) (o:Nat) (u:lN):Tbs base (lG w ⟨b,o,lI⟩ u) dom val n xs:=
  ⟨fun t ht=>oC (h.own t ht) (mI w b o u) (fun k hk e=>mC (h.own t ht) hx t.nef (by rw[hk,e])),h.kB⟩
abbrev gcl (F:Flt)(so:Option Addr)(sc:Nat)(uo:Option Addr)(uc:Nat)(ho:Option Addr)(hc:Nat)(rv:lN):Array lN:=#[kW lD F.k,kX so F.mg sc,kX uo F.ug uc,kX ho F.ug hc,kX lI 0 0,rv,kX lI 0 0,kX lI 0 0,kX lI 0 0,kX lI 0 0,kW lD 0]
def ApartE (F:Flt)(so:Option Addr)(sc:Nat)(uo:Option Addr)(uc:Nat)(ho:Option Addr)(hc:Nat)(w w':lM)(e:Ending):Prop:=∃gb val,e=lF (kY (lJ ⟨gb,0,lI⟩))/\w.heap.size<=gb/\Bx w' gb (gcl F so sc uo uc ho hc (val .run)) 118/\GT w.heap.size w' F.m F.mg F.ug val/\Below w.heap.size w w'
theorem Ev (hv:RfV w b F so sc uo uc ho hc ro rc)(hw:RfO F):Calls prog 222 #[kY (lJ ⟨b,0,lI⟩)] w fun e w'=>ApartE F so sc uo uc ho hc w w' e:=by
 have lb:=hv.lt;have ai:=hw.ug;have ag:=hw.mg;have c0:=hv.k;have c1:=hv.sz;have c2:=hv.us;have c3:=hv.he;go_enter func222,ntmps222;(go_upto_region 1 with fail);go_region;clear c0 c1 c2 c3;(go_upto_region 2 with fail);have A:Bx ((w.alloc (lE (gcl F so sc uo uc ho hc (kX lI 0 0)) 118)).drew) w.heap.size (gcl F so sc uo uc ho hc (kX lI 0 0)) 118:=(i1 w _ _).drew;have i:Bl w ((w.alloc (lE (gcl F so sc uo uc ho hc (kX lI 0 0)) 118)).drew):=(brf.alloc lR _).drew;obtain⟨V,hV⟩:∃V,V=((w.alloc (lE (gcl F so sc uo uc ho hc (kX lI 0 0)) 118)).drew):=⟨_,rfl⟩;obtain⟨f,y⟩:∃x,x=w.heap.size:=⟨_,rfl⟩;(have D:w.heap.size<=f:=by omega);rw[<-hV]at A i ⊢;(have I:Bx V f (gcl F so sc uo uc ho hc (kX lI 0 0)) 118:=by rw[y];exact A);rw[<-y];clear hV y A;go_wp2
 go_loopg[4] F.ug (fun gg ix wr=>∃(u:Nat) (val:Tb->lN),gg=F.ug-u/\u<=F.ug/\ix=kW lD u/\Bx wr f (gcl F so sc uo uc ho hc (val .run)) 118/\GT w.heap.size wr F.m F.mg u val/\Bl w wr)
 case atStart=>exact⟨0,fun _=>kX lI 0 0,rfl,ep _,rfl,I,GT.nil _ _ _ _,i⟩
 case round=>
  clear I i;obtain⟨u,val,af,hu,rfl,A,U,i⟩:=hrel;have h:=hv.iP i;have ae:=h.lt;have c5:=h.rn;by_cases ab:u<F.ug
  ·(have ac:(u:Int)<(F.ug:Int):=by omega);obtain⟨g1,o1,a1,Y,rfl,Z,c6,h6⟩:=h.row u ab;go_wp2_with fail;refine(sQ h6 (by omega)).mono ?_;rintro e1 q ⟨v1,rfl,z,o⟩;obtain⟨a,c,N⟩:=z.kE;rw[JB]at N;subst N;have Q:=uU z;have E:(Value.slice a F.mg c).oneCell'=lK:=rfl;have j:=A.ji o;have s:=et i o;clear z c5 c6 h6 h ae Z;have lg:=j.lt;have g5:=j.cell 5 _ rfl;have z5:=j.frozen 5;have r:Bl wr (q.alloc (lE #[kX a F.mg c] 22)):=o.alloc o.size _;(have g:(q.alloc (lE #[kX a F.mg c] 22)).ownsRow w.heap.size 22 1 (val .run) (encG F.m F.mg u val .run).length (encG F.m F.mg u val .run):=by rw[show(encG F.m F.mg u val .run).length=u from mB _ _];exact(U.iP r).own .run trivial);have H:(q.alloc (lE #[kX a F.mg c] 22)).ownsRow wr.heap.size 3 1 (kX a F.mg c) F.mg (ni F.mg (F.m.on u)):=JO Q (brf.alloc lR _);obtain⟨n8,M⟩:∃n,(encG F.m F.mg u val .run).length+1=n:=⟨_,rfl⟩;have aa:(encG F.m F.mg u val .run).length=u:=mB _ _;have ah:=s.size;go_wp2_with (at_builtin;refine nH _ 22 29 (kX lI 0 0) 24 underlying29 Tryz.infoSli rfl (by decide) rfl _ _ rfl w.heap.size _ (encG F.m F.mg u val .run) ⟨q.heap.size,0,lI⟩ 1 1 [Value.slice a F.mg c] rfl rfl g n8 M rfl (by decide) (mG ((i1 q #[Value.slice a F.mg c] 22).cell 0 _ rfl)) (mJ E) (by omega) (by simp only[em];omega) ?_);intro v8 P L l K;(have v:P.ownsRow w.heap.size 22 1 v8 (u+1) ((encG F.m F.mg u val .run)++[Value.slice a F.mg c]):=by rw[show u+1=n8 by omega];exact L);obtain⟨O,J,ad,_⟩:=sU v;subst ad;have W:=GT.grow U r i.size H v l (by rw[em];exact K);have t:=i7 j (lE #[kX a F.mg c] 22);have d:=nF t l (mC g t (by decide));have R:=(s.alloc s.size (lE #[kX a F.mg c] 22)).trans (pV g l (by simp only[em];omega));clear L v l K t g5 z5 lg g H r M aa;have lg:=d.lt;have g5:=d.cell 5 _ rfl;have z5:=d.frozen 5;(have T:Bx (lG P ⟨f,5,lI⟩ (kX O (u+1) J)) f (gcl F so sc uo uc ho hc (zF (zF val (.rnr u) (kX a F.mg c)) .run (kX O (u+1) J) .run)) 118:=by rw[jR];exact j6 d 5 (kX O (u+1) J));have X:=Tbs.bxset W d 5 (kX O (u+1) J);have S:Bl w (lG P ⟨f,5,lI⟩ (kX O (u+1) J)):=R.setCell (p:=⟨f,5,lI⟩) D _;go_wp2;go_roundg (F.ug-(u+1));exact⟨u+1,_,rfl,by omega,by go_num,T,X,S⟩;omega
  ·(obtain rfl:u=F.ug:=by omega);(have ac:¬ (F.ug:Int)<(F.ug:Int):=by omega);go_wp2;go_ret;exact⟨f,val,rfl,D,A,U,i⟩
abbrev sW (F:Flt)(m:Nat)(L:List Nat):Flt:=withM F (zI F.m m L)
theorem RfO.ways (h:RfO F){L:List Nat}(hm:m<8)(hL:∀j,j<6->zh j L<=F.m.on j m):RfO (sW F m L):=by
 (have e:∀u k,(zI F.m m L).on u k=F.m.on u k-if k=m then zh u L else 0:=fun u k=>lY m L F.m u k);have b:∀u k,(zI F.m m L).on u k<=F.m.on u k:=fun u k=>by rw[e];have:=lU u L;split<;>omega
 have a:∀u,u<6->∀k,k<8->0<=(zI F.m m L).on u k:=fun u hu k hk=>by
  rw[e];by_cases c:k=m
  ·subst c;rw[ed rfl];have:=hL u hu;omega
  ·rw[ec c];have:=h.on u hu k hk;omega
 refine⟨h.k1,h.k4,h.mg,h.ug,h.mt,h.ut,h.ms,h.msz,h.msk,h.ud,h.udk,h.uw,a,fun u hu=>?_,fun u hu ht k hk=>?_,fun k hk ht u hu=>?_,fun k hk r hr=>?_,h.want,h.uw1⟩
 ·have d:=pY hm L F.m u;have f:=h.tot u hu;have g:=lU u L;show runs (zI F.m m L) u<=40;omega
 ·have d:=h.none u hu ht k hk;have f:=b u k;have g:=a u hu k hk;show(zI F.m m L).on u k=0;omega
 ·have d:=h.gone k hk ht u hu;have f:=b u k;have g:=a u hu k hk;show(zI F.m m L).on u k=0;omega
 ·refine Int.le_trans (pw (fun u hu=>eX (b u k) (h.ud u hu r hr).1)) (h.kw k hk r hr)
theorem EW {q:FK}:∀n,(∀j,j<n->k.kt j=q.kt j/\k.run j=q.run j)->zT c u k n=zT c u q n:=fun n=>by
 induction n with
 |zero=>intro _;rfl
 |succ n ih=>
  intro h
  have h1:=ih (fun j hj=>h j (by omega))
  have h2:=h n (by omega)
  have h3:zx c u k n=zx c u q n:=by unfold zx;rw[h2.1,h2.2]
  simp only[zT]
  rw[h1,h3,h2.2]
section
variable{F:Flt} {G:Nat->Int} {u m:Nat} {q:FK}
theorem Io (h:KInv (cG F G) F.m u m q) (hm:m<8):zT (cG (sW F m q.off) G) u (kG (sW F m q.off) G m) 6=zT (cG F G) u q 6:=EW 6 (fun j hj=>by
  refine⟨?_,?_⟩
  · show(zI F.m m q.off).on j m=_
    rw[lY,ed rfl,h.kt j hj]
  · show runs (zI F.m m q.off) j=_
    rw[pY hm,h.run j hj])
theorem rH (h:KInv (cG F G) F.m u m q):∀j,j<6->zh j q.off<=F.m.on j m:=fun j hj=>by
  have h1:=h.kt j hj
  have h2:=h.here0 j hj
  omega
theorem Bo (h:KInv (cG F G) F.m u m q)(P:Nat->Int)(hmt:F.mt m=lK):yT (zC (sW F m q.off) P G) (sW F m q.off).m u m=zU q.rm (F.ud u) 4:=by
 (have e:room (cG F G) (zI F.m m q.off) m=q.rm:=funext fun r=>by rw[oP q.off F.m (fun j hj=>(h.ji j hj).1),ed rfl,h.rm]);show(F.mt m&&zU (room (cG F G) (zI F.m m q.off) m) (F.ud u) 4)=_;rw[e,hmt];rfl
end
def encH (s:FM)(mg i:Nat)(l o:List Nat)(val:Tb->lN):Tb->List lN
  |.run=>(List.range i).map fun u=>val (.rnr u)
  |.rnr u=>ni mg (s.on u)
  |.off=>(zV l).map (Value.int lD)
  |.ku=>(zV o).map (Value.int lD)
  |_=>[]
def cntH (mg i a c:Nat):Tb->Nat
  |.run=>i
  |.rnr _=>mg
  |.off=>a
  |.ku=>c
  |_=>0
def domH (i:Nat):Tb->Prop
  |.run=>True
  |.rnr u=>u<i
  |.off=>True
  |.ku=>True
  |_=>False
abbrev GH (base:Nat)(w:lM)(s:FM)(mg i:Nat)(l o:List Nat)(val:Tb->lN):Prop:=Tbs base w (domH i) val (cntH mg i l.length o.length) (encH s mg i l o val)
theorem GT.lists (h:GT base w s mg i val):∃val',GH base w s mg i [] [] val'/\val' .run=val .run/\val' .off=kX lI 0 0/\val' .ku=kX lI 0 0:=by
 refine⟨fun t=>match t with|.off=>kX lI 0 0|.ku=>kX lI 0 0|t=>val t,⟨fun t ht=>?_,fun t s ht hs hne g hg1 hg2=>?_⟩,rfl,rfl,rfl⟩
 ·cases t with
  |run=>exact h.own .run trivial
  |rnr u=>exact h.own (.rnr u) ht
  |off=>exact iy _ _ _ _
  |ku=>exact iy _ _ _ _
  |_=>exact ht.elim
 ·cases t with
  |run=>cases s with
   |run=>exact hne rfl
   |rnr v=>exact h.kB .run (.rnr v) trivial hs hne g hg1 hg2
   |off=>cases hg2
   |ku=>cases hg2
   |_=>exact hs.elim
  |rnr v=>cases s with
   |run=>exact h.kB (.rnr v) .run ht trivial hne g hg1 hg2
   |rnr v'=>exact h.kB (.rnr v) (.rnr v') ht hs hne g hg1 hg2
   |off=>cases hg2
   |ku=>cases hg2
   |_=>exact hs.elim
  |off=>cases hg1
  |ku=>cases hg1
  |_=>exact ht.elim
variable{l o:List Nat}
theorem GH.row (h:GH base w s mg i l o val):∃ro rc,val .run=kX ro i rc/\∀u,u<i->∃g p a dc,ro=lJ ⟨g,p,lI⟩/\g<w.heap.size/\lH w ⟨g,p+u,lI⟩=lJ (kX a mg dc)/\CellsF w a mg (fun m=>kW lD (s.on u m)):=by
 obtain⟨ro,rc,e,_,_,b⟩:=h.cells .run trivial;refine⟨ro,rc,e,fun u hu=>?_⟩;obtain⟨g,o,c,d,f⟩:=b u _ (JF _ hu);obtain⟨a,dc,j,_,_,k⟩:=h.cells (.rnr u) hu;exact⟨g,o,a,dc,c,d,by rw[f,j];rfl,fun m hm=>k m _ (JF _ hm)⟩
theorem GH.spot (h:GH base w s mg i l o val)(hj:j<i)(hm:m<mg):∃rg ro rc g z cap,val .run=kX (lJ ⟨rg,ro,lI⟩) i rc/\rg<w.heap.size/\lH w ⟨rg,ro+j,lI⟩=lJ (kX (lJ ⟨g,z,lI⟩) mg cap)/\base<=g/\g<w.heap.size/\lH w ⟨g,z+m,lI⟩=lJ (kW lD (s.on j m))/\w.frozen? ⟨g,z+m,lI⟩=lL/\(val (.rnr j)).ownBlock=lJ g/\∀(x:Int) (s':FM),s'.on=yC s.on j m x->GH base (lG w ⟨g,z+m,lI⟩ (kW lD x)) s' mg i l o val:=by
 obtain⟨ro,rc,d,_,_,n⟩:=h.cells .run trivial;obtain⟨rg,p,f,q,r⟩:=n j _ (JF _ hj);obtain⟨g,cap,a,u,y,A,B⟩:=lS (h.own (.rnr j) hj) (i:=m) (by rw[show Tb.sz (.rnr j)=1 from rfl,ic];exact hm);refine⟨rg,p,rc,g,0,cap,by rw[d,f];rfl,q,by rw[r,a];rfl,u,y,by rw[A];exact JF _ hm,B,by rw[a];rfl,fun x s' hs=>?_⟩;have C:=h.set (t:=.rnr j) hj a m (kW lD x);rw[eC]
 have e:encH s' mg i l o val=zF (encH s mg i l o val) (.rnr j) ((encH s mg i l o val (.rnr j)).set m (kW lD x)):=by
  funext t;by_cases c:t=.rnr j
  ·subst c;rw[jR]
   exact(mr _ _ _ _ _ (fun k hk=>by
    rw[hs]
    by_cases b:k=m
    ·subst b;rw[ed rfl,nU]
    ·rw[ec b,pl _ _ _ _ b])).symm
  ·rw[j7 _ _ c]
   cases t with
   |rnr v=>show ni mg (s'.on v)=ni mg (s.on v);rw[hs,mR _ _ _ (fun e=>c (by rw[e]))]
   |_=>rfl
 unfold GH;rw[e];exact C
theorem GH.appL (h:GH base w s mg i l o val)(g1:w'.ownsRow base 3 1 v' (l.length+1) ((zV l).map (Value.int lD)++[kW lD (j:Int)]))(hg:w.grownBy w' (val .off).ownBlock)(ha:v'.ownBlock=(val .off).ownBlock\/v'.ownBlock=lJ w.heap.size):GH base w' s mg i (l++[j]) o (zF val .off v'):=by
 have b:=h.app (t:=.off) trivial (v':=v') (ys:=[kW lD (j:Int)]) (m:=1) (w':=w') g1 hg ha;refine⟨fun t ht=>?_,b.kB⟩;have a:=b.own t ht
 cases t with
 |off=>rw[jR,jR,jR]at a;rw[jR];show w'.ownsRow base 3 1 v' (l++[j]).length ((zV (l++[j])).map (Value.int lD));rw[eK,show(zV (l++[j])).map (Value.int lD)=(zV l).map (Value.int lD)++[kW lD (j:Int)]from by unfold zV;rw[ii,ii];rfl];exact a
 |run=>rw[j7 _ _ (by simp),j7 _ _ (by simp),j7 _ _ (by simp)]at a;rw[j7 _ _ (by simp)];exact a
 |rnr v=>rw[j7 _ _ (by simp),j7 _ _ (by simp),j7 _ _ (by simp)]at a;rw[j7 _ _ (by simp)];exact a
 |ku=>rw[j7 _ _ (by simp),j7 _ _ (by simp),j7 _ _ (by simp)]at a;rw[j7 _ _ (by simp)];exact a
 |_=>exact ht.elim
theorem GH.appO (h:GH base w s mg i l o val)(g1:w'.ownsRow base 3 1 v' (o.length+1) ((zV o).map (Value.int lD)++[kW lD (j:Int)]))(hg:w.grownBy w' (val .ku).ownBlock)(ha:v'.ownBlock=(val .ku).ownBlock\/v'.ownBlock=lJ w.heap.size):GH base w' s mg i l (o++[j]) (zF val .ku v'):=by
 have b:=h.app (t:=.ku) trivial (v':=v') (ys:=[kW lD (j:Int)]) (m:=1) (w':=w') g1 hg ha;refine⟨fun t ht=>?_,b.kB⟩;have a:=b.own t ht
 cases t with
 |ku=>rw[jR,jR,jR]at a;rw[jR];show w'.ownsRow base 3 1 v' (o++[j]).length ((zV (o++[j])).map (Value.int lD));rw[eK,show(zV (o++[j])).map (Value.int lD)=(zV o).map (Value.int lD)++[kW lD (j:Int)]from by unfold zV;rw[ii,ii];rfl];exact a
 |run=>rw[j7 _ _ (by simp),j7 _ _ (by simp),j7 _ _ (by simp)]at a;rw[j7 _ _ (by simp)];exact a
 |rnr v=>rw[j7 _ _ (by simp),j7 _ _ (by simp),j7 _ _ (by simp)]at a;rw[j7 _ _ (by simp)];exact a
 |off=>rw[j7 _ _ (by simp),j7 _ _ (by simp),j7 _ _ (by simp)]at a;rw[j7 _ _ (by simp)];exact a
 |_=>exact ht.elim
structure Besd (w0 w:lM)(gb:Nat)(F:Flt)(m:Nat)(L:List Nat)(so:Option Addr)(sc:Nat)(uo:Option Addr)(uc:Nat)(ho:Option Addr)(hc:Nat)(l o:List Nat)(val:Tb->lN):Prop where
  box:Bx w gb (gcl F so sc uo uc ho hc (val .run)) 118
  tb:GH w0.heap.size w (zI F.m m L) F.mg F.ug l o val
  bel:Below w0.heap.size w0 w
section
variable{w0 w w':lM} {gb b:Nat} {F:Flt} {m:Nat} {L l o:List Nat} {so:Option Addr} {sc:Nat} {uo:Option Addr} {uc:Nat} {ho:Option Addr} {hc:Nat} {ro:Option Addr} {rc:Nat} {val:Tb->lN}
theorem Besd.iP (h:Besd w0 w gb F m L so sc uo uc ho hc l o val)(hb:Below w.heap.size w w'):Besd w0 w' gb F m L so sc uo uc ho hc l o val:=⟨h.box.ji hb,h.tb.iP hb,h.bel.trans (hb.mono h.bel.size)⟩
theorem Besd.v (h:Besd w0 w gb F m L so sc uo uc ho hc l o val)(hv:RfV w0 b F so sc uo uc ho hc ro rc):RfW w gb (sW F m L):=by
 obtain⟨f,d,e,c⟩:=h.tb.row;have a:=h.box;rw[e]at a;exact((hv.iP h.bel).swap a c).w
theorem Besd.spot (h:Besd w0 w gb F m L so sc uo uc ho hc l o val){j:Nat}(hj:j<F.ug)(hm:m<F.mg):∃rg ro rc g z cap,val .run=kX (lJ ⟨rg,ro,lI⟩) F.ug rc/\rg<w.heap.size/\lH w ⟨rg,ro+j,lI⟩=lJ (kX (lJ ⟨g,z,lI⟩) F.mg cap)/\g<w.heap.size/\lH w ⟨g,z+m,lI⟩=lJ (kW lD ((zI F.m m L).on j m))/\w.frozen? ⟨g,z+m,lI⟩=lL/\∀(x:Int) (L':List Nat),(zI F.m m L').on=yC (zI F.m m L).on j m x->Besd w0 (lG w ⟨g,z+m,lI⟩ (kW lD x)) gb F m L' so sc uo uc ho hc l o val:=by
 obtain⟨rg,b,a,g,z,cap,c,d,f,i,k,n,q,r,s⟩:=h.tb.spot hj hm;exact⟨rg,b,a,g,z,cap,c,d,f,k,n,q,fun x L' hL=>⟨nF h.box (mI w g (z+m) (kW lD x)) (fun e=>mC (h.tb.own (.rnr j) hj) h.box (Tb.nef _) (by rw[r,e])),s x _ hL,h.bel.setCell (p:=⟨g,z+m,lI⟩) i _⟩⟩
theorem Besd.appL (h:Besd w0 w gb F m L so sc uo uc ho hc l o val) {j:Nat} {v':lN} (g1:w'.ownsRow w0.heap.size 3 1 v' (l.length+1) ((zV l).map (Value.int lD)++[kW lD (j:Int)])) (hg:w.grownBy w' (val .off).ownBlock) (ha:v'.ownBlock=(val .off).ownBlock\/v'.ownBlock=lJ w.heap.size):Besd w0 w' gb F m L so sc uo uc ho hc (l++[j]) o (zF val .off v'):=
  ⟨by rw[j7 _ _ (by simp)];exact nF h.box hg (mC (h.tb.own .off trivial) h.box (Tb.nef _)),h.tb.appL g1 hg ha,h.bel.trans (pV (h.tb.own .off trivial) hg h.bel.size)⟩
theorem Besd.appO (h:Besd w0 w gb F m L so sc uo uc ho hc l o val) {j:Nat} {v':lN} (g1:w'.ownsRow w0.heap.size 3 1 v' (o.length+1) ((zV o).map (Value.int lD)++[kW lD (j:Int)])) (hg:w.grownBy w' (val .ku).ownBlock) (ha:v'.ownBlock=(val .ku).ownBlock\/v'.ownBlock=lJ w.heap.size):Besd w0 w' gb F m L so sc uo uc ho hc l (o++[j]) (zF val .ku v'):=
  ⟨by rw[j7 _ _ (by simp)];exact nF h.box hg (mC (h.tb.own .ku trivial) h.box (Tb.nef _)),h.tb.appO g1 hg ha,h.bel.trans (pV (h.tb.own .ku trivial) hg h.bel.size)⟩
theorem Besd.li (h:Besd w0 w gb F m L so sc uo uc ho hc l o val):Li w0.heap.size w (val .off) (zV l)/\Li w0.heap.size w (val .ku) (zV o):=by
 have a:=h.tb.own .off trivial;have b:=h.tb.own .ku trivial;unfold Li;rw[show(zV l).length=l.length from by simp,show(zV o).length=o.length from by simp];exact⟨a,b⟩
end
theorem oB (v j:Nat)(o D:List Nat):zh v (o++j::D)=zh v (o++D)+if v=j then 1 else 0:=by
 unfold zh;rw[List.count_append,List.count_append,List.count_cons];by_cases e:v=j
 ·subst e;simp;omega
 ·rw[ec e];(have:(j == v)=lL:=by simp;exact fun h=>e h.symm);rw[this];simp
theorem An (v j:Nat)(o D:List Nat):zh v (o++[j]++D)=zh v (o++j::D):=by rw[List.append_assoc];rfl
theorem Gq (s:FM)(m j:Nat)(o D:List Nat):(zI s m (o++D)).on=yC (zI s m (o++j::D)).on j m ((zI s m (o++j::D)).on j m+1):=by
 funext v k;rw[lY,lY];unfold yC;by_cases a:k=m
 ·by_cases b:v=j
  ·subst a;subst b;rw[ed rfl,ed ⟨rfl,rfl⟩,ed rfl,oB,ed rfl];omega
  ·rw[ed a,ec (fun h=>b h.1),lY,ed a,oB,ec b,Int.add_zero]
 ·rw[ec a,ec (fun h=>a h.2),lY,ec a]
theorem EB (s:FM)(m j:Nat)(o D:List Nat):(zI s m (o++[j]++D)).on=yC (zI s m (o++D)).on j m ((zI s m (o++D)).on j m-1):=by
 funext v k;rw[lY,lY];unfold yC;by_cases a:k=m
 ·by_cases b:v=j
  ·subst a;subst b;rw[ed rfl,ed ⟨rfl,rfl⟩,ed rfl,An,oB,ed rfl];omega
  ·rw[ed a,ec (fun h=>b h.1),lY,ed a,An,oB,ec b,Int.add_zero]
 ·rw[ec a,ec (fun h=>a h.2),lY,ec a]
theorem GQ (s:FM)(m j:Nat)(L:List Nat):(zI s m (L++[j])).on=yC (zI s m L).on j m ((zI s m L).on j m-1):=by rw[xr];rfl
theorem G0 (c:FC)(r j:Nat)(o D:List Nat):xD c r (o++j::D)=xD c r (o++D)+c.ud j r:=by rw[tX,tX];simp only[xD];omega
end Go.Proofs.YtigokanoflkinaaGreatDoor
