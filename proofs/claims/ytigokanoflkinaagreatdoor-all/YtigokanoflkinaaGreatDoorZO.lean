/- CmCE, CmFI, joined. -/
import Derived.Test.YtigokanoflkinaaGreatDoorZL
set_option maxHeartbeats 8000000
set_option maxRecDepth 20000
namespace Go.Proofs.YtigokanoflkinaaGreatDoor
set_option linter.unusedSimpArgs false
set_option linter.unusedVariables false
open Go.RowKit Por Go.Proofs.Tryz
open Value renaming int->kW,slice->kX,pointer->kY,bool->kZ,agg->lA,tuple->lB,string->lC
open IntKind renaming i64->lD
open Obj renaming cells->lE
open Ending renaming returned->lF
open World renaming setCell->lG,cell?->lH
open Option renaming none->lI,some->lJ
open Bool renaming true->lK,false->lL
open Go renaming World->lM,Value->lN
variable{M:Nat->lN}{F:Flt}{u q:Nat}
theorem Enc.setUsed (h:Enc M F)(hu:u<6)(hq:q<4)(x:Int):Enc (xV M (43+u*22+18+q) (kW lD x)) {F with ks:=yC F.ks u q x}:=by
 refine⟨?_,?_,?_,fun i hi=>?_,fun i hi r hr=>?_,fun v hv=>?_,fun v hv r hr=>?_,fun v hv=>?_,fun v hv=>?_,fun v hv=>?_,fun v hv m hm=>?_,fun v hv=>?_,fun v hv=>?_,fun v hv r hr=>?_,?_,fun r hr=>?_⟩
 ·rw[i6 _ _ (by omega)];exact h.k
 ·rw[i6 _ _ (by omega)];exact h.mg
 ·rw[i6 _ _ (by omega)];exact h.ug
 ·rw[i6 _ _ (by omega)];exact h.mt i hi
 ·rw[i6 _ _ (by omega)];exact h.ms i hi r hr
 ·rw[i6 _ _ (by omega)];exact h.ut v hv
 ·rw[i6 _ _ (by omega)];exact h.ud v hv r hr
 ·rw[i6 _ _ (by omega)];exact h.uw v hv
 ·rw[i6 _ _ (by omega)];exact h.uc v hv
 ·rw[i6 _ _ (by omega)];exact h.kV v hv
 ·rw[i6 _ _ (by omega)];exact h.on v hv m hm
 ·rw[i6 _ _ (by omega)];exact h.due v hv
 ·rw[i6 _ _ (by omega)];exact h.ky v hv
 ·show _=Value.int lD (yC F.ks u q x v r);by_cases e:v=u/\r=q
  ·obtain⟨rfl,rfl⟩:=e;rw[mq,nU]
  ·rw[i6 _ _ (by omega),rE _ _ e];exact h.ks v hv r hr
 ·rw[i6 _ _ (by omega)];exact h.ck
 ·rw[i6 _ _ (by omega)];exact h.ku r hr
theorem Enc.setIdle (h:Enc M F)(hq:q<4)(x:Int):Enc (xV M (176+q) (kW lD x)) {F with ku:=zE F.ku q x}:=by
 refine⟨?_,?_,?_,fun i hi=>?_,fun i hi r hr=>?_,fun v hv=>?_,fun v hv r hr=>?_,fun v hv=>?_,fun v hv=>?_,fun v hv=>?_,fun v hv m hm=>?_,fun v hv=>?_,fun v hv=>?_,fun v hv r hr=>?_,?_,fun r hr=>?_⟩
 ·rw[i6 _ _ (by omega)];exact h.k
 ·rw[i6 _ _ (by omega)];exact h.mg
 ·rw[i6 _ _ (by omega)];exact h.ug
 ·rw[i6 _ _ (by omega)];exact h.mt i hi
 ·rw[i6 _ _ (by omega)];exact h.ms i hi r hr
 ·rw[i6 _ _ (by omega)];exact h.ut v hv
 ·rw[i6 _ _ (by omega)];exact h.ud v hv r hr
 ·rw[i6 _ _ (by omega)];exact h.uw v hv
 ·rw[i6 _ _ (by omega)];exact h.uc v hv
 ·rw[i6 _ _ (by omega)];exact h.kV v hv
 ·rw[i6 _ _ (by omega)];exact h.on v hv m hm
 ·rw[i6 _ _ (by omega)];exact h.due v hv
 ·rw[i6 _ _ (by omega)];exact h.ky v hv
 ·rw[i6 _ _ (by omega)];exact h.ks v hv r hr
 ·rw[i6 _ _ (by omega)];exact h.ck
 ·show _=Value.int lD (zE F.ku q x r);by_cases e:r=q
  ·subst e;rw[mq,JP]
  ·rw[i6 _ _ (by omega),JJ _ _ e];exact h.ku r hr
theorem Enc.setCk (h:Enc M F)(x:Int):Enc (xV M 175 (kW lD x)) {F with ck:=x}:=by
 refine⟨?_,?_,?_,fun i hi=>?_,fun i hi r hr=>?_,fun v hv=>?_,fun v hv r hr=>?_,fun v hv=>?_,fun v hv=>?_,fun v hv=>?_,fun v hv m hm=>?_,fun v hv=>?_,fun v hv=>?_,fun v hv r hr=>?_,?_,fun r hr=>?_⟩
 ·rw[i6 _ _ (by omega)];exact h.k
 ·rw[i6 _ _ (by omega)];exact h.mg
 ·rw[i6 _ _ (by omega)];exact h.ug
 ·rw[i6 _ _ (by omega)];exact h.mt i hi
 ·rw[i6 _ _ (by omega)];exact h.ms i hi r hr
 ·rw[i6 _ _ (by omega)];exact h.ut v hv
 ·rw[i6 _ _ (by omega)];exact h.ud v hv r hr
 ·rw[i6 _ _ (by omega)];exact h.uw v hv
 ·rw[i6 _ _ (by omega)];exact h.uc v hv
 ·rw[i6 _ _ (by omega)];exact h.kV v hv
 ·rw[i6 _ _ (by omega)];exact h.on v hv m hm
 ·rw[i6 _ _ (by omega)];exact h.due v hv
 ·rw[i6 _ _ (by omega)];exact h.ky v hv
 ·rw[i6 _ _ (by omega)];exact h.ks v hv r hr
 ·rw[mq]
 ·rw[i6 _ _ (by omega)];exact h.ku r hr
variable{w:lM}{b:Nat}
theorem FL.setUsed (h:FL w b F)(hu:u<6)(hq:q<4)(x:Int):FL (lG w ⟨b,43+u*22+18+q,lI⟩ (kW lD x)) b {F with ks:=yC F.ks u q x}:=by
 obtain⟨M,a,c⟩:=h;exact⟨_,a.set _ _,c.setUsed hu hq x⟩
theorem FL.setIdle (h:FL w b F)(hq:q<4)(x:Int):FL (lG w ⟨b,176+q,lI⟩ (kW lD x)) b {F with ku:=zE F.ku q x}:=by
 obtain⟨M,a,c⟩:=h;exact⟨_,a.set _ _,c.setIdle hq x⟩
theorem FL.setCk (h:FL w b F)(x:Int):FL (lG w ⟨b,175,lI⟩ (kW lD x)) b {F with ck:=x}:=by
 obtain⟨M,a,c⟩:=h;exact⟨_,a.set _ _,c.setCk x⟩
theorem FL.kP (h:FL w b F)(hu:u<6)(hq:q<4):lH w ⟨b,43+u*22+18+q,lI⟩=lJ (kW lD (F.ks u q))/\w.frozen? ⟨b,43+u*22+18+q,lI⟩=lL:=by
 obtain⟨M,a,c⟩:=h;rw[a.cell (by omega),c.ks u hu q hq];exact⟨rfl,a.frozen _⟩
theorem FL.cIdle (h:FL w b F)(hq:q<4):lH w ⟨b,176+q,lI⟩=lJ (kW lD (F.ku q))/\w.frozen? ⟨b,176+q,lI⟩=lL:=by
 obtain⟨M,a,c⟩:=h;rw[a.cell (by omega),c.ku q hq];exact⟨rfl,a.frozen _⟩
theorem FL.cCk (h:FL w b F):lH w ⟨b,175,lI⟩=lJ (kW lD F.ck)/\w.frozen? ⟨b,175,lI⟩=lL:=by
 obtain⟨M,a,c⟩:=h;rw[a.cell (by omega),c.ck];exact⟨rfl,a.frozen _⟩
theorem FL.usedC (h:FL w b F){g:Nat->Nat->Int}(hg:∀u,u<6->∀r,r<4->F.ks u r=g u r):FL w b {F with ks:=g}:=by
 obtain⟨M,c,a⟩:=h;exact⟨M,c,{a with ks:=fun u hu r hr=>by rw[a.ks u hu r hr,hg u hu r hr]}⟩
theorem FL.idleC (h:FL w b F){g:Nat->Int}(hg:∀r,r<4->F.ku r=g r):FL w b {F with ku:=g}:=by
 obtain⟨M,c,a⟩:=h;exact⟨M,c,{a with ku:=fun r hr=>by rw[a.ku r hr,hg r hr]}⟩
theorem FL.putUsed (h:FL w b F)(hu:u<6)(g:Nat->Int):FL ((((lG w ⟨b,43+u*22+18,lI⟩ (kW lD (g 0))).setCell ⟨b,43+u*22+18+1,lI⟩ (kW lD (g 1))).setCell ⟨b,43+u*22+18+2,lI⟩ (kW lD (g 2))).setCell ⟨b,43+u*22+18+3,lI⟩ (kW lD (g 3))) b {F with ks:=yM F.ks u g}:=by
 have a:=((((h.setUsed hu (q:=0) (by omega) (g 0)).setUsed hu (q:=1) (by omega) (g 1)).setUsed hu (q:=2) (by omega) (g 2)).setUsed hu (q:=3) (by omega) (g 3));refine FL.usedC a (g:=yM F.ks u g) (fun v hv r hr=>?_);show yC (yC (yC (yC F.ks u 0 (g 0)) u 1 (g 1)) u 2 (g 2)) u 3 (g 3) v r=yM F.ks u g v r;by_cases e:v=u
 ·subst e;rw[mh];(have:r=0\/r=1\/r=2\/r=3:=by omega);rcases this with rfl|rfl|rfl|rfl<;>simp[yC]
 ·rw[l3 _ _ e,mR _ _ _ e,mR _ _ _ e,mR _ _ _ e,mR _ _ _ e]
theorem FL.putIdle (h:FL w b F)(g:Nat->Int):FL ((((lG w ⟨b,176,lI⟩ (kW lD (g 0))).setCell ⟨b,176+1,lI⟩ (kW lD (g 1))).setCell ⟨b,176+2,lI⟩ (kW lD (g 2))).setCell ⟨b,176+3,lI⟩ (kW lD (g 3))) b {F with ku:=g}:=by
 have a:=((((h.setIdle (q:=0) (by omega) (g 0)).setIdle (q:=1) (by omega) (g 1)).setIdle (q:=2) (by omega) (g 2)).setIdle (q:=3) (by omega) (g 3));refine FL.idleC a (g:=g) (fun r hr=>?_);show zE (zE (zE (zE F.ku 0 (g 0)) 1 (g 1)) 2 (g 2)) 3 (g 3) r=g r;(have:r=0\/r=1\/r=2\/r=3:=by omega);rcases this with rfl|rfl|rfl|rfl<;>simp[zE]
def yP (F:Flt)(n:Int)(k:Nat):Nat->Nat->Int:=fun u r=>if u<k then F.ks u r+F.ud u r*runs F.m u*n else F.ks u r
def zD (F:Flt)(k r:Nat):Int:=zB F 8 r-Por.sumI (fun u=>F.ud u r*runs F.m u) k
theorem DB (F:Flt)(n:Int)(k:Nat):yM (yP F n k) k (fun r=>F.ks k r+F.ud k r*runs F.m k*n)=yP F n (k+1):=by
 funext u r;unfold yM yP;by_cases e:u=k
 ·subst e;rw[ed rfl,ed (by omega)]
 ·rw[ec e];by_cases h:u<k
  ·rw[ed h,ed (by omega)]
  ·rw[ec h,ec (by omega)]
theorem rA (F:Flt)(n:Int)(k r:Nat):yP F n k k r=F.ks k r:=by unfold yP;rw[ec (by omega)]
variable{R:Int}{r:Nat}
theorem FWf.wanted (h:FWf R F) (hu:u<6) (hr:r<4):0<=F.ud u r*runs F.m u/\F.ud u r*runs F.m u<=400000:=
  lZ (h.ud u hu r hr) (show 0<=runs F.m u/\runs F.m u<=40 from⟨h.runs0 hu,by have:=h.tot u hu;have:=h.kV u hu;omega⟩)
variable{k:Nat}
theorem tz (h:FWf R F)(hk:k<=6)(hr:r<4):-2400000<=zD F k r/\zD F k r<=8000:=by
 have a:=h.stat.kq r hr;have b:0<=Por.sumI (fun u=>F.ud u r*runs F.m u) k:=JQ (fun u hu=>(h.wanted (by omega) hr).1);have c:=mD (f:=fun u=>F.ud u r*runs F.m u) (n:=k) (B:=400000) (fun u hu=>(h.wanted (by omega) hr).2);unfold zD;(have d:(k:Int)*400000<=6*400000:=by omega);omega
theorem Ee (b:Nat) (F:Flt) (U:Nat->Nat->Int) (u:Nat) (w:lM) (hf:FL w b {F with ks:=U}) (hu:u<6) (ho:∀m,m<8->0<=F.m.on u m/\F.m.on u m<=1000000) :
    Calls prog 169 #[kY (lJ ⟨b,43+u*22,lI⟩)] w fun e w'=>e=lF (kW lD (runs F.m u))/\Below w.heap.size w w':=wb b {F with ks:=U} u w hf hu ho
theorem idleF0 (F:Flt)(r:Nat):zD F 0 r=zB F 8 r:=by unfold zD;simp only[Por.sumI];omega
theorem tA (w:lM)(g:Nat)(u0 u1 u2 u3:lN)(k:Nat)(h:k≠g):(wput4 w g u0 u1 u2 u3).heap[k]?=w.heap[k]?:=by
 unfold wput4;rw[eT _ _ _ k h,eT _ _ _ k h,eT _ _ _ k h,eT _ _ _ k h]
theorem DA (b:Nat)(R:Int)(F:Flt)(n:Int)(w:lM)(hf:FL w b F)(hr:FWf R F)(hn:0<=n/\n<=1000)(ht:Tab w):Calls prog 139 #[kY (lJ ⟨b,0,lI⟩),kW lD n] w fun e w'=>e=lF (lB #[])/\FL w' b ({F with ks:=yP F n 6,ku:=fun r=>F.ku r+zD F 6 r*n})/\Tab w'/\Only w.heap.size b w w':=by
 have lb:=hf.lt;have Q:=hr;have Z:=brw w;go_enter func139,ntmps139;go_wp2_with fail;refine(Bg hf Q.sm).mono ?_;rintro e1 w1 ⟨rfl,aE⟩;have U:Below (w.heap.size) w w1:=Z.trans (aE.mono (Z.size));clear aE;(go_upto_region 1 with fail);have ad:=i1 w1 #[kW lD (zB F 8 0),kW lD (zB F 8 1),kW lD (zB F 8 2),kW lD (zB F 8 3)] 106;have K:Bl w (w1.alloc (lE #[kW lD (zB F 8 0),kW lD (zB F 8 1),kW lD (zB F 8 2),kW lD (zB F 8 3)] 106)):=U.alloc U.size (lE #[kW lD (zB F 8 0),kW lD (zB F 8 1),kW lD (zB F 8 2),kW lD (zB F 8 3)] 106);have aG:w.heap.size<=w1.heap.size:=U.size;generalize w1.alloc (lE #[kW lD (zB F 8 0),kW lD (zB F 8 1),kW lD (zB F 8 2),kW lD (zB F 8 3)] 106)=V at ad K ⊢;obtain⟨g,an⟩:∃g,g=w1.heap.size:=⟨_,rfl⟩;(have aI:w.heap.size<=g:=by rw[an];exact aG);rw[<-an]at ad ⊢;clear an aG;(have aA:Bx V g #[kW lD (zD F 0 0),kW lD (zD F 0 1),kW lD (zD F 0 2),kW lD (zD F 0 3)] 106:=by have N:=ad;rw[idleF0,idleF0,idleF0,idleF0];exact N);have aD:FL V b ({F with ks:=yP F n 0}):=hf.iP K;have aC:=ht.iP K;have aB:=Only.jE b K;go_wp2
 go_loopg[11] 6 (fun gg ix wr=>∃i:Nat,gg=6-i/\i<=6/\ix=kW lD i/\FL wr b ({F with ks:=yP F n i})/\Bx wr g #[kW lD (zD F i 0),kW lD (zD F i 1),kW lD (zD F i 2),kW lD (zD F i 3)] 106/\Tab wr/\Only w.heap.size b w wr)
 case atStart=>exact⟨0,rfl,by omega,rfl,aD,aA,aC,aB⟩
 case round=>
  obtain⟨i,a4,hi,rfl,XF,XI,XT,XO⟩:=hrel;have ap:g≠b:=XF.kH XI (by decide);by_cases o:i<6
  ·(have a5:(i:Int)<6:=by omega);have a3:g<wr.heap.size:=XI.lt;have P:=brw wr;have ar:=XF.lt;go_wp2_with fail;refine (Ee b F (yP F n i) i _ XF o (fun m hm=>by have:=Q.on40 o hm;omega)).mono ?_;rintro e2 w2 ⟨rfl,al⟩;have aa:=XI.ji al;have z:Below (wr.heap.size) wr w2:=P.trans (al.mono (P.size));clear al;generalize aq:runs F.m i=a;have ah:=(XF.iP z).cUd o;have d0:=ah 0 (by omega);have d1:=ah 1 (by omega);have d2:=ah 2 (by omega);have d3:=ah 3 (by omega);have ar:=(XF.iP z).lt;go_wp2_with fail;refine (qX (F.ud i) a (fun r hr=>by have N:=Q.wanted o hr;rw[aq] at N;show _<=F.ud i r*a/\F.ud i r*a<=_;omega) _).mono ?_;rintro e3 w3 ⟨rfl,am⟩;have ab:=aa.ji am;have D:Below (wr.heap.size) wr w3:=z.trans (am.mono (z.size));clear am;(go_upto_region 7 with fail);have u:=i7 ab (lE #[kW lD (F.ud i 0*a),kW lD (F.ud i 1*a),kW lD (F.ud i 2*a),kW lD (F.ud i 3*a)] 106);have S:=i1 w3 #[kW lD (F.ud i 0*a),kW lD (F.ud i 1*a),kW lD (F.ud i 2*a),kW lD (F.ud i 3*a)] 106;have E:Bl wr (w3.alloc (lE #[kW lD (F.ud i 0*a),kW lD (F.ud i 1*a),kW lD (F.ud i 2*a),kW lD (F.ud i 3*a)] 106)):=D.alloc D.size (lE #[kW lD (F.ud i 0*a),kW lD (F.ud i 1*a),kW lD (F.ud i 2*a),kW lD (F.ud i 3*a)] 106);have aH:wr.heap.size<=w3.heap.size:=D.size;generalize w3.alloc (lE #[kW lD (F.ud i 0*a),kW lD (F.ud i 1*a),kW lD (F.ud i 2*a),kW lD (F.ud i 3*a)] 106)=V2 at u S E ⊢;obtain ⟨s,ao⟩:∃ s,s=w3.heap.size:=⟨_,rfl⟩;rw[<-ao] at S ⊢;(have a6:wr.heap.size<=s:=by rw[ao];exact aH);clear ao aH;(have aF:g≠s:=by omega);obtain ⟨lp,p0,p1,p2,p3⟩:=u.q4 rfl;obtain ⟨T,q0,q1,q2,q3⟩:=S.q4 rfl;go_wp2_with fail;clear q0 q1 q2 q3 T;refine (sI (zD F i) (fun r=>F.ud i r*a) (fun r hr=>by have:=tz Q (show i<=6 by omega) hr;omega) (fun r hr=>by have N:=Q.wanted o hr;rw[aq] at N;show _<=F.ud i r*a/\F.ud i r*a<=_;omega) _).mono ?_;rintro e4 w4 ⟨rfl,aj⟩;have d:=u.ji aj;have ae:=S.ji aj;have G:Below (wr.heap.size) wr w4:=E.trans (aj.mono (E.size));clear aj;obtain ⟨lp,p0,au,p1,aw,p2,ax,p3,ay⟩:=d.w4 rfl;have aU:g<w4.heap.size:=d.lt;have YI:Bx ((((lG w4 ⟨g,0,lI⟩ (kW lD (zD F i 0 - F.ud i 0*a))).setCell ⟨g,1,lI⟩ (kW lD (zD F i 1 - F.ud i 1*a))).setCell ⟨g,2,lI⟩ (kW lD (zD F i 2 - F.ud i 2*a))).setCell ⟨g,3,lI⟩ (kW lD (zD F i 3 - F.ud i 3*a))) g #[kW lD (zD F i 0 - F.ud i 0*a),kW lD (zD F i 1 - F.ud i 1*a),kW lD (zD F i 2 - F.ud i 2*a),kW lD (zD F i 3 - F.ud i 3*a)] 106:=d.put4 (kW lD (zD F i 0 - F.ud i 0*a)) (kW lD (zD F i 1 - F.ud i 1*a)) (kW lD (zD F i 2 - F.ud i 2*a)) (kW lD (zD F i 3 - F.ud i 3*a));have YN:Bx ((((lG w4 ⟨g,0,lI⟩ (kW lD (zD F i 0 - F.ud i 0*a))).setCell ⟨g,1,lI⟩ (kW lD (zD F i 1 - F.ud i 1*a))).setCell ⟨g,2,lI⟩ (kW lD (zD F i 2 - F.ud i 2*a))).setCell ⟨g,3,lI⟩ (kW lD (zD F i 3 - F.ud i 3*a))) s #[kW lD (F.ud i 0*a),kW lD (F.ud i 1*a),kW lD (F.ud i 2*a),kW lD (F.ud i 3*a)] 106:=ae.put4_other (kW lD (zD F i 0 - F.ud i 0*a)) (kW lD (zD F i 1 - F.ud i 1*a)) (kW lD (zD F i 2 - F.ud i 2*a)) (kW lD (zD F i 3 - F.ud i 3*a)) (fun e=>aF e);(have C:FL ((((lG w4 ⟨g,0,lI⟩ (kW lD (zD F i 0 - F.ud i 0*a))).setCell ⟨g,1,lI⟩ (kW lD (zD F i 1 - F.ud i 1*a))).setCell ⟨g,2,lI⟩ (kW lD (zD F i 2 - F.ud i 2*a))).setCell ⟨g,3,lI⟩ (kW lD (zD F i 3 - F.ud i 3*a))) b ({ F with ks:=yP F n i }):=by obtain ⟨M,h1,h2⟩:=(XF.iP G);exact ⟨M,(tA _ g _ _ _ _ b (fun e=>ap e.symm)).trans h1,h2⟩);have YT:Tab ((((lG w4 ⟨g,0,lI⟩ (kW lD (zD F i 0 - F.ud i 0*a))).setCell ⟨g,1,lI⟩ (kW lD (zD F i 1 - F.ud i 1*a))).setCell ⟨g,2,lI⟩ (kW lD (zD F i 2 - F.ud i 2*a))).setCell ⟨g,3,lI⟩ (kW lD (zD F i 3 - F.ud i 3*a))):=((((XT.iP G).set d rfl (by simp) 0 _).set (j6 d 0 _) rfl (by simp) 1 _).set (j6 (j6 d 0 _) 1 _) rfl (by simp) 2 _).set (j6 (j6 (j6 d 0 _) 1 _) 2 _) rfl (by simp) 3 _;have YO:Only w.heap.size b w ((((lG w4 ⟨g,0,lI⟩ (kW lD (zD F i 0 - F.ud i 0*a))).setCell ⟨g,1,lI⟩ (kW lD (zD F i 1 - F.ud i 1*a))).setCell ⟨g,2,lI⟩ (kW lD (zD F i 2 - F.ud i 2*a))).setCell ⟨g,3,lI⟩ (kW lD (zD F i 3 - F.ud i 3*a))):=XO.trans (Only.jE b (mF (G.mono XO.size) aI (kW lD (zD F i 0 - F.ud i 0*a)) (kW lD (zD F i 1 - F.ud i 1*a)) (kW lD (zD F i 2 - F.ud i 2*a)) (kW lD (zD F i 3 - F.ud i 3*a))));(go_upto_region 8 with fail);obtain ⟨V5,W⟩:∃ V,V=((((lG w4 ⟨g,0,lI⟩ (kW lD (zD F i 0 - F.ud i 0*a))).setCell ⟨g,1,lI⟩ (kW lD (zD F i 1 - F.ud i 1*a))).setCell ⟨g,2,lI⟩ (kW lD (zD F i 2 - F.ud i 2*a))).setCell ⟨g,3,lI⟩ (kW lD (zD F i 3 - F.ud i 3*a))):=⟨_,rfl⟩;rw[<-W] at YI YN C YT YO ⊢;have aL:=XO.size;clear W aU XF XT XO d ae G;have ak:=brw V5;have aV:s≠b:=C.kH YN (by decide);obtain ⟨T,q0,q1,q2,q3⟩:=YN.q4 rfl;go_wp2_with fail;refine (qX (fun r=>F.ud i r*a) n (fun r hr=>by have N:=Q.wanted o hr;rw[aq] at N;have h8:=lZ N hn;show _<=F.ud i r*a*n/\F.ud i r*a*n<=_;omega) _).mono ?_;rintro e6 X ⟨rfl,O⟩;have ac:=YI.ji O;have j:=YN.ji O;have H:Below (V5.heap.size) V5 X:=ak.trans (O.mono (ak.size));clear O;obtain ⟨T,q0,aX,q1,aY,q2,aZ,q3,a0⟩:=j.w4 rfl;have ZN:Bx ((((lG X ⟨s,0,lI⟩ (kW lD (F.ud i 0*a*n))).setCell ⟨s,1,lI⟩ (kW lD (F.ud i 1*a*n))).setCell ⟨s,2,lI⟩ (kW lD (F.ud i 2*a*n))).setCell ⟨s,3,lI⟩ (kW lD (F.ud i 3*a*n))) s #[kW lD (F.ud i 0*a*n),kW lD (F.ud i 1*a*n),kW lD (F.ud i 2*a*n),kW lD (F.ud i 3*a*n)] 106:=j.put4 (kW lD (F.ud i 0*a*n)) (kW lD (F.ud i 1*a*n)) (kW lD (F.ud i 2*a*n)) (kW lD (F.ud i 3*a*n));have ZI:Bx ((((lG X ⟨s,0,lI⟩ (kW lD (F.ud i 0*a*n))).setCell ⟨s,1,lI⟩ (kW lD (F.ud i 1*a*n))).setCell ⟨s,2,lI⟩ (kW lD (F.ud i 2*a*n))).setCell ⟨s,3,lI⟩ (kW lD (F.ud i 3*a*n))) g #[kW lD (zD F i 0 - F.ud i 0*a),kW lD (zD F i 1 - F.ud i 1*a),kW lD (zD F i 2 - F.ud i 2*a),kW lD (zD F i 3 - F.ud i 3*a)] 106:=ac.put4_other (kW lD (F.ud i 0*a*n)) (kW lD (F.ud i 1*a*n)) (kW lD (F.ud i 2*a*n)) (kW lD (F.ud i 3*a*n)) (fun e=>aF e.symm);(have L:FL ((((lG X ⟨s,0,lI⟩ (kW lD (F.ud i 0*a*n))).setCell ⟨s,1,lI⟩ (kW lD (F.ud i 1*a*n))).setCell ⟨s,2,lI⟩ (kW lD (F.ud i 2*a*n))).setCell ⟨s,3,lI⟩ (kW lD (F.ud i 3*a*n))) b ({ F with ks:=yP F n i }):=by obtain ⟨M,h1,h2⟩:=C.iP H;exact ⟨M,(tA _ s _ _ _ _ b (fun e=>aV e.symm)).trans h1,h2⟩);have ZT:Tab ((((lG X ⟨s,0,lI⟩ (kW lD (F.ud i 0*a*n))).setCell ⟨s,1,lI⟩ (kW lD (F.ud i 1*a*n))).setCell ⟨s,2,lI⟩ (kW lD (F.ud i 2*a*n))).setCell ⟨s,3,lI⟩ (kW lD (F.ud i 3*a*n))):=((((YT.iP H).set j rfl (by simp) 0 _).set (j6 j 0 _) rfl (by simp) 1 _).set (j6 (j6 j 0 _) 1 _) rfl (by simp) 2 _).set (j6 (j6 (j6 j 0 _) 1 _) 2 _) rfl (by simp) 3 _;have ZO:Only w.heap.size b w ((((lG X ⟨s,0,lI⟩ (kW lD (F.ud i 0*a*n))).setCell ⟨s,1,lI⟩ (kW lD (F.ud i 1*a*n))).setCell ⟨s,2,lI⟩ (kW lD (F.ud i 2*a*n))).setCell ⟨s,3,lI⟩ (kW lD (F.ud i 3*a*n))):=YO.trans (Only.jE b (mF (H.mono YO.size) (by have:=aL;omega) (kW lD (F.ud i 0*a*n)) (kW lD (F.ud i 1*a*n)) (kW lD (F.ud i 2*a*n)) (kW lD (F.ud i 3*a*n))));(go_upto_region 9 with fail);generalize (((lG X ⟨s,0,lI⟩ (kW lD (F.ud i 0*a*n))).setCell ⟨s,1,lI⟩ (kW lD (F.ud i 1*a*n))).setCell ⟨s,2,lI⟩ (kW lD (F.ud i 2*a*n))).setCell ⟨s,3,lI⟩ (kW lD (F.ud i 3*a*n))=c at ZI ZN L ZT ZO ⊢;have aJ:=brw c;obtain ⟨T,q0,q1,q2,q3⟩:=ZN.q4 rfl;have u0:lH c ⟨b,43+i*22+18,lI⟩=lJ (kW lD (F.ks i 0)):=((L.kP o (q:=0) (by omega)).1).trans (by show lJ (Value.int lD (yP F n i i 0))=_;rw[rA]);have u1:lH c ⟨b,43+i*22+18+1,lI⟩=lJ (kW lD (F.ks i 1)):=((L.kP o (q:=1) (by omega)).1).trans (by show lJ (Value.int lD (yP F n i i 1))=_;rw[rA]);have u2:lH c ⟨b,43+i*22+18+2,lI⟩=lJ (kW lD (F.ks i 2)):=((L.kP o (q:=2) (by omega)).1).trans (by show lJ (Value.int lD (yP F n i i 2))=_;rw[rA]);have u3:lH c ⟨b,43+i*22+18+3,lI⟩=lJ (kW lD (F.ks i 3)):=((L.kP o (q:=3) (by omega)).1).trans (by show lJ (Value.int lD (yP F n i i 3))=_;rw[rA]);have J:=L.lt;(have aK:yM (yP F n i) i (fun r=>F.ks i r+F.ud i r*a*n)=yP F n (i+1):=by rw[<-aq];exact DB F n i);(have ai:∀ r,zD F (i+1) r=zD F i r - F.ud i r*a:=fun r=>by unfold zD;simp only[Por.sumI];rw[aq];omega);have aQ:c.drew.cell? ⟨b,43+i*22+18,lI⟩=lJ (kW lD (F.ks i 0)):=qd u0;have aR:c.drew.cell? ⟨b,43+i*22+18+1,lI⟩=lJ (kW lD (F.ks i 1)):=qd u1;have aS:c.drew.cell? ⟨b,43+i*22+18+2,lI⟩=lJ (kW lD (F.ks i 2)):=qd u2;have aT:c.drew.cell? ⟨b,43+i*22+18+3,lI⟩=lJ (kW lD (F.ks i 3)):=qd u3;have aM:c.drew.cell? ⟨s,0,lI⟩=lJ (kW lD (F.ud i 0*a*n)):=qd q0;have aN:c.drew.cell? ⟨s,1,lI⟩=lJ (kW lD (F.ud i 1*a*n)):=qd q1;have aO:c.drew.cell? ⟨s,2,lI⟩=lJ (kW lD (F.ud i 2*a*n)):=qd q2;have aP:c.drew.cell? ⟨s,3,lI⟩=lJ (kW lD (F.ud i 3*a*n)):=qd q3;go_region_law (first | (go_simp;go_at_call 172;refine (ry (F.ks i) (fun r=>F.ud i r*a*n) (fun r hr=>by have h8:=Q.ks i o r hr;have N:=Q.ck;omega) (fun r hr=>by have N:=Q.wanted o hr;rw[aq] at N;have h8:=lZ N hn;show _<=F.ud i r*a*n/\F.ud i r*a*n<=_;omega) _).mono ?_;rintro a1 v ⟨rfl,af⟩;have f:Bl c v:=(brw c).drew.trans (af.mono ((brw c).drew).size);have k0:=((L.iP f).kP o (q:=0) (by omega)).1;have z0:=((L.iP f).kP o (q:=0) (by omega)).2;have k1:=((L.iP f).kP o (q:=1) (by omega)).1;have z1:=((L.iP f).kP o (q:=1) (by omega)).2;have k2:=((L.iP f).kP o (q:=2) (by omega)).1;have z2:=((L.iP f).kP o (q:=2) (by omega)).2;have k3:=((L.iP f).kP o (q:=3) (by omega)).1;have z3:=((L.iP f).kP o (q:=3) (by omega)).2;simp only[ia] at k0 z0;have aW:=(L.iP f).lt;go_wp2_with fail))
   all_goals
    have QF:FL ((((lG v ⟨b,43+i*22+18,lI⟩ (kW lD (F.ks i 0+F.ud i 0*a*n))).setCell ⟨b,43+i*22+18+1,lI⟩ (kW lD (F.ks i 1+F.ud i 1*a*n))).setCell ⟨b,43+i*22+18+2,lI⟩ (kW lD (F.ks i 2+F.ud i 2*a*n))).setCell ⟨b,43+i*22+18+3,lI⟩ (kW lD (F.ks i 3+F.ud i 3*a*n))) b ({F with ks:=yP F n (i+1)}):=(by rw[<-aK];exact(L.iP f).putUsed o (fun r=>F.ks i r+F.ud i r*a*n))
    have QI:Bx ((((lG v ⟨b,43+i*22+18,lI⟩ (kW lD (F.ks i 0+F.ud i 0*a*n))).setCell ⟨b,43+i*22+18+1,lI⟩ (kW lD (F.ks i 1+F.ud i 1*a*n))).setCell ⟨b,43+i*22+18+2,lI⟩ (kW lD (F.ks i 2+F.ud i 2*a*n))).setCell ⟨b,43+i*22+18+3,lI⟩ (kW lD (F.ks i 3+F.ud i 3*a*n))) g #[kW lD (zD F (i+1) 0),kW lD (zD F (i+1) 1),kW lD (zD F (i+1) 2),kW lD (zD F (i+1) 3)] 106:=(by rw[ai 0,ai 1,ai 2,ai 3];exact Bx.only (ZI.ji f) (((((Only.refl v.heap.size b v).setCell _ (43+i*22+18) (kW lD (F.ks i 0+F.ud i 0*a*n))).setCell _ (43+i*22+18+1) (kW lD (F.ks i 1+F.ud i 1*a*n))).setCell _ (43+i*22+18+2) (kW lD (F.ks i 2+F.ud i 2*a*n))).setCell _ (43+i*22+18+3) (kW lD (F.ks i 3+F.ud i 3*a*n))) (ZI.ji f).lt ap)
    have QT:Tab ((((lG v ⟨b,43+i*22+18,lI⟩ (kW lD (F.ks i 0+F.ud i 0*a*n))).setCell ⟨b,43+i*22+18+1,lI⟩ (kW lD (F.ks i 1+F.ud i 1*a*n))).setCell ⟨b,43+i*22+18+2,lI⟩ (kW lD (F.ks i 2+F.ud i 2*a*n))).setCell ⟨b,43+i*22+18+3,lI⟩ (kW lD (F.ks i 3+F.ud i 3*a*n))):=((ZT.iP f).only (L.iP f) (((((Only.refl v.heap.size b v).setCell _ (43+i*22+18) (kW lD (F.ks i 0+F.ud i 0*a*n))).setCell _ (43+i*22+18+1) (kW lD (F.ks i 1+F.ud i 1*a*n))).setCell _ (43+i*22+18+2) (kW lD (F.ks i 2+F.ud i 2*a*n))).setCell _ (43+i*22+18+3) (kW lD (F.ks i 3+F.ud i 3*a*n))) lR)
    have QO:Only w.heap.size b w ((((lG v ⟨b,43+i*22+18,lI⟩ (kW lD (F.ks i 0+F.ud i 0*a*n))).setCell ⟨b,43+i*22+18+1,lI⟩ (kW lD (F.ks i 1+F.ud i 1*a*n))).setCell ⟨b,43+i*22+18+2,lI⟩ (kW lD (F.ks i 2+F.ud i 2*a*n))).setCell ⟨b,43+i*22+18+3,lI⟩ (kW lD (F.ks i 3+F.ud i 3*a*n))):=((ZO.trans ((Only.jE b f).mono ZO.size)).trans ((((((Only.refl v.heap.size b v).setCell _ (43+i*22+18) (kW lD (F.ks i 0+F.ud i 0*a*n))).setCell _ (43+i*22+18+1) (kW lD (F.ks i 1+F.ud i 1*a*n))).setCell _ (43+i*22+18+2) (kW lD (F.ks i 2+F.ud i 2*a*n))).setCell _ (43+i*22+18+3) (kW lD (F.ks i 3+F.ud i 3*a*n))).mono (eh ZO.size f.size)))
    go_wp2
    go_roundg (6-(i+1))
    case measure=>omega
    case rel=>exact⟨i+1,rfl,by omega,by go_num,QF,QI,QT,QO⟩
  ·(obtain rfl:i=6:=by omega);have P:=brw wr;obtain ⟨lp,p0,p1,p2,p3⟩:=XI.q4 rfl;go_wp2_with fail;clear p0 p1 p2 p3 lp;refine (qX (zD F 6) n (fun r hr=>by have N:=tz Q (ea 6) hr;have h8:=Q.spare hr;have h7:=lZ (A:=8000) (B:=1000) (x:=zD F 6 r) (y:=n) ⟨h8,N.2⟩ hn;show _<=zD F 6 r*n/\zD F 6 r*n<=_;omega) _).mono ?_;rintro e6 X ⟨rfl,O⟩;have h:=XI.ji O;have I:Below (wr.heap.size) wr X:=P.trans (O.mono (P.size));clear O;obtain ⟨lp,p0,au,p1,aw,p2,ax,p3,ay⟩:=h.w4 rfl;have YI:Bx ((((lG X ⟨g,0,lI⟩ (kW lD (zD F 6 0*n))).setCell ⟨g,1,lI⟩ (kW lD (zD F 6 1*n))).setCell ⟨g,2,lI⟩ (kW lD (zD F 6 2*n))).setCell ⟨g,3,lI⟩ (kW lD (zD F 6 3*n))) g #[kW lD (zD F 6 0*n),kW lD (zD F 6 1*n),kW lD (zD F 6 2*n),kW lD (zD F 6 3*n)] 106:=h.put4 (kW lD (zD F 6 0*n)) (kW lD (zD F 6 1*n)) (kW lD (zD F 6 2*n)) (kW lD (zD F 6 3*n));(have C:FL ((((lG X ⟨g,0,lI⟩ (kW lD (zD F 6 0*n))).setCell ⟨g,1,lI⟩ (kW lD (zD F 6 1*n))).setCell ⟨g,2,lI⟩ (kW lD (zD F 6 2*n))).setCell ⟨g,3,lI⟩ (kW lD (zD F 6 3*n))) b ({ F with ks:=yP F n 6 }):=by obtain ⟨M,h1,h2⟩:=XF.iP I;exact ⟨M,(tA _ g _ _ _ _ b (fun e=>ap e.symm)).trans h1,h2⟩);have YT:Tab ((((lG X ⟨g,0,lI⟩ (kW lD (zD F 6 0*n))).setCell ⟨g,1,lI⟩ (kW lD (zD F 6 1*n))).setCell ⟨g,2,lI⟩ (kW lD (zD F 6 2*n))).setCell ⟨g,3,lI⟩ (kW lD (zD F 6 3*n))):=((((XT.iP I).set h rfl (by simp) 0 _).set (j6 h 0 _) rfl (by simp) 1 _).set (j6 (j6 h 0 _) 1 _) rfl (by simp) 2 _).set (j6 (j6 (j6 h 0 _) 1 _) 2 _) rfl (by simp) 3 _;have YO:Only w.heap.size b w ((((lG X ⟨g,0,lI⟩ (kW lD (zD F 6 0*n))).setCell ⟨g,1,lI⟩ (kW lD (zD F 6 1*n))).setCell ⟨g,2,lI⟩ (kW lD (zD F 6 2*n))).setCell ⟨g,3,lI⟩ (kW lD (zD F 6 3*n))):=XO.trans (Only.jE b (mF (I.mono XO.size) aI (kW lD (zD F 6 0*n)) (kW lD (zD F 6 1*n)) (kW lD (zD F 6 2*n)) (kW lD (zD F 6 3*n))));(go_upto_region 12 with fail);generalize (((lG X ⟨g,0,lI⟩ (kW lD (zD F 6 0*n))).setCell ⟨g,1,lI⟩ (kW lD (zD F 6 1*n))).setCell ⟨g,2,lI⟩ (kW lD (zD F 6 2*n))).setCell ⟨g,3,lI⟩ (kW lD (zD F 6 3*n))=c at YI C YT YO ⊢;have aJ:=brw c;obtain ⟨T,q0,q1,q2,q3⟩:=YI.q4 rfl;have u0:lH c ⟨b,176,lI⟩=lJ (kW lD (F.ku 0)):=(C.cIdle (q:=0) (by omega)).1;have u1:lH c ⟨b,177,lI⟩=lJ (kW lD (F.ku 1)):=(C.cIdle (q:=1) (by omega)).1;have u2:lH c ⟨b,178,lI⟩=lJ (kW lD (F.ku 2)):=(C.cIdle (q:=2) (by omega)).1;have u3:lH c ⟨b,179,lI⟩=lJ (kW lD (F.ku 3)):=(C.cIdle (q:=3) (by omega)).1;have J:=C.lt;have aQ:c.drew.cell? ⟨b,176,lI⟩=lJ (kW lD (F.ku 0)):=qd u0;have aR:c.drew.cell? ⟨b,177,lI⟩=lJ (kW lD (F.ku 1)):=qd u1;have aS:c.drew.cell? ⟨b,178,lI⟩=lJ (kW lD (F.ku 2)):=qd u2;have aT:c.drew.cell? ⟨b,179,lI⟩=lJ (kW lD (F.ku 3)):=qd u3;have aM:c.drew.cell? ⟨g,0,lI⟩=lJ (kW lD (zD F 6 0*n)):=qd q0;have aN:c.drew.cell? ⟨g,1,lI⟩=lJ (kW lD (zD F 6 1*n)):=qd q1;have aO:c.drew.cell? ⟨g,2,lI⟩=lJ (kW lD (zD F 6 2*n)):=qd q2;have aP:c.drew.cell? ⟨g,3,lI⟩=lJ (kW lD (zD F 6 3*n)):=qd q3;go_region_law (first | (go_simp;go_at_call 172;refine (ry F.ku (fun r=>zD F 6 r*n) (fun r hr=>by have h8:=Q.ku r hr;have N:=Q.ck;omega) (fun r hr=>by have N:=tz Q (ea 6) hr;have h8:=Q.spare hr;have h7:=lZ (A:=8000) (B:=1000) (x:=zD F 6 r) (y:=n) ⟨h8,N.2⟩ hn;show _<=zD F 6 r*n/\zD F 6 r*n<=_;omega) _).mono ?_;rintro a2 l ⟨rfl,ag⟩;have k:Bl c l:=(brw c).drew.trans (ag.mono ((brw c).drew).size);have k0:lH l ⟨b,176,lI⟩=lJ (kW lD (F.ku 0)):=((C.iP k).cIdle (q:=0) (by omega)).1;have z0:l.frozen? ⟨b,176,lI⟩=lL:=((C.iP k).cIdle (q:=0) (by omega)).2;have k1:lH l ⟨b,177,lI⟩=lJ (kW lD (F.ku 1)):=((C.iP k).cIdle (q:=1) (by omega)).1;have z1:l.frozen? ⟨b,177,lI⟩=lL:=((C.iP k).cIdle (q:=1) (by omega)).2;have k2:lH l ⟨b,178,lI⟩=lJ (kW lD (F.ku 2)):=((C.iP k).cIdle (q:=2) (by omega)).1;have z2:l.frozen? ⟨b,178,lI⟩=lL:=((C.iP k).cIdle (q:=2) (by omega)).2;have k3:lH l ⟨b,179,lI⟩=lJ (kW lD (F.ku 3)):=((C.iP k).cIdle (q:=3) (by omega)).1;have z3:l.frozen? ⟨b,179,lI⟩=lL:=((C.iP k).cIdle (q:=3) (by omega)).2;have aW:=(C.iP k).lt;go_wp2_with fail))
   all_goals
    have QF:FL ((((lG l ⟨b,176,lI⟩ (kW lD (F.ku 0+zD F 6 0*n))).setCell ⟨b,177,lI⟩ (kW lD (F.ku 1+zD F 6 1*n))).setCell ⟨b,178,lI⟩ (kW lD (F.ku 2+zD F 6 2*n))).setCell ⟨b,179,lI⟩ (kW lD (F.ku 3+zD F 6 3*n))) b ({F with ks:=yP F n 6,ku:=fun r=>F.ku r+zD F 6 r*n}):=((C.iP k).putIdle (fun r=>F.ku r+zD F 6 r*n))
    have QT:Tab ((((lG l ⟨b,176,lI⟩ (kW lD (F.ku 0+zD F 6 0*n))).setCell ⟨b,177,lI⟩ (kW lD (F.ku 1+zD F 6 1*n))).setCell ⟨b,178,lI⟩ (kW lD (F.ku 2+zD F 6 2*n))).setCell ⟨b,179,lI⟩ (kW lD (F.ku 3+zD F 6 3*n))):=((YT.iP k).only (C.iP k) (((((Only.refl l.heap.size b l).setCell _ (176) (kW lD (F.ku 0+zD F 6 0*n))).setCell _ (177) (kW lD (F.ku 1+zD F 6 1*n))).setCell _ (178) (kW lD (F.ku 2+zD F 6 2*n))).setCell _ (179) (kW lD (F.ku 3+zD F 6 3*n))) lR)
    have QO:Only w.heap.size b w ((((lG l ⟨b,176,lI⟩ (kW lD (F.ku 0+zD F 6 0*n))).setCell ⟨b,177,lI⟩ (kW lD (F.ku 1+zD F 6 1*n))).setCell ⟨b,178,lI⟩ (kW lD (F.ku 2+zD F 6 2*n))).setCell ⟨b,179,lI⟩ (kW lD (F.ku 3+zD F 6 3*n))):=((YO.trans ((Only.jE b k).mono YO.size)).trans ((((((Only.refl l.heap.size b l).setCell _ (176) (kW lD (F.ku 0+zD F 6 0*n))).setCell _ (177) (kW lD (F.ku 1+zD F 6 1*n))).setCell _ (178) (kW lD (F.ku 2+zD F 6 2*n))).setCell _ (179) (kW lD (F.ku 3+zD F 6 3*n))).mono (eh YO.size k.size)))
    go_wp2
    go_end0
    exact⟨rfl,QF,QT,QO⟩
theorem IC (xs:List Int)(h:xs.length<=4):splice [kW lD 0,kW lD 0,kW lD 0,kW lD 0] 0 (zi xs)=(av (zt xs)).toList:=by
 match xs,h with
 |[],_=>rfl
 |[a],_=>rfl
 |[a,b],_=>rfl
 |[a,b,c],_=>rfl
 |[a,b,c,d],_=>rfl
theorem C5 (w0 w:lM){ops:Array Oper}{rest:List Oper}{o:Oper}{a:Act}{Q:Exit->Act->lM->Prop}(hgd:o.guard=lI)(d s:Operand)(ho:o.op=.call {callee:=.builtin .copy,args:=#[d,s],argTypes:=#[22,22]})(g n cap:Nat)(ao:Option Addr)(xs:List Int)(hd:a.eval d=kX (lJ ⟨g,0,lI⟩) 4 4)(hs:a.eval s=kX ao n cap)(hz:Bx w g #[kW lD 0,kW lD 0,kW lD 0,kW lD 0] 106)(hr:Arr w 1 ao n cap (zi xs))(hnm:n<=4)(hb:Below w0.heap.size w0 w)(hle:w0.heap.size<=g)(h:∀w',Hid (Bx w' g (av (zt xs)) 106)->Below w0.heap.size w0 w'->wpList prog ops Q rest (a.put o.dst (goInt n)) w'):wpList prog ops Q (o::rest) a w:=by
 have m:=hr.len;rw[j9]at m;subst m;(have e:(zi xs).length=Nat.min xs.length 4:=by rw[j9];exact(Nat.min_eq_left hnm).symm);refine wpList_copy_splice hgd d s 22 22 ho 3 eR Tryz.sizeInt _ _ _ _ _ _ hd hs g 0 [kW lD 0,kW lD 0,kW lD 0,kW lD 0] 106 hz (zi xs) e ?_ (by rw[j9];simp;omega) ?_ w0.heap.size w0 hb hle ?_
 ·intro l;rw[j9]at l;obtain⟨b,k,rfl,t⟩:=hr.head l;refine⟨rfl,_,rfl,fun j v c=>?_⟩;have r:j<xs.length:=by have:=(eA.1 c).1;rwa[j9]at this
  have:=hr.cell b k rfl j v c 0 v (by
   rw[pq xs r]at c;cases c;rfl)
  (have f:(⟨b,k,lI⟩:Addr).add j=⟨b,k+j,lI⟩:=by unfold Addr.add;split<;>simp_all);rw[f]
  simpa using this
 ·intro v c;unfold zi at c;obtain⟨x,_,rfl⟩:=jB.1 c;rfl
 ·intro w' u i;(have p:goInt (zi xs).length=goInt xs.length:=by rw[j9]);rw[p];refine h w' ?_ i;have q:=u.out;unfold Hid Bx;rw[q,IC xs hnm]
def xK (k:Nat)(xs:List Int):Bool:=decide (xs.length=k)&&uptsB 1000 xs
variable{ao:Option Addr}{n cap:Nat}{xs:List Int}
theorem vG (hr:Arr w 1 ao n cap (zi xs))(hn:n<=4):Calls prog 160 #[kX ao n cap] w fun e w'=>e=lF (lA (av (zt xs)))/\Below w.heap.size w w':=by
 have t:=hr;clear hr;have c:=brw w;have f:=i1 w #[kW lD 0,kW lD 0,kW lD 0,kW lD 0] 106;have b:=c.alloc c.size (lE #[kW lD 0,kW lD 0,kW lD 0,kW lD 0] 106);have x:=c.size;clear c;go_enter func160,ntmps160;(go_upto_region 1 with fail);generalize w.alloc (lE #[kW lD 0,kW lD 0,kW lD 0,kW lD 0] 106)=V at f b ⊢;obtain⟨d,k⟩:∃d,d=w.heap.size:=⟨_,rfl⟩;rw[<-k]at f ⊢;(have p:w.heap.size<=d:=by omega);clear k;have r:=i1 V #[kW lD 0,kW lD 0,kW lD 0,kW lD 0] 106;have i:Bl V (V.alloc (lE #[kW lD 0,kW lD 0,kW lD 0,kW lD 0] 106)):=brf.alloc lR _;have u:=b.size;go_wp2_with (refine C5 V _ rfl (.tmp 4) (.tmp 5) rfl V.heap.size n cap ao xs rfl rfl r ((t.iP b).iP i) hn i lR ?_);intro q g j;have a:=f.ji j;have l:=et b j;clear j r i f;obtain⟨C,D,E,F⟩:=g.c4 rfl;obtain⟨_,M,I,N,J,O,K,P,L⟩:=a.w4 rfl;have G:=g.lt;have H:=a.lt;have h:Bx ((((lG q ⟨d,0,lI⟩ (kW lD (zt xs 0))).setCell ⟨d,1,lI⟩ (kW lD (zt xs 1))).setCell ⟨d,2,lI⟩ (kW lD (zt xs 2))).setCell ⟨d,3,lI⟩ (kW lD (zt xs 3))) d #[kW lD (zt xs 0),kW lD (zt xs 1),kW lD (zt xs 2),kW lD (zt xs 3)] 106:=a.put4 (kW lD (zt xs 0)) (kW lD (zt xs 1)) (kW lD (zt xs 2)) (kW lD (zt xs 3));have m:=mF l p (kW lD (zt xs 0)) (kW lD (zt xs 1)) (kW lD (zt xs 2)) (kW lD (zt xs 3));go_wp2;obtain⟨y,z,A,B⟩:=h.c4 rfl;refine eG (v:=lA #[kW lD (zt xs 0),kW lD (zt xs 1),kW lD (zt xs 2),kW lD (zt xs 3)]) (by simp[results,results160,go_sem,y,z,A,B]) rfl ⟨rfl,m⟩
theorem Ef (hr:Arr w 1 ao n cap (zi xs)):Calls prog 159 #[kX ao n cap,kW lD k] w fun e w'=>e=lF (kZ (xK k xs))/\w'=w:=by
 have a:=hr.len;rw[j9]at a;go_enter func159,ntmps159;by_cases d:n=k
 ·subst d;(have f:((n:Int) != (n:Int))=lL:=by simp);go_wp2_with fail;refine(sN hr).mono ?_;rintro g h ⟨rfl,rfl⟩;(have b:xK n xs=uptsB 1000 xs:=by unfold xK;rw[ei a,Bool.true_and]);go_wp2;go_ret;exact⟨by rw[b];rfl,rfl⟩
 ·(have f:((n:Int) != (k:Int))=lK:=by simp;omega);(have b:xK k xs=lL:=by unfold xK;rw[ee (by omega),Bool.false_and]);go_wp2;go_ret;exact⟨by rw[b];rfl,rfl⟩
def putL (M:Nat->lN):Nat->List lN->Nat->lN
  |_,[]=>M
  |o,v::r=>putL (xV M o v) (o+1) r
theorem uh:∀(vs:List lN)(M:Nat->lN)(o j:Nat) ,(j<o\/o+vs.length<=j)->putL M o vs j=M j:=by
 intro vs
 induction vs with
 |nil=>intro M o j h;rfl
 |cons v r ih=>intro M o j h;simp only[List.length_cons]at h;simp only[putL];rw[ih _ _ _ (by omega),i6 _ _ (by omega)]
theorem BT:∀(vs:List lN)(M:Nat->lN)(o j:Nat)(x:lN) ,vs[j]?=lJ x->putL M o vs (o+j)=x:=by
 intro vs
 induction vs with
 |nil=>intro M o j x h;simp at h
 |cons v r ih=>
  intro M o j x h;simp only[putL]
  match j with
  |0=>rw[uh _ _ _ _ (by omega),ia,mq];simpa using h
  |j+1=>have:=ih (xV M o v) (o+1) j x (by simpa using h);rw[show o+(j+1)=o+1+j by omega];exact this
theorem FBk.setCells:∀(vs:List lN) {M:Nat->lN} (o:Nat) {w:lM},FBk w b M->FBk (w.setCells b o vs) b (putL M o vs):=by
 intro vs
 induction vs with
 |nil=>intro M o w h;exact h
 |cons v r ih=>intro M o w h;exact ih (o+1) (h.set o v)
variable{o:Nat}
theorem FBk.there (h:FBk w b M)(hn:o+n<=180):w.there b o n:=fun j hj=>⟨by rw[h.cell (by omega)];rfl,h.frozen _⟩
theorem ol {B:Nat}{x:lM}:∀(vs:List lN) (o:Nat) {w:lM},Only B b x w->Only B b x (w.setCells b o vs):=by
 intro vs
 induction vs with
 |nil=>intro o w h;exact h
 |cons v r ih=>intro o w h;exact ih (o+1) (h.setCell _ o v)
abbrev uvals (t:Bool)(d:Nat->Int)(wt cp wa:Int)(on:Nat->Int)(du:ByteArray)(rv:Int)(us:Nat->Int):List lN:=[kZ t,kW lD (d 0),kW lD (d 1),kW lD (d 2),kW lD (d 3),kW lD wt,kW lD cp,kW lD wa,kW lD (on 0),kW lD (on 1),kW lD (on 2),kW lD (on 3),kW lD (on 4),kW lD (on 5),kW lD (on 6),kW lD (on 7),lC du,kW lD rv,kW lD (us 0),kW lD (us 1),kW lD (us 2),kW lD (us 3)]
abbrev mvals (t:Bool)(d:Nat->Int):List lN:=[kZ t,kW lD (d 0),kW lD (d 1),kW lD (d 2),kW lD (d 3)]
def putU (F:Flt)(u:Nat)(t:Bool)(d:Nat->Int)(wt cp wa:Int)(on:Nat->Int)(du:ByteArray)(rv:Int)(us:Nat->Int):Flt:=
  {F with ut:=yZ F.ut u t,ud:=yM F.ud u d,uw:=zE F.uw u wt,uc:=zE F.uc u cp,m:=⟨zE F.m.kV u wa,yM F.m.on u on,zE F.m.ky u rv⟩,due:=yR F.due u du,ks:=yM F.ks u us}
def putM (F:Flt)(i:Nat)(t:Bool)(d:Nat->Int):Flt:={F with mt:=yZ F.mt i t,ms:=yM F.ms i d}
theorem Enc.putUser (h:Enc M F)(hu:u<6)(t:Bool)(d:Nat->Int)(wt cp wa:Int)(on:Nat->Int)(du:ByteArray)(rv:Int)(us:Nat->Int):Enc (putL M (43+u*22) (uvals t d wt cp wa on du rv us)) (putU F u t d wt cp wa on du rv us):=by
 (have b:∀j x,(uvals t d wt cp wa on du rv us)[j]?=lJ x->putL M (43+u*22) (uvals t d wt cp wa on du rv us) (43+u*22+j)=x:=fun j x hx=>BT _ _ _ _ _ hx);(have a:∀j,(j<43+u*22\/43+u*22+22<=j)->putL M (43+u*22) (uvals t d wt cp wa on du rv us) j=M j:=fun j hj=>uh _ _ _ _ hj);refine⟨?_,?_,?_,fun i hi=>?_,fun i hi r hr=>?_,fun v hv=>?_,fun v hv r hr=>?_,fun v hv=>?_,fun v hv=>?_,fun v hv=>?_,fun v hv m hm=>?_,fun v hv=>?_,fun v hv=>?_,fun v hv r hr=>?_,?_,fun r hr=>?_⟩
 ·rw[a _ (by omega)];exact h.k
 ·rw[a _ (by omega)];exact h.mg
 ·rw[a _ (by omega)];exact h.ug
 ·rw[a _ (by omega)];exact h.mt i hi
 ·rw[a _ (by omega)];exact h.ms i hi r hr
 ·by_cases e:v=u
  ·subst e;have c:=b 0 _ rfl;rw[ia]at c;rw[c];show _=Value.bool (yZ F.ut v t v);unfold yZ;rw[ed rfl]
  ·rw[a _ (by omega)];show _=Value.bool (yZ F.ut u t v);unfold yZ;rw[ec e];exact h.ut v hv
 ·by_cases e:v=u
  ·subst e
   rw[show 43+v*22+1+r=43+v*22+(1+r) by omega,b (1+r) (kW lD (d r)) (by
    have:r=0\/r=1\/r=2\/r=3:=by omega
    rcases this with rfl|rfl|rfl|rfl<;>rfl)]
   show _=Value.int lD (yM F.ud v d v r);rw[mh]
  ·rw[a _ (by omega)];show _=Value.int lD (yM F.ud u d v r);rw[l3 _ _ e];exact h.ud v hv r hr
 ·by_cases e:v=u
  ·subst e;rw[b 5 _ rfl];show _=Value.int lD (zE F.uw v wt v);unfold zE;rw[ed rfl]
  ·rw[a _ (by omega)];show _=Value.int lD (zE F.uw u wt v);unfold zE;rw[ec e];exact h.uw v hv
 ·by_cases e:v=u
  ·subst e;rw[b 6 _ rfl];show _=Value.int lD (zE F.uc v cp v);unfold zE;rw[ed rfl]
  ·rw[a _ (by omega)];show _=Value.int lD (zE F.uc u cp v);unfold zE;rw[ec e];exact h.uc v hv
 ·by_cases e:v=u
  ·subst e;rw[b 7 _ rfl];show _=Value.int lD (zE F.m.kV v wa v);unfold zE;rw[ed rfl]
  ·rw[a _ (by omega)];show _=Value.int lD (zE F.m.kV u wa v);unfold zE;rw[ec e];exact h.kV v hv
 ·by_cases e:v=u
  ·subst e
   rw[show 43+v*22+8+m=43+v*22+(8+m) by omega,b (8+m) (kW lD (on m)) (by
    have:m=0\/m=1\/m=2\/m=3\/m=4\/m=5\/m=6\/m=7:=by omega
    rcases this with rfl|rfl|rfl|rfl|rfl|rfl|rfl|rfl<;>rfl)]
   show _=Value.int lD (yM F.m.on v on v m);rw[mh]
  ·rw[a _ (by omega)];show _=Value.int lD (yM F.m.on u on v m);rw[l3 _ _ e];exact h.on v hv m hm
 ·by_cases e:v=u
  ·subst e;rw[b 16 _ rfl];show _=Value.string (yR F.due v du v);unfold yR;rw[ed rfl]
  ·rw[a _ (by omega)];show _=Value.string (yR F.due u du v);unfold yR;rw[ec e];exact h.due v hv
 ·by_cases e:v=u
  ·subst e;rw[b 17 _ rfl];show _=Value.int lD (zE F.m.ky v rv v);unfold zE;rw[ed rfl]
  ·rw[a _ (by omega)];show _=Value.int lD (zE F.m.ky u rv v);unfold zE;rw[ec e];exact h.ky v hv
 ·by_cases e:v=u
  ·subst e
   rw[show 43+v*22+18+r=43+v*22+(18+r) by omega,b (18+r) (kW lD (us r)) (by
    have:r=0\/r=1\/r=2\/r=3:=by omega
    rcases this with rfl|rfl|rfl|rfl<;>rfl)]
   show _=Value.int lD (yM F.ks v us v r);rw[mh]
  ·rw[a _ (by omega)];show _=Value.int lD (yM F.ks u us v r);rw[l3 _ _ e];exact h.ks v hv r hr
 ·rw[a _ (by omega)];exact h.ck
 ·rw[a _ (by omega)];exact h.ku r hr
theorem Enc.putMach (h:Enc M F)(hq:q<8)(t:Bool)(d:Nat->Int):Enc (putL M (3+q*5) (mvals t d)) (putM F q t d):=by
 (have b:∀j x,(mvals t d)[j]?=lJ x->putL M (3+q*5) (mvals t d) (3+q*5+j)=x:=fun j x hx=>BT _ _ _ _ _ hx);(have a:∀j,(j<3+q*5\/3+q*5+5<=j)->putL M (3+q*5) (mvals t d) j=M j:=fun j hj=>uh _ _ _ _ hj);refine⟨?_,?_,?_,fun i hi=>?_,fun i hi r hr=>?_,fun v hv=>?_,fun v hv r hr=>?_,fun v hv=>?_,fun v hv=>?_,fun v hv=>?_,fun v hv m hm=>?_,fun v hv=>?_,fun v hv=>?_,fun v hv r hr=>?_,?_,fun r hr=>?_⟩
 ·rw[a _ (by omega)];exact h.k
 ·rw[a _ (by omega)];exact h.mg
 ·rw[a _ (by omega)];exact h.ug
 ·by_cases e:i=q
  ·subst e;have c:=b 0 _ rfl;rw[ia]at c;rw[c];show _=Value.bool (yZ F.mt i t i);rw[mX]
  ·rw[a _ (by omega)];show _=Value.bool (yZ F.mt q t i);rw[nl _ _ e];exact h.mt i hi
 ·by_cases e:i=q
  ·subst e
   rw[show 3+i*5+1+r=3+i*5+(1+r) by omega,b (1+r) (kW lD (d r)) (by
    have:r=0\/r=1\/r=2\/r=3:=by omega
    rcases this with rfl|rfl|rfl|rfl<;>rfl)]
   show _=Value.int lD (yM F.ms i d i r);rw[mh]
  ·rw[a _ (by omega)];show _=Value.int lD (yM F.ms q d i r);rw[l3 _ _ e];exact h.ms i hi r hr
 ·rw[a _ (by omega)];exact h.ut v hv
 ·rw[a _ (by omega)];exact h.ud v hv r hr
 ·rw[a _ (by omega)];exact h.uw v hv
 ·rw[a _ (by omega)];exact h.uc v hv
 ·rw[a _ (by omega)];exact h.kV v hv
 ·rw[a _ (by omega)];exact h.on v hv m hm
 ·rw[a _ (by omega)];exact h.due v hv
 ·rw[a _ (by omega)];exact h.ky v hv
 ·rw[a _ (by omega)];exact h.ks v hv r hr
 ·rw[a _ (by omega)];exact h.ck
 ·rw[a _ (by omega)];exact h.ku r hr
theorem Enc.setMg (h:Enc M F)(x:Nat):Enc (xV M 1 (kW lD x)) {F with mg:=x}:=by
 refine⟨?_,?_,?_,fun i hi=>?_,fun i hi r hr=>?_,fun v hv=>?_,fun v hv r hr=>?_,fun v hv=>?_,fun v hv=>?_,fun v hv=>?_,fun v hv m hm=>?_,fun v hv=>?_,fun v hv=>?_,fun v hv r hr=>?_,?_,fun r hr=>?_⟩
 ·rw[i6 _ _ (by omega)];exact h.k
 ·rw[mq]
 ·rw[i6 _ _ (by omega)];exact h.ug
 ·rw[i6 _ _ (by omega)];exact h.mt i hi
 ·rw[i6 _ _ (by omega)];exact h.ms i hi r hr
 ·rw[i6 _ _ (by omega)];exact h.ut v hv
 ·rw[i6 _ _ (by omega)];exact h.ud v hv r hr
 ·rw[i6 _ _ (by omega)];exact h.uw v hv
 ·rw[i6 _ _ (by omega)];exact h.uc v hv
 ·rw[i6 _ _ (by omega)];exact h.kV v hv
 ·rw[i6 _ _ (by omega)];exact h.on v hv m hm
 ·rw[i6 _ _ (by omega)];exact h.due v hv
 ·rw[i6 _ _ (by omega)];exact h.ky v hv
 ·rw[i6 _ _ (by omega)];exact h.ks v hv r hr
 ·rw[i6 _ _ (by omega)];exact h.ck
 ·rw[i6 _ _ (by omega)];exact h.ku r hr
theorem FL.setMg (h:FL w b F)(x:Nat):FL (lG w ⟨b,1,lI⟩ (kW lD x)) b {F with mg:=x}:=by
 obtain⟨M,a,c⟩:=h;exact⟨_,a.set _ _,c.setMg x⟩
theorem FL.cMg (h:FL w b F):lH w ⟨b,1,lI⟩=lJ (kW lD F.mg)/\w.frozen? ⟨b,1,lI⟩=lL:=by
 obtain⟨M,a,c⟩:=h;rw[a.cell (by omega),c.mg];exact⟨rfl,a.frozen _⟩
theorem Enc.setUg (h:Enc M F)(x:Nat):Enc (xV M 2 (kW lD x)) {F with ug:=x}:=by
 refine⟨?_,?_,?_,fun i hi=>?_,fun i hi r hr=>?_,fun v hv=>?_,fun v hv r hr=>?_,fun v hv=>?_,fun v hv=>?_,fun v hv=>?_,fun v hv m hm=>?_,fun v hv=>?_,fun v hv=>?_,fun v hv r hr=>?_,?_,fun r hr=>?_⟩
 ·rw[i6 _ _ (by omega)];exact h.k
 ·rw[i6 _ _ (by omega)];exact h.mg
 ·rw[mq]
 ·rw[i6 _ _ (by omega)];exact h.mt i hi
 ·rw[i6 _ _ (by omega)];exact h.ms i hi r hr
 ·rw[i6 _ _ (by omega)];exact h.ut v hv
 ·rw[i6 _ _ (by omega)];exact h.ud v hv r hr
 ·rw[i6 _ _ (by omega)];exact h.uw v hv
 ·rw[i6 _ _ (by omega)];exact h.uc v hv
 ·rw[i6 _ _ (by omega)];exact h.kV v hv
 ·rw[i6 _ _ (by omega)];exact h.on v hv m hm
 ·rw[i6 _ _ (by omega)];exact h.due v hv
 ·rw[i6 _ _ (by omega)];exact h.ky v hv
 ·rw[i6 _ _ (by omega)];exact h.ks v hv r hr
 ·rw[i6 _ _ (by omega)];exact h.ck
 ·rw[i6 _ _ (by omega)];exact h.ku r hr
theorem FL.setUg (h:FL w b F)(x:Nat):FL (lG w ⟨b,2,lI⟩ (kW lD x)) b {F with ug:=x}:=by
 obtain⟨M,a,c⟩:=h;exact⟨_,a.set _ _,c.setUg x⟩
theorem FL.cUg (h:FL w b F):lH w ⟨b,2,lI⟩=lJ (kW lD F.ug)/\w.frozen? ⟨b,2,lI⟩=lL:=by
 obtain⟨M,a,c⟩:=h;rw[a.cell (by omega),c.ug];exact⟨rfl,a.frozen _⟩
theorem FL.cK (h:FL w b F):lH w ⟨b,0,lI⟩=lJ (kW lD F.k):=by
 obtain⟨M,a,c⟩:=h;rw[a.cell (by omega),c.k]
theorem FL.putUser (h:FL w b F)(hu:u<6)(t:Bool)(d:Nat->Int)(wt cp wa:Int)(on:Nat->Int)(du:ByteArray)(rv:Int)(us:Nat->Int):FL (w.setCells b (43+u*22) (uvals t d wt cp wa on du rv us)) b (putU F u t d wt cp wa on du rv us):=by
 obtain⟨M,a,c⟩:=h;exact⟨_,a.setCells (w:=w) _ _,c.putUser hu t d wt cp wa on du rv us⟩
theorem FL.putMach (h:FL w b F)(hq:q<8)(t:Bool)(d:Nat->Int):FL (w.setCells b (3+q*5) (mvals t d)) b (putM F q t d):=by
 obtain⟨M,a,c⟩:=h;exact⟨_,a.setCells (w:=w) _ _,c.putMach hq t d⟩
theorem FL.there (h:FL w b F)(hn:o+n<=180):w.there b o n:=by
 obtain⟨M,a,c⟩:=h;exact a.there hn
def yg (F:Flt)(n:Int):Int:=if n<1\/1000<n then 8 else if 1000000-F.ck<n then 9 else 0
def amE (F:Flt)(xs:List Int):Int:=if xK F.k xs then(if F.mg<8 then 0 else 6)else 3
def amN (F:Flt)(xs:List Int):Int:=if amE F xs=0 then(F.mg:Int)else 0
theorem Bs (h:amE F xs=0):amN F xs=F.mg:=by unfold amN;rw[ed h]
variable{e:Int}
theorem pD (h:amE F xs=e)(he:e≠0):amN F xs=0:=by unfold amN;rw[ec (by rw[h];exact he)]
def dmE (F:Flt)(y:Int):Int:=if yl F y then 0 else 7
theorem FWf.later (h:FWf R F) {n:Int} (h0:0<=n) (h1:F.ck+n<=1000000):FWf R {F with ck:=F.ck+n}:=
  {h with
    ck:=by have:=h.ck.1;show 0<=F.ck+n/\F.ck+n<=1000000;omega
    ks:=fun u hu r hr=>by
      have a:=h.ks u hu r hr
      show 0<=F.ks u r/\F.ks u r<=400000*(F.ck+n)
      omega
    ku:=fun r hr=>by
      have a:=h.ku r hr
      show 0<=F.ku r/\F.ku r<=8000*(F.ck+n)
      omega}
theorem oy (h:xK k xs=lK):xs.length=k/\∀r,r<k->0<=lm xs r/\lm xs r<=1000:=by
 unfold xK at h;simp only[eJ,eN]at h;refine⟨h.1,fun r hr=>?_⟩;have a:=h.2;unfold uptsB at a;rw[ie]at a;have b:=a (xs[r]'(by omega)) (ij _);unfold lm;rw[ej,en (by omega)];unfold uptB at b
 simpa using b
theorem Tick_any {n:Int}(hf:FL w b F)(hr:FWf R F)(ht:Tab w):Calls prog 79 #[kY (lJ ⟨b,0,lI⟩),kW lD n] w fun e w'=>e=lF (kW lD (yg F n))/\∃G,FL w' b G/\FWf R G/\Tab w'/\Only w.heap.size b w w'/\((yg F n=0/\G=tickF F n)\/(yg F n≠0/\G=F)):=by
 have a:=hid hf;have j:=hid hr;have q:=hid ht;have S:=hf.lt;have f:=hid (Only.refl w.heap.size b w);clear hf hr ht;go_enter func79,ntmps79;by_cases B:n<1
 ·(have d:Hid (yg F n=8):=by unfold Hid yg;rw[ed (.inl B)]);have L:=ei B;go_wp2;go_ret;exact⟨by rw[d.out];rfl,F,a,j,q,f,.inr ⟨by rw[d.out];decide,rfl⟩⟩
 ·have L:=ee B;by_cases C:1000<n
  ·(have d:Hid (yg F n=8):=by unfold Hid yg;rw[ed (.inr C)]);have M:=ei C;go_wp2;go_ret;exact⟨by rw[d.out];rfl,F,a,j,q,f,.inr ⟨by rw[d.out];decide,rfl⟩⟩
  ·have M:=ee C;obtain⟨ck,i⟩:∃t,F.ck=t:=⟨_,rfl⟩;obtain⟨E,O⟩:=a.cCk;have D:=j.ck;rw[i]at E D;have c:=hid i;clear i;by_cases H:1000000-ck<n
   ·(have d:Hid (yg F n=9):=by unfold Hid yg;rw[ec (by omega),c.out,ed H]);go_wp2;go_ret;exact⟨by rw[d.out];rfl,F,a,j,q,f,.inr ⟨by rw[d.out];decide,rfl⟩⟩
   ·(have d:Hid (yg F n=0):=by unfold Hid yg;rw[ec (by omega),c.out,ec H]);have z:Hid (FWf R {F with ck:=F.ck+n}):=j.later (by omega) (by rw[c.out];omega);have A:Hid (FWf R (tickF F n)):=j.tick (by omega) (by rw[c.out];omega);(have v:Hid (0<=n/\n<=1000):=by unfold Hid;omega);(have k:Hid (FL (lG w ⟨b,175,lI⟩ (kW lD (ck+n))) b {F with ck:=F.ck+n}):=by have I:=a.setCk (ck+n);rw[<-c.out]at I ⊢;exact I);have h:=hid (f.setCell _ 175 (kW lD (ck+n)));have l:=hid (q.only a ((Only.refl w.heap.size b w).setCell _ 175 (kW lD (ck+n))) lR);(go_upto_region 6 with fail);generalize lG w ⟨b,175,lI⟩ (kW lD (ck+n))=P at k h l ⊢;clear E O;go_wp2_with fail;refine(DA b R {F with ck:=F.ck+n} n _ k z v l).mono ?_;rintro Q K ⟨rfl,m,p,o⟩;(have s:Hid (FL K b (tickF F n)):=by have N:=FL.usedC m (g:=(tickF F n).ks) (fun u hu r hr=>by show yP {F with ck:=F.ck+n} n 6 u r=_;unfold yP;rw[ed hu];rfl);exact FL.idleC N (g:=(tickF F n).ku) (fun r hr=>rfl));have y:=hid p;have x:=hid (h.trans (o.mono h.size));clear m p o;go_wp2;go_ret;exact⟨by rw[d.out];rfl,tickF F n,s,A,y,x,.inl ⟨d,rfl⟩⟩
theorem AddMachine_any (hf:FL w b F)(hr:FWf R F)(hR:R<=999999999999990000)(ht:Tab w)(hx:Arr w 1 ao n cap (zi xs)):Calls prog 126 #[kY (lJ ⟨b,0,lI⟩),kX ao n cap] w fun e w'=>e=lF (lB #[kW lD (amN F xs),kW lD (amE F xs)])/\Ends b R F (addMF F xs) (amE F xs) w w':=by
 have lb:=hf.lt;have i:=brw w;have O:=hf.cK;have r:=hx.len;rw[j9]at r;have T:=eh hx.le hx.cm;have S:=hr.k4;go_enter func126,ntmps126;go_wp2_with fail;refine(Ef hx).mono ?_;rintro Y w1 ⟨rfl,I⟩;obtain rfl:=I.symm;clear O
 cases hs:xK F.k xs with
 |false=>(have f:amE F xs=3:=by unfold amE;rw[hs];rfl);clear hs;go_wp2;go_ret2;exact⟨by rw[pD f (by decide),f];rfl,by rw[f];exact Ends.kD hf hr ht i (by decide)⟩
 | true=>
  obtain⟨y,A⟩:=hf.cMg;by_cases z:F.mg<8
  ·(have f:amE F xs=0:=by unfold amE;rw[hs];simp only[eS];rw[ed z]);(have Q:(F.mg:Int)<8:=by omega);(have H:¬ (F.mg:Int)≥8:=by omega);(have E:n<=4:=by have h9:=(oy hs).1;omega);go_upto_region 6 with fail
   go_cut[] (fun wx=>FL wx b (putM F F.mg lK (zt xs))/\Tab wx/\Only w.heap.size b w wx)
   (case first=>go_region_law (first|(go_simp;go_at_call 160;refine(vG (hx.iP (brw w).drew) E).mono ?_;rintro P g ⟨rfl,h⟩;have c:=(brw w).drew.trans (h.mono ((brw w).drew).size);clear h;obtain⟨W,a,_⟩:=hf.iP c;have k0:=a.cell (o:=3+F.mg*5) (by omega);have z0:=a.frozen (3+F.mg*5);have k1:=a.cell (o:=3+F.mg*5+1) (by omega);have A:=a.frozen (3+F.mg*5+1);have k2:=a.cell (o:=3+F.mg*5+2) (by omega);have z2:=a.frozen (3+F.mg*5+2);have k3:=a.cell (o:=3+F.mg*5+3) (by omega);have z3:=a.frozen (3+F.mg*5+3);have k4:=a.cell (o:=3+F.mg*5+4) (by omega);have z4:=a.frozen (3+F.mg*5+4);have U:=a.lt;go_wp2_with fail));(all_goals (try go_wp2_with fail));(all_goals go_meet);all_goals exact⟨((hf.iP c).putMach z lK (zt xs)),((ht.iP c).only (hf.iP c) (ol (mvals lK (zt xs)) (3+F.mg*5) (Only.refl g.heap.size b g)) lR),((Only.jE b c).trans ((ol (mvals lK (zt xs)) (3+F.mg*5) (Only.refl g.heap.size b g)).mono c.size))⟩);case rest=>obtain⟨p,M,L⟩:=hcut;clear y A;obtain⟨y,A⟩:=p.cMg;rw[show(putM F F.mg lK (zt xs)).mg=F.mg from rfl]at y;have J:=p.lt;have j:FL (lG wc ⟨b,1,lI⟩ (kW lD ((F.mg:Int)+1))) b (addMF F xs):=p.setMg (F.mg+1);have l:=L.setCell _ 1 (kW lD ((F.mg:Int)+1));have m:=M.only p ((Only.refl wc.heap.size b wc).setCell _ 1 (kW lD ((F.mg:Int)+1))) lR;(go_upto_region 8 with fail);generalize lG wc ⟨b,1,lI⟩ (kW lD ((F.mg:Int)+1))=X at j l m ⊢;clear y A p M L J;go_wp2_with fail;refine(nT b R (addMF F xs) _ j (hr.addM z (oy hs).1 (oy hs).2) hR m).mono ?_;rintro Z w9 ⟨rfl,G,q,t,v,u,s⟩;have B:=Ends.of (F:=F) (er:=0) l q t v u s rfl;clear q t v u s;go_wp2;go_ret2;exact⟨by rw[Bs f,f];rfl,by rw[f];exact B⟩
  ·(have f:amE F xs=6:=by unfold amE;rw[hs];simp only[eS];rw[ec z]);(have H:(F.mg:Int)≥8:=by omega);go_wp2;go_ret2;exact⟨by rw[pD f (by decide),f];rfl,by rw[f];exact Ends.kD hf hr ht i (by decide)⟩
def duE (F:Flt)(x:Int):Int:=if yH F x then 0 else 7
theorem Ac (s:FM)(m:Nat):xC s m 0=s:=by
 unfold xC;(have a:(fun u=>if u<0 then s.kV u+s.on u m else s.kV u)=s.kV:=by funext u;rw[ec (by omega)]);(have b:(fun u l=>if u<0/\l=m then 0 else s.on u l)=s.on:=by funext u l;rw[ec (by omega)]);rw[a,b]
theorem ru (s:FM)(m i:Nat):xC s m (i+1)=⟨zE (xC s m i).kV i (s.kV i+s.on i m),yC (xC s m i).on i m 0,s.ky⟩:=by
 unfold xC;congr 1
 ·funext u;show(if u<i+1 then _ else _)=zE (fun u=>if u<i then s.kV u+s.on u m else s.kV u) i _ u;unfold zE;by_cases e:u=i
  ·subst e;rw[ed (by omega),ed rfl]
  ·rw[ec e];by_cases h:u<i
   ·rw[ed (by omega)];exact(ed h).symm
   ·rw[ec (by omega)];exact(ec h).symm
 ·funext u l;show(if u<i+1/\l=m then(0:Int)else _)=yC (fun u l=>if u<i/\l=m then 0 else s.on u l) i m 0 u l;unfold yC;by_cases e:u=i/\l=m
  ·rw[ed (by omega),ed e]
  ·rw[ec e];by_cases h:u<i/\l=m
   ·rw[ed (by omega)];exact(ed h).symm
   ·rw[ec (by omega)];exact(ec h).symm
theorem DropMachine_any {y:Int}(hf:FL w b F)(hr:FWf R F)(hR:R<=999999999999990000)(ht:Tab w):Calls prog 67 #[kY (lJ ⟨b,0,lI⟩),kW lD y] w fun e w'=>e=lF (kW lD (dmE F y))/\Ends b R F (yu F y.toNat) (dmE F y) w w':=by
 have n:=hid hf;have K:=hid hr;have HT:=hid ht;have O:=hid (brw w);clear hf hr ht;go_enter func67,ntmps67;go_wp2_with fail;refine(sB n.out).mono ?_;rintro e1 w1 ⟨rfl,Y⟩;obtain rfl:=Y.symm
 cases C:yl F y with
 |false=>(have v:Hid (dmE F y=7):=by unfold Hid dmE;rw[C];rfl);clear C;go_wp2;go_ret;exact⟨by rw[v.out];rfl,by rw[v.out];exact Ends.kD n.out K.out HT.out O.out (by decide)⟩
 | true=>
  (have v:Hid (dmE F y=0):=by unfold Hid dmE;rw[C];rfl);obtain⟨m,rfl,u,aa⟩:=pm C;(have ae:(m:Int)<8:=by omega);(have I:(m:Int).toNat=m:=by omega);have U:=hid I;clear I C aa;go_wp2
  go_loopg[10] 6 (fun gg ix wr=>∃i:Nat,gg=6-i/\i<=6/\ix=kW lD i/\Hid (FL wr b ({F with m:=xC F.m m i}))/\Hid (Tab wr)/\Hid (Only w.heap.size b w wr))
  case atStart=>exact⟨0,rfl,by omega,rfl,by rw[Ac];exact n.out,HT.out,Only.refl _ _ _⟩
  case round=>
   obtain⟨i,ac,hi,rfl,g,XT,X⟩:=hrel;by_cases d:i<6
   ·(have ad:(i:Int)<6:=by omega);(go_upto_region 6 with fail);have lb:=g.out.lt;obtain⟨s,h⟩:∃t,F.m.kV i=t:=⟨_,rfl⟩;obtain⟨q,N⟩:∃t,F.m.on i m=t:=⟨_,rfl⟩;have ab:=K.out.wait40 d;have Z:=K.out.on40 d u;have c0:=(g.out.cWait d).1.trans (by show lJ (Value.int lD (if i<i then _ else F.m.kV i))=_;rw[ec (by omega),h]);have z0:=(g.out.cWait d).2;have c1:=(g.out.cOn d u).1.trans (by show lJ (Value.int lD (if i<i/\m=m then 0 else F.m.on i m))=_;rw[ec (by omega),N]);rw[h]at ab;rw[N]at Z;have W:=hid h;have HQ:=hid N;clear h N;go_region;clear c0 z0 c1;have p:=hid (g.out.setWait d (s+q));have f:=hid (X.out.setCell _ (43+i*22+7) (kW lD (s+q)));have r:=hid (XT.out.only g.out ((Only.refl wr.heap.size b wr).setCell _ (43+i*22+7) (kW lD (s+q))) lR);(go_upto_region 7 with fail);obtain⟨L,l⟩:∃V,V=(lG wr ⟨b,43+i*22+7,lI⟩ (kW lD (s+q))):=⟨_,rfl⟩;rw[<-l]at p f r ⊢;clear l;have c:Hid (FL L.drew b _):=p.out;have j:Hid (Only w.heap.size b w L.drew):=⟨f.out.os,f.out.tape,f.out.output,f.out.size,f.out.block⟩;have k:=hid (r.out.drew);obtain⟨M,l⟩:∃V,V=L.drew:=⟨_,rfl⟩;rw[<-l]at c j k ⊢;clear l p f r;obtain⟨c1,z1⟩:=c.out.cOn d u;have af:=c.out.lt;(have Q:Hid (FL (lG M ⟨b,43+i*22+8+m,lI⟩ (kW lD 0)) b ({F with m:=xC F.m m (i+1)})):=by have h9:=c.out.setOn d u 0;rw[show xC F.m m (i+1)=⟨zE (xC F.m m i).kV i (s+q),yC (xC F.m m i).on i m 0,F.m.ky⟩ by rw[ru,W.out,HQ.out]];exact h9);have S:=hid (j.out.setCell _ (43+i*22+8+m) (kW lD 0));have T:=hid (k.out.only c.out ((Only.refl M.heap.size b M).setCell _ (43+i*22+8+m) (kW lD 0)) lR);go_wp2;go_roundg (6-(i+1));(case measure=>omega);case rel=>exact⟨i+1,rfl,by omega,by go_num,Q.out,T.out,S.out⟩
   ·(obtain rfl:i=6:=by omega);(go_upto_region 9 with fail);have lb:=g.out.lt;obtain⟨M9,a,_⟩:=g.out;have k0:=a.cell (o:=3+m*5) (by omega);have z0:=a.frozen (3+m*5);have k1:=a.cell (o:=3+m*5+1) (by omega);have z1:=a.frozen (3+m*5+1);have k2:=a.cell (o:=3+m*5+2) (by omega);have z2:=a.frozen (3+m*5+2);have k3:=a.cell (o:=3+m*5+3) (by omega);have z3:=a.frozen (3+m*5+3);have k4:=a.cell (o:=3+m*5+4) (by omega);have z4:=a.frozen (3+m*5+4);clear a;have x:Hid (FL (((((lG wr ⟨b,3+m*5,lI⟩ (kZ lL)).setCell ⟨b,3+m*5+1,lI⟩ (kW lD 0)).setCell ⟨b,3+m*5+2,lI⟩ (kW lD 0)).setCell ⟨b,3+m*5+3,lI⟩ (kW lD 0)).setCell ⟨b,3+m*5+4,lI⟩ (kW lD 0)) b (yu F m)):=g.out.putMach u lL (fun _=>0);have z:Hid (Only w.heap.size b w (((((lG wr ⟨b,3+m*5,lI⟩ (kZ lL)).setCell ⟨b,3+m*5+1,lI⟩ (kW lD 0)).setCell ⟨b,3+m*5+2,lI⟩ (kW lD 0)).setCell ⟨b,3+m*5+3,lI⟩ (kW lD 0)).setCell ⟨b,3+m*5+4,lI⟩ (kW lD 0))):=X.out.trans ((ol (mvals lL (fun _=>0)) (3+m*5) (Only.refl wr.heap.size b wr)).mono X.out.size);have A:Hid (Tab (((((lG wr ⟨b,3+m*5,lI⟩ (kZ lL)).setCell ⟨b,3+m*5+1,lI⟩ (kW lD 0)).setCell ⟨b,3+m*5+2,lI⟩ (kW lD 0)).setCell ⟨b,3+m*5+3,lI⟩ (kW lD 0)).setCell ⟨b,3+m*5+4,lI⟩ (kW lD 0))):=XT.out.only g.out (ol (mvals lL (fun _=>0)) (3+m*5) (Only.refl wr.heap.size b wr)) lR;(go_upto_region 10 with fail);obtain⟨V5,l⟩:∃V,V=(((((lG wr ⟨b,3+m*5,lI⟩ (kZ lL)).setCell ⟨b,3+m*5+1,lI⟩ (kW lD 0)).setCell ⟨b,3+m*5+2,lI⟩ (kW lD 0)).setCell ⟨b,3+m*5+3,lI⟩ (kW lD 0)).setCell ⟨b,3+m*5+4,lI⟩ (kW lD 0)):=⟨_,rfl⟩;rw[<-l]at x z A ⊢;clear l k0 k1 k2 k3 k4 z0 z1 z2 z3 z4;go_wp2_with fail;refine(nT b R (yu F m) _ x.out (K.out.dropM u) hR A.out).mono ?_;rintro e9 w9 ⟨rfl,G,B,E,J,H,D⟩;have P:=hid (Ends.of (F:=F) (er:=0) z.out B E J H D rfl);clear B E J H D;go_wp2;go_ret;exact⟨by rw[v.out];rfl,by rw[v.out,U.out];exact P.out⟩
theorem FJ (f:Nat->Int)(i:Nat):zE f i (f i)=f:=by
 funext j;unfold zE;split
 ·rename_i e;rw[e]
 ·rfl
theorem FV (f:Nat->Nat->Int)(i:Nat):yM f i (f i)=f:=by
 funext j;unfold yM;split
 ·rename_i e;rw[e]
 ·rfl
theorem Ax {cs:List lN}(ht:w.there b o cs.length)(h1:∀v,v∈cs->v.oneCell'=lK):(storeCells ⟨b,o,lI⟩ cs).run prog w=.ok () (w.setCells b o cs):=by
 have:=run_storeCells_cells (P:=prog) b o cs 0 w (fun j hj=>by simpa using(ht j hj).1) (fun j hj=>by simpa using(ht j hj).2) h1
 simpa using this
theorem wV (t:Bool)(d:Nat->Int)(wt cp wa:Int)(on:Nat->Int)(du:ByteArray)(rv:Int)(us:Nat->Int):∀v,v∈uvals t d wt cp wa on du rv us->v.oneCell'=lK:=by
 intro v a;simp only[uvals,jn,iU,or_false]at a;rcases a with rfl|rfl|rfl|rfl|rfl|rfl|rfl|rfl|rfl|rfl|rfl|rfl|rfl|rfl|rfl|rfl|rfl|rfl|rfl|rfl|rfl|rfl<;>rfl
theorem DropUser_any {x:Int}(hf:FL w b F)(hr:FWf R F)(hR:R<=999999999999990000)(ht:Tab w):Calls prog 69 #[kY (lJ ⟨b,0,lI⟩),kW lD x] w fun e w'=>e=lF (kW lD (duE F x))/\Ends b R F (yq F x.toNat) (duE F x) w w':=by
 have y:=brw w;go_enter func69,ntmps69;go_wp2_with fail;refine(nL hf).mono ?_;rintro e1 w1 ⟨rfl,M⟩;obtain rfl:=M.symm
 cases o:yH F x with
 |false=>(have j:duE F x=7:=by unfold duE;rw[o];rfl);clear o;go_wp2;go_ret;exact⟨by rw[j];rfl,by rw[j];exact Ends.kD hf hr ht y (by decide)⟩
 |true=>(have j:duE F x=0:=by unfold duE;rw[o];rfl);obtain⟨u,rfl,i,O⟩:=lV o;(have Y:(u:Int)<6:=by omega);(have s:(u:Int).toNat=u:=by omega);clear o O;(go_upto_region 3 with fail);have lb:=hf.lt;obtain⟨E,Q⟩:=hf.cRev i;obtain⟨l,v⟩:=hf.kP i (q:=0) (by omega);obtain⟨H,S⟩:=hf.kP i (q:=1) (by omega);obtain⟨I,T⟩:=hf.kP i (q:=2) (by omega);obtain⟨J,U⟩:=hf.kP i (q:=3) (by omega);simp only[ia]at l v;have g:FL w.drew b F:=hf;obtain⟨h,d⟩:∃Z:Array lN,Z=#[kZ lL,kW lD 0,kW lD 0,kW lD 0,kW lD 0,kW lD 0,kW lD 0,kW lD 0,kW lD 0,kW lD 0,kW lD 0,kW lD 0,kW lD 0,kW lD 0,kW lD 0,kW lD 0,lC ⟨#[]⟩,kW lD 0,kW lD 0,kW lD 0,kW lD 0,kW lD 0]:=⟨_,rfl⟩;(have P:∀w,(zeroValue 112).run prog w=.ok (lA h) w:=by rw[d];exact fun w=>by kernel_rfl);(have L:h.size=22:=by rw[d];rfl);obtain⟨k,f⟩:∃W,W=w.drew.setCells b (43+u*22) (uvals lL (fun _=>0) 0 0 0 (fun _=>0) ⟨#[]⟩ (F.m.ky u) (F.ks u)):=⟨_,rfl⟩;(have N:(storeCells ⟨b,43+u*22,lI⟩ (((((h.toList.set 17 (kW lD (F.m.ky u))).set 18 (kW lD (F.ks u 0))).set 19 (kW lD (F.ks u 1))).set 20 (kW lD (F.ks u 2))).set 21 (kW lD (F.ks u 3)))).run prog w.drew=.ok () k:=by rw[f,d];exact Ax (cs:=(uvals lL (fun _=>0) 0 0 0 (fun _=>0) ⟨#[]⟩ (F.m.ky u) (F.ks u))) (g.there (by show 43+u*22+22<=180;omega)) (wV _ _ _ _ _ _ _ _ _));(have A:FL k b (yq F u):=by have K:=g.putUser i lL (fun _=>0) 0 0 0 (fun _=>0) ⟨#[]⟩ (F.m.ky u) (F.ks u);unfold putU at K;rw[FJ F.m.ky u,FV F.ks u,<-f]at K;exact K);(have a:Only w.drew.heap.size b w.drew k:=by rw[f];exact ol _ _ (Only.refl _ _ _));have B:Only w.heap.size b w k:=⟨a.os,a.tape,a.output,a.size,a.block⟩;have C:=ht.drew.only g a lR;clear f d a;go_region;clear N P L E Q l v H S I T J U;(go_upto_region 4 with fail);go_wp2_with fail;refine(nT b R (yq F u) _ A (hr.dropU i) hR C).mono ?_;rintro e9 w9 ⟨rfl,G,n,p,t,r,a⟩;have z:=Ends.of (F:=F) (er:=0) B n p t r a rfl;clear n p t r a;go_wp2;go_ret;exact⟨by rw[j];rfl,by rw[j,s];exact z⟩
def auE (F:Flt)(U:Usr):Int:=if yY F.k U then(if F.ug<6 then 0 else 6)else 4
def auN (F:Flt)(U:Usr):Int:=if auE F U=0 then(F.ug:Int)else 0
variable{U:Usr}
theorem BC (h:auE F U=0):auN F U=F.ug:=by unfold auN;rw[ed h]
theorem r4 (h:auE F U=e)(he:e≠0):auN F U=0:=by unfold auN;rw[ec (by rw[h];exact he)]
theorem AddUser_any {Y:Usr}(hf:FL w b F)(hr:FWf R F)(hR:R<=999999999999990000)(ht:Tab w)(hx:Arr w 1 ao n cap (zi Y.dem)):Calls prog 129 #[kY (lJ ⟨b,0,lI⟩),lA #[kX ao n cap,kW lD Y.wt,kW lD Y.cap]] w fun e w'=>e=lF (lB #[kW lD (auN F Y),kW lD (auE F Y)])/\Ends b R F (yz F Y) (auE F Y) w w':=by
 have j:=hid hf;have Q:=hid hr;have HT:=hid ht;have HX:=hid hx;have lb:=hf.lt;have X:=hx.len;rw[j9]at X;have ax:=Q.out.k4;clear hf hr ht hx;have o:=hid (brw w);have u:=hid (i1 w #[kX ao n cap,kW lD Y.wt,kW lD Y.cap] 56);have i:Hid (Below w.heap.size w (w.alloc (lE #[kX ao n cap,kW lD Y.wt,kW lD Y.cap] 56))):=o.out.alloc o.out.size (lE #[kX ao n cap,kW lD Y.wt,kW lD Y.cap] 56);have az:w.heap.size<=w.heap.size:=o.out.size;clear o;go_enter func129,ntmps129;(go_upto_region 1 with fail);obtain⟨V,B⟩:∃V,V=(w.alloc (lE #[kX ao n cap,kW lD Y.wt,kW lD Y.cap] 56)):=⟨_,rfl⟩;rw[<-B]at u i ⊢;clear B;obtain⟨g,ad⟩:∃g,g=w.heap.size:=⟨_,rfl⟩;have hU:=u;rw[<-ad]at hU ⊢;(have ay:g≠b:=by omega);clear ad u;obtain⟨s,K,v,L⟩:=hU.out.q3 rfl;have ck:=(j.out.iP i.out).cK;have z:=(j.out.iP i.out).lt;(have SK:Hid (∀U,Below V.heap.size V U->lH U ⟨g,0,lI⟩=lJ (kX ao n cap)/\lH U ⟨g,1,lI⟩=lJ (kW lD Y.wt)/\lH U ⟨g,2,lI⟩=lJ (kW lD Y.cap)/\lH U ⟨b,0,lI⟩=lJ (kW lD F.k)):=fun U h=>⟨(h.cell (p:=⟨g,0,lI⟩) s).trans K,(h.cell (p:=⟨g,1,lI⟩) s).trans v,(h.cell (p:=⟨g,2,lI⟩) s).trans L,(h.cell (p:=⟨b,0,lI⟩) z).trans ck⟩);(have KC:Hid (∀U,Below V.heap.size V U->Calls prog 44 #[lA #[kX ao n cap,kW lD Y.wt,kW lD Y.cap],kW lD F.k] U (fun e w'=>e=lF (kZ (yY F.k Y))/\Below V.heap.size V w')):=fun U hU=>(wu ((HX.out.iP i.out).iP hU) (by unfold maxLen;omega)).mono (fun e w' ⟨h1,h3⟩=>⟨h1,hU.trans (h3.mono hU.size)⟩));have E:V.drew.cell? ⟨g,0,lI⟩=lJ (kX ao n cap):=((brw V).drew.cell (p:=⟨g,0,lI⟩) s).trans K;have H:V.drew.cell? ⟨g,1,lI⟩=lJ (kW lD Y.wt):=((brw V).drew.cell (p:=⟨g,1,lI⟩) s).trans v;have I:V.drew.cell? ⟨g,2,lI⟩=lJ (kW lD Y.cap):=((brw V).drew.cell (p:=⟨g,2,lI⟩) s).trans L;have ah:V.drew.cell? ⟨b,0,lI⟩=lJ (kW lD F.k):=((brw V).drew.cell (p:=⟨b,0,lI⟩) z).trans ck;go_region_held3 (fun w'=>lH w' ⟨g,0,lI⟩=lJ (kX ao n cap)/\lH w' ⟨g,1,lI⟩=lJ (kW lD Y.wt)/\lH w' ⟨g,2,lI⟩=lJ (kW lD Y.cap)/\lH w' ⟨b,0,lI⟩=lJ (kW lD F.k)) (first|exact SK.out _ brf.drew|exact SK.out _ q) (first|(go_at_call 44;refine(KC.out _ ?hU).mono ?_;(case hU=>exact brf.drew);rintro au d ⟨rfl,q⟩));clear SK KC E H I ah;have f:=hid (hU.out.ji q);have c:Hid (Below (w.heap.size) w d):=i.out.trans (q.mono (i.out.size));clear hU i;clear q;clear K v L s ck z
 cases hs:yY F.k Y with
 |false=>(have t:Hid (auE F Y=4):=by unfold Hid auE;rw[hs];rfl);clear hs;go_wp2;go_ret2;exact⟨by rw[r4 t.out (by decide),t.out];rfl,by rw[t.out];exact Ends.kD j.out Q.out HT.out c.out (by decide)⟩
 | true=>
  have HS:=hid hs;obtain⟨v,z1⟩:=(j.out.iP c.out).cUg;have z:=(j.out.iP c.out).lt;by_cases hg:F.ug<6
  ·(have t:Hid (auE F Y=0):=by unfold Hid auE;rw[hs];simp only[eS];rw[ed hg]);clear hs;(have aw:(F.ug:Int)<6:=by omega);(have al:¬ (F.ug:Int)≥6:=by omega);(have ak:n<=4:=by have h9:=HS.out;unfold yY at h9;simp only[eJ,eN]at h9;omega);(go_upto_region 6 with fail);clear v z1;obtain⟨s,K,v,L⟩:=f.out.q3 rfl;obtain⟨y,l⟩:∃Z:Array lN,Z=#[kZ lL,kW lD 0,kW lD 0,kW lD 0,kW lD 0,kW lD 0,kW lD 0,kW lD 0,kW lD 0,kW lD 0,kW lD 0,kW lD 0,kW lD 0,kW lD 0,kW lD 0,kW lD 0,lC ⟨#[]⟩,kW lD 0,kW lD 0,kW lD 0,kW lD 0,kW lD 0]:=⟨_,rfl⟩;(have am:∀w,(zeroValue 112).run prog w=.ok (lA y) w:=by rw[l];exact fun w=>by kernel_rfl);(have aj:y.size=22:=by rw[l];rfl);(have ai:¬ y=#[]:=by rw[l];simp);obtain⟨A9,J⟩:∃A:List lN,A=(uvals lK (zt Y.dem) Y.wt Y.cap 0 (fun _=>0) ⟨#[]⟩ 0 (fun _=>0)):=⟨_,rfl⟩;(have O:Hid (∀W:lM,W.there b (43+F.ug*22) 22->(storeCells ⟨b,43+F.ug*22,lI⟩ (((((((y.toList.set 0 (kZ lK)).set 1 (kW lD (zt Y.dem 0))).set 2 (kW lD (zt Y.dem 1))).set 3 (kW lD (zt Y.dem 2))).set 4 (kW lD (zt Y.dem 3))).set 5 (kW lD Y.wt)).set 6 (kW lD Y.cap))).run prog W=.ok () (W.setCells b (43+F.ug*22) A9)):=fun W h=>by rw[J,l];exact Ax (cs:=(uvals lK (zt Y.dem) Y.wt Y.cap 0 (fun _=>0) ⟨#[]⟩ 0 (fun _=>0))) h (wV _ _ _ _ _ _ _ _ _));have af:=hid J;clear l J;have E:d.drew.cell? ⟨g,0,lI⟩=lJ (kX ao n cap):=((brw d).drew.cell (p:=⟨g,0,lI⟩) s).trans K;have H:d.drew.cell? ⟨g,1,lI⟩=lJ (kW lD Y.wt):=((brw d).drew.cell (p:=⟨g,1,lI⟩) s).trans v;have I:d.drew.cell? ⟨g,2,lI⟩=lJ (kW lD Y.cap):=((brw d).drew.cell (p:=⟨g,2,lI⟩) s).trans L
   go_cut[] (fun wx=>Hid (FL wx b (putU F F.ug lK (zt Y.dem) Y.wt Y.cap 0 (fun _=>0) ⟨#[]⟩ 0 (fun _=>0)))/\Hid (Tab wx)/\Hid (Only w.heap.size b w wx))
   (case first=>go_region_law (first|(go_simp;go_at_call 160;refine(vG ((HX.out.iP c.out).iP (brw d).drew) ak).mono ?_;rintro ap m ⟨rfl,x⟩;have a:Below d.heap.size d m:=(brw d).drew.trans (x.mono ((brw d).drew).size);clear x;have aq:=O.out _ (((j.out.iP c.out).iP a).there (by omega));have aA:=((j.out.iP c.out).iP a).lt;have k0:=(f.out.ji a).cell 0 _ rfl;have k1:=(f.out.ji a).cell 1 _ rfl;have k2:=(f.out.ji a).cell 2 _ rfl;have aB:=(f.out.ji a).lt;go_wp2_with fail));(all_goals (try go_wp2_with fail));(all_goals go_meet);all_goals exact⟨(by unfold Hid;rw[af.out];exact((j.out.iP c.out).iP a).putUser hg lK (zt Y.dem) Y.wt Y.cap 0 (fun _=>0) ⟨#[]⟩ 0 (fun _=>0)),(((HT.out.iP c.out).iP a).only ((j.out.iP c.out).iP a) (ol A9 (43+F.ug*22) (Only.refl m.heap.size b m)) lR),((Only.jE b (c.out.trans ((a).mono c.out.size))).trans ((ol A9 (43+F.ug*22) (Only.refl m.heap.size b m)).mono (eh c.out.size (a).size)))⟩);case rest=>obtain⟨r,D,C⟩:=hcut;clear K v L s am aj ai O E H I;obtain⟨S,B⟩:∃V,V=wc:=⟨_,rfl⟩;rw[<-B]at r C D ⊢;clear B;obtain⟨v,z1⟩:=r.out.cUg;rw[show(putU F F.ug lK (zt Y.dem) Y.wt Y.cap 0 (fun _=>0) ⟨#[]⟩ 0 (fun _=>0)).ug=F.ug from rfl]at v;have an:=r.out.lt;have M:Hid (FL (lG S ⟨b,2,lI⟩ (kW lD ((F.ug:Int)+1))) b (yz F Y)):=r.out.setUg (F.ug+1);have N:=hid (C.out.setCell _ 2 (kW lD ((F.ug:Int)+1)));have P:Hid (Tab (lG S ⟨b,2,lI⟩ (kW lD ((F.ug:Int)+1)))):=D.out.only r.out ((Only.refl S.heap.size b S).setCell _ 2 (kW lD ((F.ug:Int)+1))) lR;(go_upto_region 8 with fail);obtain⟨V7,B⟩:∃V,V=(lG S ⟨b,2,lI⟩ (kW lD ((F.ug:Int)+1))):=⟨_,rfl⟩;rw[<-B]at M N P ⊢;clear B v z1 r C D an;go_wp2_with fail;refine(nT b R (yz F Y) _ M.out (Q.out.addU (by have h9:=Q.out.ky 0 (by omega);omega) hg HS.out) hR P.out).mono ?_;rintro e9 w9 ⟨rfl,G,T,ab,ae,ac,aa⟩;have ag:=hid (Ends.of (F:=F) (er:=0) N.out T ab ae ac aa rfl);clear T ab ae ac aa;go_wp2;go_ret2;exact⟨by rw[BC t.out,t.out];rfl,by rw[t.out];exact ag.out⟩
  ·(have t:Hid (auE F Y=6):=by unfold Hid auE;rw[hs];simp only[eS];rw[ec hg]);clear hs;(have al:(F.ug:Int)≥6:=by omega);go_wp2;go_ret2;exact⟨by rw[r4 t.out (by decide),t.out];rfl,by rw[t.out];exact Ends.kD j.out Q.out HT.out c.out (by decide)⟩
def zM (j:Nat):lN:=if j<3 then kW lD 0 else if j<43 then(if (j-3)%5=0 then kZ lL else kW lD 0)else if j<175 then(if (j-43)%22=0 then kZ lL else if (j-43)%22=16 then lC ⟨#[]⟩else kW lD 0)else kW lD 0
theorem El (w:lM):(zeroValue 115).run prog w=.ok (lA ((List.range 180).map zM).toArray) w:=by kernel_rfl
theorem Il (v:lN):((List.range 180).map zM).toArray.setIfInBounds 0 v=Array.ofFn (n:=180) fun i=>xV zM 0 v i.val:=by
 have e:((List.range 180).map zM).toArray=Array.ofFn (n:=180) fun i=>zM i.val:=by
  apply Array.ext
  ·simp
  ·intro i a b;simp
 rw[e];exact Bf 180 zM 0 v
def newF (k:Nat):Flt:=⟨k,0,0,fun _=>lL,fun _ _=>0,fun _=>lL,fun _ _=>0,fun _=>0,fun _=>0,⟨fun _=>0,fun _ _=>0,fun _=>0⟩,fun _=>⟨#[]⟩,fun _ _=>0,0,fun _=>0⟩
theorem Hx (k:Nat):Enc (xV zM 0 (kW lD k)) (newF k):=by
 (have a:∀u,u<6->∀t,t<22->(43+u*22+t-43)%22=t:=fun u a t ht=>by omega);refine⟨mq _ _ _,?_,?_,fun i hi=>?_,fun i hi r hr=>?_,fun v hv=>?_,fun v hv r hr=>?_,fun v hv=>?_,fun v hv=>?_,fun v hv=>?_,fun v hv m hm=>?_,fun v hv=>?_,fun v hv=>?_,fun v hv r hr=>?_,?_,fun r hr=>?_⟩
 ·rfl
 ·rfl
 ·rw[i6 _ _ (by omega)];unfold zM;rw[ec (by omega),ed (by omega),ed (by omega)];rfl
 ·rw[i6 _ _ (by omega)];unfold zM;rw[ec (by omega),ed (by omega),ec (by omega)];rfl
 ·rw[i6 _ _ (by omega)];unfold zM;rw[ec (by omega),ec (by omega),ed (by omega),ed (by omega)];rfl
 ·rw[i6 _ _ (by omega)];unfold zM;rw[ec (by omega),ec (by omega),ed (by omega),ec (by omega),ec (by omega)];rfl
 ·rw[i6 _ _ (by omega)];unfold zM;rw[ec (by omega),ec (by omega),ed (by omega),ec (by omega),ec (by omega)];rfl
 ·rw[i6 _ _ (by omega)];unfold zM;rw[ec (by omega),ec (by omega),ed (by omega),ec (by omega),ec (by omega)];rfl
 ·rw[i6 _ _ (by omega)];unfold zM;rw[ec (by omega),ec (by omega),ed (by omega),ec (by omega),ec (by omega)];rfl
 ·rw[i6 _ _ (by omega)];unfold zM;rw[ec (by omega),ec (by omega),ed (by omega),ec (by omega),ec (by omega)];rfl
 ·rw[i6 _ _ (by omega)];unfold zM;rw[ec (by omega),ec (by omega),ed (by omega),ec (by omega),ed (by omega)];rfl
 ·rw[i6 _ _ (by omega)];unfold zM;rw[ec (by omega),ec (by omega),ed (by omega),ec (by omega),ec (by omega)];rfl
 ·rw[i6 _ _ (by omega)];unfold zM;rw[ec (by omega),ec (by omega),ed (by omega),ec (by omega),ec (by omega)];rfl
 ·rfl
 ·rw[i6 _ _ (by omega)];unfold zM;rw[ec (by omega),ec (by omega),ec (by omega)];rfl
theorem GG (k u:Nat):runs (newF k).m u=0:=mH (fun _ _=>rfl)
theorem Ik (h1:1<=k)(h4:k<=4):FWf 0 (newF k):=by
 (have a:∀u,u<6->(newF k).m.kV u+runs (newF k).m u=0:=fun u _=>by rw[GG];rfl);exact⟨h1,h4,ep _,ep _,fun i _ h=>(by cases h),fun i _ h=>(by cases h),fun _ _ _ _=>⟨ik _,by show(0:Int)<=1000;omega⟩,fun _ _ _ _ _=>rfl,fun _ _ _ _ _=>rfl,fun _ _ _ _=>⟨ik _,by show(0:Int)<=10000;omega⟩,fun _ _ _ _ _=>rfl,fun i _ h=>(by cases h),fun _ _=>⟨ik _,by show(0:Int)<=100;omega⟩,fun i _ h=>(by cases h),fun _ _=>⟨ik _,by show(0:Int)<=1000;omega⟩,fun _ _ _ _=>ik _,fun _ _=>ik _,fun u hu _=>a u hu,fun _ _ _ _ _=>rfl,fun m _ r _=>Int.le_of_eq (mH (fun _ _=>rfl)),fun u hu=>(by rw[a u hu];omega),fun _ _=>⟨ik _,ik _⟩,⟨ik _,by show(0:Int)<=1000000;omega⟩,fun _ _ _ _=>⟨ik _,by show(0:Int)<=400000*0;omega⟩,fun _ _=>⟨ik _,by show(0:Int)<=8000*0;omega⟩⟩
def NewEnd (k:Int)(w w':lM)(e:Ending):Prop:=
  if xE 1 4 k then∃b,e=lF (lB #[kY (lJ ⟨b,0,lI⟩),kW lD 0])/\w.heap.size<=b/\FL w' b (newF k.toNat)/\Below w.heap.size w w'
  else e=lF (lB #[kY lI,kW lD 3])/\w'=w
theorem New_any {k:Int}:Calls prog 28 #[kW lD k] w fun e w'=>NewEnd k w w' e:=by
 go_enter func28,ntmps28;go_wp2_with fail;refine(wA).mono ?_;rintro n o ⟨rfl,g⟩;obtain rfl:=g.symm
 cases d:xE 1 4 k with
 |false=>have b:=hid d;clear d;go_wp2;go_ret2;unfold NewEnd;rw[b.out];exact⟨rfl,rfl⟩
 | true=>
  have b:=hid d;obtain⟨Z,c⟩:∃Z:Array lN,Z=((List.range 180).map zM).toArray:=⟨_,rfl⟩;(have m:∀w,(zeroValue 115).run prog w=.ok (lA Z) w:=by rw[c];exact El);(have a:Z.size=180:=by rw[c];simp);(have l:¬ Z=#[]:=fun e=>by rw[e]at a;simp at a);have j:=hid c;clear c d;go_wp2;have f:k=(k.toNat:Int):=by have h:=b.out;unfold xE at h;simp at h;omega
  have i:FL (w.alloc (lE (Z.setIfInBounds 0 (kW lD k)) 115)) w.heap.size (newF k.toNat):=by
   refine⟨xV zM 0 (kW lD k),?_,?_⟩
   ·unfold FBk;rw[heap_alloc_new,j.out,Il]
   ·rw[f];exact Hx _
  go_ret2;unfold NewEnd;rw[b.out];exact⟨_,rfl,lR,i,brf.alloc lR _⟩
end Go.Proofs.YtigokanoflkinaaGreatDoor
