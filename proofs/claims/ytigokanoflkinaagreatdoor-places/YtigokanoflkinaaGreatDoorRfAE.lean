/- RfA, RfB, RfC, RfD, RfE, joined. -/
import Derived.Test.YtigokanoflkinaaGreatDoorFlWY
set_option maxHeartbeats 8000000
set_option maxRecDepth 20000
namespace Go.Proofs.YtigokanoflkinaaGreatDoor
set_option linter.unusedSimpArgs false
set_option linter.unusedVariables false
open Go.RowKit Por Go.Proofs.Tryz
open Value renaming int->kW,slice->kX,pointer->kY,bool->kZ,string->lC
open IntKind renaming i64->lD
open Obj renaming cells->lE
open Ending renaming returned->lF
open World renaming setCell->lG,cell?->lH
open Option renaming none->lI,some->lJ
open Bool renaming true->lK,false->lL
open Go renaming World->lM,Value->lN
structure RfO (F:Flt):Prop where
  k1:1<=F.k
  k4:F.k<=4
  mg:F.mg<=8
  ug:F.ug<=6
  mt:∀i,i<8->F.mt i=lK->i<F.mg
  ut:∀u,u<6->F.ut u=lK->u<F.ug
  ms:∀i,i<8->∀r,r<4->0<=F.ms i r/\F.ms i r<=1000
  msz:∀i,i<8->F.mt i=lL->∀r,r<4->F.ms i r=0
  msk:∀i,i<8->∀r,r<4->F.k<=r->F.ms i r=0
  ud:∀u,u<6->∀r,r<4->0<=F.ud u r/\F.ud u r<=10000
  udk:∀u,u<6->∀r,r<4->F.k<=r->F.ud u r=0
  uw:∀u,u<6->0<=F.uw u/\F.uw u<=100
  on:∀u,u<6->∀m,m<8->0<=F.m.on u m
  tot:∀u,u<6->runs F.m u<=40
  none:∀u,u<6->F.ut u=lL->∀m,m<8->F.m.on u m=0
  gone:∀m,m<8->F.mt m=lL->∀u,u<6->F.m.on u m=0
  kw:∀m,m<8->∀r,r<4->Por.sumI (fun u=>F.ud u r*F.m.on u m) 6<=F.ms m r
  want:∀u,u<6->F.ut u=lK->∃r,r<F.k/\0<F.ud u r
  uw1:∀u,u<6->F.ut u=lK->1<=F.uw u
variable{F:Flt}
theorem FWf.rfo {R:Int} (h:FWf R F):RfO F:=
  ⟨h.k1,h.k4,h.mg,h.ug,h.mt,h.ut,h.ms,h.msz,h.msk,h.ud,h.udk,h.uw,h.on,fun u hu=>by have:=h.tot u hu;have:=h.kV u hu;omega,fun u hu ht m hm=>by
    have h1:=h.none u hu ht
    have h2:=h.kV u hu
    have h3:=h.runs0 hu
    have h4:=l8 (f:=F.m.on u) (n:=8) (fun j hj=>h.on u hu j hj) hm
    have h5:=h.on u hu m hm
    unfold runs at h1 h3
    omega,h.gone,h.kw,h.want,h.uw1⟩
variable{u m:Nat}
theorem RfO.on40 (h:RfO F)(hu:u<6)(hm:m<8):0<=F.m.on u m/\F.m.on u m<=40:=by
 have a:=l8 (f:=F.m.on u) (n:=8) (fun j hj=>h.on u hu j hj) hm;have b:=h.tot u hu;exact⟨h.on u hu m hm,Int.le_trans a b⟩
theorem RfO.sm (h:RfO F):FSm F:=⟨h.ms,h.ud,fun u hu m hm=>h.on40 hu hm⟩
variable{n:Nat}{f:Nat->Int}
theorem qh:∀ {k:Nat},n<=k->(∀i,n<=i->i<k->f i=0)->Por.sumI f k=Por.sumI f n:=by
 intro k
 induction k with
 |zero=>intro h _;rw[show n=0 by omega]
 |succ k ih=>
  intro h a;by_cases e:n=k+1
  ·rw[e]
  ·show Por.sumI f k+f k=_;rw[ih (by omega) (fun i h1 h2=>a i h1 (by omega)),a k (by omega) (by omega),Int.add_zero]
theorem RfO.runs_mg (h:RfO F) (hu:u<6):runs F.m u=Por.sumI (F.m.on u) F.mg:=qh h.mg (fun i h1 h2=>by
  have:F.mt i=lL:=by
    cases e:F.mt i with
    |false=>rfl
    |true=>have:=h.mt i h2 e;omega
  exact h.gone i h2 this u hu)
theorem RfO.gut (h:RfO F)(h1:F.ug<=u)(h2:u<6):F.ut u=lL:=by
 cases e:F.ut u with
 |false=>rfl
 |true=>have:=h.ut u h2 e;omega
variable{k:Nat}
theorem RfO.part (h:RfO F)(hu:u<6)(hk:k<=8):0<=Por.sumI (F.m.on u) k/\Por.sumI (F.m.on u) k<=320:=by
 refine⟨JQ (fun i hi=>h.on u hu i (by omega)),?_⟩;have:=mD (f:=F.m.on u) (n:=k) (B:=40) (fun i hi=>(h.on40 hu (by omega)).2);omega
def rmP (F:Flt)(m r k:Nat):Int:=F.ms m r-Por.sumI (fun v=>F.ud v r*F.m.on v m) k
variable{r:Nat}
theorem RfO.rm (h:RfO F) (hm:m<8) (hr:r<4):∀k:Nat,k<=6->-(400000*(k:Int))<=rmP F m r k/\rmP F m r k<=1000:=fun k=>by
 induction k with
 |zero=>intro _;have:=h.ms m hm r hr;show _<=F.ms m r-0/\F.ms m r-0<=_;omega
 |succ k ih=>
  intro hk
  have h1:=ih (by omega)
  have h2:=h.ud k (by omega) r hr
  have h3:=h.on40 (u:=k) (m:=m) (by omega) hm
  have h4:=il h2.1 h3.1
  have h5:=jh h2.2 h3.2 h3.1 (by decide)
  have e:rmP F m r (k+1)=rmP F m r k-F.ud k r*F.m.on k m:=by unfold rmP;simp only[Por.sumI];omega
  rw[e];omega
theorem RfO.rm_ug (h:RfO F)(hm:m<8):rmP F m r 6=rmP F m r F.ug:=by
 unfold rmP;rw[qh h.ug (fun i h1 h2=>by rw[h.none i h2 (h.gut h1 h2) m hm,jK])]
theorem RfO.hasM_eq (h:RfO F)(hm:m<F.mg):yl F (m:Int)=F.mt m:=by
 have:=h.mg;unfold yl;rw[ei (show(0:Int)<=(m:Int) by omega),ei (show((m:Nat):Int)<8 by omega)];rfl
theorem RfO.hasM_far (h:RfO F)(hm:¬ m<F.mg):yl F (m:Int)=lL:=by
 unfold yl;by_cases a:m<8
 ·rw[show F.mt (m:Int).toNat=lL from by
   cases e:F.mt m with
   |false=>exact e
   |true=>exact absurd (h.mt m a e) hm];simp
 ·rw[ee (show¬ ((m:Nat):Int)<8 by omega)];simp
theorem RfO.hasU_eq (h:RfO F)(hm:m<F.ug):yH F (m:Int)=F.ut m:=by
 have:=h.ug;unfold yH;rw[ei (show(0:Int)<=(m:Int) by omega),ei (show((m:Nat):Int)<6 by omega)];rfl
theorem RfO.hasU_far (h:RfO F)(hm:¬ m<F.ug):yH F (m:Int)=lL:=by
 unfold yH;by_cases a:m<6
 ·rw[show F.ut (m:Int).toNat=lL from h.gut (by omega) a];simp
 ·rw[ee (show¬ ((m:Nat):Int)<6 by omega)];simp
variable{x:Int}
theorem uO (F:Flt)(h:x<0):yl F x=lL/\yH F x=lL/\xB F x=lL:=by
 unfold yl yH xB;rw[ee (show¬ 0<=x by omega)];exact⟨rfl,rfl,rfl⟩
def CellsF (w:lM)(ao:Option Addr)(n:Nat)(f:Nat->lN):Prop:=∀i,i<n->∃g o,ao=lJ ⟨g,o,lI⟩/\g<w.heap.size/\lH w ⟨g,o+i,lI⟩=lJ (f i)
variable{w':lM}
theorem CellsF.iP {w:lM} {ao:Option Addr} {f:Nat->lN} (h:CellsF w ao n f) (hb:Below w.heap.size w w'):CellsF w' ao n f:=fun i hi=>by
  obtain⟨g,o,h1,h2,h3⟩:=h i hi
  exact⟨g,o,h1,ez h2 hb.size,(hb.cell (p:=⟨g,_,lI⟩) h2).trans h3⟩
structure RfV (w:lM)(b:Nat)(F:Flt)(so:Option Addr)(sc:Nat)(uo:Option Addr)(uc:Nat)(ho:Option Addr)(hc:Nat)(ro:Option Addr)(rc:Nat):Prop where
  lt:b<w.heap.size
  k:lH w ⟨b,0,lI⟩=lJ (kW lD F.k)
  sz:lH w ⟨b,1,lI⟩=lJ (kX so F.mg sc)
  us:lH w ⟨b,2,lI⟩=lJ (kX uo F.ug uc)
  he:lH w ⟨b,3,lI⟩=lJ (kX ho F.ug hc)
  rn:lH w ⟨b,5,lI⟩=lJ (kX ro F.ug rc)
  up:∀m,m<F.mg->F.mt m=lK->∃g o d e dc,so=lJ ⟨g,o,lI⟩/\g<w.heap.size/\lH w ⟨g,o+m,lI⟩=lJ (kX (lJ ⟨d,e,lI⟩) F.k dc)/\d<w.heap.size/\∀r,r<F.k->lH w ⟨d,e+r,lI⟩=lJ (kW lD (F.ms m r))
  down:∀m,m<F.mg->F.mt m=lL->∃g o,so=lJ ⟨g,o,lI⟩/\g<w.heap.size/\lH w ⟨g,o+m,lI⟩=lJ (kX lI 0 0)
  kt:CellsF w ho F.ug (fun u=>kZ (F.ut u))
  user:∀u,u<F.ug->∃g o d e dc wt cp,uo=lJ ⟨g,o,lI⟩/\g<w.heap.size/\lH w ⟨g,o+u*3,lI⟩=lJ (kX (lJ ⟨d,e,lI⟩) F.k dc)/\F.k<=dc/\dc<=maxLen/\d<w.heap.size/\(∀r,r<F.k->∃x,lH w ⟨d,e+r,lI⟩=lJ (kW lD x)/\0<=x/\x<=10000/\(F.ut u=lK->x=F.ud u r))/\lH w ⟨g,o+u*3+1,lI⟩=lJ (kW lD wt)/\lH w ⟨g,o+u*3+2,lI⟩=lJ (kW lD cp)/\(F.ut u=lK->wt=F.uw u/\cp=F.uc u)
  row:∀u,u<F.ug->∃g o a dc,ro=lJ ⟨g,o,lI⟩/\g<w.heap.size/\lH w ⟨g,o+u,lI⟩=lJ (kX a F.mg dc)/\CellsF w a F.mg (fun m=>kW lD (F.m.on u m))
variable{b sc uc hc rc:Nat}{so uo ho ro:Option Addr}
theorem RfV.iP {w:lM}(h:RfV w b F so sc uo uc ho hc ro rc)(hb:Below w.heap.size w w'):RfV w' b F so sc uo uc ho hc ro rc:=by
 (have l:∀ {g:Nat},g<w.heap.size->g<w'.heap.size:=fun h=>jl hb h);(have f:∀ {g o:Nat} {v:lN},g<w.heap.size->lH w ⟨g,o,lI⟩=lJ v->lH w' ⟨g,o,lI⟩=lJ v:=fun i c=>(qs hb c i));refine⟨l h.lt,f h.lt h.k,f h.lt h.sz,f h.lt h.us,f h.lt h.he,f h.lt h.rn,fun m hm ht=>?_,fun m hm ht=>?_,h.kt.iP hb,fun u hu=>?_,fun u hu=>?_⟩
 ·obtain⟨g,o,d,e,q,i,c,j,n,t⟩:=h.up m hm ht;exact⟨g,o,d,e,q,i,l c,f c j,l n,fun r hr=>f n (t r hr)⟩
 ·obtain⟨g,o,i,c,j⟩:=h.down m hm ht;exact⟨g,o,i,l c,f c j⟩
 ·obtain⟨g,o,d,e,q,D,z,i,c,j,n,t,y,A,B,C,s⟩:=h.user u hu;exact⟨g,o,d,e,q,D,z,i,l c,f c j,n,t,l y,fun r hr=>(by obtain⟨x,E,G⟩:=A r hr;exact⟨x,f y E,G⟩),f c B,f c C,s⟩
 ·obtain⟨g,o,a,q,i,c,j,n⟩:=h.row u hu;exact⟨g,o,a,q,i,l c,f c j,n.iP hb⟩
def RfW (w:lM)(b:Nat)(F:Flt):Prop:=∃so sc uo uc ho hc ro rc,RfV w b F so sc uo uc ho hc ro rc
theorem RfW.iP {w:lM}(h:RfW w b F)(hb:Below w.heap.size w w'):RfW w' b F:=by
 obtain⟨g,f,j,i,c,a,e,d,h⟩:=h;exact⟨g,f,j,i,c,a,e,d,h.iP hb⟩
theorem RfV.w {w:lM}(h:RfV w b F so sc uo uc ho hc ro rc):RfW w b F:=⟨so,sc,uo,uc,ho,hc,ro,rc,h⟩
theorem sE {w:lM}(hv:RfW w b F)(hw:RfO F):Calls prog 133 #[kY (lJ ⟨b,0,lI⟩),kW lD x] w fun e w'=>e=lF (kZ (yl F x))/\w'=w:=by
 obtain⟨K,J,M,L,E,C,I,H,hv⟩:=hv;have G:=hv.lt;go_enter func133,ntmps133;by_cases p:x<0
 ·have a:Hid (yl F x=lL):=(uO F p).1;have z:decide ((0:Int)<=x)=lL:=ee (by omega);(have A:¬ (0:Int)<=x:=by omega);go_wp2;go_ret;exact⟨by rw[a.out];rfl,rfl⟩
 ·obtain⟨u,rfl⟩:∃u:Nat,x=(u:Int):=⟨x.toNat,by omega⟩;have r:=hw.mg;have s:=hw.ug;have t:=hv.sz;have v:=hv.us;have y:=hv.he;by_cases h:u<F.mg
  ·(have l:(u:Int)<(F.mg:Int):=by omega);have a:=hid (hw.hasM_eq h)
   cases i:F.mt u with
   |true=>obtain⟨g,o,d,e,n,rfl,q,m,D,_⟩:=hv.up u h i;(have j:∀w,(binOp .neq 22 (kX (lJ ⟨d,e,lI⟩) F.k n) (kX lI 0 0)).run prog w=.ok (kZ lK) w:=fun w=>run_neq_slice_nil_any w 22 3 _ _ _ 0 0 eR);rw[i]at a;go_wp2;go_ret;exact⟨by rw[a.out];rfl,rfl⟩
   |false=>obtain⟨g,o,rfl,q,m⟩:=hv.down u h i;(have j:∀w,(binOp .neq 22 (kX lI 0 0) (kX lI 0 0)).run prog w=.ok (kZ lL) w:=fun w=>run_neq_slice_nil_any w 22 3 _ _ _ 0 0 eR);rw[i]at a;go_wp2;go_ret;exact⟨by rw[a.out];rfl,rfl⟩
  ·(have l:¬ (u:Int)<(F.mg:Int):=by omega);have B:=ee l;have a:=hid (hw.hasM_far h);go_wp2;go_ret;exact⟨by rw[a.out];rfl,rfl⟩
theorem nV {w:lM}(hv:RfW w b F)(hw:RfO F):Calls prog 136 #[kY (lJ ⟨b,0,lI⟩),kW lD x] w fun e w'=>e=lF (kZ (yH F x))/\w'=w:=by
 obtain⟨D,C,G,E,y,t,B,A,hv⟩:=hv;have z:=hv.lt;go_enter func136,ntmps136;by_cases i:x<0
 ·have a:Hid (yH F x=lL):=(uO F i).2.1;have q:decide ((0:Int)<=x)=lL:=ee (by omega);(have r:¬ (0:Int)<=x:=by omega);go_wp2;go_ret;exact⟨by rw[a.out];rfl,rfl⟩
 ·obtain⟨u,rfl⟩:∃u:Nat,x=(u:Int):=⟨x.toNat,by omega⟩;have j:=hw.mg;have k:=hw.ug;have l:=hv.sz;have m:=hv.us;have n:=hv.he;by_cases f:u<F.ug
  ·(have h:(u:Int)<(F.ug:Int):=by omega);have a:=hid (hw.hasU_eq f);obtain⟨g,o,rfl,v,p⟩:=hv.kt u f;go_wp2;go_ret;exact⟨by rw[a.out];rfl,rfl⟩
  ·(have h:¬ (u:Int)<(F.ug:Int):=by omega);have s:=ee h;have a:=hid (hw.hasU_far f);go_wp2;go_ret;exact⟨by rw[a.out];rfl,rfl⟩
theorem wN {w:lM}(hv:RfW w b F)(hw:RfO F):Calls prog 157 #[kY (lJ ⟨b,0,lI⟩),kW lD x] w fun e w'=>e=lF (kZ (xB F x))/\w'=w:=by
 obtain⟨z,y,B,A,r,q,v,t,hv⟩:=hv;have s:=hv.lt;go_enter func157,ntmps157;by_cases g:x<0
 ·have a:Hid (xB F x=lL):=(uO F g).2.2;have m:decide ((0:Int)<=x)=lL:=ee (by omega);(have n:¬ (0:Int)<=x:=by omega);go_wp2;go_ret;exact⟨by rw[a.out];rfl,rfl⟩
 ·obtain⟨u,rfl⟩:∃u:Nat,x=(u:Int):=⟨x.toNat,by omega⟩;have h:=hw.mg;have i:=hw.ug;have j:=hv.sz;have k:=hv.us;have l:=hv.he;by_cases p:u<F.ug
  ·(have c:(u:Int)<(F.ug:Int):=by omega);(have a:Hid (xB F (u:Int)=lK):=by unfold Hid xB;rw[ei c];simp);go_wp2;go_ret;exact⟨by rw[a.out];rfl,rfl⟩
  ·(have c:¬ (u:Int)<(F.ug:Int):=by omega);have o:=ee c;(have a:Hid (xB F (u:Int)=lL):=by unfold Hid xB;rw[ee c];simp);go_wp2;go_ret;exact⟨by rw[a.out];rfl,rfl⟩
theorem nO {w:lM}(hv:RfW w b F)(hw:RfO F)(hu:u<F.ug):Calls prog 138 #[kY (lJ ⟨b,0,lI⟩),kW lD u] w fun e w'=>e=lF (kW lD (runs F.m u))/\w'=w:=by
 obtain⟨N,M,P,O,E,B,L,K,hv⟩:=hv;have G:=hv.lt;have r:=hw.mg;have s:=hw.ug;(have t:(u:Int)<(F.ug:Int):=by omega);go_enter func138,ntmps138;go_wp2
 go_loopg[5,6] F.mg (fun gg s5 ix wr=>∃k:Nat,gg=F.mg-k/\k<=F.mg/\ix=kW lD k/\s5=kW lD (Por.sumI (F.m.on u) k)/\wr=w)
 case atStart=>exact⟨0,rfl,ep _,rfl,rfl,rfl⟩
 case round=>
  obtain⟨k,q,D,rfl,rfl,i⟩:=hrel;subst i;have v:=hv.sz;by_cases h:k<F.mg
  ·(have f:(k:Int)<(F.mg:Int):=by omega);have x:=hv.rn;obtain⟨g,o,a,z,rfl,C,y,j⟩:=hv.row u hu;obtain⟨A,H,rfl,p,n⟩:=j k h;dsimp only at n;clear j;have I:=hw.part (u:=u) (k:=k) (by omega) (by omega);have J:=hw.on40 (u:=u) (m:=k) (by omega) (by omega);go_wp2;go_roundg (F.mg-(k+1));exact⟨k+1,rfl,by omega,by go_num,rfl,rfl⟩;omega
  ·(obtain rfl:k=F.mg:=by omega);(have f:¬ (F.mg:Int)<(F.mg:Int):=by omega);have l:=hid (hw.runs_mg (u:=u) (by omega));go_wp2;go_ret;exact⟨by rw[l.out];(first|done|rfl),rfl⟩
theorem Ar {w:lM}(hv:RfW w b F)(hw:RfO F)(hm:m<F.mg)(hmt:F.mt m=lK)(hr:r<F.k):Calls prog 207 #[kY (lJ ⟨b,0,lI⟩),kW lD m,kW lD r] w fun e w'=>e=lF (kW lD (rmP F m r 6))/\Below w.heap.size w w':=by
 obtain⟨so,sc,uo,uc,ho,hc,ro,rc,hv⟩:=hv;have lb:=hv.lt;have c:=hid hw;clear hw;have S:=c.mg;have V:=c.ug;have R:=c.k4;(have T:(m:Int)<(F.mg:Int):=by omega);(have U:(r:Int)<(F.k:Int):=by omega);go_enter func207,ntmps207;have H:=hv.sz;obtain⟨g,o,d,e,dc,rfl,hg,z,hd,p⟩:=hv.up m hm hmt;have q:=p r hr;clear p;go_wp2;clear H z q
 go_loopg[7,8] F.ug (fun gg s7 ix wr=>∃k:Nat,gg=F.ug-k/\k<=F.ug/\ix=kW lD k/\s7=kW lD (rmP F m r k)/\Hid (Bl w wr))
 case atStart=>exact⟨0,rfl,ep _,rfl,by show _=Value.int lD (F.ms m r-0);rw[Int.sub_zero],eB _ _⟩
 case round=>
  obtain⟨k,Q,hk,rfl,rfl,j⟩:=hrel;have a:=hv.iP j;have W:=a.lt;have Y:=a.us;by_cases f:k<F.ug
  ·(have s:(k:Int)<(F.ug:Int):=by omega);have z:=a.rn;obtain ⟨g1,o1,X,I,rfl,M,p,A⟩:=a.row k f;obtain ⟨g2,o2,rfl,N,q⟩:=A m hm;dsimp only at q;obtain ⟨g3,o3,d3,e3,J,wt,cp,rfl,O,Z,_,_,L,B,_⟩:=a.user k f;obtain ⟨x,c9,h,t,i⟩:=B r hr;clear A B;have E:=c.on40 (u:=k) (m:=m) (by omega) (by omega);have q2:=c.rm (m:=m) (r:=r) (by omega) (by omega) k (by omega)
   have y:Hid (rmP F m r (k+1)=rmP F m r k-F.m.on k m*x):=by
    unfold Hid rmP;show F.ms m r-(Por.sumI (fun v=>F.ud v r*F.m.on v m) k+F.ud k r*F.m.on k m)=_
    cases D:F.ut k with
    |true=>rw[i D,jL (F.m.on k m)];omega
    |false=>rw[c.out.none k (by omega) D m (by omega),jK,jC];omega
   obtain⟨P,C⟩:∃P,F.m.on k m*x=P:=⟨_,rfl⟩;(have K:0<=P/\P<=400000:=by rw[<-C];exact⟨il E.1 h,jh E.2 t h (by decide)⟩);rw[C]at y;clear i;(go_upto_region 5 with fail);go_quiet (fail);have n:=j.trans ((eY (brw wr) nq).mono j.size);go_wp2;go_roundg (F.ug-(k+1));exact⟨k+1,rfl,by omega,by go_num,by rw[y.out],n⟩;omega
  ·(obtain rfl:k=F.ug:=by omega);(have s:¬ (F.ug:Int)<(F.ug:Int):=by omega);have G:=hid (c.rm_ug (m:=m) (r:=r) (by omega));go_wp2;go_ret;exact⟨by rw[G.out];(first|done|rfl),j⟩
def Apart (a c:lN):Prop:=∀g,a.ownBlock=lJ g->c.ownBlock≠lJ g
theorem Apart.symm {a c:lN}(h:Apart a c):Apart c a:=fun g hg h2=>h g h2 hg
theorem mI (w:lM) (g o:Nat) (v:lN):w.grownBy (lG w ⟨g,o,lI⟩ v) (lJ g):=
  have h:=Only.setCell w.heap.size (Only.refl w.heap.size g w) o v
  ⟨h.os,h.tape,h.output,h.size,fun k hk hne=>h.block k hk (fun e=>hne (by rw[e]))⟩
variable{base T size:Nat}{xs:List lN}{row:Option Nat}
theorem oC {w:lM} {v:lN} (h:w.ownsRow base T size v n xs) (hg:w.grownBy w' row) (hne:∀k,v.ownBlock=lJ k->row≠lJ k):w'.ownsRow base T size v n xs:=
  World.ownsRow.kept h hg (by
    cases e:v.ownBlock with
    |none=>exact .inl rfl
    |some k=>exact .inr (fun h5=>hne k e h5.symm))
variable{cs:Array lN}
theorem nF {w:lM}{T:TypeId}(h:Bx w b cs T)(hg:w.grownBy w' row)(hne:row≠lJ b):Bx w' b cs T:=(hg.block b h.lt (fun e=>hne e.symm)).trans h
theorem p6 {w:lM}{v:lN}(h:w.ownsRow base T size v n xs)(hk:v.ownBlock=lJ k):base<=k/\∃cur,w.heap[k]?=lJ (lE cur T (0,0)):=by
 rcases h.2 with⟨rfl,_⟩|⟨g,a,cur,rfl,b,c,_⟩
 ·cases hk
 ·have:g=k:=iE hk;subst this;exact⟨b,cur,c⟩
theorem mC {w:lM} {v:lN} {T':TypeId} (h1:w.ownsRow base T size v n xs) (hx:Bx w b cs T') (hT:T≠T'):v.ownBlock≠lJ b:=fun hg=>by
  obtain⟨_,c1,e1⟩:=p6 h1 hg
  have e2:w.heap[b]?=lJ (lE cs T' (0,0)):=hx
  rw[e1]at e2;injection e2 with e3;injection e3 with e4 e5;exact hT e5
variable{g i cap:Nat}
theorem BS {w:lM}(h:w.ownsRow base T size (kX (lJ ⟨g,0,lI⟩) n cap) n xs)(x:lN):(lG w ⟨g,i,lI⟩ x).ownsRow base T size (kX (lJ ⟨g,0,lI⟩) n cap) n (xs.set i x):=by
 refine⟨by rw[jr];exact h.1,?_⟩;rcases h.2 with⟨c,_⟩|⟨q,d,b,c,f,j,k,l,m,o⟩
 ·cases c
 ·(injection c with a p e);(injection a with a);(injection a with a);subst a;subst e;refine .inr ⟨g,cap,b.setIfInBounds i x,rfl,f,?_,k,l,by rw[Array.size_setIfInBounds];exact m,?_⟩
  ·exact eP w g i _ _ x j
  ·rw[Array.toList_setIfInBounds,List.take_set,o]
theorem lS {w:lM}{v:lN}(h:w.ownsRow base T size v n xs)(hi:i<n*size):∃g cap,v=kX (lJ ⟨g,0,lI⟩) n cap/\base<=g/\g<w.heap.size/\lH w ⟨g,0+i,lI⟩=xs[i]?/\w.frozen? ⟨g,0+i,lI⟩=lL:=by
 rcases h.2 with⟨rfl,c⟩|⟨g,cap,b,rfl,d,a,f,j,k,e⟩
 ·subst c;omega
 ·refine⟨g,cap,rfl,d,(ek.1 a).1,?_,?_⟩
  ·rw[eC,hH w g i _ _ _ a,<-eI,<-e,eH,ed hi]
  ·rw[eC];exact jg w g i _ _ a
theorem sU {w:lM}{v:lN}(h:w.ownsRow base T size v n xs):∃so sc,v=kX so n sc/\n<=sc/\sc<=maxLen/\(∀(i:Nat) (x:lN),xs[i]?=lJ x->∃g o,so=lJ ⟨g,o,lI⟩/\g<w.heap.size/\lH w ⟨g,o+i,lI⟩=lJ x):=by
 rcases h.2 with⟨rfl,d⟩|⟨g,b,c,rfl,l,a,e,f,m,j⟩
 ·subst d;have:xs=[]:=iY (by simpa using h.1);subst this;exact⟨lI,0,rfl,lR,ep _,fun i x hx=>by simp at hx⟩
 ·refine⟨_,_,rfl,e,f,fun i x hx=>⟨g,0,rfl,(ek.1 a).1,?_⟩⟩;(have k:i<n*size:=by have:=(eA.1 hx).1;have:=h.1;omega);rw[eC,hH w g i _ _ _ a,<-eI];rw[<-j,eH,ed k]at hx;exact hx
theorem nR {a c:Option Addr}{l:Nat}(h:Value.slice a n k=Value.slice c m l):a=c/\n=m/\k=l:=by injection h with b d e;exact⟨b,d,e⟩
variable{l:List Int}
theorem qv (h:l[r]?=lJ x):lm l r=x:=by unfold lm;rw[ej,h];rfl
theorem Blk.li {w:lM} {xs:List Int} (h:Blk w g xs) (hb:base<=g) (hm:xs.length<=maxLen):Li base w (kX (lJ ⟨g,0,lI⟩) xs.length xs.length) xs:=
  ⟨by simp,.inr ⟨g,xs.length,_,rfl,hb,h,lR,hm,by simp,by simp;rw[ew (by simp)]⟩⟩
theorem Li.put {w:lM}(h:Li base w (kX (lJ ⟨g,0,lI⟩) n cap) l)(hn:n=l.length)(x:Int):Li base (lG w ⟨g,i,lI⟩ (kW lD x)) (kX (lJ ⟨g,0,lI⟩) n cap) (l.set i x):=by
 subst hn;unfold Li;rw[jr,List.map_set];exact BS h _
inductive Tb where
  |size|kr|kt|kV|run|due|off|ks|ku
  |szr (m:Nat)|dem (u:Nat)|rnr (u:Nat)|usr (u:Nat)
  deriving DecidableEq
def Tb.ty:Tb->TypeId
  |.size=>22
  |.kr=>56
  |.kt=>4
  |.run=>22
  |.due=>9
  |.ks=>22
  |_=>3
def Tb.sz:Tb->Nat
  |.kr=>3
  |_=>1
def zF {α:Type}(f:Tb->α)(t:Tb)(x:α):Tb->α:=fun s=>if s=t then x else f s
theorem jR {α:Type}(f:Tb->α)(t:Tb)(x:α):zF f t x t=x:=ed rfl
theorem j7 {α:Type}(f:Tb->α){s t:Tb}(x:α)(h:s≠t):zF f t x s=f s:=ec h
structure Tbs (base:Nat)(w:lM)(dom:Tb->Prop)(val:Tb->lN)(n:Tb->Nat)(xs:Tb->List lN):Prop where
  own:∀t,dom t->w.ownsRow base t.ty t.sz (val t) (n t) (xs t)
  kB:∀t s,dom t->dom s->t≠s->Apart (val t) (val s)
section
variable{base:Nat} {w w':lM} {dom:Tb->Prop} {val:Tb->lN} {n:Tb->Nat} {xs:Tb->List lN}
theorem Tbs.iP (h:Tbs base w dom val n xs)(hb:Below w.heap.size w w'):Tbs base w' dom val n xs:=⟨fun t ht=>JO (h.own t ht) hb,h.kB⟩
theorem Tbs.sub (h:Tbs base w dom val n xs){dom':Tb->Prop}(hd:∀t,dom' t->dom t):Tbs base w dom' val n xs:=⟨fun t ht=>h.own t (hd t ht),fun t s ht hs hne=>h.kB t s (hd t ht) (hd s hs) hne⟩
theorem Tbs.box (h:Tbs base w dom val n xs) {row:Option Nat} (hg:w.grownBy w' row) (hr:∀t,dom t->(val t).ownBlock=row->row=lI):Tbs base w' dom val n xs:=
  ⟨fun t ht=>oC (h.own t ht) hg (fun k hk e=>by have:=hr t ht (hk.trans e.symm);rw[this]at e;cases e),h.kB⟩
theorem Tbs.set (h:Tbs base w dom val n xs){t:Tb}(ht:dom t){g c:Nat}(hv:val t=kX (lJ ⟨g,0,lI⟩) (n t) c)(i:Nat)(x:lN):Tbs base (lG w ⟨g,i,lI⟩ x) dom val n (zF xs t ((xs t).set i x)):=by
 refine⟨fun s hs=>?_,h.kB⟩;by_cases e:s=t
 ·subst e;rw[jR];have a:=h.own s hs;rw[hv]at a ⊢;exact BS a x
 ·rw[j7 _ _ e];exact oC (h.own s hs) (mI w g i x) (fun k hk e2=>h.kB s t hs ht e k hk (by rw[hv];exact e2))
theorem Tbs.app (h:Tbs base w dom val n xs){t:Tb}(ht:dom t){v':lN}{ys:List lN}{m:Nat}(g1:w'.ownsRow base t.ty t.sz v' (n t+m) (xs t++ys))(hg:w.grownBy w' (val t).ownBlock)(ha:v'.ownBlock=(val t).ownBlock\/v'.ownBlock=lJ w.heap.size):Tbs base w' dom (zF val t v') (zF n t (n t+m)) (zF xs t (xs t++ys)):=by
 have b:∀s,dom s->s≠t->Apart v' (val s):=fun s hs e g hg1 hg2=>by
  rcases ha with c|c
  ·exact h.kB t s ht hs (fun x=>e x.symm) g (by rw[<-c];exact hg1) hg2
  ·rw[c]at hg1;injection hg1 with a;have:=(jN (h.own s hs) g hg2).2;omega
 refine⟨fun s hs=>?_,fun s r hs hr hne=>?_⟩
 ·by_cases e:s=t
  ·subst e;rw[jR,jR,jR];exact g1
  ·rw[j7 _ _ e,j7 _ _ e,j7 _ _ e];exact oC (h.own s hs) hg (fun k hk a=>h.kB t s ht hs (fun x=>e x.symm) k a hk)
 ·by_cases e:s=t
  ·subst e;rw[jR,j7 _ _ (fun x=>hne x.symm)];exact b r hr (fun x=>hne x.symm)
  ·by_cases a:r=t
   ·subst a;rw[jR,j7 _ _ e];exact(b s hs e).symm
   ·rw[j7 _ _ e,j7 _ _ a];exact h.kB s r hs hr hne
theorem Tbs.new (h:Tbs base w dom val n xs)(hb:Below w.heap.size w w')(hB:base<=w.heap.size)(t:Tb){v:lN}{m:Nat}{ys:List lN}(g1:w'.ownsRow w.heap.size t.ty t.sz v m ys):Tbs base w' (fun s=>s=t\/dom s) (zF val t v) (zF n t m) (zF xs t ys):=by
 (have a:∀s,dom s->s≠t->Apart v (val s):=fun s hs e g hg1 hg2=>by have b:=(p6 g1 hg1).1;have i:=(jN (h.own s hs) g hg2).2;omega);refine⟨fun s hs=>?_,fun s r hs hr hne=>?_⟩
 ·by_cases e:s=t
  ·subst e;rw[jR,jR,jR];refine⟨g1.1,?_⟩;rcases g1.2 with b|⟨g,c,d,b,i,j⟩
   ·exact .inl b
   ·exact .inr ⟨g,c,d,b,eh hB i,j⟩
  ·rw[j7 _ _ e,j7 _ _ e,j7 _ _ e];exact JO (h.own s (hs.resolve_left e)) hb
 ·by_cases e:s=t
  ·subst e;rw[jR,j7 _ _ (fun x=>hne x.symm)];exact a r (hr.resolve_left (fun x=>hne x.symm)) (fun x=>hne x.symm)
  ·by_cases f:r=t
   ·subst f;rw[jR,j7 _ _ e];exact(a s (hs.resolve_left e) e).symm
   ·rw[j7 _ _ e,j7 _ _ f];exact h.kB s r (hs.resolve_left e) (hr.resolve_left f) hne
end
structure Old where
  dm:Nat->Nat->Int
  wt:Nat->Int
  cp:Nat->Int
  du:Nat->ByteArray
abbrev ni (n:Nat)(f:Nat->Int):List lN:=(List.range n).map fun i=>kW lD (f i)
def zJ (F:Flt)(val:Tb->lN)(o:Old):Tb->List lN
  |.size=>(List.range F.mg).map fun m=>if F.mt m then val (.szr m)else kX lI 0 0
  |.kr=>(List.range F.ug).flatMap fun u=>[val (.dem u),kW lD (o.wt u),kW lD (o.cp u)]
  |.kt=>(List.range F.ug).map fun u=>kZ (F.ut u)
  |.kV=>ni F.ug F.m.kV
  |.run=>(List.range F.ug).map fun u=>val (.rnr u)
  |.due=>(List.range F.ug).map fun u=>lC (o.du u)
  |.off=>ni F.ug F.m.ky
  |.ks=>(List.range F.ug).map fun u=>val (.usr u)
  |.ku=>ni F.k F.ku
  |.szr m=>ni F.k (F.ms m)
  |.dem u=>ni F.k (o.dm u)
  |.rnr u=>ni F.mg (F.m.on u)
  |.usr u=>ni F.k (F.ks u)
def xG (F:Flt):Tb->Nat
  |.size=>F.mg
  |.rnr _=>F.mg
  |.ku=>F.k
  |.szr _=>F.k
  |.dem _=>F.k
  |.usr _=>F.k
  |_=>F.ug
def xF (F:Flt):Tb->Prop
  |.szr m=>m<F.mg/\F.mt m=lK
  |.dem u=>u<F.ug
  |.rnr u=>u<F.ug
  |.usr u=>u<F.ug
  |_=>True
structure OldOk (F:Flt)(o:Old):Prop where
  dm:∀u,u<F.ug->∀r,r<F.k->0<=o.dm u r/\o.dm u r<=10000
  now:∀u,u<F.ug->F.ut u=lK->(∀r,r<F.k->o.dm u r=F.ud u r)/\o.wt u=F.uw u/\o.cp u=F.uc u/\o.du u=F.due u
abbrev fcl (F:Flt)(val:Tb->lN):Array lN:=#[kW lD F.k,val .size,val .kr,val .kt,val .kV,val .run,val .due,val .off,val .ks,val .ku,kW lD F.ck]
structure RfM (base:Nat)(w:lM)(b:Nat)(F:Flt)(val:Tb->lN)(o:Old):Prop where
  box:Bx w b (fcl F val) 118
  low:base<=b
  tb:Tbs base w (xF F) val (xG F) (zJ F val o)
  old:OldOk F o
theorem mB {α:Type}(f:Nat->α)(n:Nat):((List.range n).map f).length=n:=by simp
theorem JF {α:Type}(f:Nat->α)(h:i<n):((List.range n).map f)[i]?=lJ (f i):=by rw[eD,iL h];rfl
theorem mr {α:Type}(f g:Nat->α)(n i:Nat)(x:α)(h:∀j,j<n->g j=if j=i then x else f j):((List.range n).map f).set i x=(List.range n).map g:=by
 apply List.ext_getElem?;intro j;rw[iX,mB];by_cases a:j<n
 ·rw[JF _ a,JF _ a,h j a];by_cases e:i=j
  ·subst e;rw[ed rfl,ed a,ed rfl]
  ·rw[ec e,ec (fun h=>e h.symm)]
 ·rw[eW (by rw[mB];omega),eW (by rw[mB];omega)];split
  ·rw[ec (by omega)]
  ·rfl
theorem oH {α:Type}(f:Nat->α)(g h:Nat->α):∀(n i:Nat),i<n->((List.range n).flatMap fun u=>[f u,g u,h u])[i*3]?=lJ (f i)/\((List.range n).flatMap fun u=>[f u,g u,h u])[i*3+1]?=lJ (g i)/\((List.range n).flatMap fun u=>[f u,g u,h u])[i*3+2]?=lJ (h i):=by
 intro n
 have a:∀n,((List.range n).flatMap fun u=>[f u,g u,h u]).length=n*3:=fun n=>by
  induction n with
  |zero=>rfl
  |succ n ih=>rw[jy,jA,eK,ih];simp;omega
 induction n with
 |zero=>intro i b;omega
 |succ n ih=>
  intro i b;rw[jy,jA];by_cases e:i<n
  ·have:=ih i e;rw[eU (by rw[a];omega),eU (by rw[a];omega),eU (by rw[a];omega)];exact this
  ·(obtain rfl:i=n:=by omega);rw[eM (by rw[a];omega),eM (by rw[a];omega),eM (by rw[a];omega),a,Nat.sub_self,show i*3+1-i*3=1 by omega,show i*3+2-i*3=2 by omega];exact⟨rfl,rfl,rfl⟩
section
variable{base:Nat} {w w':lM} {b:Nat} {F:Flt} {val:Tb->lN} {o:Old}
theorem RfM.iP (h:RfM base w b F val o)(hb:Below w.heap.size w w'):RfM base w' b F val o:=⟨h.box.ji hb,h.low,h.tb.iP hb,h.old⟩
theorem Tbs.cells {dom:Tb->Prop}{n:Tb->Nat}{xs:Tb->List lN}(h:Tbs base w dom val n xs)(t:Tb)(ht:dom t):∃so sc,val t=kX so (n t) sc/\n t<=sc/\sc<=maxLen/\∀(i:Nat) (x:lN),(xs t)[i]?=lJ x->∃g o,so=lJ ⟨g,o,lI⟩/\g<w.heap.size/\lH w ⟨g,o+i,lI⟩=lJ x:=sU (h.own t ht)
theorem RfM.v (h:RfM base w b F val o)(hk:1<=F.k):RfW w b F:=by
 obtain⟨Y,X,I,_,_,H⟩:=h.tb.cells .size trivial;obtain⟨uo,Z,J,_,_,G⟩:=h.tb.cells .kr trivial;obtain⟨Q,P,K,_,_,N⟩:=h.tb.cells .kt trivial;obtain⟨W,V,L,_,_,O⟩:=h.tb.cells .run trivial;have x:=h.box;(have z:∀t,xF F t->1<=xG F t->∀(f:Nat->Int),zJ F val o t=ni (xG F t) f->∃d e s,val t=kX (lJ ⟨d,e,lI⟩) (xG F t) s/\xG F t<=s/\s<=maxLen/\d<w.heap.size/\∀r,r<xG F t->lH w ⟨d,e+r,lI⟩=lJ (kW lD (f r)):=fun t ht h0 f he=>by obtain⟨a,c,i,j,l,n⟩:=h.tb.cells t ht;rw[he]at n;obtain⟨d,e,C,y,_⟩:=n 0 _ (JF _ (by omega));refine⟨d,e,c,by rw[i,C],j,l,y,fun r hr=>?_⟩;obtain⟨d',e',q,_,S⟩:=n r _ (JF _ hr);(rw[C]at q;injection q with q;injection q with A B;subst A;subst B);exact S);refine⟨Y,X,uo,Z,Q,P,W,V,x.lt,x.cell 0 _ rfl,?_,?_,?_,?_,fun m hm ht=>?_,fun m hm ht=>?_,fun u hu=>?_,fun u hu=>?_,fun u hu=>?_⟩
 ·have:=x.cell 1 _ rfl;rw[this];show lJ (val .size)=_;rw[I];rfl
 ·have:=x.cell 2 _ rfl;rw[this];show lJ (val .kr)=_;rw[J];rfl
 ·have:=x.cell 3 _ rfl;rw[this];show lJ (val .kt)=_;rw[K];rfl
 ·have:=x.cell 5 _ rfl;rw[this];show lJ (val .run)=_;rw[L];rfl
 ·obtain⟨g,p,i,j,l⟩:=H m _ (JF _ hm);obtain⟨d,e,s,n,_,_,y,q⟩:=z (.szr m) ⟨hm,ht⟩ hk (F.ms m) rfl;exact⟨g,p,d,e,s,i,j,by rw[l,ed ht,n];rfl,y,q⟩
 ·obtain⟨g,p,i,j,l⟩:=H m _ (JF _ hm);exact⟨g,p,i,j,by rw[l,ht];rfl⟩
 ·exact N u _ (JF _ hu)
 ·obtain⟨y1,y2,y3⟩:=oH (fun u=>val (.dem u)) (fun u=>Value.int lD (o.wt u)) (fun u=>Value.int lD (o.cp u)) F.ug u hu;obtain⟨g,p,i,j,l⟩:=G _ _ y1;obtain⟨g',p',D,_,z3⟩:=G _ _ y2;obtain⟨M,R,E,_,z6⟩:=G _ _ y3;rw[i]at D E;(injection D with D;injection D with A B;subst A;subst B);(injection E with E;injection E with A B;subst A;subst B);obtain⟨d,e,s,n,T,U,y,q⟩:=z (.dem u) hu hk (o.dm u) rfl;exact⟨g,p,d,e,s,_,_,i,j,by rw[l,n];rfl,T,U,y,fun r hr=>⟨_,q r hr,(h.old.dm u hu r hr).1,(h.old.dm u hu r hr).2,fun ht=>(h.old.now u hu ht).1 r hr⟩,by rw[hJ];exact z3,by rw[hJ];exact z6,fun ht=>⟨(h.old.now u hu ht).2.1,(h.old.now u hu ht).2.2.1⟩⟩
 ·obtain⟨g,p,i,j,l⟩:=O u _ (JF _ hu);obtain⟨a,c,n,_,_,C⟩:=h.tb.cells (.rnr u) hu;exact⟨g,p,a,c,i,j,by rw[l,n];rfl,fun m hm=>C m _ (JF _ hm)⟩
end
theorem GL (F:Flt)(k:Nat):zu (zB F 0) k=List.replicate k 0:=by
 unfold zu;rw[List.eq_replicate_iff];refine⟨by simp,fun x hx=>?_⟩;obtain⟨r,_,rfl⟩:=jB.1 hx;rfl
theorem oZ {g:Nat->Int}(h:∀r,r<k->f r=g r):zu f k=zu g k:=by
 unfold zu;exact iJ (fun r hr=>h r (iW.1 hr))
def xX (F:Flt)(m r j:Nat):Int:=if j<r then zB F (m+1) j else zB F m j
theorem RfO.pool_mg (h:RfO F) (hr:r<4):zB F F.mg r=zB F 8 r:=(qh h.mg (fun i h1 h2=>by
  have:F.mt i=lL:=by
    cases e:F.mt i with
    |false=>rfl
    |true=>have:=h.mt i h2 e;omega
  exact h.msz i h2 this r hr)).symm
theorem RfO.pool_off (h:RfO F)(hm:m<8)(hr:r<4)(ht:F.mt m=lL):zB F (m+1) r=zB F m r:=by
 show Por.sumI (fun m=>F.ms m r) m+F.ms m r=_;rw[h.msz m hm ht r hr,Int.add_zero];rfl
theorem RfO.rest0 (h:RfO F)(hm:m<8)(hr:r<4)(hk:F.k<=r):rmP F m r 6=0:=by
 unfold rmP;rw[h.msk m hm r hr hk,mH (fun i hi=>by rw[h.udk i hi r hr hk,jC])];rfl
theorem RfO.bears (h:RfO F) (hu:u<6) (hm:m<8) (hq:∀q,q<F.k->F.ud u q<=rmP F m q 6):zU (fun r=>rmP F m r 6) (F.ud u) 4=lK:=oe.2 (fun r hr=>by
  by_cases e:r<F.k
  · exact hq r e
  · rw[h.udk u hu r hr (by omega)];show 0<=rmP F m r 6;rw[h.rest0 hm hr (by omega)];exact ik _)
theorem GR {a c:Nat->Int}(hr:r<k)(h:a r<c r):zU a c k=lL:=by
 cases e:zU a c k with
 |false=>rfl
 |true=>have:=oe.1 e r hr;omega
theorem oE (F:Flt)(P G:Nat->Int)(u m:Nat):yT (zC F P G) F.m u m=(F.mt m&&zU (fun r=>rmP F m r 6) (F.ud u) 4):=rfl
def FitE (F:Flt)(P G:Nat->Int)(u m:Nat)(w w':lM)(e:Ending):Prop:=∃c:Bool,e=lF (kZ c)/\(c=lK->F.mt m=lK)/\(F.ut u=lK->c=yT (zC F P G) F.m u m)/\Below w.heap.size w w'
def tgk (c:FC)(s:FM)(u k:Nat):Int:=if (zP c s u k).2.2 then((zP c s u k).1:Int)else -1
abbrev tgt (c:FC)(s:FM)(u:Nat):Int:=tgk c s u 8
variable{c:FC}{s:FM}
theorem Aj (h:yT c s u k=lL):zP c s u (k+1)=zP c s u k:=by simp only[zP];rw[h];simp
theorem wg (h:yT c s u k=lK):zP c s u (k+1)=if !(zP c s u k).2.2||decide (Por.sumI (room c s k) 4<(zP c s u k).2.1)then(k,Por.sumI (room c s k) 4,lK)else zP c s u k:=by simp only[zP];rw[h];simp
theorem RfO.tight_mg (h:RfO F)(P G:Nat->Int)(u:Nat):zP (zC F P G) F.m u 8=zP (zC F P G) F.m u F.mg:=by
 have a:∀j,F.mg<=j->j<=8->zP (zC F P G) F.m u j=zP (zC F P G) F.m u F.mg:=fun j=>by
  induction j with
  |zero=>intro c _;rw[show F.mg=0 by omega]
  |succ j ih=>
   intro c d;by_cases e:F.mg=j+1
   ·rw[e]
   ·rw[Aj (by rw[oE];cases b:F.mt j with|false=>rfl|true=>have:=h.mt j (by omega) b;omega),ih (by omega) (by omega)]
 exact a 8 h.mg (ea 8)
theorem RfO.sumR (h:RfO F) (hm:m<8):∀r:Nat,r<=4->-(2400000*(r:Int))<=Por.sumI (fun q=>rmP F m q 6) r/\Por.sumI (fun q=>rmP F m q 6) r<=1000*r:=fun r=>by
 induction r with
 |zero=>intro _;show _<=(0:Int)/\(0:Int)<=_;omega
 |succ r ih=>
  intro hr
  have h1:=ih (by omega)
  have h2:=h.rm hm (show r<4 by omega) 6 (ea 6)
  show _<=Por.sumI (fun q=>rmP F m q 6) r+rmP F m r 6/\Por.sumI (fun q=>rmP F m q 6) r+rmP F m r 6<=_
  omega
def TgI (F:Flt)(P G:Nat->Int)(u k:Nat)(bt ls:Int):Prop:=(-1<=bt/\bt<8)/\(F.ut u=lK->bt=tgk (zC F P G) F.m u k/\((zP (zC F P G) F.m u k).2.2=lK->ls=(zP (zC F P G) F.m u k).2.1))
variable{P G:Nat->Int}{bt ls:Int}
theorem TgI.no (h:TgI F P G u k bt ls) (hf:F.ut u=lK->yT (zC F P G) F.m u k=lL):TgI F P G u (k+1) bt ls:=⟨h.1,fun ht=>by
  have h2:=h.2 ht
  unfold tgk at h2 ⊢
  rw[Aj (hf ht)];exact h2⟩
theorem RfO.sum4 (h:RfO F)(P G:Nat->Int)(hm:m<8):Por.sumI (Por.room (zC F P G) F.m m) 4=Por.sumI (fun r=>rmP F m r 6) F.k:=qh h.k4 (fun i h1 h2=>h.rest0 hm h2 h1)
theorem TgI.take {n:Int} (h:TgI F P G u k bt ls) (hk:k<8) (hf:F.ut u=lK->yT (zC F P G) F.m u k=lK) (hn:Por.sumI (Por.room (zC F P G) F.m k) 4=n) (hc:bt<0\/n<ls):TgI F P G u (k+1) (k:Int) n:=⟨⟨by omega,by omega⟩,fun ht=>by
  obtain⟨h1,h2⟩:=h.2 ht
  unfold tgk at h1 ⊢
  have e:zP (zC F P G) F.m u (k+1)=(k,n,lK):=by
    rw[wg (hf ht),hn]
    refine ed ?_
    cases b:(zP (zC F P G) F.m u k).2.2 with
    |false=>rfl
    | true=>
      rw[b]at h1
      rcases hc with a|a
      · rw[h1,ed rfl]at a;omega
      · rw[h2 b]at a;rw[ei a];rfl
  rw[e];exact⟨rfl,fun _=>rfl⟩⟩
theorem TgI.stay {n:Int} (h:TgI F P G u k bt ls) (hf:F.ut u=lK->yT (zC F P G) F.m u k=lK) (hn:Por.sumI (Por.room (zC F P G) F.m k) 4=n) (h0:¬ bt<0) (h1:¬ n<ls):TgI F P G u (k+1) bt ls:=⟨h.1,fun ht=>by
  obtain⟨h2,h3⟩:=h.2 ht
  unfold tgk at h2 ⊢
  have hx:(zP (zC F P G) F.m u k).2.2=lK:=by
    cases hx:(zP (zC F P G) F.m u k).2.2 with
    |false=>rw[hx,ec (by decide)]at h2;omega
    |true=>rfl
  have e:zP (zC F P G) F.m u (k+1)=zP (zC F P G) F.m u k:=by
    rw[wg (hf ht),hn,hx]
    refine ec ?_
    rw[<-h3 hx,ee h1];decide
  rw[e];exact⟨h2,h3⟩⟩
theorem th {w:lM}(hv:RfW w b F)(hw:RfO F):Calls prog 140 #[kY (lJ ⟨b,0,lI⟩)] w fun e w'=>∃v,e=lF v/\Li w.heap.size w' v (zu (zB F 8) F.k)/\Below w.heap.size w w':=by
 obtain⟨so,sc,uo,uc,ho,hc,ro,rc,hv⟩:=hv;have lb:=hv.lt;have E:=hid hv;have t:=hid hw;clear hv hw;have ad:=t.k4;have ae:=t.mg;have c1:=E.k;go_enter func140,ntmps140;go_wp2_with (at_make;refine qB _ rfl _ _ rfl _ _ F.k rfl rfl rfl rfl (by omega) ?_);intro w1 A B;(have o:Hid (Li w.heap.size w1 (kX (lJ ⟨w.heap.size,0,lI⟩) F.k F.k) (zu (zB F 0) F.k)):=by have H:=A.li lR (by simp;unfold maxLen;omega);rw[iD]at H;unfold Hid;rw[GL];exact H);have u:=hid B;clear A B c1;obtain⟨g,n⟩:∃g:Nat,Hid (g=w.heap.size):=⟨_,rfl⟩;obtain⟨z,I⟩:∃z:Nat,Hid (z=0):=⟨_,rfl⟩;have HG:=hid (Nat.le_of_eq n.symm);(have D:Value.slice (lJ ⟨w.heap.size,0,lI⟩) F.k F.k=Value.slice (lJ ⟨g,z,lI⟩) F.k F.k:=by rw[n.out,I.out]);rw[D]at o ⊢;clear D n;go_wp2
 go_loopg[4] F.mg (fun gg ix wr=>∃(m:Nat),gg=F.mg-m/\m<=F.mg/\ix=kW lD m/\Hid (Li w.heap.size wr (kX (lJ ⟨g,z,lI⟩) F.k F.k) (zu (zB F m) F.k))/\Hid (Bl w wr))
 case atStart=>exact⟨0,rfl,ep _,rfl,o,u⟩
 case round=>
  clear o u;obtain⟨m,ac,hm,rfl,f,d⟩:=hrel;have a:=hid (E.iP d);have l:=a.lt;have y:=a.sz;by_cases C:m<F.mg
  ·have R:(m:Int)<(F.mg:Int):=by omega
   cases s:F.mt m with
   |false=>
    go_wp2;clear y l a
    go_loopg[5] 0 (fun gg ix wq=>∃r:Nat,gg=0-r/\r<=0/\ix=kW lD r/\Hid (Li w.heap.size wq (kX (lJ ⟨g,z,lI⟩) F.k F.k) (zu (xX F m r) F.k))/\Hid (Bl w wq))
    (case atStart=>exact⟨0,rfl,ep _,rfl,(by rw[show zu (xX F m 0) F.k=zu (zB F m) F.k from oZ (fun r _=>ec (iF r))];exact f),d⟩);case round=>clear f d;obtain⟨r,Q,hr,rfl,f,d⟩:=hrel;have a:=hid (E.iP d);have l:=a.lt;have y:=a.sz;obtain⟨g3,o3,rfl,P,T⟩:=a.down m C s;(obtain rfl:r=0:=by omega);(have c:Hid (Li w.heap.size wr (kX (lJ ⟨g,z,lI⟩) F.k F.k) (zu (zB F (m+1)) F.k)):=by unfold Hid;rw[show zu (zB F (m+1)) F.k=zu (xX F m 0) F.k from oZ (fun j hj=>by unfold xX;rw[ec (iF j)];exact t.pool_off (by omega) (by omega) s)];exact f);go_wp2;go_roundg (F.mg-(m+1));exact⟨m+1,rfl,by omega,by go_num,c,d⟩;omega
   | true=>
    go_wp2;clear y l a
    go_loopg[5] F.k (fun gg ix wq=>∃r:Nat,gg=F.k-r/\r<=F.k/\ix=kW lD r/\Hid (Li w.heap.size wq (kX (lJ ⟨g,z,lI⟩) F.k F.k) (zu (xX F m r) F.k))/\Hid (Bl w wq))
    case atStart=>exact⟨0,rfl,ep _,rfl,(by rw[show zu (xX F m 0) F.k=zu (zB F m) F.k from oZ (fun r _=>ec (iF r))];exact f),d⟩
    case round=>
     clear f d;obtain⟨r,Q,hr,rfl,f,d⟩:=hrel;have a:=hid (E.iP d);have l:=a.lt;have y:=a.sz;obtain⟨g3,o3,d3,e3,aa,rfl,P,T,ab,U⟩:=a.up m C s;by_cases h:r<F.k
     ·(have S:(r:Int)<(F.k:Int):=by omega);have c7:=U r h;clear U;have p1:=nI t.sm (show m<=8 by omega) (show r<4 by omega);have p2:=t.ms m (by omega) r (by omega);obtain⟨g9,V,X,O,lg,G,Y⟩:=lS f (i:=r) (by rw[ic,JB];exact h);obtain⟨q,K,L⟩:=nR X;(injection q with q);(injection q with M N);subst M;rw[<-I.out]at G Y;rw[eD,nZ _ h]at G;(have J:lH wr ⟨g,z+r,lI⟩=lJ (kW lD (zB F m r)):=by rw[G];show lJ (Value.int lD (xX F m r r))=_;unfold xX;rw[ec (jD r)]);clear G X O K L N;(go_upto_region 8 with fail);go_region;clear J Y T c7 y;(have c:Hid (Li w.heap.size (lG wr ⟨g,z+r,lI⟩ (kW lD (zB F m r+F.ms m r))) (kX (lJ ⟨g,z,lI⟩) F.k F.k) (zu (xX F m (r+1)) F.k)):=by have H:=I.out;subst H;have Z:=f.put (i:=r) (by rw[JB]) (zB F m r+F.ms m r);rw[show(zu (xX F m r) F.k).set r (zB F m r+F.ms m r)=zu (xX F m (r+1)) F.k from mr _ _ _ _ _ (fun j _=>by unfold xX;by_cases e:j=r;(subst e;rw[ed (Nat.lt_succ_self _),ed rfl];rfl);(rw[ec e];by_cases W:j<r;(rw[ed W,ed (by omega)]);(rw[ec W,ec (by omega)])))]at Z;unfold Hid;rw[eC];exact Z);have x:Hid (Bl w (lG wr ⟨g,z+r,lI⟩ (kW lD (zB F m r+F.ms m r)))):=d.setCell (p:=⟨g,z+r,lI⟩) HG _;go_wp2;go_roundg (F.k-(r+1));exact⟨r+1,rfl,by omega,by go_num,by first|exact c|exact c.iP brf.drew,by first|exact x|exact x.drew⟩;omega
     ·(obtain rfl:r=F.k:=by omega);(have S:¬ (F.k:Int)<(F.k:Int):=by omega);(have c:Hid (Li w.heap.size wr (kX (lJ ⟨g,z,lI⟩) F.k F.k) (zu (zB F (m+1)) F.k)):=by unfold Hid;rw[show zu (zB F (m+1)) F.k=zu (xX F m F.k) F.k from oZ (fun j hj=>(ed hj).symm)];exact f);go_wp2;go_roundg (F.mg-(m+1));exact⟨m+1,rfl,by omega,by go_num,c,d⟩;omega
  ·(obtain rfl:m=F.mg:=by omega);(have R:¬ (F.mg:Int)<(F.mg:Int):=by omega);(have c:Hid (Li w.heap.size wr (kX (lJ ⟨g,z,lI⟩) F.k F.k) (zu (zB F 8) F.k)):=by unfold Hid;rw[show zu (zB F 8) F.k=zu (zB F F.mg) F.k from oZ (fun r hr=>(t.out.pool_mg (by omega)).symm)];exact f);go_wp2;go_ret;exact⟨(kX (lJ ⟨g,z,lI⟩) F.k F.k),rfl,c,d⟩
theorem rD (P G:Nat->Int)(u m:Nat)(w:lM)(hv:RfW w b F)(hw:RfO F)(hu:u<F.ug)(hm:m<F.mg):Calls prog 206 #[kY (lJ ⟨b,0,lI⟩),kW lD u,kW lD m] w fun e w'=>FitE F P G u m w w' e:=by
 have B:=hv;obtain⟨so,sc,uo,uc,ho,hc,ro,rc,hv⟩:=hv;have lb:=hv.lt;have X:=hw.mg;have Z:=hw.ug;have W:=hw.k4;(have Y:(m:Int)<(F.mg:Int):=by omega);(have aa:(u:Int)<(F.ug:Int):=by omega);have O:=hv.sz;go_enter func206,ntmps206
 cases c:F.mt m with
 |false=>obtain⟨g,o,rfl,T,J⟩:=hv.down m hm c;(have y:∀w,(binOp .eql 22 (kX lI 0 0) (kX lI 0 0)).run prog w=.ok (kZ lK) w:=fun w=>Lib.run_eql_slice_nil w 22 3 _ _ _ 0 0 eR);(have l:yT (zC F P G) F.m u m=lL:=by rw[oE,c];rfl);go_wp2;go_ret;exact⟨lL,rfl,fun h=>(by cases h),fun _=>l.symm,eB _ _⟩
 | true=>
  obtain⟨g,o,d,e,Q,rfl,T,J,hd,_⟩:=hv.up m hm c;(have y:∀w,(binOp .eql 22 (kX (lJ ⟨d,e,lI⟩) F.k Q) (kX lI 0 0)).run prog w=.ok (kZ lL) w:=fun w=>Lib.run_eql_slice_nil w 22 3 _ _ _ 0 0 eR);go_wp2
  go_loopg[7] F.k (fun gg ix wr=>∃r:Nat,gg=F.k-r/\r<=F.k/\ix=kW lD r/\(F.ut u=lK->∀q,q<r->F.ud u q<=rmP F m q 6)/\Bl w wr)
  case atStart=>exact⟨0,rfl,ep _,rfl,fun _ q hq=>absurd hq (iF q),eB _ _⟩
  case round=>
   obtain⟨r,V,hr,rfl,I,j⟩:=hrel;have a:=hv.iP j;have A:=a.lt;have M:=a.k;by_cases v:r<F.k
   ·(have E:(r:Int)<(F.k:Int):=by omega);go_wp2_with fail;refine (Ar (B.iP j) hw hm c v).mono ?_;rintro e1 w1 ⟨rfl,t⟩;have i:=et j t;have a:=hv.iP i;have A:=a.lt;have c2:=a.us;obtain ⟨g3,o3,d3,e3,R,wt,cp,rfl,U,c8,_,_,S,K,_⟩:=a.user u hu;obtain ⟨x,c9,ab,ac,z⟩:=K r v;obtain ⟨N,C⟩:∃ N,rmP F m r 6=N:=⟨_,rfl⟩;rw[C];by_cases D:N<x
    ·(have l:F.ut u=lK->lL=yT (zC F P G) F.m u m:=fun ht=>by rw[oE,GR (r:=r) (by omega) (by rw[C,<-z ht];exact D),Bool.and_false]);go_wp2;go_ret;exact⟨lL,rfl,fun h=>(by cases h),l,i⟩
    ·have L:F.ut u=lK->∀q,q<r+1->F.ud u q<=rmP F m q 6:=fun ht q hq=>by
      by_cases e:q=r
      ·subst e;rw[C,<-z ht];omega
      ·exact I ht q (by omega)
     go_wp2;go_roundg (F.k-(r+1));exact⟨r+1,rfl,by omega,by go_num,L,i⟩;omega
   ·(obtain rfl:r=F.k:=by omega);(have E:¬ (F.k:Int)<(F.k:Int):=by omega);(have l:F.ut u=lK->lK=yT (zC F P G) F.m u m:=fun ht=>by rw[oE,c,hw.bears (by omega) (by omega) (I ht)];rfl);go_wp2;go_ret;exact⟨lK,rfl,fun _=>c,l,j⟩
theorem sY (P G:Nat->Int)(u:Nat)(w:lM)(hv:RfW w b F)(hw:RfO F)(hu:u<F.ug):Calls prog 189 #[kY (lJ ⟨b,0,lI⟩),kW lD u] w fun e w'=>∃t:Int,e=lF (kW lD t)/\(-1<=t/\t<8)/\(F.ut u=lK->t=tgt (zC F P G) F.m u)/\Below w.heap.size w w':=by
 have y:=hv;obtain⟨so,sc,uo,uc,ho,hc,ro,rc,hv⟩:=hv;have lb:=hv.lt;have aa:=hw.mg;have ac:=hw.ug;have Z:=hw.k4;go_enter func189,ntmps189;go_wp2
 go_loopg[5,6,7] F.mg (fun gg s5 s6 ix wr=>∃(k:Nat) (d v:Int),gg=F.mg-k/\k<=F.mg/\s5=kW lD d/\s6=kW lD v/\ix=kW lD k/\TgI F P G u k d v/\Bl w wr)
 case atStart=>exact⟨0,-1,0,rfl,ep _,rfl,rfl,rfl,⟨by decide,fun _=>⟨rfl,fun h=>by cases h⟩⟩,eB _ _⟩
 case round=>
  obtain⟨k,d,v,X,hk,rfl,rfl,rfl,x,a⟩:=hrel;have s:=(hv.iP a).lt;have V:=(hv.iP a).sz;by_cases C:k<F.mg
  ·(have J:(k:Int)<(F.mg:Int):=by omega);go_wp2_with fail;refine (rD P G u k _ (y.iP a) hw hu C).mono ?_;rintro e1 w1 ⟨c,rfl,o,g,A⟩;have z:=et a A;clear A V s a;have a:=z;clear z
   cases c with
   |false=>have l:=x.no (fun ht=>(g ht).symm);clear o g;go_wp2;go_roundg (F.mg-(k+1));exact⟨k+1,d,v,rfl,by omega,rfl,rfl,by go_num,l,a⟩;omega
   | true=>
    have E:=o rfl;(have i:F.ut u=lK->yT (zC F P G) F.m u k=lK:=fun ht=>(g ht).symm);clear o g;go_wp2
    go_loopg[9,10] F.k (fun gg s9 ix wr=>∃r:Nat,gg=F.k-r/\r<=F.k/\ix=kW lD r/\s9=kW lD (Por.sumI (fun q=>rmP F k q 6) r)/\Bl w wr)
    case atStart=>exact⟨0,rfl,ep _,rfl,rfl,a⟩
    case round=>
     clear a;obtain⟨r,Y,hr,rfl,rfl,a⟩:=hrel;have s:=(hv.iP a).lt;have U:=(hv.iP a).k;have M:=hw.sumR (m:=k) (by omega) r (by omega);obtain⟨N,I⟩:∃N,Por.sumI (fun q=>rmP F k q 6) r=N:=⟨_,rfl⟩;rw[I]at M ⊢;by_cases K:r<F.k
     ·(have L:(r:Int)<(F.k:Int):=by omega);go_wp2_with fail;refine(Ar (y.iP a) hw C E K).mono ?_;rintro e2 w2 ⟨rfl,B⟩;have H:=et a B;clear B U s a;have q2:=hw.rm (m:=k) (r:=r) (by omega) (by omega) 6 (ea 6);(have S:Por.sumI (fun q=>rmP F k q 6) (r+1)=N+rmP F k r 6:=by rw[<-I];rfl);generalize T:rmP F k r 6=Q at q2 S ⊢;clear T;go_wp2;go_roundg (F.k-(r+1));exact⟨r+1,rfl,by omega,by go_num,by rw[S];(first|done|rfl),H⟩;omega
     ·(obtain rfl:r=F.k:=by omega);(have L:¬ (F.k:Int)<(F.k:Int):=by omega);(have j:Por.sumI (Por.room (zC F P G) F.m k) 4=N:=by rw[hw.sum4 P G (by omega)];exact I);by_cases n:d<0
      ·have l:=x.take (by omega) i j (.inl n);go_wp2;go_roundg (F.mg-(k+1));exact⟨k+1,(k:Int),N,rfl,by omega,rfl,rfl,by go_num,l,a⟩;omega
      ·have W:=ee n;by_cases p:N<v
       ·have l:=x.take (by omega) i j (.inr p);go_wp2;go_roundg (F.mg-(k+1));exact⟨k+1,(k:Int),N,rfl,by omega,rfl,rfl,by go_num,l,a⟩;omega
       ·have ab:=ee p;have l:=x.stay i j n p;go_wp2;go_roundg (F.mg-(k+1));exact⟨k+1,d,v,rfl,by omega,rfl,rfl,by go_num,l,a⟩;omega
  ·(obtain rfl:k=F.mg:=by omega);(have J:¬ (F.mg:Int)<(F.mg:Int):=by omega);have R:(-1<=d/\d<8)/\(F.ut u=lK->d=tgt (zC F P G) F.m u):=⟨x.1,fun ht=>by have:=(x.2 ht).1;unfold tgk at this;unfold tgt tgk;rw[hw.tight_mg P G u];exact this⟩;go_wp2;go_ret;exact⟨d,rfl,R.1,R.2,a⟩
end Go.Proofs.YtigokanoflkinaaGreatDoor
