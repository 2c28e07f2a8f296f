/- RRsM, RRisF, joined. -/
import Derived.Test.YtigokanoflkinaaGreatDoorZK
set_option maxHeartbeats 20000000
set_option maxRecDepth 20000
namespace Go.Proofs.YtigokanoflkinaaGreatDoor
set_option linter.unusedSimpArgs false
set_option linter.unusedVariables false
open Go.RowKit Por Go.Proofs.Tryz
open Value renaming int->kW,slice->kX,pointer->kY,bool->kZ
open IntKind renaming i64->lD
open Ending renaming returned->lF
open World renaming setCell->lG,cell?->lH
open Option renaming none->lI,some->lJ
open Bool renaming true->lK,false->lL
open Go renaming World->lM
def xA (f:Nat->Nat):Nat->Nat
  |0=>1
  |n+1=>xA f n*f n
variable{f:Nat->Nat}
theorem Bv {M:Nat}(hM:0<M):∀n,(∀i,i<n->f i<=M)->xA f n<=M^n:=by
 intro n
 induction n with
 |zero=>intro _;exact lR
 |succ n ih=>intro h;rw[iQ];exact iS (ih (fun i hi=>h i (by omega))) (h n (by omega))
theorem Hd:∀n,(∀i,i<n->0<f i)->0<xA f n:=by
 intro n
 induction n with
 |zero=>intro _;exact Nat.one_pos
 |succ n ih=>intro h;exact Nat.mul_pos (ih (fun i hi=>h i (by omega))) (h n (by omega))
variable{h:Nat->Nat}
theorem EX:∀n,(∀i,i<n->f i=h i)->xA f n=xA h n:=by
 intro n
 induction n with
 |zero=>intro _;rfl
 |succ n ih=>intro e;simp only[xA];rw[ih (fun i hi=>e i (by omega)),e n (by omega)]
variable{i:Nat}
theorem Hq (hf:f i=1)(he:∀j,j≠i->f j=h j):∀n,i<n->xA f n*h i=xA h n:=by
 intro n
 induction n with
 |zero=>intro h;omega
 | succ n ih=>
  intro a;simp only[xA];by_cases e:i=n
  ·subst e;rw[hf,ic,EX i (fun j hj=>he j (by omega))]
  ·have:=ih (by omega);rw[he n (fun h=>e h.symm),<-this]
   ac_rfl
def RD.tD (d:RD)(tl:List Int)(j:Nat):Nat:=d.a.D j (lm tl j).toNat
def gF (d:RD)(tl:List Int)(i j:Nat):Nat:=if j≠i/\0<=lm tl j then d.tD tl j else 1
def gAll (d:RD)(tl:List Int)(j:Nat):Nat:=if 0<=lm tl j then d.tD tl j else 1
def grT (d:RD)(tl:List Int)(i:Nat):Nat:=if 0<=lm tl i then d.a.W i*d.a.P (lm tl i).toNat*xA (gF d tl i) d.us.length else 0
variable{d:RD}
theorem RD.W_eq (h:d.Ok)(hi:i<d.us.length):(ug d.us i).wt=((d.a.W i:Nat):Int):=by
 have:=h.kx.wt hi;show(ug d.us i).wt=(((ug d.us i).wt.toNat:Nat):Int);omega
theorem RD.W_le (h:d.Ok)(hi:i<d.us.length):1<=d.a.W i/\d.a.W i<=100:=by have:=h.kx.wt hi;have:=d.W_eq h hi;omega
theorem mw {n:Nat}{z:Int}(h:z=(n:Int)):((n:Nat):Rat)=((z:Int):Rat):=by rw[h];rfl
variable{us:List Usr}
theorem uK (h:us.length<=i):ug us i=⟨[],0,0⟩:=by
 unfold ug;simp[List.getD,eW h]
theorem RD.toP_eq (h:d.Ok):d.a.toP=xI d.kq d.us:=by
 have f:=funext fun r=>mw (d.P_eq h r)
 have e:=funext fun i=>funext fun r=>by
  show _=((lm (ug d.us i).dem r:Int):Rat);by_cases b:i<d.us.length
  ·exact mw (d.D_eq h b r)
  ·refine mw ?_;show lm (ug d.us i).dem r=(((lm (ug d.us i).dem r).toNat:Nat):Int);rw[uK (by omega)];rfl
 have g:=funext fun i=>by
  by_cases b:i<d.us.length
  ·exact mw (d.W_eq h b)
  ·refine mw ?_;show(ug d.us i).wt=(((ug d.us i).wt.toNat:Nat):Int);rw[uK (by omega)];rfl
 have c:=funext fun i=>by
  by_cases b:i<d.us.length
  ·exact mw (d.C_eq h b)
  ·refine mw ?_;show(ug d.us i).cap=(((ug d.us i).cap.toNat:Nat):Int);rw[uK (by omega)];rfl
 show(⟨d.us.length,d.kq.length,_,_,_,_⟩:Prob)=_;unfold xI;rw[<-f,<-e,<-g,<-c]
def RD.g (d:RD):Nat->Rat:=ye d.kq d.us d.kq.length
theorem RD.ok (h:d.Ok):d.a.toP.Ok:=by rw[d.toP_eq h];exact n7 h.kx h.kq
theorem RD.rate (h:d.Ok):Rate d.a.toP d.g:=by rw[d.toP_eq h];exact nw h.kx h.kq
def Tops (d:RD)(tl:List Int):Prop:=∀i,i<d.us.length->TopIs d.kq (ug d.us i) (lm tl i)
structure Top1 (d:RD)(i m:Nat):Prop where
  lt:m<d.kq.length
  D:0<d.a.D i m
  P:0<d.a.P m
  rate:d.g i*(d.a.D i m:Rat)=(d.a.W i:Rat)*(d.a.P m:Rat)
variable{tl:List Int}
theorem Tops.get (h:d.Ok)(ht:Tops d tl)(hi:i<d.us.length):(lm tl i = -1/\d.g i=0)\/(0<=lm tl i/\(((lm tl i).toNat:Nat):Int)=lm tl i/\Top1 d i (lm tl i).toNat):=by
 rcases ht i hi with⟨e,k⟩|⟨m,e,f,q,t,u,p⟩
 ·left;refine⟨e,?_⟩;rcases k with⟨r,a,b,c⟩|b
  ·have s:=(JH (h.kx.dem hi r)).1;exact tE (n7 h.kx h.kq) (nw h.kx h.kq) (i:=i) (r:=r) hi a (mz.2 (by omega)) (by show((lm d.kq r:Int):Rat)=0;rw[c];rfl)
  ·obtain⟨r,a,c⟩:=h.kx.some hi;have:=b r a;omega
 ·right;(have j:(lm tl i).toNat=m:=by omega);have n:=d.D_eq h hi m;have o:=d.P_eq h m;rw[j];refine⟨by omega,by omega,f,by omega,by omega,?_⟩;have l:=Iv h.kx h.kq hi f q t u p;rw[mw n,mw o,mw (d.W_eq h hi)];exact l
theorem I8 (h:d.Ok)(hi:i<d.us.length):(zA (grT d tl i)).length<=8:=by
 have b:=h.n6;have e:(zA (100*10000*10000^6)).length=8:=by decide
 have a:grT d tl i<=100*10000*10000^6:=by
  unfold grT;split
  ·refine iS (iS (d.W_le h hi).2 (d.P_le h _)) ?_;refine eh (Bv (M:=10000) (by omega) _ (fun j hj=>?_)) (ip (by omega) b);unfold gF RD.tD;split
   ·exact d.D_le h hj _
   ·omega
  ·exact ep _
 have:=jAH a;omega
theorem Bt (h:d.Ok)(ht:Tops d tl)(hi:i<d.us.length):((grT d tl i:Nat):Rat)=((xA (gAll d tl) d.us.length:Nat):Rat)*d.g i:=by
 rcases ht.get h hi with⟨e,p⟩|⟨e,_,c⟩
 ·rw[p];have:grT d tl i=0:=ec (by omega);rw[this,Rat.mul_zero];rfl
 ·have o:grT d tl i=d.a.W i*d.a.P (lm tl i).toNat*xA (gF d tl i) d.us.length:=ed e
  have k:=Hq (f:=gF d tl i) (h:=gAll d tl) (i:=i) (by unfold gF;rw[ec (fun h5=>h5.1 rfl)]) (fun j hj=>by
   unfold gF gAll
   by_cases b:0<=lm tl j
   ·rw[ed ⟨hj,b⟩,ed b]
   ·rw[ec (fun h5=>b h5.2),ec b]) d.us.length hi
  have l:gAll d tl i=d.a.D i (lm tl i).toNat:=ed e;rw[l]at k;have q:=JC c.D;(have n:((xA (gF d tl i) d.us.length:Nat):Rat)*(d.a.D i (lm tl i).toNat:Rat)=((xA (gAll d tl) d.us.length:Nat):Rat):=by rw[<-JI,k]);rw[o,JI,JI,<-n];have m:=c.rate;generalize((xA (gF d tl i) d.us.length:Nat):Rat)=x at *;generalize(d.a.D i (lm tl i).toNat:Rat)=y at *;generalize(d.a.W i:Rat)=z at *;generalize(d.a.P (lm tl i).toNat:Rat)=v at *;generalize d.g i=u at *
  calc z*v*x=(u*y)*x:=by rw[m]
   _=x*y*u:=by grind
theorem A6 (h:d.Ok)(ht:Tops d tl):0<xA (gAll d tl) d.us.length:=by
 refine Hd _ (fun j hj=>?_);unfold gAll;split
 ·rename_i e;rcases ht.get h hj with⟨b,_⟩|⟨_,_,a⟩
  ·omega
  ·exact a.D
 ·omega
structure RIn (d:RD)(s:RV)(t:Nat):Prop where
  tl:s.tl.length=d.us.length
  gl:s.gl.length=d.us.length
  hl:s.hl.length=d.us.length
  sl:s.sl.length=d.us.length
  tops:Tops d s.tl
  gr:∀i,i<d.us.length->nn s.gl i=grT d s.tl i
  q:(zA s.q).length<=1+16*t
  inv:∃s0:St,Inv d.a.toP d.g s0/\Abs d.a d.g s0 s.R
  cnt:Por.cnt (fun i=>s.R.kv i=lK) d.us.length+t<=d.us.length
variable{r m:Nat}
theorem I0 {a:NProb}{g:Nat->Rat}{s:St}{R:RS}(hA:Abs a g s R)(hb:Borne a.toP s.ts)(hr:r<a.k)(hm:m<a.n)(hs:R.kv m=lL):a.D m r*R.hv m<=yE a R r m:=by
 have e:=rF hA hb hr m (by omega);have f:=rF hA hb hr (m+1) (by omega);have hv:=hA.hv m hm hs
 have b:zZ (fun i=>if R.kv i then 0 else s.ts i*(a.D i r:Rat)) (m+1)<=a.P r:=by
  have h:(0:Rat)<=((yE a R r (m+1):Nat):Rat):=nM _;rw[f]at h;have d:=JC hA.q;apply mi (c:=(R.q:Rat)) _ d
  grind
 simp only[zZ,hs,ev,ig]at b;rw[<-oF,JI,e,hv];have d:=JC hA.q;have:=lX b (show(0:Rat)<=R.q by grind)
 grind
variable{s:RV}{t:Nat}
theorem RIn.hle (h:RIn d s t):∀r,r<d.kq.length->∀i,i<d.us.length->bn s.sl i=lL->d.a.D i r*nn s.hl i<=yE d.a s.R r i:=by
 intro r f i e hs;obtain⟨g,c,b⟩:=h.inv;exact I0 b c.kA f e hs
theorem RIn.hv_le (h:RIn d s t)(hi:i<d.us.length):nn s.hl i<=d.a.C i*s.q:=by
 obtain⟨c,j,b⟩:=h.inv
 cases hs:s.R.kv i with
 |true=>have k:nn s.hl i=0:=b.hv0 i hi hs;omega
 |false=>
  have e:((nn s.hl i:Nat):Rat)=s.q*c.ts i:=b.hv i hi hs;rw[<-oF,JI,e];have f:=j.kA.cap i hi;have g:=lX f (nM s.q);change (s.q:Rat)*c.ts i<=(s.q:Rat)*(d.a.C i:Rat)at g
  grind
theorem RIn.ok (ho:d.Ok)(h:RIn d s t):s.Ok d:=by
 have g:=ho.n6;have f:=h.cnt;have j:=h.q;refine⟨h.tl,h.gl,h.hl,h.sl,by omega,fun i hi=>?_,fun i hi=>?_⟩
 ·have b:=jAH (h.hv_le hi);have c:=JE (d.a.C i) s.q;have e:=lQ (eh (d.C_le ho hi) (by omega:1000<=10000));omega
 ·rw[h.gr i hi];exact I8 ho hi
theorem RIn.turn {s':RV}(ho:d.Ok)(h:RIn d s t)(hne:(yF d.a (nn s.gl) s.R).2.1≠0)(hS:(zA (yF d.a (nn s.gl) s.R).2.1).length<=16)(e1:s'.tl=s.tl)(e2:s'.gl=s.gl)(e3:s'.hl.length=d.us.length)(e4:s'.sl.length=d.us.length)(hT:TurnT d.a (nn s.gl) s.R s'.R):RIn d s' (t+1):=by
 obtain⟨p,f,e⟩:=h.inv;have m:=F8 (d.ok ho) (d.rate ho) (A6 ho h.tops) (fun i hi=>by rw[h.gr i hi];exact Bt ho h.tops hi) f e hT hne;obtain⟨⟨n,c,b⟩,g⟩:=m;have k:=h.cnt;have j:Por.cnt (fun i=>s'.R.kv i=lK) d.us.length<Por.cnt (fun i=>s.R.kv i=lK) d.us.length:=g;refine⟨by rw[e1];exact h.tl,by rw[e2];exact h.gl,e3,e4,by rw[e1];exact h.tops,fun i hi=>by rw[e1,e2];exact h.gr i hi,?_,⟨n,c,b⟩,by omega⟩;have l:s'.q=if (yF d.a (nn s.gl) s.R).2.2 then s.q*(yF d.a (nn s.gl) s.R).2.1 else s.q:=hT.q;rw[l];have o:=h.q;split
 ·have:=JE s.q (yF d.a (nn s.gl) s.R).2.1;omega
 ·omega
structure RBeg (d:RD)(s:RV):Prop where
  tl:s.tl.length=d.us.length
  gl:s.gl.length=d.us.length
  hl:s.hl.length=d.us.length
  sl:s.sl.length=d.us.length
  tops:Tops d s.tl
  gr:∀i,i<d.us.length->nn s.gl i=grT d s.tl i
  hv:∀i,i<d.us.length->nn s.hl i=0
  st:∀i,i<d.us.length->bn s.sl i=(decide (0<=lm s.tl i)&&decide (0<(ug d.us i).cap))
  q:s.q=1
theorem r6 (S:Nat->Prop):∀k,Por.cnt S k<=k:=by
 intro k
 induction k with
 |zero=>exact lR
 |succ k ih=>unfold Por.cnt;split<;>omega
theorem RBeg.inn (ho:d.Ok)(h:RBeg d s):RIn d s 0:=by
 refine⟨h.tl,h.gl,h.hl,h.sl,h.tops,h.gr,by rw[h.q];decide,?_,by have:=r6 (fun i=>s.R.kv i=lK) d.us.length;omega⟩
 have f:∀i,i<d.us.length->0<=lm s.tl i->d.g i≠0:=fun i hi e b=>by
  rcases h.tops.get ho hi with⟨k,_⟩|⟨_,_,l⟩
  ·omega
  ·have m:=l.rate;rw[b,Rat.zero_mul]at m;have:=iB (JC (ez Nat.zero_lt_one (d.W_le ho hi).1)) (JC l.P)
   grind
 refine⟨⟨0,fun i=>if bn s.sl i=lK then d.g i else 0,fun _=>0,fun _=>0⟩,Inv.first (d.ok ho) (d.rate ho) _ (fun i hi=>?_),⟨by show 0<s.q;rw[h.q];omega,fun i hi=>?_,fun i hi hs=>?_,fun i hi hs=>h.hv i hi⟩⟩
 ·cases e:bn s.sl i with
  |true=>left;exact ed rfl
  | false=>
   have c:=h.st i hi;rw[e]at c;by_cases b:0<=lm s.tl i
   ·right;refine⟨ec Bool.false_ne_true,?_⟩;(have j:¬ 0<(ug d.us i).cap:=fun j=>by rw[ei b,ei j]at c;cases c);have n:=d.C_eq ho hi;show((d.a.C i:Nat):Rat)=0;(have:d.a.C i=0:=by omega);rw[this];rfl
   ·left;rcases h.tops.get ho hi with⟨_,k⟩|⟨j,_⟩
    ·rw[k];exact ec Bool.false_ne_true
    ·exact absurd j b
 ·show bn s.sl i=lK↔(if bn s.sl i=lK then d.g i else 0)≠0
  cases e:bn s.sl i with
  |true=>have c:=h.st i hi;rw[e]at c;(have b:0<=lm s.tl i:=by apply eO;intro b;rw[ee b]at c;cases c);simp only[eS,true_iff];exact f i hi b
  |false=>simp
 ·show((nn s.hl i:Nat):Rat)=s.q*0;rw[h.hv i hi,Rat.mul_zero];rfl
structure REnd (d:RD)(s:RV):Prop where
  tl:s.tl.length=d.us.length
  gl:s.gl.length=d.us.length
  hl:s.hl.length=d.us.length
  sl:s.sl.length=d.us.length
  tops:Tops d s.tl
  q0:0<s.q
  hv:∀i,i<d.us.length->((nn s.hl i:Nat):Rat)=s.q*(yB d.kq d.us).ts i
  lf:∀r,r<d.kq.length->(lft d.a s.R r=0↔used (xI d.kq d.us) (yB d.kq d.us).ts r=((lm d.kq r:Int):Rat))
  fair:FairFill (xI d.kq d.us) d.g (yB d.kq d.us).ts
  lv:∀i,i<d.us.length->(yB d.kq d.us).lv i=(yB d.kq d.us).ts i/d.g i
theorem RIn.fin (ho:d.Ok)(h:RIn d s t)(hz:(yF d.a (nn s.gl) s.R).2.1=0):REnd d s:=by
 obtain⟨x,k,f⟩:=h.inv;have B:=JC (A6 ho h.tops);have g:∀i,i<d.a.n->s.R.kv i=lK->0<nn s.gl i:=fun i hi hs=>by have c:=(f.kv i hi).1 hs;have j:=(k.grow i hi c).1;have y:=(d.rate ho).pos i hi;rw[j]at c;apply ur.1;rw[h.gr i hi,Bt ho h.tops hi];exact iB B (by grind)
 have b:=Gc g (fun i hi=>by
  obtain⟨r,m,y⟩:=ho.kx.some hi
  refine⟨r,m,?_⟩
  have:=d.D_eq ho hi r
  have:=(JH (ho.kx.dem hi r)).1
  omega) hz
 (have o:∀i,i<d.us.length->x.rt i=0:=fun i hi=>by apply eO;intro A;have p:=b i hi;rw[(f.kv i hi).2 A]at p;cases p);have v:=k.last (d.rate ho) o;rw[d.toP_eq ho]at v;obtain⟨u,l⟩:=rx ho.kx ho.kq;have w:=unique (n7 ho.kx ho.kq) (nw ho.kx ho.kq) v.1 u;refine⟨h.tl,h.gl,h.hl,h.sl,h.tops,f.q,fun i hi=>?_,fun r m=>?_,u,l⟩
 ·rw[<-w i hi];exact f.hv i hi (b i hi)
 ·have c:=rF f k.kA m d.a.n lR;(have j:zZ (fun i=>if s.R.kv i then 0 else x.ts i*(d.a.D i r:Rat)) d.a.n=used (xI d.kq d.us) (yB d.kq d.us).ts r:=by show _=zZ (fun i=>(yB d.kq d.us).ts i*(xI d.kq d.us).D i r) d.us.length;refine oh (fun i hi=>?_);rw[b i hi,<-w i hi,<-d.toP_eq ho];rfl);rw[j]at c;have F:=JC f.q;have C:=mw (d.P_eq ho r);rw[C]at c;change ((lft d.a s.R r:Nat):Rat)=_ at c;constructor
  ·intro e;rw[e]at c;have z:((0:Nat):Rat)=0:=rfl;rw[z]at c;have E:(s.R.q:Rat)≠0:=by grind
   grind
  ·intro e;rw[e]at c;apply cast_eq.1;have z:((0:Nat):Rat)=0:=rfl;rw[z,c];grind
noncomputable def RD.ts (d:RD)(i:Nat):Rat:=(yB d.kq d.us).ts i
noncomputable def RD.lv (d:RD)(i:Nat):Rat:=(yB d.kq d.us).lv i
def RD.fd (d:RD):FD:=⟨lI,d.us.length,0,d.us,d.kq.length,zv d.kq,0,0,0,0,0⟩
theorem RD.fd_of (d:RD):d.fd.Of d.kq d.us:=⟨rfl,rfl,rfl,rfl⟩
variable{pool:List Int}{a b:FD}
theorem GN (ha:a.Of pool us)(hb:b.Of pool us)(s:St)(i:Nat):∀m k,yj a s i k m=yj b s i k m:=by
 (have d:∀k,upB a s.ts k=upB b s.ts k:=fun k=>by rw[uI ha,uI hb]);(have c:∀k m,yt a s.lv i k m=yt b s.lv i k m:=fun k m=>by rw[jz,rk,rk,ha.us,hb.us]);intro m
 induction m with
 |zero=>intro k;rfl
 |succ m ih=>intro k;simp only[yj];rw[d,c,ih,ha.us,hb.us,ha.n,hb.n]
theorem Hr (ha:a.Of pool us)(hb:b.Of pool us)(s:St)(i:Nat):yb a s i=yb b s i:=by
 unfold yb capB;rw[ha.us,hb.us,ha.kk,hb.kk,GN ha hb]
theorem REnd.ts0 (h:REnd d s)(hi:i<d.us.length):d.ts i=0↔nn s.hl i=0:=by
 have a:=h.hv i hi;have c:=JC h.q0;constructor
 ·intro e;change ((nn s.hl i:Nat):Rat)=s.q*d.ts i at a;rw[e,Rat.mul_zero]at a;exact cast_eq.1 a
 ·intro e;change ((nn s.hl i:Nat):Rat)=s.q*d.ts i at a;rw[e]at a;have z:((0:Nat):Rat)=0:=rfl;rw[z]at a;have b:(s.q:Rat)≠0:=by grind
  grind
theorem REnd.lv_zero (h:REnd d s)(hi:i<d.us.length)(e:nn s.hl i=0):d.lv i=0:=by
 have a:=h.lv i hi;have b:=(h.ts0 hi).2 e;change d.lv i=d.ts i/d.g i at a;rw[a,b];simp[Rat.div_def]
theorem REnd.top (ho:d.Ok)(h:REnd d s)(hi:i<d.us.length)(e:nn s.hl i≠0):0<=lm s.tl i/\(((lm s.tl i).toNat:Nat):Int)=lm s.tl i/\Top1 d i (lm s.tl i).toNat:=by
 rcases h.tops.get ho hi with⟨_,b⟩|a
 ·exfalso;exact e ((h.ts0 hi).1 (h.fair.none i hi b))
 ·exact a
theorem REnd.lv_eq (ho:d.Ok)(h:REnd d s)(hi:i<d.us.length)(ht:Top1 d i m):d.lv i=d.ts i*((d.a.D i m:Rat)/((d.a.P m:Rat)*(d.a.W i:Rat))):=by
 have b:=h.lv i hi;change d.lv i=d.ts i/d.g i at b;have v:=JC ht.D;have c:=JC ht.P;have f:=JC (ez Nat.zero_lt_one (d.W_le ho hi).1);have j:=ht.rate;have q:=iB c f;(have r:d.g i≠0:=fun e=>by rw[e,Rat.zero_mul]at j;have:=iB f c;grind);rw[b];generalize d.g i=g at *;generalize(d.a.D i m:Rat)=D at *;generalize(d.a.P m:Rat)=P at *;generalize(d.a.W i:Rat)=W at *
 have k:(1:Rat)/g=D/(P*W):=by
  (have l:g*D=P*W:=by rw[j];grind);have n:D/(P*W)*(P*W)=D:=l7 (by grind);have o:(1:Rat)/g*g=1:=l7 r;(have p:(1:Rat)/g*(P*W)=D:=by rw[<-l,<-Rat.mul_assoc,o,Rat.one_mul]);(have u:(1:Rat)/g*(P*W)=D/(P*W)*(P*W):=by rw[n,p]);have t:P*W≠0:=by grind
  grind
 rw[<-k]
 grind
theorem REnd.lv_pos (ho:d.Ok)(h:REnd d s)(hi:i<d.us.length)(e:nn s.hl i≠0):0<d.lv i:=by
 obtain⟨_,_,c⟩:=h.top ho hi e;rw[h.lv_eq ho hi c];have k:=JC c.D;have l:=JC c.P;have m:=JC (ez Nat.zero_lt_one (d.W_le ho hi).1);have b:=iB l m
 have f:0<d.ts i:=by
  have g:=h.fair.low i hi;(have:d.ts i≠0:=fun h5=>e ((h.ts0 hi).1 h5));change 0<=d.ts i at g
  grind
 (have j:0<(d.a.D i (lm s.tl i).toNat:Rat)/((d.a.P (lm s.tl i).toNat:Rat)*(d.a.W i:Rat)):=by rw[Rat.div_def];exact iB k (Rat.inv_pos.2 b));exact iB f j
variable{j:Nat}
theorem REnd.above0 (ho:d.Ok)(h:REnd d s)(hi:i<d.us.length)(hj:j<d.us.length)(e:nn s.hl j=0):¬ d.lv i<d.lv j:=by
 rw[h.lv_zero hj e];intro b;by_cases a:nn s.hl i=0
 ·rw[h.lv_zero hi a]at b;grind
 ·have:=h.lv_pos ho hi a;grind
theorem REnd.above1 (ho:d.Ok)(h:REnd d s)(hi:i<d.us.length)(hj:j<d.us.length)(e:nn s.hl j≠0)(e2:nn s.hl i=0):d.lv i<d.lv j:=by
 rw[h.lv_zero hi e2];exact h.lv_pos ho hj e
theorem REnd.above2 (ho:d.Ok)(h:REnd d s)(hi:i<d.us.length)(hj:j<d.us.length)(hr:Top1 d i r)(ht:Top1 d j t):d.lv i<d.lv j↔nn s.hl i*(d.a.D i r*d.a.P t*d.a.W j)<nn s.hl j*(d.a.D j t*d.a.P r*d.a.W i):=by
 rw[h.lv_eq ho hi hr,h.lv_eq ho hj ht,<-ur];have k:=h.hv i hi;have l:=h.hv j hj;change ((nn s.hl i:Nat):Rat)=s.q*d.ts i at k;change ((nn s.hl j:Nat):Rat)=s.q*d.ts j at l;simp only[JI];rw[k,l];have A:=JC h.q0;have c:=JC hr.P;have e:=JC ht.P;have f:=JC (ez Nat.zero_lt_one (d.W_le ho hi).1);have g:=JC (ez Nat.zero_lt_one (d.W_le ho hj).1);generalize d.ts i=x at *;generalize d.ts j=y at *;generalize(s.q:Rat)=q at *;generalize(d.a.D i r:Rat)=Di at *;generalize(d.a.D j t:Rat)=Dj at *;generalize(d.a.P r:Rat)=Pr at *;generalize(d.a.P t:Rat)=Pt at *;generalize(d.a.W i:Rat)=Wi at *;generalize(d.a.W j:Rat)=Wj at *;have w:=iB c f;have hB:=iB e g;have b:=iB w hB;have z:=iB b A;have n:Di/(Pr*Wi)*(Pr*Wi)=Di:=l7 (by grind);have o:Dj/(Pt*Wj)*(Pt*Wj)=Dj:=l7 (by grind)
 have p:x*(Di/(Pr*Wi))*((Pr*Wi)*(Pt*Wj)*q)=q*x*(Di*Pt*Wj):=by
  calc x*(Di/(Pr*Wi))*((Pr*Wi)*(Pt*Wj)*q)=q*x*(Di/(Pr*Wi)*(Pr*Wi)*(Pt*Wj)):=by grind
   _=_:=by rw[n];grind
 have u:y*(Dj/(Pt*Wj))*((Pr*Wi)*(Pt*Wj)*q)=q*y*(Dj*Pr*Wi):=by
  calc y*(Dj/(Pt*Wj))*((Pr*Wi)*(Pt*Wj)*q)=q*y*(Dj/(Pt*Wj)*(Pt*Wj)*(Pr*Wi)):=by grind
   _=_:=by rw[o];grind
 rw[<-p,<-u];constructor
 ·intro m;exact Rat.mul_lt_mul_of_pos_right m z
 ·intro m;apply eO;intro v;have:=om (Rat.not_lt.1 v) (show(0:Rat)<=(Pr*Wi)*(Pt*Wj)*q by grind)
  grind
def HoldsN (d:RD)(r i:Nat):Prop:=0<lm (ug d.us i).dem r/\used (xI d.kq d.us) (yB d.kq d.us).ts r=((lm d.kq r:Int):Rat)/\∀j,j<d.us.length->0<lm (ug d.us j).dem r->¬ d.lv i<d.lv j
theorem qV:HoldsN d r i↔xT d.fd (yB d.kq d.us) r i:=by
 unfold HoldsN xT;rw[uI d.fd_of,eN,rk];show _/\zK d.us (yB d.kq d.us).ts r d.us.length=_/\_↔_;constructor
 ·rintro⟨a,b,c⟩;exact⟨a,b,fun j hj h5=>Rat.not_lt.1 (c j hj h5)⟩
 ·rintro⟨a,b,c⟩;exact⟨a,b,fun j hj h5=>Rat.not_lt.2 (c j hj h5)⟩
theorem REnd.text (h:REnd d s)(hi:i<d.us.length):mkRat (sg lL (nn s.hl i)) s.q=d.ts i:=by
 have b:=h.hv i hi;change ((nn s.hl i:Nat):Rat)=s.q*d.ts i at b;have f:=JC h.q0;rw[Cj];show(((nn s.hl i:Nat):Int):Rat)/((s.q:Int):Rat)=_;have c:(((nn s.hl i:Nat):Int):Rat)=((nn s.hl i:Nat):Rat):=rfl;have e:((s.q:Int):Rat)=(s.q:Rat):=rfl;rw[c,e,b];generalize(s.q:Rat)=q at *;generalize d.ts i=x;(have a:q≠0:=by grind);rw[Rat.div_def];have:=Rat.mul_inv_cancel q a
 grind
theorem REnd.level (ho:d.Ok)(h:REnd d s)(hi:i<d.us.length)(ht:Top1 d i m):mkRat (sg lL (nn s.hl i*d.a.D i m)) (s.q*(d.a.P m*d.a.W i))=d.lv i:=by
 rw[h.lv_eq ho hi ht];have e:=h.hv i hi;change ((nn s.hl i:Nat):Rat)=s.q*d.ts i at e;have n:=JC h.q0;have k:=JC ht.P;have l:=JC (ez Nat.zero_lt_one (d.W_le ho hi).1);rw[Cj];(have f:((sg lL (nn s.hl i*d.a.D i m):Int):Rat)=((nn s.hl i:Nat):Rat)*(d.a.D i m:Rat):=by rw[<-JI];rfl);(have g:(((s.q*(d.a.P m*d.a.W i):Nat):Int):Rat)=(s.q:Rat)*((d.a.P m:Rat)*(d.a.W i:Rat)):=by rw[<-JI,<-JI];rfl);rw[f,g,e];generalize(s.q:Rat)=q at *;generalize d.ts i=x at *;generalize(d.a.D i m:Rat)=D at *;have b:=iB k l;generalize(d.a.P m:Rat)*(d.a.W i:Rat)=B at *;(have hB:B≠0:=by grind);(have o:q≠0:=by grind);(have c:q*B≠0:=by have:=iB n b;grind);have p:q*x*D/(q*B)*(q*B)=q*x*D:=l7 c;have j:D/B*B=D:=l7 hB
 have r:x*(D/B)*(q*B)=q*x*D:=by
  calc x*(D/B)*(q*B)=q*x*(D/B*B):=by grind
   _=_:=by rw[j]
 grind
theorem REnd.level0 (ho:d.Ok)(h:REnd d s)(hi:i<d.us.length)(e:lm s.tl i<0):d.lv i=0:=by
 rcases h.tops.get ho hi with⟨_,a⟩|⟨b,_⟩
 ·exact h.lv_zero hi ((h.ts0 hi).1 (h.fair.none i hi a))
 ·omega
theorem REnd.cap (ho:d.Ok)(h:REnd d s)(hi:i<d.us.length):nn s.hl i=d.a.C i*s.q↔(yB d.kq d.us).ts i=(((ug d.us i).cap:Int):Rat):=by
 have b:=h.hv i hi;have j:=JC h.q0;have f:=mw (d.C_eq ho hi);rw[<-f,<-Por.cast_eq,JI,b];generalize(s.q:Rat)=q at *;generalize(yB d.kq d.us).ts i=x;generalize((d.a.C i:Nat):Rat)=c;(have g:q≠0:=by grind);constructor<;>intro e<;>grind
variable{l:List Nat}{k x:Nat}
theorem Ca (h:l[k]?=lJ x):lm (l.map (fun(n:Nat)=>(n:Int))) k=(x:Int):=by
 simp[lm,h]
theorem vF (h:l[k]?=lJ x):j∈l.take (k+1)↔j∈l.take k\/j=x:=by
 rw[List.take_add_one,h];simp
theorem Gh {w:lM}(h:RisM w d s)(ho:d.Ok)(hs:s.Ok d)(hle:∀r,r<d.kq.length->∀i,i<d.us.length->bn s.sl i=lL->d.a.D i r*nn s.hl i<=yE d.a s.R r i):Calls prog 21 #[kY (lJ ⟨d.pb,0,lI⟩)] w fun e w'=>(((yF d.a (nn s.gl) s.R).2.1=0/\e=lF (kZ lL)/\Below w.heap.size w w')\/((yF d.a (nn s.gl) s.R).2.1≠0/\(zA (yF d.a (nn s.gl) s.R).2.1).length<=16/\e=lF (kZ lK)/\∃t:RV,RisM w' d t/\t.tl=s.tl/\t.gl=s.gl/\t.hl.length=d.us.length/\t.sl.length=d.us.length/\TurnT d.a (nn s.gl) s.R t.R/\Below d.pb w w')):=by
 have cQ:=ho.k4;have cR:=ho.n6;have H:=hid h;have HO:=hid ho;have HS:=hid hs;have bM:=hid hle;clear h ho hs hle;have aM:=hid (brw w);go_enter func21,ntmps21;go_wp2_with fail;refine(FG H HO HS bM).mono ?_;rintro e1 w1 ⟨no,nm,nc,so,sm,sc,rfl,hN,hS,ln,ls,bw⟩;obtain⟨N,bE⟩:∃N,(yF d.a (nn s.gl) s.R).1=N:=⟨_,rfl⟩;obtain⟨S,bF⟩:∃S,(yF d.a (nn s.gl) s.R).2.1=S:=⟨_,rfl⟩;obtain⟨kd,bD⟩:∃kd,(yF d.a (nn s.gl) s.R).2.2=kd:=⟨_,rfl⟩;rw[bE]at hN;rw[bF]at hS;rw[bD];(have HX:Hid (yF d.a (nn s.gl) s.R=(N,S,kd)):=by rw[<-bE,<-bF,<-bD];rfl);clear bE bF bD;have aP:=hid (H.iP bw);have bo:=hid hN;have bq:=hid hS;have be:=hS.len;(have bQ:Hid ((zA S).length<=16):=by rw[Hid,be];exact ls);have bm:=hid (et aM bw);(have bO:Hid (d.pb<=w.heap.size):=by obtain⟨_,_,_,_,_,_,_,hq,_⟩:=H.box;exact ir hq.lt);clear bw hN hS aM H;by_cases bb:S=0
 ·subst bb;(have cb:sm=0:=by rw[<-be,JD];rfl);subst cb;clear be;go_wp2;go_ret;exact Or.inl ⟨by rw[HX.out],rfl,bm⟩
 ·(have cb:((sm:Int) == 0)=lL:=by rw[eg];intro h5;exact bb (n9.1 (by omega)));have bP:=hid bb;clear bb be;go_wp2
  go_loopg[6,7] d.us.length (fun gg vl ix wr=>∃(i:Nat) (l:List Nat),gg=d.us.length-i/\i<=d.us.length/\ix=kW lD i/\Hid (Own w1.heap.size wr vl (l.map (fun(n:Nat)=>(n:Int))))/\Hid (∀j,j∈l↔j<i/\bn s.sl j=lK/\xH d.a (nn s.gl) s.R N S j)/\l.length<=i/\Hid (Bl w1 wr))
  case atStart=>exact⟨0,[],rfl,ep _,rfl,Own.nil _ _,fun j=>⟨fun h5=>(by cases h5),fun h5=>absurd h5.1 (by omega)⟩,by simp,eB _ _⟩
  case round=>
   obtain⟨i,l,cx,hi,rfl,hO,hM,cC,hB⟩:=hrel;obtain⟨bJ,bH,bf,aL,aK,aJ,aI,f,Q,P,A,m,F,v⟩:=(aP.iP hB).box;have K:=f.lt;have e1:=f.cell 1 _ rfl;by_cases bc:i<d.us.length
   ·(have cA:(i:Int)<(d.us.length:Int):=by omega);have e5:=f.cell 5 _ rfl;have cD:=HS.sl;obtain ⟨ce,cd,rfl⟩:=m.kE;rw[cD] at m e5;obtain ⟨sb,rfl,a7,cs,_⟩:=m.get (i:=i) (by omega);rw[eC] at cs;clear f Q P A m F v
    have bh:Hid (¬ (bn s.sl i=lK/\xH d.a (nn s.gl) s.R N S i)->∀j,j∈l↔j<i+1/\bn s.sl j=lK/\xH d.a (nn s.gl) s.R N S j):=fun h5 j=>by
     rw[hM.out j];constructor
     ·exact fun h6=>⟨by omega,h6.2⟩
     ·intro h6;by_cases e:j=i
      ·subst e;exact absurd h6.2 h5
      ·exact⟨by omega,h6.2⟩
    cases bd:bn s.sl i with
    |false=>have aO:=hid (bh (fun h5=>by rw[bd]at h5;cases h5.1));go_wp2;go_roundg (d.us.length-(i+1));exact⟨i+1,l,rfl,by omega,by go_num,hO,aO,by omega,hB⟩;omega
    | true=>
     rw[bd]at cs;have cm:=hid bd;clear bd;go_wp2_with fail;refine(D1 (aP.iP hB) HO HS bM bc (bo.iP hB) (bq.iP hB) ln ls).mono ?_;rintro e7 w7 ⟨⟨b,rfl,b2⟩,bx⟩;have bL:=hid b2;clear b2;clear e5 cs K e1 a7;have a9:=hid (et hB bx);have bN:=hid (hO.iP bx);clear bx hO hB
     cases b with
     |false=>have aO:=hid (bh (fun h5=>by have:=bL.2 h5.2;cases this));go_wp2;go_roundg (d.us.length-(i+1));exact⟨i+1,l,rfl,by omega,by go_num,bN,aO,by omega,a9⟩;omega
     | true=>
      have aO:Hid (∀j,j∈l++[i]↔j<i+1/\bn s.sl j=lK/\xH d.a (nn s.gl) s.R N S j):=fun j=>by
       rw[iu,jv,hM.out j];constructor
       ·rintro(h6|rfl)
        ·exact⟨by omega,h6.2⟩
        ·exact⟨by omega,cm,bL.1 rfl⟩
       ·intro h6;by_cases e:j=i
        ·exact Or.inr e
        ·exact Or.inl ⟨by omega,h6.2⟩
      go_wp2_with (at_builtin;refine su _ rfl _ _ rfl w1.heap.size _ (l.map (fun(n:Nat)=>(n:Int))) ⟨w7.heap.size,0,lI⟩ 1 1 [(i:Int)] rfl rfl (bN.iP (brf.alloc lR _)) rfl (fun j hj=>match j,hj with|0,_=>(i1 w7 #[kW lD (i:Int)] 3).cell 0 _ rfl|j+1,hj=>absurd hj (by omega)) (by rw[iv];omega) (by have:=a9.size;simp only[em];omega) ?_);intro v' w' b0 bY;(have ck:Hid (Own w1.heap.size w' v' ((l++[i]).map (fun(n:Nat)=>(n:Int)))):=by rw[ii];exact b0);have ci:=hid ((a9.alloc a9.size _).trans bY);clear b0 bY;go_wp2;go_roundg (d.us.length-(i+1));exact⟨i+1,l++[i],rfl,by omega,by go_num,ck,aO,by simp;omega,ci⟩;omega
   ·(obtain rfl:i=d.us.length:=by omega);clear f Q P A m F v;obtain ⟨lo,lc,b7,ai,_⟩:=hO.row;subst b7;rw[iv] at ai;rw[iv];obtain ⟨ll,a3⟩:∃ ll,ll=l.length:=⟨_,rfl⟩;rw[<-a3] at ai cC ⊢;have aG:=hid a3;clear a3 hO;have bp:=hid (aP.iP hB);have T:=hid (bo.iP hB);have I:=hid (bq.iP hB);have z:=hid ai;have G:=hid (hB.mono (ir (by obtain ⟨_,_,_,_,_,_,_,hq,_⟩:=aP.box;exact hq.lt)));clear ai hB aP bo bq
    cases kd with
    | false=>
     go_wp2;clear e1 K
     go_loopg[10] ll (fun gg ix wr=>∃(k:Nat) (t:RV),gg=ll-k/\k<=ll/\ix=kW lD k/\Hid (RisM wr d t)/\Hid (t.tl=s.tl/\t.gl=s.gl/\t.q=s.q)/\t.hl.length=d.us.length/\t.sl.length=d.us.length/\Hid (∀j,j<d.us.length->bn t.sl j=if j∈l.take k then lL else bn s.sl j)/\Hid (∀j,j<d.us.length->nn t.hl j=if j∈l.take k then d.a.C j*s.q else nn s.hl j)/\Hid (Row wr no nm nc (zA N))/\Hid (Row wr so sm sc (zA S))/\Hid (Row wr lo ll lc (l.map (fun(n:Nat)=>(n:Int))))/\Hid (Below d.pb w1 wr))
     case atStart=>exact⟨0,s,rfl,ep _,rfl,bp,⟨rfl,rfl,rfl⟩,HS.hl,HS.sl,fun j hj=>by rw[List.take_zero,ec (iU)],fun j hj=>by rw[List.take_zero,ec (iU)],T,I,z,G⟩
     case round=>
      obtain⟨k,t,cy,hk,rfl,HT,u,X,az,aQ,ah,T,I,z,G⟩:=hrel;by_cases bA:k<ll
      ·(have b6:(k:Int)<(ll:Int):=by omega);obtain ⟨x,hx⟩:∃ x,l[k]? = lJ x:=⟨l[k]'(by have:=aG.out;omega),en _⟩;have aH:=((hM x).1 (List.mem_of_getElem? hx)).1;(have cE:(x:Int)<(d.us.length:Int):=by omega);obtain ⟨lb,bG,a4,bB⟩:=z.head (by omega);have cl:=z.cell lb bG a4 k bA;rw[Ca hx] at cl;have W:=hid (fun j=>vF (j:=j) hx);clear hx;obtain ⟨bJ,bH,bf,aL,aK,aJ,aI,f,Q,P,A,m,F,v⟩:=(HT).box;have K:=f.lt;have e5:=f.cell 5 _ rfl;obtain ⟨ce,cd,rfl⟩:=m.kE;rw[az] at m e5;obtain ⟨sb,rfl,a7,_,_⟩:=m.get (i:=x) (by omega);clear f Q P A m F v;obtain ⟨_,ca,⟨y5,bt⟩,z5,aY,aX⟩:=HT.setStillAt (i:=x) (by omega) lL e5;subst a4;have ag:=hid aY;have J:=hid aX;clear aY aX;(go_upto_region 25 with fail);have al:=hid (T.kC ag (by decide));have au:=hid (I.kC ag (by decide));have ar:=hid (z.kC ag (by decide));have ap:Hid (Below d.pb w1 (lG wr ⟨sb,x,lI⟩ (kZ lL))):=G.setCell (by show d.pb<=sb;omega) _;clear HT T I z G ag cl e5 bt z5 bB a7 K;generalize lG wr ⟨sb,x,lI⟩ (kZ lL)=V at J al au ar ap ⊢;obtain ⟨cJ,cf,bI,cI,aC,aB,aA,E,a6,ae,ab,a5,aE,aj⟩:=(J).box;have L:=E.lt;have e4:=E.cell 4 _ rfl;obtain ⟨b9,ad,rfl⟩:=ab.kE;obtain ⟨y,_,_,_,rfl,bz,_,_,_⟩:=ab.get (i:=x) (by show x<t.hl.length;omega);have cc:=X;(have am:lH V ⟨d.pb,4,lI⟩=lJ (kX (lJ ⟨y,0,lI⟩) d.us.length ad):=by rw[<-X];exact e4);clear e4;have e6:=E.cell 6 _ rfl;have e1:lH V ⟨d.pb,1,lI⟩=lJ (kX d.ao d.us.length d.cap):=E.cell 1 _ rfl;(have HQ:Hid (Row V aC aB aA (zA s.q)):=by rw[<-u.out.2.2];exact aE);have lq:=HQ.len;have cH:=HS.q;clear E a6 ae ab a5 aE aj;obtain ⟨ub,uo,da,dn,dc,bv,b3,a0,a1,a2,hd⟩:=J.kr.get aH;rw[bv] at e1;clear a0 a1 hd;obtain ⟨M,bZ,bu⟩:∃ M:Nat,(ug d.us x).cap=(M:Int)/\M=d.a.C x:=⟨_,d.C_eq HO aH,rfl⟩;rw[bZ] at a2;(have cu:M<=10000:=by rw[bu];have:=d.C_le HO aH;omega);have cj:=hid bu
       have cv:ub≠y:=by
        have h8:=J.low;obtain⟨cT,cU,_,_,_,bl,cK,_⟩:=J.u0.get aH;rw[bv]at bl
        cases bl
        have h9:d.pb<y:=(J.setHaveAt (i:=x) (x:=0) (by show x<t.hl.length;omega) (ao:=lI) (k:=0) (cap:=0) (by rw[JD];exact Row.nil V) am).2.1;omega
       clear bZ bu bv;(have SK:Hid (∀U,Bl V U->lH U ⟨d.pb,1,lI⟩=lJ (kX (lJ ⟨ub,uo,lI⟩) d.us.length d.cap)/\lH U ⟨d.pb,6,lI⟩=lJ (kX aC aB aA)/\lH U ⟨d.pb,4,lI⟩=lJ (kX (lJ ⟨y,0,lI⟩) d.us.length ad)/\lH U ⟨ub,uo+x*3+2,lI⟩=lJ (kW lD (M:Int))):=fun U h=>⟨qs h e1 L,qs h e6 L,qs h am L,qs h a2 b3⟩);obtain⟨cq,cr,aV,co⟩:=SK _ (brw V).drew;go_region_held3 (fun w'=>lH w' ⟨d.pb,1,lI⟩=lJ (kX (lJ ⟨ub,uo,lI⟩) d.us.length d.cap)/\lH w' ⟨d.pb,6,lI⟩=lJ (kX aC aB aA)/\lH w' ⟨d.pb,4,lI⟩=lJ (kX (lJ ⟨y,0,lI⟩) d.us.length ad)/\lH w' ⟨ub,uo+x*3+2,lI⟩=lJ (kW lD (M:Int))) (first|exact SK _ brf.drew|exact SK _ c|exact SK _ g|exact⟨(lT (by omega)).trans (SK _ g).1,(lT (by omega)).trans (SK _ g).2.1,(lT (by omega)).trans (SK _ g).2.2.1,(lT cv).trans (SK _ g).2.2.2⟩) (first|(go_at_call 37;refine(JK cn (HQ.iP c) (by omega) (by omega)).mono ?_;rintro ct a8 ⟨v2,rfl,⟨po,pn,pc,rfl,ac,_⟩,aD⟩;have g:Bl V a8:=et c aD;clear aD;have af:=hid ac;rw[cj.out]at af;clear ac;obtain⟨bU,bV,⟨y4,bW⟩,bX,Z,aa⟩:=(J.iP g).setHaveAt (i:=x) (x:=d.a.C x*s.q) (by show x<t.hl.length;omega) af (qs (g) am L);have B:=hid Z;have ak:=hid aa;clear Z aa)|(go_at_call 35;refine(JN (by omega)).mono ?_;rintro aW Y ⟨v1,rfl,⟨wo,wn,wc,rfl,bC,_⟩,o⟩;have c:Bl V Y:=(brw V).drew.trans (o.mono ((brw V).drew).size);clear o;have lw:wn<=2:=(by rw[<-bC.len];exact lQ cu);have cn:=hid bC;clear bC));clear SK cq cr aV co;have ax:=hid (al.iP g);have ay:=hid (au.iP g);have aw:=hid (ar.iP g);have bs:=hid (J.iP g);have aq:Hid (Below (d.pb) w1 a8):=ap.trans (g.mono (ir L));clear al au ar J ap;go_wp2;go_roundg (ll-(k+1));case measure=>omega
       case rel=>
        refine⟨k+1,{t with sl:=t.sl.set x lL,hl:=t.hl.set x (d.a.C x*s.q)},rfl,by omega,by go_num,ak,u,by simpa using X,by simpa using az,?_,?_,ax.kC B (by decide),ay.kC B (by decide),aw.kC B (by decide),aq.setCell (by show d.pb<=y;omega) _⟩
        ·exact fun j hj=>by
          show bn (t.sl.set x lL) j=_;rw[Cd (by omega)];by_cases e:j=x
          ·rw[ed e,ed ((W.out j).2 (Or.inr e))]
          ·rw[ec e,aQ.out j hj];by_cases e2:j∈l.take k
           ·rw[ed e2,ed ((W.out j).2 (Or.inl e2))]
           ·rw[ec e2,ec (fun h5=>((W.out j).1 h5).elim e2 e)]
        ·exact fun j hj=>by
          show nn (t.hl.set x (d.a.C x*s.q)) j=_;rw[qr (by omega)];by_cases e:j=x
          ·rw[ed e,ed ((W.out j).2 (Or.inr e)),e]
          ·rw[ec e,ah.out j hj];by_cases e2:j∈l.take k
           ·rw[ed e2,ed ((W.out j).2 (Or.inl e2))]
           ·rw[ec e2,ec (fun h5=>((W.out j).1 h5).elim e2 e)]
      ·obtain rfl:k=ll:=by omega
       have br:Hid (TurnT d.a (nn s.gl) s.R t.R):=by
        refine BL HX hM ?_ (fun j hj=>?_) (fun j hj=>?_)
        ·rw[u.out.2.2];rfl
        ·rw[aQ.out j hj,aG.out,jt]
        ·rw[ah.out j hj,aG.out,jt,u.out.2.2];rfl
       go_wp2;go_ret;exact Or.inr ⟨by rw[HX.out];exact bP,by rw[HX.out];exact bQ,rfl,t,HT,u.1,u.2.1,X,az,br,(bm.mono bO).trans G⟩
    | true=>
     go_wp2;clear e1 K
     go_loopg[9] d.us.length (fun gg ix wr=>∃(i:Nat) (t:RV),gg=d.us.length-i/\i<=d.us.length/\ix=kW lD i/\Hid (RisM wr d t)/\Hid (t.tl=s.tl/\t.gl=s.gl/\t.q=s.q/\t.sl=s.sl)/\t.hl.length=d.us.length/\Hid (∀j,j<d.us.length->nn t.hl j=if j<i then nn s.hl j*S else nn s.hl j)/\Hid (Row wr no nm nc (zA N))/\Hid (Row wr so sm sc (zA S))/\Hid (Row wr lo ll lc (l.map (fun(n:Nat)=>(n:Int))))/\Hid (Below d.pb w1 wr))
     case atStart=>exact⟨0,s,rfl,ep _,rfl,bp,⟨rfl,rfl,rfl,rfl⟩,HS.hl,fun j hj=>by rw[ec (iF j)],T,I,z,G⟩
     case round=>
      clear bp T I z G;obtain⟨i,t,cx,hi,rfl,HT,u,X,ah,T,I,z,G⟩:=hrel;obtain⟨bJ,bH,bf,aL,aK,aJ,aI,f,Q,P,A,m,F,v⟩:=(HT).box;have K:=f.lt;have e1:lH wr ⟨d.pb,1,lI⟩=lJ (kX d.ao d.us.length d.cap):=f.cell 1 _ rfl;by_cases bc:i<d.us.length
      ·(have cA:(i:Int)<(d.us.length:Int):=by omega);have e4:lH wr ⟨d.pb,4,lI⟩=lJ bf:=f.cell 4 _ rfl;obtain ⟨b9,ad,rfl⟩:=A.kE;obtain ⟨y,ha,cB,b4,rfl,bz,ch,_,aF⟩:=A.get (i:=i) (by omega);rw[eC] at ch;rw[X] at e4;(have b8:nn t.hl i=nn s.hl i:=by rw[ah.out i bc,ec (jD _)]);rw[b8] at aF;have HH:=hid aF;have lh:=aF.len;have cS:=HS.hs i bc;clear aF b8 f Q P A m F v;(go_upto_region 16 with fail);have cN:=qq e4;have cM:=qq ch;go_region_law (first | (go_simp;go_at_call 37;refine (JK (HH.iP (brw wr).drew) (I.iP (brw wr).drew) (by omega) (by omega)).mono ?_;rintro aW Y ⟨v2,rfl,⟨po,pn,pc,rfl,ac,_⟩,o⟩;have c:Bl wr Y:=(brw wr).drew.trans (o.mono ((brw wr).drew).size);clear o;have af:=hid ac;clear ac;obtain ⟨bU,bV,⟨y4,bW⟩,bX,Z,aa⟩:=(HT.iP c).setHaveAt (i:=i) (x:=nn s.hl i*S) (by omega) af (qs (c) e4 K);have B:=hid Z;have ak:=hid aa;have cL:=qs (c) e4 K;clear Z aa;go_wp2_with fail))
       all_goals
        go_wp2
        go_roundg (d.us.length-(i+1))
        case measure=>omega
        case rel=>
         refine⟨i+1,{t with hl:=t.hl.set i (nn s.hl i*S)},rfl,by omega,by go_num,ak,u,by simpa using X,fun j hj=>?_,(T.iP c).kC B (by decide),(I.iP c).kC B (by decide),(z.iP c).kC B (by decide),(G.trans (c.mono (ir K))).setCell (by show d.pb<=y;omega) _⟩
         show nn (t.hl.set i (nn s.hl i*S)) j=_
         rw[qr (by omega)]
         by_cases e:j=i
         ·subst e;rw[ed rfl,ed (by omega)]
         ·rw[ec e,ah.out j hj]
          by_cases e2:j<i
          ·rw[ed e2,ed (by omega)]
          ·rw[ec e2,ec (by omega)]
      ·(obtain rfl:i=d.us.length:=by omega);have e6:lH wr ⟨d.pb,6,lI⟩=lJ (kX aK aJ aI):=f.cell 6 _ rfl;(have HQ:Hid (Row wr aK aJ aI (zA s.q)):=by rw[<-u.out.2.2.1];exact F);have lq:=HQ.len;have cH:=HS.q;(have z6:∀ U,Bl wr U->U.frozen? ⟨d.pb,6,lI⟩=lL:=fun U h=>(f.iP h f.lt).frozen 6);have bR:=hid z6;clear z6 f Q P A m F v;go_wp2_with fail;refine (JK HQ I (by omega) (by omega)).mono ?_;rintro cO bK ⟨cV,rfl,⟨po,pn,pc,rfl,ac,_⟩,O⟩;have af:=hid ac;clear ac;have aS:=hid (T.iP O);have aU:=hid (I.iP O);have aR:=hid (z.iP O);have aT:=hid (HT.iP O);have aN:Hid (Below (d.pb) w1 bK):=G.trans (O.mono (ir K));clear T I z HT G;have c6:=qs O e6 K;have z6:=bR.out _ O;have l6:=jl O K;obtain ⟨aa,Z⟩:=aT.setQ (x:=s.q*S) af;have B:=hid Z;have ak:=hid aa;clear Z aa O;go_wp2;have bj:=hid (aS.kC B (by decide));have bk:=hid (aU.kC B (by decide));have bi:=hid (aR.kC B (by decide));have bg:Hid (Below d.pb w1 (lG bK ⟨d.pb,6,lI⟩ (kX po pn pc))):=aN.setCell lR _;clear aS aU aR aT aN c6 z6 l6 e6 e1 HQ af bR B;generalize lG bK ⟨d.pb,6,lI⟩ (kX po pn pc)=V2 at bj bk bi bg ak ⊢
       go_loopg[10] ll (fun gg ix wr=>∃(k:Nat) (t:RV),gg=ll-k/\k<=ll/\ix=kW lD k/\Hid (RisM wr d t)/\Hid (t.tl=s.tl/\t.gl=s.gl/\t.q=s.q*S)/\t.hl.length=d.us.length/\t.sl.length=d.us.length/\Hid (∀j,j<d.us.length->bn t.sl j=if j∈l.take k then lL else bn s.sl j)/\Hid (∀j,j<d.us.length->nn t.hl j=if j∈l.take k then N*nn s.gl j else nn s.hl j*S)/\Hid (Row wr no nm nc (zA N))/\Hid (Row wr so sm sc (zA S))/\Hid (Row wr lo ll lc (l.map (fun(n:Nat)=>(n:Int))))/\Hid (Below d.pb w1 wr))
       case atStart=>exact⟨0,{t with q:=s.q*S},rfl,ep _,rfl,ak,⟨u.1,u.2.1,rfl⟩,X,(by show t.sl.length=_;rw[u.out.2.2.2];exact HS.sl),fun j hj=>(by rw[List.take_zero,ec (iU)];show bn t.sl j=_;rw[u.out.2.2.2]),fun j hj=>(by rw[List.take_zero,ec (iU)];show nn t.hl j=_;rw[ah.out j hj,ed hj]),bj,bk,bi,bg⟩
       case round=>
        obtain⟨k,t,cy,hk,rfl,HT,u,X,az,aQ,ah,T,I,z,G⟩:=hrel;by_cases bA:k<ll
        ·(have b6:(k:Int)<(ll:Int):=by omega);obtain ⟨x,hx⟩:∃ x,l[k]? = lJ x:=⟨l[k]'(by have:=aG.out;omega),en _⟩;have aH:x<d.us.length:=((hM x).1 (List.mem_of_getElem? hx)).1;(have cE:(x:Int)<(d.us.length:Int):=by omega);obtain ⟨lb,bG,a4,bB⟩:=z.head (by omega);have cl:=z.cell lb bG a4 k bA;rw[Ca hx] at cl;have W:=hid (fun j=>vF (j:=j) hx);clear hx;obtain ⟨bJ,bH,bf,aL,aK,aJ,aI,f,Q,P,A,m,F,v⟩:=(HT).box;have K:=f.lt;have e5:lH wr ⟨d.pb,5,lI⟩=lJ aL:=f.cell 5 _ rfl;obtain ⟨ce,cd,rfl⟩:=m.kE;rw[az] at m e5;obtain ⟨sb,rfl,a7,_,_⟩:=m.get (i:=x) (by omega);clear f Q P A m F v;obtain ⟨_,ca,⟨y5,bt⟩,z5,aY,aX⟩:=HT.setStillAt (i:=x) (by omega) lL e5;subst a4;have ag:=hid aY;have J:=hid aX;clear aY aX;(go_upto_region 24 with fail);have al:=hid (T.kC ag (by decide));have au:=hid (I.kC ag (by decide));have ar:=hid (z.kC ag (by decide));have ap:Hid (Below d.pb w1 (lG wr ⟨sb,x,lI⟩ (kZ lL))):=G.setCell (by show d.pb<=sb;omega) _;clear HT T I z G ag cl e5 bt z5 bB a7 K;generalize lG wr ⟨sb,x,lI⟩ (kZ lL)=V at J al au ar ap ⊢;obtain ⟨cJ,cf,bI,cI,aC,aB,aA,E,a6,ae,ab,a5,aE,aj⟩:=(J).box;have L:=E.lt;have e4:lH V ⟨d.pb,4,lI⟩=lJ bI:=E.cell 4 _ rfl;obtain ⟨b9,ad,rfl⟩:=ab.kE;obtain ⟨y,_,_,_,rfl,bz,_,_,_⟩:=ab.get (i:=x) (by show x<t.hl.length;omega);have cc:t.hl.length=d.us.length:=X;(have am:lH V ⟨d.pb,4,lI⟩=lJ (kX (lJ ⟨y,0,lI⟩) d.us.length ad):=by rw[<-X];exact e4);clear e4;have e3:lH V ⟨d.pb,3,lI⟩=lJ cf:=E.cell 3 _ rfl;(have cz:t.gl.length=d.us.length:=by rw[u.out.2.1];exact HS.gl);obtain ⟨cP,ba,rfl⟩:=ae.kE;obtain ⟨gb,ga,gk,an,rfl,b5,cg,_,aZ⟩:=ae.get (i:=x) (by show x<t.gl.length;omega);rw[eC] at cg;(have bT:lH V ⟨d.pb,3,lI⟩=lJ (kX (lJ ⟨gb,0,lI⟩) d.us.length ba):=by rw[<-cz];exact e3);(have HG:Hid (Row V ga gk an (zA (nn s.gl x))):=by rw[<-u.out.2.1];exact aZ);(have lg:gk<=8:=by rw[<-HG.out.len];exact HS.gs x aH);(have cw:gb≠y:=by have h8:=ae.at.1;have h9:=aj y _ _ rfl;omega);clear aZ e3 E a6 ae ab a5 aE aj;(have SK:Hid (∀ U,Bl V U->lH U ⟨d.pb,3,lI⟩=lJ (kX (lJ ⟨gb,0,lI⟩) d.us.length ba)/\lH U ⟨d.pb,4,lI⟩=lJ (kX (lJ ⟨y,0,lI⟩) d.us.length ad)/\lH U ⟨gb,x,lI⟩=lJ (kX ga gk an)):=fun U h=>⟨qs h bT L,qs h am L,qs h cg b5⟩);obtain ⟨bS,aV,cp⟩:=SK _ (brw V).drew;go_region_held3 (fun w'=>lH w' ⟨d.pb,3,lI⟩=lJ (kX (lJ ⟨gb,0,lI⟩) d.us.length ba)/\lH w' ⟨d.pb,4,lI⟩=lJ (kX (lJ ⟨y,0,lI⟩) d.us.length ad)/\lH w' ⟨gb,x,lI⟩=lJ (kX ga gk an)) (first | exact SK _ brf.drew | exact SK _ c | exact ⟨(lT (by omega)).trans (SK _ c).1,(lT (by omega)).trans (SK _ c).2.1,(lT cw).trans (SK _ c).2.2⟩) (first | (go_at_call 37;refine (JK (al.iP (brw V).drew) (HG.iP (brw V).drew) (by omega) (by omega)).mono ?_;rintro aW Y ⟨v2,rfl,⟨po,pn,pc,rfl,ac,_⟩,o⟩;have c:Bl V Y:=(brw V).drew.trans (o.mono ((brw V).drew).size);clear o;have af:=hid ac;clear ac;obtain ⟨bU,bV,⟨y4,bW⟩,bX,Z,aa⟩:=(J.iP c).setHaveAt (i:=x) (x:=N*nn s.gl x) (by show x<t.hl.length;omega) af (qs (c) am L);have B:=hid Z;have ak:=hid aa;clear Z aa));clear SK bS aV cp;have ax:=hid (al.iP c);have ay:=hid (au.iP c);have aw:=hid (ar.iP c);have bs:=hid (J.iP c);have aq:Hid (Below (d.pb) w1 Y):=ap.trans (c.mono (ir L));clear al au ar J ap;go_wp2;go_roundg (ll - (k+1));case measure=>omega
         case rel=>
          refine⟨k+1,{t with sl:=t.sl.set x lL,hl:=t.hl.set x (N*nn s.gl x)},rfl,by omega,by go_num,ak,u,by simpa using X,by simpa using az,?_,?_,ax.kC B (by decide),ay.kC B (by decide),aw.kC B (by decide),aq.setCell (by show d.pb<=y;omega) _⟩
          ·exact fun j hj=>by
            show bn (t.sl.set x lL) j=_;rw[Cd (by omega)];by_cases e:j=x
            ·rw[ed e,ed ((W.out j).2 (Or.inr e))]
            ·rw[ec e,aQ.out j hj];by_cases e2:j∈l.take k
             ·rw[ed e2,ed ((W.out j).2 (Or.inl e2))]
             ·rw[ec e2,ec (fun h5=>((W.out j).1 h5).elim e2 e)]
          ·exact fun j hj=>by
            show nn (t.hl.set x (N*nn s.gl x)) j=_;rw[qr (by omega)];by_cases e:j=x
            ·rw[ed e,ed ((W.out j).2 (Or.inr e)),e]
            ·rw[ec e,ah.out j hj];by_cases e2:j∈l.take k
             ·rw[ed e2,ed ((W.out j).2 (Or.inl e2))]
             ·rw[ec e2,ec (fun h5=>((W.out j).1 h5).elim e2 e)]
        ·obtain rfl:k=ll:=by omega
         have br:Hid (TurnT d.a (nn s.gl) s.R t.R):=by
          refine BL HX hM ?_ (fun j hj=>?_) (fun j hj=>?_)
          ·rw[u.out.2.2];rfl
          ·rw[aQ.out j hj,aG.out,jt]
          ·rw[ah.out j hj,aG.out,jt,u.out.2.2];rfl
         go_wp2;go_ret;exact Or.inr ⟨by rw[HX.out];exact bP,by rw[HX.out];exact bQ,rfl,t,HT,u.1,u.2.1,X,az,br,(bm.mono bO).trans G⟩
end Go.Proofs.YtigokanoflkinaaGreatDoor
