/- WRF, RErL, FlAE, joined. -/
import Derived.Test.YtigokanoflkinaaGreatDoorZF
import Derived.Test.YtigokanoflkinaaGreatDoorZG
import Derived.Test.YtigokanoflkinaaGreatDoorZD
set_option maxHeartbeats 2000000
set_option maxRecDepth 20000
namespace Go.Proofs.YtigokanoflkinaaGreatDoor
set_option linter.unusedSimpArgs false
set_option linter.unusedVariables false
open Go.RowKit Por Go.Proofs.Tryz
open Value renaming int->kW,slice->kX,tuple->lB,bool->kZ,agg->lA,pointer->kY,string->lC
open IntKind renaming i64->lD
open Ending renaming returned->lF
open Option renaming none->lI,some->lJ
open Bool renaming true->lK,false->lL
open Go renaming World->lM,Value->lN
open Obj renaming cells->lE
open World renaming setCell->lG,cell?->lH
def strs (ss:List ByteArray):List lN:=ss.map Value.string
variable{pool:List Int}{us:List Usr}
theorem pQ (h:zr pool us=0):xL pool=lK/\us.length<=6/\Good us pool.length/\(∀i,yG (lm pool i)=lK)/\1<=pool.length/\pool.length<=4:=by
 unfold zr at h;split at h
 ·omega
 ·rename_i d;split at h
  ·omega
  ·rename_i f;split at h
   ·omega
   ·rename_i e;(have a:xL pool=lK:=by simpa using d);(have b:us.all (yY pool.length)=lK:=by simpa using e);have c:=a;unfold xL at c;simp only[eJ,eN]at c;refine⟨a,by omega,fun i hi=>?_,uP c.2,c.1.1,c.1.2⟩;rw[<-uQ us hi];rw[ie]at b;exact b _ (ij hi)
theorem DL (pool:List Int)(us:List Usr):zr pool us=0\/zr pool us=3\/zr pool us=4:=by
 unfold zr;split
 ·exact Or.inr (Or.inl rfl)
 ·split
  ·exact Or.inr (Or.inr rfl)
  ·split
   ·exact Or.inr (Or.inr rfl)
   ·exact Or.inl rfl
def xI (pool:List Int)(us:List Usr):Prob:=⟨us.length,pool.length,fun r=>((lm pool r:Int):Rat),fun i r=>dm us i r,fun i=>(((ug us i).wt:Int):Rat),fun i=>(((ug us i).cap:Int):Rat)⟩
theorem qY {n:Int}(h:0<=n):(0:Rat)<=(n:Rat):=Rat.intCast_nonneg.2 h
variable{a:Int}
theorem nG {b:Int}:(a:Rat)<=(b:Rat)↔a<=b:=Rat.intCast_le_intCast
theorem Jk {b:Int}:(a:Rat)<(b:Rat)↔a<b:=Rat.intCast_lt_intCast
theorem mz {n:Int}:(0:Rat)<(n:Rat)↔0<n:=by
 have e:(0:Rat)=((0:Int):Rat):=rfl;rw[e];exact Jk
theorem n7 (hg:Good us pool.length)(hpa:∀i,yG (lm pool i)=lK):(xI pool us).Ok:=by
 refine⟨fun r hr=>qY (JH (hpa r)).1,fun i r hi hr=>qY (JH (hg.dem hi r)).1,fun i hi=>mz.2 (by have:=(hg.wt (i:=i) hi).1;omega),fun i hi=>qY (hg.cap (i:=i) hi).1⟩
variable{dem:List Int}
theorem B8 {f:Nat->Rat}{v:Rat}:∀k,v∈enL f dem k↔∃r,r<k/\lm dem r≠0/\v=f r/((lm dem r:Int):Rat):=by
 intro k
 induction k with
 |zero=>simp[enL]
 | succ k ih=>
  simp only[enL];split
  ·rename_i e;rw[ih];constructor
   ·rintro⟨i,d,a⟩;exact⟨i,by omega,a⟩
   ·rintro⟨i,d,a,b⟩;by_cases c:i=k
    ·subst c;exact absurd e a
    ·exact⟨i,by omega,a,b⟩
  ·rename_i e;rw[iu,ih,jv];constructor
   ·rintro(⟨i,d,a⟩|h)
    ·exact⟨i,by omega,a⟩
    ·exact⟨k,by omega,e,h⟩
   ·rintro⟨i,d,a,b⟩;by_cases c:i=k
    ·subst c;exact Or.inr b
    ·exact Or.inl ⟨i,by omega,a,b⟩
theorem AH (pool:List Int)(us:List Usr)(kk i:Nat):ye pool us kk i=yX (enL (zv pool) (ug us i).dem kk)*(((ug us i).wt:Int):Rat):=by
 unfold ye rateQ;rw[Ak];rfl
variable{i:Nat}
theorem rr (hg:Good us pool.length)(hi:i<us.length):∃r,r<pool.length/\0<lm (ug us i).dem r/\ye pool us pool.length i*dm us i r=(((ug us i).wt:Int):Rat)*((lm pool r:Int):Rat):=by
 obtain⟨j,c,a⟩:=hg.some hi;have b:enL (zv pool) (ug us i).dem pool.length≠[]:=iK.1 (B6 a _ c);obtain⟨r,g,d,f⟩:=(B8 _).1 (wl b);have e:=JH (hg.dem hi r);refine⟨r,g,by omega,?_⟩;rw[AH,f];have h:=qI d;unfold zv
 grind
theorem nw (hg:Good us pool.length)(hpa:∀i,yG (lm pool i)=lK):Rate (xI pool us) (ye pool us pool.length):=by
 have h:=n7 hg hpa;refine⟨fun i hi=>?_,fun i r hi b hD=>?_,fun i hi=>?_⟩
 ·obtain⟨r,b,d,g⟩:=rr hg hi;have f:=mz.2 d;apply mi (c:=dm us i r) _ f;rw[g,Rat.zero_mul];exact Rat.mul_nonneg (by have:=h.W0 i hi;exact Rat.le_of_lt this) (h.P0 r b)
 ·have d:=mz.1 hD;(have a:lm (ug us i).dem r≠0:=by omega);have f:=tg (l:=enL (zv pool) (ug us i).dem pool.length) ((B8 _).2 ⟨r,b,a,rfl⟩);have j:=om f (show(0:Rat)<=dm us i r from qY (by omega));have k:zv pool r/((lm (ug us i).dem r:Int):Rat)*dm us i r=zv pool r:=l7 (qI a);rw[k]at j;have m:=lX j (show(0:Rat)<=(((ug us i).wt:Int):Rat)from Rat.le_of_lt (h.W0 i hi));show ye pool us pool.length i*dm us i r<=(((ug us i).wt:Int):Rat)*((lm pool r:Int):Rat);rw[AH];(have e:yX (enL (zv pool) (ug us i).dem pool.length)*(((ug us i).wt:Int):Rat)*dm us i r=(((ug us i).wt:Int):Rat)*(yX (enL (zv pool) (ug us i).dem pool.length)*dm us i r):=by grind);rw[e];exact m
 ·obtain⟨r,b,d,g⟩:=rr hg hi;exact⟨r,b,mz.2 d,g⟩
theorem BZ (hg:Good us pool.length)(hpa:∀i,yG (lm pool i)=lK)(hi:i<us.length):ye pool us pool.length i<=((1000000:Nat):Rat):=by
 obtain⟨r,o,n,k⟩:=rr hg hi;have e:=(nw hg hpa).pos i hi;have f:((1:Int):Rat)<=dm us i r:=nG.2 (by omega);have a:=lX f e;have l:=hg.wt hi;have b:=JH (hpa r);rw[k]at a;have g:(((ug us i).wt:Int):Rat)*((lm pool r:Int):Rat)=(((ug us i).wt*lm pool r:Int):Rat):=(Rat.intCast_mul _ _).symm;rw[g]at a;(have h:(ug us i).wt*lm pool r<=1000000:=by have m:=jh l.2 b.2 b.1 (by omega);omega);have j:=nG.2 h;have c:((1:Int):Rat)=1:=rfl;have d:((1000000:Int):Rat)=((1000000:Nat):Rat):=rfl;rw[c]at a;rw[d]at j
 grind
variable{Q:Nat}
theorem uD {x:Rat}{M:Nat}(hQ:0<Q)(h:isInt (Q*x))(h0:0<=x)(h1:x<=(M:Rat)):x.num.natAbs<=Q*M/\x.den<=Q:=by
 obtain⟨z,b⟩:=h;(have g:(Q:Rat)≠0:=by have:=JC hQ;grind);(have e:x=mkRat z Q:=by rw[Rat.mkRat_eq_div];(have:x=(z:Rat)/((Q:Nat):Rat):=by rw[<-b];grind);exact this);have a:=r7 z Q (by omega);rw[<-e]at a;refine⟨eh a.1 ?_,a.2⟩;(have d:(0:Rat)<=(z:Rat):=by rw[<-b];exact Rat.mul_nonneg (nM _) h0);(have f:(z:Rat)<=((Q*M:Nat):Rat):=by rw[<-b,JI];exact lX h1 (nM _));have i:=Rat.intCast_nonneg.1 d;(have j:z<=((Q*M:Nat):Int):=by have c:(((Q*M:Nat):Int):Rat)=((Q*M:Nat):Rat):=rfl;exact nG.1 (by rw[c];exact f));omega
def prodN (e:Nat->Nat):Nat->Nat
  |0=>1
  |n+1=>prodN e n*e n
variable{e:Nat->Nat}{n:Nat}
theorem FX (h:∀i,i<n->0<e i):0<prodN e n:=by
 induction n with
 |zero=>exact Nat.one_pos
 |succ n ih=>exact Nat.mul_pos (ih (fun i hi=>h i (by omega))) (h n (by omega))
variable{B:Nat}
theorem GW (h:∀i,i<n->e i<=B):prodN e n<=B^n:=by
 induction n with
 |zero=>exact lR
 |succ n ih=>rw[iQ];exact iS (ih (fun i hi=>h i (by omega))) (h n (by omega))
theorem Eo {g:Nat->Rat}(h:∀i,i<n->isInt (e i*g i)):∀i,i<n->isInt (prodN e n*g i):=by
 induction n with
 |zero=>intro i b;omega
 |succ n ih=>
  intro i b;have c:((prodN e (n+1):Nat):Rat)=(prodN e n:Rat)*(e n:Rat):=JI _ _;rw[c];by_cases d:i=n
  ·subst d;have:=(isInt.nat (prodN e i)).mul (h i (by omega));(have a:(prodN e i:Rat)*(e i:Rat)*g i=prodN e i*(e i*g i):=by grind);rw[a];exact this
  ·have:=(ih (fun i b=>h i (by omega)) i (by omega)).mul (isInt.nat (e n));(have a:(prodN e n:Rat)*(e n:Rat)*g i=prodN e n*g i*e n:=by grind);rw[a];exact this
theorem Al (hg:Good us pool.length)(hn:us.length<=6):∃G:Nat,0<G/\G<=10000^6/\(∀i,i<us.length->isInt (G*ye pool us pool.length i))/\∀i,i<us.length->∃q:Nat,0<q/\q<=10000/\isInt (q*ye pool us pool.length i):=by
 classical
 have a:∀i,i<us.length->∃q:Nat,0<q/\q<=10000/\isInt (q*ye pool us pool.length i):=fun i hi=>by obtain⟨r,g,f,b⟩:=rr hg hi;have d:=JH (hg.dem hi r);refine⟨(lm (ug us i).dem r).toNat,by omega,by omega,?_⟩;(have c:(((lm (ug us i).dem r).toNat:Nat):Rat)=dm us i r:=by(have:(((lm (ug us i).dem r).toNat:Nat):Int)=lm (ug us i).dem r:=by omega);show((((lm (ug us i).dem r).toNat:Nat):Int):Rat)=_;rw[this]);rw[c,Rat.mul_comm,b];exact isInt.mul ⟨_,rfl⟩ ⟨_,rfl⟩
 let e:Nat->Nat:=fun i=>if h:i<us.length then(a i h).choose else 1
 (have b:∀i,i<us.length->0<e i/\e i<=10000/\isInt (e i*ye pool us pool.length i):=fun i hi=>by simp only[e];rw[dif_pos hi];exact(a i hi).choose_spec);refine⟨prodN e us.length,FX (fun i hi=>(b i hi).1),?_,Eo (fun i hi=>(b i hi).2.2),a⟩;exact eh (GW (fun i hi=>(b i hi).2.1)) (ip (by decide) hn)
theorem BE (hg:Good us pool.length)(hpa:∀i,yG (lm pool i)=lK)(hn:us.length<=6){r:Nat}(hr:r<pool.length):zZ (fun i=>(xI pool us).W i*(xI pool us).P r) (xI pool us).n<=((6000000:Nat):Rat):=by
 have c:∀m,m<=us.length->zZ (fun i=>(xI pool us).W i*(xI pool us).P r) m<=((m*1000000:Nat):Rat):=by
  intro m
  induction m with
  |zero=>intro _;exact Rat.le_refl
  |succ m ih=>
   intro j;have f:=ih (by omega);have d:=hg.wt (i:=m) (by omega);have a:=JH (hpa r);(have g:(xI pool us).W m*(xI pool us).P r<=((1000000:Nat):Rat):=by show(((ug us m).wt:Int):Rat)*((lm pool r:Int):Rat)<=_;rw[<-Rat.intCast_mul];have h:=jh d.2 a.2 a.1 (by omega);exact nG.2 (show(ug us m).wt*lm pool r<=1000000 by omega));(have e:(((m+1)*1000000:Nat):Rat)=((m*1000000:Nat):Rat)+((1000000:Nat):Rat):=by(have b:(m+1)*1000000=m*1000000+1000000:=by omega);rw[b,Rat.natCast_add]);simp only[zZ];rw[e]
   grind
 refine Rat.le_trans (c us.length lR) (oF.2 (by omega))
structure FD.Of (d:FD)(pool:List Int)(us:List Usr):Prop where
  n:d.n=us.length
  us:d.us=us
  kk:d.kk=pool.length
  kw:d.kw=zv pool
variable{d:FD}
theorem qg (h:d.Of pool us)(f:Nat->Rat)(r:Nat):zK d.us f r d.n=used (xI pool us) f r:=by
 rw[h.us,h.n];rfl
theorem I4 (h:d.Of pool us)(s:St):∀k,suL d s k=stU (xI pool us) s k:=by
 intro k
 induction k with
 |zero=>rfl
 |succ k ih=>simp only[suL,stU];rw[ih,h.us];rfl
theorem Jf (h:d.Of pool us)(s:St)(l:List Rat):∀k,skL d s l k=stK (xI pool us) s l k:=by
 intro k
 induction k with
 |zero=>rfl
 |succ k ih=>simp only[skL,stK];rw[ih,qg h,qg h,h.kw];rfl
theorem Gz (h:d.Of pool us)(s:St):stepsF d s=yN (xI pool us) s:=by
 unfold stepsF yN;rw[Jf h,I4 h,h.n,h.kk];rfl
theorem Ff {f:Nat->Bool}:∀k,xZ dem f k=lK↔∃r,r<k/\0<lm dem r/\f r=lK:=by
 intro k;constructor
 ·induction k with
  |zero=>intro h;cases h
  |succ k ih=>
   intro h;simp only[xZ,Bool.or_eq_true,eJ,eN]at h;rcases h with h|h
   ·obtain⟨r,b,a⟩:=ih h;exact⟨r,by omega,a⟩
   ·exact⟨k,by omega,h⟩
 ·rintro⟨r,b,a,c⟩;exact wO b a c
theorem Ii (h:d.Of pool us)(ts:Nat->Rat)(i:Nat):stB d ts i=lK↔yv (xI pool us) ts i:=by
 unfold stB yv capB;rw[Bool.or_eq_true,Ff,eN,h.us,h.kk];constructor
 ·rintro(a|⟨r,a,c,b⟩)
  ·exact Or.inl a
  ·refine Or.inr ⟨r,a,mz.2 c,?_⟩;unfold upB at b;rw[eN,qg h,h.kw]at b;exact b
 ·rintro(a|⟨r,a,c,b⟩)
  ·exact Or.inl a
  ·refine Or.inr ⟨r,a,mz.1 c,?_⟩;unfold upB;rw[eN,qg h,h.kw];exact b
variable{w:lM}
theorem Ip (h:d.Of pool us){w0:lM}{s:St}(hf:FS w0 d w (riseF d s (stepsF d s))):FS w0 d w (yy (xI pool us) s):=by
 classical
 rw[Gz h]at hf;unfold riseF at hf;unfold yy;by_cases e:yN (xI pool us) s=[]
 ·rw[ed (by rw[e];rfl)]at hf;rw[ed e];exact hf
 ·rw[ec (fun h5=>e (iq.1 h5)),Ak]at hf;rw[ec e];refine hf.congr rfl (fun i hi=>?_) (fun i hi=>rfl) (fun i hi=>rfl);show xg d (upS s (yX (yN (xI pool us) s))) d.n i=upRt (xI pool us) s (yX (yN (xI pool us) s)) i;unfold xg upRt;have b:=Ii h (upTs s (yX (yN (xI pool us) s))) i;by_cases a:yv (xI pool us) (upTs s (yX (yN (xI pool us) s))) i
  ·rw[ed a,ed ⟨hi,b.2 a⟩];rfl
  ·rw[ec a,ec (fun h5=>a (b.1 h5.2))];rfl
def st0 (pool:List Int)(us:List Usr):St:=⟨((0:Int):Rat),ye pool us pool.length,zeroF,zeroF⟩
theorem uC (hg:Good us pool.length) (hpa:∀i,yG (lm pool i)=lK):Inv (xI pool us) (ye pool us pool.length) (st0 pool us):=
  Inv.first (n7 hg hpa) (nw hg hpa) _ (fun i hi=>Or.inl rfl)
theorem Fv:(10000^6*6000000)^6*1000<10000^60:=by decide
variable{m:Nat}
theorem Gp {G:Nat}(hG:0<G)(h:G<=10000^6)(hm:m<=6):(G*6000000)^m<=(10000^6*6000000)^6:=by
 have a:(G*6000000)^m<=(G*6000000)^6:=ip (by omega) hm;have b:(G*6000000)^6<=(10000^6*6000000)^6:=Nat.pow_le_pow_left (hI _ h) 6;exact eh a b
theorem uJ {x:Rat}{M:Nat}(hQ:0<Q)(hQb:Q<=(10000^6*6000000)^6)(h:isInt (Q*x))(h0:0<=x)(h1:x<=(M:Rat))(hM:M<=1000):Sm x 60:=by
 obtain⟨b,c⟩:=uD hQ h h0 h1;have a:=Fv;generalize(10000^6*6000000)^6=B at hQb a;have d:=iS hQb hM;have e:B<=B*1000:=Nat.le_mul_of_pos_right B (by decide);exact⟨lP (by omega),lP (by omega)⟩
theorem wC (h:d.Of pool us)(hg:Good us pool.length)(hpa:∀i,yG (lm pool i)=lK)(hn:us.length<=6)(hm:m<=6):Small d (yp (xI pool us) (st0 pool us) m) 60:=by
 obtain⟨G,l,u,v,N⟩:=Al hg hn;have y:=n7 hg hpa;have f:=nw hg hpa;have o:=uC hg hpa;(have F:∀i,i<(xI pool us).n->1<=(xI pool us).W i:=fun i hi=>(nG (a:=1)).2 (hg.wt hi).1);(have I:∀i,i<(xI pool us).n->isInt ((xI pool us).C i):=fun i hi=>⟨_,rfl⟩);(have J:∀i r,i<(xI pool us).n->r<(xI pool us).k->isInt ((xI pool us).D i r):=fun i r hi f=>⟨_,rfl⟩);(have K:∀r,r<(xI pool us).k->isInt ((xI pool us).P r):=fun r f=>⟨_,rfl⟩);(have x:∀i,i<(xI pool us).n->ye pool us pool.length i<=((6000000:Nat):Rat):=fun i hi=>Rat.le_trans (BZ hg hpa hi) (oF.2 (by decide)));have E:isInt (((1:Nat):Rat)*((0:Int):Rat)):=(isInt.nat 1).mul ⟨0,rfl⟩;obtain⟨H,Q,g,w,t⟩:=DZ y f F I J K G 6000000 l v (fun r f=>BE hg hpa hn f) x (by decide) o (by show((0:Int):Rat)<=((1:Int):Rat);exact nG.2 (by decide)) ⟨fun i hi=>E,fun i hi=>E,E⟩ m;have c:=p5 y f o m;have j:=eh w (Gp l u hm);have p:((1:Nat):Rat)=1:=rfl;generalize yp (xI pool us) (st0 pool us) m=s at H t c;refine⟨uJ (M:=1) g j t.lev c.lev0 (by rw[p];exact H) (by decide),fun i hi=>?_,fun i hi=>?_,fun i hi=>?_,fun i hi=>?_⟩
 ·rw[h.n]at hi;by_cases e:s.rt i=0
  ·rw[e];exact(Sm.zero5:Sm ((0:Int):Rat) 5) |> fun _=>⟨lP (by decide),lP (by decide)⟩
  ·rw[(c.grow i hi e).1];obtain⟨q,z,A,B⟩:=N i hi;obtain⟨O,R⟩:=uD z B (f.pos i hi) (BZ hg hpa hi);have S:=hI 1000000 A;exact⟨lP (by omega),lP (by omega)⟩
 ·rw[h.n]at hi;have L:=hg.cap (i:=i) hi;refine uJ (M:=1000) g j (t.ts i hi) (c.kA.low i hi) (Rat.le_trans (c.kA.cap i hi) ?_) lR;exact(nG (b:=1000)).2 L.2
 ·rw[h.n]at hi;exact uJ (M:=1) g j (t.lv i hi) (c.lvs i hi).2.1 (by rw[p];exact Ae y f F c hi) (by decide)
 ·rw[h.n]at hi;exact⟨c.kA.low i hi,(c.lvs i hi).2.1⟩
noncomputable def yB (pool:List Int)(us:List Usr):St:=yp (xI pool us) (st0 pool us) us.length
theorem rx (hg:Good us pool.length)(hpa:∀i,yG (lm pool i)=lK):FairFill (xI pool us) (ye pool us pool.length) (yB pool us).ts/\∀i,i<us.length->(yB pool us).lv i=(yB pool us).ts i/ye pool us pool.length i:=by
 have b:=n7 hg hpa;have a:=nw hg hpa;have c:=p5 b a (uC hg hpa) us.length;exact c.last a (Fe b a (uC hg hpa))
structure Solved (w w':lM)(pool:List Int)(us:List Usr)(g:Nat)(d:FD):Prop where
  of:d.Of pool us
  low:w.heap.size<=g
  sh:ShB w' g us.length us.length (yB pool us).ts (yB pool us).lv (yb d (yB pool us))
  bel:Below w.heap.size w w'
def SolveEnd (w w':lM)(e:Ending)(pool:List Int)(us:List Usr):Prop:=
  if zr pool us=0 then∃g d,e=lF (lB #[kX (lJ ⟨g,0,lI⟩) us.length us.length,kW lD 0])/\Solved w w' pool us g d
  else e=lF (lB #[kX lI 0 0,kW lD (zr pool us)])/\Below w.heap.size w w'
variable{po ao:Option Addr}{pn pc cap:Nat}
theorem Ep (hp:Arr w 1 po pn pc (zi pool))(hu:Users w ao n cap us)(ht:Tab w):Calls prog 11 #[kX po pn pc,kX ao n cap] w fun e w'=>SolveEnd w w' e pool us:=by
 have E:=hp.len;rw[j9]at E;have T:=hu.1;subst E;(have P:n<=maxLen:=by obtain⟨_,vs,W,_⟩:=hu;exact eh W.le W.cm);unfold maxLen at P;have f:=brw w;go_enter func11,ntmps11;go_wp2_with fail;refine(Fw hp hu).mono ?_;rintro aa b ⟨rfl,l⟩;have a:=et f l;clear f;clear l;by_cases p:zr pool us=0
 ·obtain⟨S,o,i,D,Q,R⟩:=pQ p;have I:=p;clear S;rw[p];clear p;go_wp2_with fail;refine(Dd (hp.iP a) D (hu.iP a) i (by omega) R Q (ht.of a)).mono ?_;rintro e2 w2 ⟨d,rfl,⟨N,v,x,y⟩,C,B⟩;have h:=(show d.Of pool us from⟨by omega,v,x,y⟩);have q:=(show FS _ d w2 (st0 pool us)from B);clear N v x y B;go_wp2
  go_loopg[19] n (fun g ix wr=>∃k:Nat,g=n-k/\k<=n/\ix=kW lD k/\FS b d wr (yp (xI pool us) (st0 pool us) k))
  case atStart=>exact⟨0,rfl,ep _,rfl,q⟩
  case round=>
   clear q;obtain⟨k,ac,hk,rfl,X⟩:=hrel;by_cases ad:k<n
   ·go_wp2_with fail;refine(Fz X C (wC h i D o (by omega)) _ _ rfl rfl).mono ?_;rintro e3 w3 ⟨rfl,A⟩;have J:=Ip h A;clear A;go_wp2;go_roundg (n-(k+1));exact⟨k+1,rfl,by omega,by go_num,J⟩;omega
   ·(obtain rfl:k=n:=by omega);(have j:FS b d wr (yB pool us):=by have t:=X;rw[<-T]at t;exact t);have s:=wC h i D o o;go_wp2_with fail;refine(Eh j C s).mono ?_;rintro e4 Y ⟨g,hg,rfl,F,u⟩;have G:=j.bel.trans (u.mono j.bel.size);have H:=et a G;have O:=eh (eh a.size j.bel.size) hg;clear u;go_wp2;go_ret2;unfold SolveEnd;rw[ed I];have z:=h.n;refine⟨g,d,?_,h,O,?_,H⟩
    ·rw[z];rfl
    ·have t:=F;rw[z]at t;exact t
 ·have I:=p;have M:=DL pool us;generalize hq:zr pool us=c at p M;(have ab:(c == 0)=lL:=by rw[eg];omega);go_wp2;go_ret2;unfold SolveEnd;rw[ec I];exact⟨by rw[hq];rfl,a⟩
variable{xs:List Int}
theorem Eu (hr:Arr w 1 ao n cap (zi xs)):Calls prog 33 #[kX ao n cap] w fun e w'=>e=lF (kZ (xL xs))/\w'=w:=by
 have f:=hr.len;rw[j9]at f;have t:=hr.le;have h:=hr.cm;unfold maxLen at h;by_cases q:n<1
 ·have E:=hid (sT (xs:=xs) (by omega));(have u:(n:Int)<1:=by omega);go_enter func33,ntmps33;go_wp2;go_ret;exact⟨by rw[E.out];rfl,rfl⟩
 ·(have u:¬ (n:Int)<1:=by omega);by_cases r:4<n
  ·have E:=hid (sT (xs:=xs) (by omega));(have v:(4:Int)<n:=by omega);go_enter func33,ntmps33;go_wp2;go_ret;exact⟨by rw[E.out];rfl,rfl⟩
  ·have E:=hid (z8 (xs:=xs) (by omega) (by omega));(have v:¬ (4:Int)<n:=by omega);go_enter func33,ntmps33;go_wp2
   go_loop[3] (fun i=>∃k:Nat,k<=n/\i=kW lD k/\Hid ((xs.take k).all yG=lK)) (fun i=>n-(intOf i).toNat)
   case atStart=>exact⟨0,ep _,rfl,rfl⟩
   case round=>
    obtain⟨k,A,rfl,p⟩:=hrel;by_cases j:k<n
    ·obtain⟨b,o,rfl,z⟩:=hr.head (by omega);have s:=hr.int rfl j;have l:=hid (pN yG xs (i:=k) (by omega));have c:=hid (qm xs (i:=k) (by omega));(have y:(k:Int)<(n:Int):=by omega);generalize hx:lm xs k=x at s;have g:=hid hx;clear hx;by_cases q:x<0
     ·have a:yw xs=lL:=nK yG xs (i:=k) (by omega) (by rw[c.out,g.out];unfold yG;rw[eL];omega);have d:=hid a;clear a;go_wp2;go_ret;exact⟨by rw[E.out,d.out];rfl,rfl⟩
     ·by_cases r:(10000:Int)<x
      ·have a:yw xs=lL:=nK yG xs (i:=k) (by omega) (by rw[c.out,g.out];unfold yG;rw[eL];omega);have d:=hid a;clear a;go_wp2;go_ret;exact⟨by rw[E.out,d.out];rfl,rfl⟩
      ·(have a:yG x=lK:=by unfold yG;rw[eN];omega);have d:=hid a;clear a;go_wp2;exact⟨⟨k+1,by omega,by go_num,by rw[Hid,l.out,p.out,c.out,g.out,d.out];rfl⟩,by simp[intOf];omega⟩
    ·obtain rfl:k=n:=by omega
     have a:yw xs=lK:=by
      have:=p.out
      rwa[ew (by omega)]at this
     have d:=hid a;clear a;go_wp2;go_ret;exact⟨by rw[E.out,d.out];rfl,rfl⟩
def numB (a b:Int):Bool:=decide (1<=a/\a<=100/\0<=b/\b<=1000)
theorem AE {b:Int}:Calls prog 81 #[kW lD a,kW lD b] w fun e w'=>e=lF (kZ (numB a b))/\w'=w:=by
 by_cases c:1<=a
 ·by_cases d:a<=100
  ·by_cases f:0<=b
   ·by_cases g:b<=1000
    ·have E:=hid (show numB a b=lK from ei ⟨c,d,f,g⟩);go_enter func81,ntmps81;go_wp2;go_ret;exact⟨by rw[E.out];rfl,rfl⟩
    ·have E:=hid (show numB a b=lL from ee (by omega));go_enter func81,ntmps81;go_wp2;go_ret;exact⟨by rw[E.out];rfl,rfl⟩
   ·have E:=hid (show numB a b=lL from ee (by omega));go_enter func81,ntmps81;go_wp2;go_ret;exact⟨by rw[E.out];rfl,rfl⟩
  ·have E:=hid (show numB a b=lL from ee (by omega));go_enter func81,ntmps81;go_wp2;go_ret;exact⟨by rw[E.out];rfl,rfl⟩
 ·have E:=hid (show numB a b=lL from ee (by omega));go_enter func81,ntmps81;go_wp2;go_ret;exact⟨by rw[E.out];rfl,rfl⟩
variable{k:Nat}{u:Usr}
theorem F9 (h:numB u.wt u.cap=lL):yY k u=lL:=by
 unfold yY;unfold numB at h;rw[h];simp
theorem Hj (h:u.dem.length≠k):yY k u=lL:=by
 unfold yY;rw[ee h];rfl
theorem IP (h:numB u.wt u.cap=lK)(hl:u.dem.length=k):yY k u=(yw u.dem&&xS u.dem):=by
 unfold yY;unfold numB at h;rw[h,ei hl];rfl
theorem Au (hr:Arr w 1 ao n cap (zi u.dem))(hk:k<=4):Calls prog 34 #[lA #[kX ao n cap,kW lD u.wt,kW lD u.cap],kW lD k] w fun e w'=>e=lF (kZ (yY k u))/\Below w.heap.size w w':=by
 have g:=hr.len;rw[j9]at g;have H:=hr.le;have t:=hr.cm;unfold maxLen at t;have hB:=(eB _ w).alloc lR (lE #[kX ao n cap,kW lD u.wt,kW lD u.cap] 56);have A:=hid (hr.iP hB);have p:=hid hB;clear hr hB;go_enter func34,ntmps34;go_wp2_with fail;refine(AE).mono ?_;rintro e L ⟨rfl,rfl⟩
 cases m:numB u.wt u.cap with
 |false=>have E:=hid (F9 (k:=k) m);clear m;go_wp2;go_ret;exact⟨by rw[E.out];rfl,p.out⟩
 | true=>
  by_cases B:n=k
  ·subst B;have E:=hid (IP m g);clear m;go_wp2
   go_loop[6,7] (fun s6 i=>∃j:Nat,j<=n/\i=kW lD j/\s6=kZ ((u.dem.take j).any (fun x=>decide (0<x)))/\Hid ((u.dem.take j).all yG=lK)) (fun _ i=>n-(intOf i).toNat)
   case atStart=>exact⟨0,ep _,rfl,rfl,rfl⟩
   case round=>
    obtain⟨j,K,rfl,rfl,q⟩:=hrel;by_cases v:j<n
    ·obtain⟨b,o,rfl,J⟩:=A.out.head (by omega);have G:=A.out.int rfl v;have l:=hid (pN yG u.dem (i:=j) (by omega));have c:=hid (vz (fun x=>decide (0<x)) u.dem (i:=j) (by omega));have a:=hid (qm u.dem (i:=j) (by omega));(have I:(j:Int)<(n:Int):=by omega);generalize hx:lm u.dem j=x at G;have h:=hid hx;clear hx;generalize hy:(u.dem.take j).any (fun x=>decide (0<x))=y at c ⊢;clear hy;generalize hy:(u.dem.take (j+1)).any (fun x=>decide (0<x))=y2 at c ⊢;have r:=hid hy;clear hy;by_cases B:x<0
     ·have d:yw u.dem=lL:=nK yG u.dem (i:=j) (by omega) (by rw[a.out,h.out];unfold yG;rw[eL];omega);have f:=hid d;clear d;go_wp2;go_ret;exact⟨by rw[E.out,f.out];rfl,p.out⟩
     ·by_cases m:(10000:Int)<x
      ·have d:yw u.dem=lL:=nK yG u.dem (i:=j) (by omega) (by rw[a.out,h.out];unfold yG;rw[eL];omega);have f:=hid d;clear d;go_wp2;go_ret;exact⟨by rw[E.out,f.out];rfl,p.out⟩
      ·(have d:yG x=lK:=by unfold yG;rw[eN];omega);have f:=hid d;clear d
       cases y with
       |true=>go_wp2;exact⟨⟨j+1,by omega,by go_num,by rw[r.out,c.out];rfl,by rw[Hid,l.out,q.out,a.out,h.out,f.out];rfl⟩,by simp[intOf];omega⟩
       |false=>
        by_cases D:0<x
        ·have s:=hid (ei D);go_wp2;exact⟨⟨j+1,by omega,by go_num,by rw[r.out,c.out,a.out,h.out,s.out];rfl,by rw[Hid,l.out,q.out,a.out,h.out,f.out];rfl⟩,by simp[intOf];omega⟩
        ·have s:=hid (ee D);go_wp2;exact⟨⟨j+1,by omega,by go_num,by rw[r.out,c.out,a.out,h.out,s.out];rfl,by rw[Hid,l.out,q.out,a.out,h.out,f.out];rfl⟩,by simp[intOf];omega⟩
    ·obtain rfl:j=n:=by omega
     have d:yw u.dem=lK:=by
      have:=q.out
      rwa[ew (by omega)]at this
     (have z:(u.dem.take j).any (fun x=>decide (0<x))=xS u.dem:=by rw[ew (by omega)];rfl);have f:=hid d;rw[z];clear d z;go_wp2;go_ret;exact⟨by rw[E.out,f.out];rfl,p.out⟩
  ·(have F:((n:Int) != (k:Int))=lK:=by rw[bne_iff_ne];omega);(have C:((n:Int) == (k:Int))=lL:=by rw[eg];omega);have E:=hid (Hj (u:=u) (k:=k) (by omega));clear m;go_wp2;go_ret;exact⟨by rw[E.out];rfl,p.out⟩
theorem Fc (hp:Arr w 1 po pn pc (zi pool))(hu:Users w ao n cap us):Calls prog 19 #[kX po pn pc,kX ao n cap] w fun e w'=>e=lF (kW lD (zr pool us))/\Below w.heap.size w w':=by
 have f:=hp.len;rw[j9]at f;have r:=eh hp.le hp.cm;have G:=hu.1;(have t:n<=maxLen:=by obtain⟨_,R,l,_⟩:=hu;exact eh l.le l.cm);unfold maxLen at r t;go_enter func19,ntmps19;go_wp2_with fail;refine(Eu hp).mono ?_;rintro N j ⟨rfl,rfl⟩
 cases d:xL pool with
 |false=>(have E:zr pool us=3:=by unfold zr;rw[ed d]);have c:=hid E;go_wp2;go_ret;exact⟨by rw[c.out];rfl,eB _ _⟩
 | true=>
  (have q:pn<=4:=by unfold xL at d;simp only[eJ,eN]at d;omega);by_cases l:6<n
  ·(have E:zr pool us=4:=by unfold zr;rw[ec (by rw[d];simp),ed (by omega)]);have c:=hid E;(have m:(6:Int)<n:=by omega);go_wp2;go_ret;exact⟨by rw[c.out];rfl,eB _ _⟩
  ·(have m:¬ (6:Int)<n:=by omega);go_wp2
   go_loopw [6] (fun i wr=>∃k:Nat,k<=n/\i=kW lD k/\Hid ((us.take k).all (yY pn)=lK)/\Hid (Bl j wr)) (fun i _=>n-(intOf i).toNat)
   case atStart=>exact⟨0,ep _,rfl,rfl,eB _ _⟩
   case round=>
    obtain⟨k,Q,rfl,x,hB⟩:=hrel;by_cases p:k<n
    ·obtain⟨b,o,C,F,D,rfl,P,K,L,M,v⟩:=(hu.iP hB).get p;have s:=hid (pN (yY pn) us (i:=k) (by omega));have a:=hid (uQ us (i:=k) (by omega));(have H:(k:Int)<(n:Int):=by omega);go_wp2_with fail;refine(Au v q).mono ?_;rintro O I ⟨rfl,h⟩;have g:=et hB h
     cases u:yY pn (ug us k)with
     |false=>(have E:zr pool us=4:=by unfold zr;rw[ec (by rw[d];simp),ec (by omega),ed (nK _ us (i:=k) (by omega) (by rw[a.out,f];exact u))]);have c:=hid E;go_wp2;go_ret;exact⟨by rw[c.out];rfl,g⟩
     |true=>
      have y:=hid u;go_wp2
      go_roundw
      (case rel=>exact⟨k+1,by omega,by go_num,by rw[Hid,s.out,x.out,a.out,y.out];rfl,g⟩);case measure=>simp[intOf];omega
    ·(obtain rfl:k=n:=by omega);(have E:zr pool us=0:=by have:=x.out;rw[ew (by omega)]at this;unfold zr;rw[ec (by rw[d];simp),ec (by omega),ec (by rw[f,this];simp)]);have c:=hid E;go_wp2;go_ret;exact⟨by rw[c.out];rfl,hB⟩
def nn (l:List Nat)(i:Nat):Nat:=l.getD i 0
def bn (l:List Bool)(i:Nat):Bool:=l.getD i lL
theorem I5 {l:List Bool}(h:i<l.length):l[i]?=lJ (bn l i):=by
 unfold bn;rw[ej,en h];rfl
variable{l:List Nat}
theorem uM {x:Nat}(h:i<l.length):nn (l++[x]) i=nn l i:=by
 unfold nn;rw[ej,ej,eU h]
theorem uN (l:List Nat)(x:Nat):nn (l++[x]) l.length=x:=by
 unfold nn;rw[ej,eM lR];simp
theorem AX {l:List Bool}{x:Bool}(h:i<l.length):bn (l++[x]) i=bn l i:=by
 unfold bn;rw[ej,ej,eU h]
theorem Bj (l:List Bool)(x:Bool):bn (l++[x]) l.length=x:=by
 unfold bn;rw[ej,eM lR];simp
variable{j:Nat}
theorem qr {x:Nat}(h:i<l.length):nn (l.set i x) j=if j=i then x else nn l j:=by
 unfold nn;rw[ej,ej,iX];by_cases e:i=j
 ·subst e;simp[h]
 ·rw[ec e,ec (fun h5=>e h5.symm)]
theorem Cd {l:List Bool}{x:Bool}(h:i<l.length):bn (l.set i x) j=if j=i then x else bn l j:=by
 unfold bn;rw[ej,ej,iX];by_cases e:i=j
 ·subst e;simp[h]
 ·rw[ec e,ec (fun h5=>e h5.symm)]
def BLs (B:Nat)(w:lM)(v:lN)(l:List Bool):Prop:=w.ownsRow B 4 1 v l.length (l.map Value.bool)
theorem BLs.nil (B:Nat)(w:lM):BLs B w (kX lI 0 0) []:=⟨rfl,.inl ⟨rfl,rfl⟩⟩
variable{w':lM}{v:lN}
theorem BLs.iP {l:List Bool}(h:BLs B w v l)(hb:Below w.heap.size w w'):BLs B w' v l:=JO h hb
theorem BLs.kE {l:List Bool}(h:BLs B w v l):∃so sc,v=kX so l.length sc:=JM h
variable{so:Option Addr}{sc:Nat}
theorem BLs.get {l:List Bool}(h:BLs B w (kX so n sc) l)(hi:i<l.length):∃b,so=lJ ⟨b,0,lI⟩/\b<w.heap.size/\lH w ⟨b,0+i,lI⟩=lJ (kZ (bn l i))/\w.frozen? ⟨b,0+i,lI⟩=lL:=by
 have o:n=l.length:=by
  rcases h.2 with⟨e,f⟩|⟨g,a,c,e,_⟩
  ·cases e;omega
  ·cases e;rfl
 subst o;obtain⟨b,e,j,k⟩:=Br h (i:=i) (v:=kZ (bn l i)) (by rw[eD,I5 hi];rfl);refine⟨b,e,j,k,?_⟩;rcases h.2 with⟨d,f⟩|⟨g,a,c,d,p,m,_⟩
 ·omega
 ·cases d;cases e;exact jg w _ _ _ _ m
variable{b:Nat}
theorem BLs.set {l:List Bool}(h:BLs B w (kX (lJ ⟨b,0,lI⟩) n sc) l)(i:Nat)(x:Bool)(hi:i<l.length):BLs B (lG w ⟨b,i,lI⟩ (kZ x)) (kX (lJ ⟨b,0,lI⟩) n sc) (l.set i x)/\Touch 4 B w (lG w ⟨b,i,lI⟩ (kZ x)):=by
 rcases h.2 with⟨e,p⟩|⟨g,f,a,e,c,d,j,k,m,o⟩
 ·cases e
 ·cases e
  refine⟨⟨by simp,.inr ⟨b,_,a.setIfInBounds i (kZ x),by rw[jr],c,eP w b i _ _ _ d,by rw[jr];exact j,k,by simpa using m,?_⟩⟩,Touch.of_set d c⟩;rw[Array.toList_setIfInBounds,jr,List.take_set,o,List.map_set]
theorem Tryz.infoBl:(prog.info? 4).map (fun i=>(i.zero,i.size,i.bytes))=lJ (lJ (kZ lL),1,1):=by kernel_rfl
def NLs (B:Nat)(w:lM)(v:lN)(l:List Nat):Prop:=∃xs,w.ownsRow B 22 1 v l.length xs/\∀i,i<l.length->∃ao k cap,xs[i]?=lJ (kX ao k cap)/\Row w ao k cap (zA (nn l i))
theorem NLs.nil (B:Nat)(w:lM):NLs B w (kX lI 0 0) []:=⟨[],⟨rfl,.inl ⟨rfl,rfl⟩⟩,fun i hi=>by simp at hi⟩
theorem NLs.iP (h:NLs B w v l)(hb:Below w.heap.size w w'):NLs B w' v l:=by
 obtain⟨g,c,d⟩:=h;refine⟨g,JO c hb,fun i hi=>?_⟩;obtain⟨b,k,a,e,f⟩:=d i hi;exact⟨b,k,a,e,f.iP hb⟩
theorem NLs.kE (h:NLs B w v l):∃so sc,v=kX so l.length sc:=by
 obtain⟨b,a,_⟩:=h;exact JM a
theorem Row.kC {T:TypeId}(h:Row w ao n cap xs)(ht:Touch T B w w')(hT:3≠T):Row w' ao n cap xs:=by
 (have f:∀b o,ao=lJ ⟨b,o,lI⟩->0<n->w'.heap[b]?=w.heap[b]?:=by intro b o e a;obtain⟨d,k,g⟩:=h.ib b o e a;exact ht.block b (ek.1 g).1 (.inr (fun c fz' e'=>by rw[g]at e';cases e';exact hT rfl)));refine⟨h.len,h.le,h.cm,fun a=>?_,fun b o e a=>?_,fun b o e j hj=>?_⟩
 ·obtain⟨b,o,e,i⟩:=h.head a;exact⟨b,o,e,ez i ht.size⟩
 ·obtain⟨d,k,g⟩:=h.ib b o e a;exact⟨d,k,(f b o e a).trans g⟩
 ·rw[<-h.cell b o e j hj];exact iw (f b o e (by omega))
theorem NLs.kC {T:TypeId}{C:Nat}(h:NLs B w v l)(ht:Touch T C w w')(h1:3≠T)(h2:22≠T):NLs B w' v l:=by
 obtain⟨g,c,d⟩:=h;refine⟨g,ht.own c h2,fun i hi=>?_⟩;obtain⟨b,k,a,e,f⟩:=d i hi;exact⟨b,k,a,e,f.kC ht h1⟩
theorem NLs.get (h:NLs B w (kX so n sc) l)(hi:i<l.length):∃b ao k cap,so=lJ ⟨b,0,lI⟩/\b<w.heap.size/\lH w ⟨b,0+i,lI⟩=lJ (kX ao k cap)/\w.frozen? ⟨b,0+i,lI⟩=lL/\Row w ao k cap (zA (nn l i)):=by
 obtain⟨u,c,j⟩:=h
 have r:n=l.length:=by
  rcases c.2 with⟨e,m⟩|⟨g,cap,a,e,_⟩
  ·cases e;omega
  ·cases e;rfl
 subst r;obtain⟨ao,k,cap,e,s⟩:=j i hi;obtain⟨b,d,o,p⟩:=Br c e;refine⟨b,ao,k,cap,d,o,p,?_,s⟩;rcases c.2 with⟨f,m⟩|⟨g,cap,a,f,t,q,_⟩
 ·omega
 ·cases f;cases d;exact jg w _ _ _ _ q
theorem NLs.at (h:NLs B w (kX (lJ ⟨b,0,lI⟩) n sc) l):B<=b/\∃cur,w.heap[b]?=lJ (lE cur 22 (0,0)):=by
 obtain⟨k,c,i⟩:=h;rcases c.2 with⟨e,j⟩|⟨g,a,cur,e,d,f,_⟩
 ·cases e
 ·cases e;exact⟨d,cur,f⟩
theorem NLs.jx {x:lN}{cur:Array lN}(h:NLs B w (kX so n sc) l)(hb:w.heap[b]?=lJ (lE cur 22 (0,0)))(hne:∀a,so=lJ a->a.block≠b):NLs B (lG w ⟨b,i,lI⟩ x) (kX so n sc) l:=by
 obtain⟨u,f,o⟩:=h;refine⟨u,⟨f.1,?_⟩,fun j hj=>?_⟩
 ·rcases f.2 with p|⟨g,c,d,e,q,r,s⟩
  ·exact .inl p
  ·cases e
   exact .inr ⟨g,_,d,rfl,q,(eT w _ x g (hne _ rfl)).trans r,s⟩
 ·obtain⟨m,k,c,e,t⟩:=o j hj;exact⟨m,k,c,e,t.kC (Touch.of_set (B:=0) hb (ep _)) (by decide)⟩
theorem NLs.set {x:Nat}(h:NLs B w (kX (lJ ⟨b,0,lI⟩) n sc) l)(hi:i<l.length)(hr:Row w ao k cap (zA x)):NLs B (lG w ⟨b,i,lI⟩ (kX ao k cap)) (kX (lJ ⟨b,0,lI⟩) n sc) (l.set i x):=by
 obtain⟨D,q,v⟩:=h;rcases q.2 with⟨e,E⟩|⟨g,p,d,e,r,s,f,y,z,A⟩
 ·cases e
 ·cases e
  have t:Touch 22 B w (lG w ⟨b,i,lI⟩ (kX ao k cap)):=Touch.of_set s r;have o:=q.1;refine⟨D.set i (kX ao k cap),⟨by simpa using o,.inr ⟨b,_,d.setIfInBounds i (kX ao k cap),by rw[jr],r,eP w b i _ _ _ s,by rw[jr];exact f,y,by simpa using z,?_⟩⟩,fun j hj=>?_⟩
  ·rw[Array.toList_setIfInBounds,jr,List.take_set,A]
  ·rw[jr]at hj;by_cases e:j=i
   ·subst e;exact⟨ao,k,cap,by rw[iX];simp;omega,by rw[qr hi,ed rfl];exact hr.kC t (by decide)⟩
   ·obtain⟨c,C,a,u,m⟩:=v j hj;exact⟨c,C,a,by rw[iX,ec (fun f=>e f.symm)];exact u,by rw[qr hi,ec e];exact m.kC t (by decide)⟩
theorem u6 (w:lM){ops:Array Oper}{rest:List Oper}{o:Oper}{a:Act}{Q:Exit->Act->lM->Prop}(hgd:o.guard=lI)(s x:Operand)(hop:o.op=Op.call {callee:=Callee.builtin Builtin.append,args:=#[s,x],argTypes:=#[29,29]})(base:Nat)(v:lN)(l:List Nat)(ad:Addr)(c:Nat)(u:Nat)(uo:Option Addr)(un uc:Nat)(hs:a.eval s=v)(hx:a.eval x=kX (lJ ad) 1 c)(hown:NLs base w v l)(h0:w.cell? (ad.add 0)=lJ (kX uo un uc))(hr:Row w uo un uc (zA u))(hle:l.length+1<=1000000)(hb:base<=w.heap.size)(h:∀v' w',NLs base w' v' (l++[u])->Touch 22 base w w'->Below base w w'->wpList prog ops Q rest (a.put o.dst v') w'):wpList prog ops Q (o::rest) a w:=by
 obtain⟨m,f,r⟩:=hown;(have b:m.length=l.length:=by have:=f.1;omega);rw[<-b]at f;refine sj w hgd s x hop base v m ad c (kX uo un uc) hs hx f h0 rfl (by omega) hb ?_;intro v' w' n j t;refine h v' w' ⟨m++[kX uo un uc],by rw[eK]at n ⊢;rw[<-b];exact n,fun i hi=>?_⟩ j t;rw[eK,iZ]at hi;by_cases e:i<l.length
 ·obtain⟨p,k,d,q,g⟩:=r i e;exact⟨p,k,d,by rw[eU (by omega)];exact q,by rw[uM e];exact g.kC j (by decide)⟩
 ·(obtain rfl:i=l.length:=by omega);exact⟨uo,un,uc,by rw[eM (by omega),b];simp,by rw[uN];exact hr.kC j (by decide)⟩
def NO (base:Nat)(w:lM)(v:lN)(l:List Rat):Prop:=∃xs,w.ownsRow base 83 3 v l.length xs/\∀i,i<l.length->∃uo un uc yo yn yc,xs[i*3]?=lJ (kZ (negB (rq l i)))/\xs[i*3+1]?=lJ (kX uo un uc)/\xs[i*3+2]?=lJ (kX yo yn yc)/\Row w uo un uc (zA (rq l i).num.natAbs)/\Row w yo yn yc (zA (rq l i).den)
theorem NO.nil (base:Nat)(w:lM):NO base w (kX lI 0 0) []:=⟨[],iy _ _ _ _,fun i hi=>by simp at hi⟩
variable{base:Nat}
theorem NO.iP {l:List Rat}(h:NO base w v l)(hb:Below w.heap.size w w'):NO base w' v l:=by
 obtain⟨t,⟨k,h⟩,c⟩:=h;refine⟨t,⟨k,?_⟩,fun i hi=>?_⟩
 ·rcases h with h|⟨g,a,b,m,c,d,n⟩
  ·exact .inl h
  ·exact .inr ⟨g,a,b,m,c,(hb.block g (ek.1 d).1).trans d,n⟩
 ·obtain⟨s,r,q,y,x,u,e,f,j,o,p⟩:=c i hi;exact⟨s,r,q,y,x,u,e,f,j,o.iP hb,p.iP hb⟩
theorem NO.frs {l:List Rat}(h:NO base w v l):∃ao cap,v=kX ao l.length cap/\Frs w ao l.length cap (rq l):=by
 obtain⟨G,⟨H,h⟩,q⟩:=h;rcases h with⟨rfl,h⟩|⟨g,cap,a,rfl,J,r,D,E,I,F⟩
 ·obtain rfl:l=[]:=iq.1 h;exact⟨lI,0,rfl,[],Arr.nil _ _,fun i v c=>by simp at c⟩
 ·refine⟨_,_,rfl,?_⟩;(have d:∀j,j<l.length*3->a[j]?=G[j]?:=fun j hj=>by rw[<-F,<-eI,eH,ed hj]);refine⟨(List.range l.length).map (fun i=>lA #[a.getD (i*3) (kZ lL),a.getD (i*3+1) (kZ lL),a.getD (i*3+2) (kZ lL)]),⟨by simp,D,E,fun _=>⟨g,0,rfl,(ek.1 r).1⟩,?_⟩,?_⟩
  ·intro b o e i v c j u p
   cases e
   (have n:i<l.length:=by simpa using(eA.1 c).1);obtain⟨z,y,x,C,B,A,f,k,m,s,t⟩:=q i n;rw[<-d _ (by omega)]at f k m;rw[eD,iL n]at c
   cases c
   rw[eC,hH w g _ _ _ _ r]
   match j with
   |0=>rw[ia,f,<-p];simp[Value.cells,f,eZ]
   |1=>rw[k,<-p];simp[Value.cells,k,eZ]
   |2=>rw[m,<-p];simp[Value.cells,m,eZ]
   |j+3=>simp[Value.cells]at p
  ·intro i v c;(have n:i<l.length:=by simpa using(eA.1 c).1);obtain⟨z,y,x,C,B,A,f,k,m,s,t⟩:=q i n;rw[<-d _ (by omega)]at f k m;rw[eD,iL n]at c
   cases c
   simp only[eZ,f,k,m,Option.getD_some];exact⟨z,y,x,C,B,A,rfl,s,t⟩
theorem Cj (n:Int)(d:Nat):mkRat n d=(n:Rat)/((d:Int):Rat):=by rw[Rat.mkRat_eq_div];rfl
def PQv (w:lM)(v:lN)(x:Rat)(L:Nat):Prop:=∃m ao n capa bo k capb p q,v=lA #[kZ m,kX ao n capa,kX bo k capb]/\Row w ao n capa (zA p)/\Row w bo k capb (zA q)/\q≠0/\x=mkRat (sg m p) q/\n<=L/\k<=L
variable{L:Nat}
theorem PQv.iP {x:Rat}(h:PQv w v x L)(hb:Below w.heap.size w w'):PQv w' v x L:=by
 obtain⟨m,c,n,a,d,k,b,p,q,e,f,g,i⟩:=h;exact⟨m,c,n,a,d,k,b,p,q,e,f.iP hb,g.iP hb,i⟩
theorem PQv.mono {x:Rat}{M:Nat}(h:PQv w v x L)(hm:L<=M):PQv w v x M:=by
 obtain⟨m,c,n,a,d,k,b,p,q,e,f,g,i,j,l,o⟩:=h;exact⟨m,c,n,a,d,k,b,p,q,e,f,g,i,j,by omega,by omega⟩
abbrev av (a:Nat->Int):Array lN:=#[kW lD (a 0),kW lD (a 1),kW lD (a 2),kW lD (a 3)]
def AOk (a:Nat->Int):Prop:=∀r,r<4->-1000000000000000<=a r/\a r<=1000000000000000
variable{a0 a1 a2 a3 b0 b1 b2 b3:Int}
theorem aplus4 (ha0:-1000000000000000<=a0/\a0<=1000000000000000)(ha1:-1000000000000000<=a1/\a1<=1000000000000000)(ha2:-1000000000000000<=a2/\a2<=1000000000000000)(ha3:-1000000000000000<=a3/\a3<=1000000000000000)(hb0:-1000000000000000<=b0/\b0<=1000000000000000)(hb1:-1000000000000000<=b1/\b1<=1000000000000000)(hb2:-1000000000000000<=b2/\b2<=1000000000000000)(hb3:-1000000000000000<=b3/\b3<=1000000000000000)(w:lM):Calls prog 172 #[lA #[kW lD a0,kW lD a1,kW lD a2,kW lD a3],lA #[kW lD b0,kW lD b1,kW lD b2,kW lD b3]] w fun e w'=>e=lF (lA #[(kW lD (a0+b0)),(kW lD (a1+b1)),(kW lD (a2+b2)),(kW lD (a3+b3))])/\Below w.heap.size w w':=by
 obtain⟨W,I⟩:=ha0;obtain⟨X,J⟩:=ha1;obtain⟨Y,K⟩:=ha2;obtain⟨Z,L⟩:=ha3;obtain⟨aa,M⟩:=hb0;obtain⟨ab,N⟩:=hb1;obtain⟨ac,O⟩:=hb2;obtain⟨ad,P⟩:=hb3;have ah:IntKind.i64.wrap (a0+b0)=a0+b0:=eF _ ⟨by omega,by omega⟩;have ai:IntKind.i64.wrap (a1+b1)=a1+b1:=eF _ ⟨by omega,by omega⟩;have aj:IntKind.i64.wrap (a2+b2)=a2+b2:=eF _ ⟨by omega,by omega⟩;have ak:IntKind.i64.wrap (a3+b3)=a3+b3:=eF _ ⟨by omega,by omega⟩;(have R:∀w:lM,(Instr.index 106 (lA #[kW lD b0,kW lD b1,kW lD b2,kW lD b3]) (kW lD 0)).run prog w=.ok (kW lD b0) w:=fun _=>by kernel_rfl);(have S:∀w:lM,(Instr.index 106 (lA #[kW lD b0,kW lD b1,kW lD b2,kW lD b3]) (kW lD 1)).run prog w=.ok (kW lD b1) w:=fun _=>by kernel_rfl);(have T:∀w:lM,(Instr.index 106 (lA #[kW lD b0,kW lD b1,kW lD b2,kW lD b3]) (kW lD 2)).run prog w=.ok (kW lD b2) w:=fun _=>by kernel_rfl);(have U:∀w:lM,(Instr.index 106 (lA #[kW lD b0,kW lD b1,kW lD b2,kW lD b3]) (kW lD 3)).run prog w=.ok (kW lD b3) w:=fun _=>by kernel_rfl);have b:=brw w;have s:=i1 w #[kW lD a0,kW lD a1,kW lD a2,kW lD a3] 106;have c:=b.alloc b.size (lE #[kW lD a0,kW lD a1,kW lD a2,kW lD a3] 106);have ae:=b.size;have t:=i7 s (lE #[kW lD b0,kW lD b1,kW lD b2,kW lD b3] 106);have x:=i1 (w.alloc (lE #[kW lD a0,kW lD a1,kW lD a2,kW lD a3] 106)) #[kW lD b0,kW lD b1,kW lD b2,kW lD b3] 106;have d:=c.alloc c.size (lE #[kW lD b0,kW lD b1,kW lD b2,kW lD b3] 106);have af:=c.size;have u:=i7 t (lE #[kW lD 0,kW lD 0,kW lD 0,kW lD 0] 106);have z:=i7 x (lE #[kW lD 0,kW lD 0,kW lD 0,kW lD 0] 106);have y:=i1 ((w.alloc (lE #[kW lD a0,kW lD a1,kW lD a2,kW lD a3] 106)).alloc (lE #[kW lD b0,kW lD b1,kW lD b2,kW lD b3] 106)) #[kW lD 0,kW lD 0,kW lD 0,kW lD 0] 106;have l:=d.alloc d.size (lE #[kW lD 0,kW lD 0,kW lD 0,kW lD 0] 106);have ag:=d.size;go_enter func172,ntmps172;go_wp2;generalize((w.alloc (lE #[kW lD a0,kW lD a1,kW lD a2,kW lD a3] 106)).alloc (lE #[kW lD b0,kW lD b1,kW lD b2,kW lD b3] 106)).alloc (lE #[kW lD 0,kW lD 0,kW lD 0,kW lD 0] 106)=V at u z y l ⊢;simp only[em]at y
 go_loopg[8] 4 (fun gg ix wr=>∃(k:Nat) (g h i j:Int),gg=4-k/\k<=4/\ix=kW lD k/\g=(if 0<k then a0+b0 else a0)/\h=(if 1<k then a1+b1 else a1)/\i=(if 2<k then a2+b2 else a2)/\j=(if 3<k then a3+b3 else a3)/\Bx wr w.heap.size #[kW lD g,kW lD h,kW lD i,kW lD j] 106/\Bx wr (w.heap.size+1+1) #[kW lD 0,kW lD 0,kW lD 0,kW lD 0] 106/\Bl w wr)
 case atStart=>exact⟨0,a0,a1,a2,a3,rfl,by omega,rfl,rfl,rfl,rfl,rfl,u,y,l⟩
 case round=>
  obtain⟨k,g,h,i,j,Q,hk,rfl,m,n,o,q,a,f,hB⟩:=hrel;(have E:k=0\/k=1\/k=2\/k=3\/k=4:=by omega);rcases E with rfl|rfl|rfl|rfl|rfl
  ·rw[show g=a0 from m,show h=a1 from n,show i=a2 from o,show j=a3 from q]at a;obtain⟨A,C,F⟩:=a.w1 rfl;go_wp2;go_roundg (4-(0+1));exact⟨1,(a0+b0),a1,a2,a3,rfl,by omega,rfl,rfl,rfl,rfl,rfl,j6 a 0 _,f.jx _ _ (by show w.heap.size≠w.heap.size+1+1;omega),hB.setCell lR _⟩;omega
  ·rw[show g=(a0+b0)from m,show h=a1 from n,show i=a2 from o,show j=a3 from q]at a;obtain⟨A,C,F⟩:=a.s 1 rfl;go_wp2;go_roundg (4-(1+1));exact⟨2,(a0+b0),(a1+b1),a2,a3,rfl,by omega,rfl,rfl,rfl,rfl,rfl,j6 a 1 _,f.jx _ _ (by show w.heap.size≠w.heap.size+1+1;omega),hB.setCell lR _⟩;omega
  ·rw[show g=(a0+b0)from m,show h=(a1+b1)from n,show i=a2 from o,show j=a3 from q]at a;obtain⟨A,C,F⟩:=a.s 2 rfl;go_wp2;go_roundg (4-(2+1));exact⟨3,(a0+b0),(a1+b1),(a2+b2),a3,rfl,by omega,rfl,rfl,rfl,rfl,rfl,j6 a 2 _,f.jx _ _ (by show w.heap.size≠w.heap.size+1+1;omega),hB.setCell lR _⟩;omega
  ·rw[show g=(a0+b0)from m,show h=(a1+b1)from n,show i=(a2+b2)from o,show j=a3 from q]at a;obtain⟨A,C,F⟩:=a.s 3 rfl;go_wp2;go_roundg (4-(3+1));exact⟨4,(a0+b0),(a1+b1),(a2+b2),(a3+b3),rfl,by omega,rfl,rfl,rfl,rfl,rfl,j6 a 3 _,f.jx _ _ (by show w.heap.size≠w.heap.size+1+1;omega),hB.setCell lR _⟩;omega
  ·rw[show g=(a0+b0)from m,show h=(a1+b1)from n,show i=(a2+b2)from o,show j=(a3+b3)from q]at a;have x0:=a.cell 0 _ rfl;obtain⟨_,r0,q0⟩:=f.w1 rfl;have x1:=a.cell 1 _ rfl;obtain⟨_,r1,q1⟩:=f.s 1 rfl;have x2:=a.cell 2 _ rfl;obtain⟨_,r2,q2⟩:=f.s 2 rfl;have x3:=a.cell 3 _ rfl;obtain⟨_,r3,q3⟩:=f.s 3 rfl;have A:=a.lt;have lr:=f.lt;have r:=(j6 (j6 (j6 (j6 f 0 (kW lD (a0+b0))) 1 (kW lD (a1+b1))) 2 (kW lD (a2+b2))) 3 (kW lD (a3+b3)));have B:=((((hB.setCell (p:=⟨w.heap.size+1+1,0,lI⟩) (by show w.heap.size<=w.heap.size+1+1;omega) (kW lD (a0+b0))).setCell (p:=⟨w.heap.size+1+1,1,lI⟩) (by show w.heap.size<=w.heap.size+1+1;omega) (kW lD (a1+b1))).setCell (p:=⟨w.heap.size+1+1,2,lI⟩) (by show w.heap.size<=w.heap.size+1+1;omega) (kW lD (a2+b2))).setCell (p:=⟨w.heap.size+1+1,3,lI⟩) (by show w.heap.size<=w.heap.size+1+1;omega) (kW lD (a3+b3)));go_wp2;obtain⟨y0,y1,y2,y3⟩:=r.c4 rfl;refine eG (v:=lA #[(kW lD (a0+b0)),(kW lD (a1+b1)),(kW lD (a2+b2)),(kW lD (a3+b3))]) (by simp[results,results172,go_sem,y0,y1,y2,y3]) rfl ⟨rfl,B⟩
theorem ry (a b:Nat->Int) (ha:AOk a) (hb:AOk b) (w:lM) :
    Calls prog 172 #[lA (av a),lA (av b)] w fun e w'=>e=lF (lA (av (fun r=>a r+b r)))/\Below w.heap.size w w':=
  aplus4 (ha 0 (by omega)) (ha 1 (by omega)) (ha 2 (by omega)) (ha 3 (by omega)) (hb 0 (by omega)) (hb 1 (by omega)) (hb 2 (by omega)) (hb 3 (by omega)) w
theorem aminus4 (ha0:-1000000000000000<=a0/\a0<=1000000000000000)(ha1:-1000000000000000<=a1/\a1<=1000000000000000)(ha2:-1000000000000000<=a2/\a2<=1000000000000000)(ha3:-1000000000000000<=a3/\a3<=1000000000000000)(hb0:-1000000000000000<=b0/\b0<=1000000000000000)(hb1:-1000000000000000<=b1/\b1<=1000000000000000)(hb2:-1000000000000000<=b2/\b2<=1000000000000000)(hb3:-1000000000000000<=b3/\b3<=1000000000000000)(w:lM):Calls prog 171 #[lA #[kW lD a0,kW lD a1,kW lD a2,kW lD a3],lA #[kW lD b0,kW lD b1,kW lD b2,kW lD b3]] w fun e w'=>e=lF (lA #[(kW lD (a0-b0)),(kW lD (a1-b1)),(kW lD (a2-b2)),(kW lD (a3-b3))])/\Below w.heap.size w w':=by
 obtain⟨W,I⟩:=ha0;obtain⟨X,J⟩:=ha1;obtain⟨Y,K⟩:=ha2;obtain⟨Z,L⟩:=ha3;obtain⟨aa,M⟩:=hb0;obtain⟨ab,N⟩:=hb1;obtain⟨ac,O⟩:=hb2;obtain⟨ad,P⟩:=hb3;have ah:IntKind.i64.wrap (a0-b0)=a0-b0:=eF _ ⟨by omega,by omega⟩;have ai:IntKind.i64.wrap (a1-b1)=a1-b1:=eF _ ⟨by omega,by omega⟩;have aj:IntKind.i64.wrap (a2-b2)=a2-b2:=eF _ ⟨by omega,by omega⟩;have ak:IntKind.i64.wrap (a3-b3)=a3-b3:=eF _ ⟨by omega,by omega⟩;(have R:∀w:lM,(Instr.index 106 (lA #[kW lD b0,kW lD b1,kW lD b2,kW lD b3]) (kW lD 0)).run prog w=.ok (kW lD b0) w:=fun _=>by kernel_rfl);(have S:∀w:lM,(Instr.index 106 (lA #[kW lD b0,kW lD b1,kW lD b2,kW lD b3]) (kW lD 1)).run prog w=.ok (kW lD b1) w:=fun _=>by kernel_rfl);(have T:∀w:lM,(Instr.index 106 (lA #[kW lD b0,kW lD b1,kW lD b2,kW lD b3]) (kW lD 2)).run prog w=.ok (kW lD b2) w:=fun _=>by kernel_rfl);(have U:∀w:lM,(Instr.index 106 (lA #[kW lD b0,kW lD b1,kW lD b2,kW lD b3]) (kW lD 3)).run prog w=.ok (kW lD b3) w:=fun _=>by kernel_rfl);have b:=brw w;have s:=i1 w #[kW lD a0,kW lD a1,kW lD a2,kW lD a3] 106;have c:=b.alloc b.size (lE #[kW lD a0,kW lD a1,kW lD a2,kW lD a3] 106);have ae:=b.size;have t:=i7 s (lE #[kW lD b0,kW lD b1,kW lD b2,kW lD b3] 106);have x:=i1 (w.alloc (lE #[kW lD a0,kW lD a1,kW lD a2,kW lD a3] 106)) #[kW lD b0,kW lD b1,kW lD b2,kW lD b3] 106;have d:=c.alloc c.size (lE #[kW lD b0,kW lD b1,kW lD b2,kW lD b3] 106);have af:=c.size;have u:=i7 t (lE #[kW lD 0,kW lD 0,kW lD 0,kW lD 0] 106);have z:=i7 x (lE #[kW lD 0,kW lD 0,kW lD 0,kW lD 0] 106);have y:=i1 ((w.alloc (lE #[kW lD a0,kW lD a1,kW lD a2,kW lD a3] 106)).alloc (lE #[kW lD b0,kW lD b1,kW lD b2,kW lD b3] 106)) #[kW lD 0,kW lD 0,kW lD 0,kW lD 0] 106;have l:=d.alloc d.size (lE #[kW lD 0,kW lD 0,kW lD 0,kW lD 0] 106);have ag:=d.size;go_enter func171,ntmps171;go_wp2;generalize((w.alloc (lE #[kW lD a0,kW lD a1,kW lD a2,kW lD a3] 106)).alloc (lE #[kW lD b0,kW lD b1,kW lD b2,kW lD b3] 106)).alloc (lE #[kW lD 0,kW lD 0,kW lD 0,kW lD 0] 106)=V at u z y l ⊢;simp only[em]at y
 go_loopg[8] 4 (fun gg ix wr=>∃(k:Nat) (g h i j:Int),gg=4-k/\k<=4/\ix=kW lD k/\g=(if 0<k then a0-b0 else a0)/\h=(if 1<k then a1-b1 else a1)/\i=(if 2<k then a2-b2 else a2)/\j=(if 3<k then a3-b3 else a3)/\Bx wr w.heap.size #[kW lD g,kW lD h,kW lD i,kW lD j] 106/\Bx wr (w.heap.size+1+1) #[kW lD 0,kW lD 0,kW lD 0,kW lD 0] 106/\Bl w wr)
 case atStart=>exact⟨0,a0,a1,a2,a3,rfl,by omega,rfl,rfl,rfl,rfl,rfl,u,y,l⟩
 case round=>
  obtain⟨k,g,h,i,j,Q,hk,rfl,m,n,o,q,a,f,hB⟩:=hrel;(have E:k=0\/k=1\/k=2\/k=3\/k=4:=by omega);rcases E with rfl|rfl|rfl|rfl|rfl
  ·rw[show g=a0 from m,show h=a1 from n,show i=a2 from o,show j=a3 from q]at a;obtain⟨A,C,F⟩:=a.w1 rfl;go_wp2;go_roundg (4-(0+1));exact⟨1,(a0-b0),a1,a2,a3,rfl,by omega,rfl,rfl,rfl,rfl,rfl,j6 a 0 _,f.jx _ _ (by show w.heap.size≠w.heap.size+1+1;omega),hB.setCell lR _⟩;omega
  ·rw[show g=(a0-b0)from m,show h=a1 from n,show i=a2 from o,show j=a3 from q]at a;obtain⟨A,C,F⟩:=a.s 1 rfl;go_wp2;go_roundg (4-(1+1));exact⟨2,(a0-b0),(a1-b1),a2,a3,rfl,by omega,rfl,rfl,rfl,rfl,rfl,j6 a 1 _,f.jx _ _ (by show w.heap.size≠w.heap.size+1+1;omega),hB.setCell lR _⟩;omega
  ·rw[show g=(a0-b0)from m,show h=(a1-b1)from n,show i=a2 from o,show j=a3 from q]at a;obtain⟨A,C,F⟩:=a.s 2 rfl;go_wp2;go_roundg (4-(2+1));exact⟨3,(a0-b0),(a1-b1),(a2-b2),a3,rfl,by omega,rfl,rfl,rfl,rfl,rfl,j6 a 2 _,f.jx _ _ (by show w.heap.size≠w.heap.size+1+1;omega),hB.setCell lR _⟩;omega
  ·rw[show g=(a0-b0)from m,show h=(a1-b1)from n,show i=(a2-b2)from o,show j=a3 from q]at a;obtain⟨A,C,F⟩:=a.s 3 rfl;go_wp2;go_roundg (4-(3+1));exact⟨4,(a0-b0),(a1-b1),(a2-b2),(a3-b3),rfl,by omega,rfl,rfl,rfl,rfl,rfl,j6 a 3 _,f.jx _ _ (by show w.heap.size≠w.heap.size+1+1;omega),hB.setCell lR _⟩;omega
  ·rw[show g=(a0-b0)from m,show h=(a1-b1)from n,show i=(a2-b2)from o,show j=(a3-b3)from q]at a;have x0:=a.cell 0 _ rfl;obtain⟨_,r0,q0⟩:=f.w1 rfl;have x1:=a.cell 1 _ rfl;obtain⟨_,r1,q1⟩:=f.s 1 rfl;have x2:=a.cell 2 _ rfl;obtain⟨_,r2,q2⟩:=f.s 2 rfl;have x3:=a.cell 3 _ rfl;obtain⟨_,r3,q3⟩:=f.s 3 rfl;have A:=a.lt;have lr:=f.lt;have r:=(j6 (j6 (j6 (j6 f 0 (kW lD (a0-b0))) 1 (kW lD (a1-b1))) 2 (kW lD (a2-b2))) 3 (kW lD (a3-b3)));have B:=((((hB.setCell (p:=⟨w.heap.size+1+1,0,lI⟩) (by show w.heap.size<=w.heap.size+1+1;omega) (kW lD (a0-b0))).setCell (p:=⟨w.heap.size+1+1,1,lI⟩) (by show w.heap.size<=w.heap.size+1+1;omega) (kW lD (a1-b1))).setCell (p:=⟨w.heap.size+1+1,2,lI⟩) (by show w.heap.size<=w.heap.size+1+1;omega) (kW lD (a2-b2))).setCell (p:=⟨w.heap.size+1+1,3,lI⟩) (by show w.heap.size<=w.heap.size+1+1;omega) (kW lD (a3-b3)));go_wp2;obtain⟨y0,y1,y2,y3⟩:=r.c4 rfl;refine eG (v:=lA #[(kW lD (a0-b0)),(kW lD (a1-b1)),(kW lD (a2-b2)),(kW lD (a3-b3))]) (by simp[results,results171,go_sem,y0,y1,y2,y3]) rfl ⟨rfl,B⟩
theorem sI (a b:Nat->Int) (ha:AOk a) (hb:AOk b) (w:lM) :
    Calls prog 171 #[lA (av a),lA (av b)] w fun e w'=>e=lF (lA (av (fun r=>a r-b r)))/\Below w.heap.size w w':=
  aminus4 (ha 0 (by omega)) (ha 1 (by omega)) (ha 2 (by omega)) (ha 3 (by omega)) (hb 0 (by omega)) (hb 1 (by omega)) (hb 2 (by omega)) (hb 3 (by omega)) w
theorem atimes4 {n:Int}(ha0:-1000000000000000<=a0*n/\a0*n<=1000000000000000)(ha1:-1000000000000000<=a1*n/\a1*n<=1000000000000000)(ha2:-1000000000000000<=a2*n/\a2*n<=1000000000000000)(ha3:-1000000000000000<=a3*n/\a3*n<=1000000000000000)(w:lM):Calls prog 170 #[lA #[kW lD a0,kW lD a1,kW lD a2,kW lD a3],kW lD n] w fun e w'=>e=lF (lA #[kW lD (a0*n),kW lD (a1*n),kW lD (a2*n),kW lD (a3*n)])/\Below w.heap.size w w':=by
 obtain⟨O,I⟩:=ha0;obtain⟨P,J⟩:=ha1;obtain⟨Q,K⟩:=ha2;obtain⟨R,L⟩:=ha3;obtain⟨b,y⟩:∃p,p=a0*n:=⟨_,rfl⟩;obtain⟨c,z⟩:∃p,p=a1*n:=⟨_,rfl⟩;obtain⟨h,A⟩:∃p,p=a2*n:=⟨_,rfl⟩;obtain⟨o,B⟩:∃p,p=a3*n:=⟨_,rfl⟩;rw[<-y]at O I;rw[<-z]at P J;rw[<-A]at Q K;rw[<-B]at R L;have ad:IntKind.i64.wrap b=b:=eF _ ⟨by omega,by omega⟩;have ae:IntKind.i64.wrap c=c:=eF _ ⟨by omega,by omega⟩;have af:IntKind.i64.wrap h=h:=eF _ ⟨by omega,by omega⟩;have ag:IntKind.i64.wrap o=o:=eF _ ⟨by omega,by omega⟩;have W:=y.symm;have X:=z.symm;have Y:=A.symm;have Z:=B.symm;rw[<-y,<-z,<-A,<-B];clear y z A B;have d:=brw w;have C:=i1 w #[kW lD a0,kW lD a1,kW lD a2,kW lD a3] 106;have f:=d.alloc d.size (lE #[kW lD a0,kW lD a1,kW lD a2,kW lD a3] 106);have ab:=d.size;clear d;have D:=i7 C (lE #[kW lD 0,kW lD 0,kW lD 0,kW lD 0] 106);have E:=i1 (w.alloc (lE #[kW lD a0,kW lD a1,kW lD a2,kW lD a3] 106)) #[kW lD 0,kW lD 0,kW lD 0,kW lD 0] 106;have q:=f.alloc f.size (lE #[kW lD 0,kW lD 0,kW lD 0,kW lD 0] 106);have ac:=f.size;clear C f;go_enter func170,ntmps170;go_wp2;generalize(w.alloc (lE #[kW lD a0,kW lD a1,kW lD a2,kW lD a3] 106)).alloc (lE #[kW lD 0,kW lD 0,kW lD 0,kW lD 0] 106)=V at D E q ⊢;simp only[em]at E
 go_loopg[6] 4 (fun gg ix wr=>∃(k:Nat) (i j l m:Int),gg=4-k/\k<=4/\ix=kW lD k/\i=(if 0<k then b else a0)/\j=(if 1<k then c else a1)/\l=(if 2<k then h else a2)/\m=(if 3<k then o else a3)/\Bx wr w.heap.size #[kW lD i,kW lD j,kW lD l,kW lD m] 106/\Bx wr (w.heap.size+1) #[kW lD 0,kW lD 0,kW lD 0,kW lD 0] 106/\Bl w wr)
 case atStart=>exact⟨0,a0,a1,a2,a3,rfl,by omega,rfl,rfl,rfl,rfl,rfl,D,E,q⟩
 case round=>
  clear D E q;obtain⟨k,i,j,l,m,aa,hk,rfl,r,s,t,u,a,g,hB⟩:=hrel;(have N:k=0\/k=1\/k=2\/k=3\/k=4:=by omega);rcases N with rfl|rfl|rfl|rfl|rfl
  ·rw[show i=a0 from r,show j=a1 from s,show l=a2 from t,show m=a3 from u]at a;clear r s t u i j l m;obtain⟨F,H,S⟩:=a.w1 rfl;go_wp2;go_roundg (4-(0+1));exact⟨1,b,a1,a2,a3,rfl,by omega,rfl,rfl,rfl,rfl,rfl,j6 a 0 _,g.jx _ _ (by show w.heap.size≠w.heap.size+1;omega),hB.setCell lR _⟩;omega
  ·rw[show i=b from r,show j=a1 from s,show l=a2 from t,show m=a3 from u]at a;clear r s t u i j l m;obtain⟨F,H,S⟩:=a.s 1 rfl;go_wp2;go_roundg (4-(1+1));exact⟨2,b,c,a2,a3,rfl,by omega,rfl,rfl,rfl,rfl,rfl,j6 a 1 _,g.jx _ _ (by show w.heap.size≠w.heap.size+1;omega),hB.setCell lR _⟩;omega
  ·rw[show i=b from r,show j=c from s,show l=a2 from t,show m=a3 from u]at a;clear r s t u i j l m;obtain⟨F,H,S⟩:=a.s 2 rfl;go_wp2;go_roundg (4-(2+1));exact⟨3,b,c,h,a3,rfl,by omega,rfl,rfl,rfl,rfl,rfl,j6 a 2 _,g.jx _ _ (by show w.heap.size≠w.heap.size+1;omega),hB.setCell lR _⟩;omega
  ·rw[show i=b from r,show j=c from s,show l=h from t,show m=a3 from u]at a;clear r s t u i j l m;obtain⟨F,H,S⟩:=a.s 3 rfl;go_wp2;go_roundg (4-(3+1));exact⟨4,b,c,h,o,rfl,by omega,rfl,rfl,rfl,rfl,rfl,j6 a 3 _,g.jx _ _ (by show w.heap.size≠w.heap.size+1;omega),hB.setCell lR _⟩;omega
  ·rw[show i=b from r,show j=c from s,show l=h from t,show m=o from u]at a;clear r s t u i j l m;have x0:=a.cell 0 _ rfl;obtain⟨_,r0,q0⟩:=g.w1 rfl;have x1:=a.cell 1 _ rfl;obtain⟨_,r1,q1⟩:=g.s 1 rfl;have x2:=a.cell 2 _ rfl;obtain⟨_,r2,q2⟩:=g.s 2 rfl;have x3:=a.cell 3 _ rfl;obtain⟨_,r3,q3⟩:=g.s 3 rfl;have F:=a.lt;have lr:=g.lt;have x:=(j6 (j6 (j6 (j6 g 0 (kW lD b)) 1 (kW lD c)) 2 (kW lD h)) 3 (kW lD o));have G:=((((hB.setCell (p:=⟨w.heap.size+1,0,lI⟩) (by show w.heap.size<=w.heap.size+1;omega) (kW lD b)).setCell (p:=⟨w.heap.size+1,1,lI⟩) (by show w.heap.size<=w.heap.size+1;omega) (kW lD c)).setCell (p:=⟨w.heap.size+1,2,lI⟩) (by show w.heap.size<=w.heap.size+1;omega) (kW lD h)).setCell (p:=⟨w.heap.size+1,3,lI⟩) (by show w.heap.size<=w.heap.size+1;omega) (kW lD o));go_wp2;obtain⟨y0,y1,y2,y3⟩:=x.c4 rfl;refine eG (v:=lA #[(kW lD b),(kW lD c),(kW lD h),(kW lD o)]) (by simp[results,results170,go_sem,y0,y1,y2,y3]) rfl ⟨rfl,G⟩
theorem qX (a:Nat->Int) (n:Int) (ha:AOk (fun r=>a r*n)) (w:lM) :
    Calls prog 170 #[lA (av a),kW lD n] w fun e w'=>e=lF (lA (av (fun r=>a r*n)))/\Below w.heap.size w w':=
  atimes4 (ha 0 (by omega)) (ha 1 (by omega)) (ha 2 (by omega)) (ha 3 (by omega)) w
theorem asum4 (ha0:-1000000000000000<=a0/\a0<=1000000000000000)(ha1:-1000000000000000<=a1/\a1<=1000000000000000)(ha2:-1000000000000000<=a2/\a2<=1000000000000000)(ha3:-1000000000000000<=a3/\a3<=1000000000000000)(w:lM):Calls prog 203 #[lA #[kW lD a0,kW lD a1,kW lD a2,kW lD a3]] w fun e w'=>e=lF (kW lD ((((0+a0)+a1)+a2)+a3))/\Below w.heap.size w w':=by
 (have o:∀w:lM,(Instr.index 106 (lA #[kW lD a0,kW lD a1,kW lD a2,kW lD a3]) (kW lD 0)).run prog w=.ok (kW lD a0) w:=fun _=>by kernel_rfl);(have p:∀w:lM,(Instr.index 106 (lA #[kW lD a0,kW lD a1,kW lD a2,kW lD a3]) (kW lD 1)).run prog w=.ok (kW lD a1) w:=fun _=>by kernel_rfl);(have q:∀w:lM,(Instr.index 106 (lA #[kW lD a0,kW lD a1,kW lD a2,kW lD a3]) (kW lD 2)).run prog w=.ok (kW lD a2) w:=fun _=>by kernel_rfl);(have r:∀w:lM,(Instr.index 106 (lA #[kW lD a0,kW lD a1,kW lD a2,kW lD a3]) (kW lD 3)).run prog w=.ok (kW lD a3) w:=fun _=>by kernel_rfl);obtain⟨s,i⟩:=ha0;obtain⟨t,j⟩:=ha1;obtain⟨u,l⟩:=ha2;obtain⟨v,m⟩:=ha3;have y:IntKind.i64.wrap (0+a0)=(0+a0):=eF _ ⟨by omega,by omega⟩;have z:IntKind.i64.wrap ((0+a0)+a1)=((0+a0)+a1):=eF _ ⟨by omega,by omega⟩;have A:IntKind.i64.wrap (((0+a0)+a1)+a2)=(((0+a0)+a1)+a2):=eF _ ⟨by omega,by omega⟩;have B:IntKind.i64.wrap ((((0+a0)+a1)+a2)+a3)=((((0+a0)+a1)+a2)+a3):=eF _ ⟨by omega,by omega⟩;have a:=brw w;have d:=i1 w #[kW lD a0,kW lD a1,kW lD a2,kW lD a3] 106;have b:=a.alloc a.size (lE #[kW lD a0,kW lD a1,kW lD a2,kW lD a3] 106);have x:=a.size;clear a;go_enter func203,ntmps203;go_wp2;generalize w.alloc (lE #[kW lD a0,kW lD a1,kW lD a2,kW lD a3] 106)=V at d b ⊢
 go_loopg[3,7] 4 (fun gg s3 ix wr=>∃(k:Nat) (c:Int),gg=4-k/\k<=4/\ix=kW lD k/\s3=kW lD c/\c=(if k=0 then 0 else if k=1 then(0+a0)else if k=2 then((0+a0)+a1)else if k=3 then(((0+a0)+a1)+a2)else((((0+a0)+a1)+a2)+a3))/\wr=V)
 case atStart=>exact⟨0,0,rfl,by omega,rfl,rfl,rfl,rfl⟩
 case round=>
  obtain⟨k,c,n,C,rfl,rfl,f,rfl⟩:=hrel;(have g:k=0\/k=1\/k=2\/k=3\/k=4:=by omega);rcases g with rfl|rfl|rfl|rfl|rfl
  ·obtain rfl:c=0:=f;go_wp2;go_roundg (4-(0+1));exact⟨1,(0+a0),rfl,by omega,rfl,by first|rfl|simp,rfl,rfl⟩;omega
  ·obtain rfl:c=(0+a0):=f;go_wp2;go_roundg (4-(1+1));exact⟨2,((0+a0)+a1),rfl,by omega,rfl,by first|rfl|simp,rfl,rfl⟩;omega
  ·obtain rfl:c=((0+a0)+a1):=f;go_wp2;go_roundg (4-(2+1));exact⟨3,(((0+a0)+a1)+a2),rfl,by omega,rfl,by first|rfl|simp,rfl,rfl⟩;omega
  ·obtain rfl:c=(((0+a0)+a1)+a2):=f;go_wp2;go_roundg (4-(3+1));exact⟨4,((((0+a0)+a1)+a2)+a3),rfl,by omega,rfl,by first|rfl|simp,rfl,rfl⟩;omega
  ·obtain rfl:c=((((0+a0)+a1)+a2)+a3):=f;go_wp2;go_ret;exact⟨rfl,b⟩
theorem Hl (a:Nat->Int) (ha:AOk a) (w:lM) :
    Calls prog 203 #[lA (av a)] w fun e w'=>e=lF (kW lD (sumI a 4))/\Below w.heap.size w w':=
  asum4 (ha 0 (by omega)) (ha 1 (by omega)) (ha 2 (by omega)) (ha 3 (by omega)) w
theorem abears4:Calls prog 202 #[lA #[kW lD a0,kW lD a1,kW lD a2,kW lD a3],lA #[kW lD b0,kW lD b1,kW lD b2,kW lD b3]] w fun e w'=>e=lF (kZ (decide (b0<=a0/\b1<=a1/\b2<=a2/\b3<=a3)))/\Below w.heap.size w w':=by
 (have z:∀w:lM,(Instr.index 106 (lA #[kW lD b0,kW lD b1,kW lD b2,kW lD b3]) (kW lD 0)).run prog w=.ok (kW lD b0) w:=fun _=>by kernel_rfl);(have A:∀w:lM,(Instr.index 106 (lA #[kW lD b0,kW lD b1,kW lD b2,kW lD b3]) (kW lD 1)).run prog w=.ok (kW lD b1) w:=fun _=>by kernel_rfl);(have B:∀w:lM,(Instr.index 106 (lA #[kW lD b0,kW lD b1,kW lD b2,kW lD b3]) (kW lD 2)).run prog w=.ok (kW lD b2) w:=fun _=>by kernel_rfl);(have C:∀w:lM,(Instr.index 106 (lA #[kW lD b0,kW lD b1,kW lD b2,kW lD b3]) (kW lD 3)).run prog w=.ok (kW lD b3) w:=fun _=>by kernel_rfl);have f:=brw w;have j:=i1 w #[kW lD a0,kW lD a1,kW lD a2,kW lD a3] 106;have g:=f.alloc f.size (lE #[kW lD a0,kW lD a1,kW lD a2,kW lD a3] 106);have D:=f.size;clear f;have b:=i7 j (lE #[kW lD b0,kW lD b1,kW lD b2,kW lD b3] 106);have m:=i1 (w.alloc (lE #[kW lD a0,kW lD a1,kW lD a2,kW lD a3] 106)) #[kW lD b0,kW lD b1,kW lD b2,kW lD b3] 106;have a:=g.alloc g.size (lE #[kW lD b0,kW lD b1,kW lD b2,kW lD b3] 106);have E:=g.size;clear j g;go_enter func202,ntmps202;go_wp2;generalize(w.alloc (lE #[kW lD a0,kW lD a1,kW lD a2,kW lD a3] 106)).alloc (lE #[kW lD b0,kW lD b1,kW lD b2,kW lD b3] 106)=V at b m a ⊢;obtain⟨G,s,t,u,v⟩:=b.q4 rfl
 go_loopg[8] 4 (fun gg ix wr=>∃(k:Nat),gg=4-k/\k<=4/\ix=kW lD k/\(0<k->b0<=a0)/\(1<k->b1<=a1)/\(2<k->b2<=a2)/\(3<k->b3<=a3)/\wr=V)
 case atStart=>exact⟨0,rfl,by omega,rfl,fun h=>by omega,fun h=>by omega,fun h=>by omega,fun h=>by omega,rfl⟩
 case round=>
  obtain⟨k,y,F,rfl,n,o,q,x,rfl⟩:=hrel;(have p:k=0\/k=1\/k=2\/k=3\/k=4:=by omega);rcases p with rfl|rfl|rfl|rfl|rfl
  ·by_cases c:b0<=a0
   ·(have d:¬ a0<b0:=by omega);have l:=c;clear c;go_wp2;go_roundg (4-(0+1));exact⟨1,rfl,by omega,rfl,fun h=>l,fun h=>by omega,fun h=>by omega,fun h=>by omega,rfl⟩;omega
   ·(have d:a0<b0:=by omega);have i:decide (b0<=a0/\b1<=a1/\b2<=a2/\b3<=a3)=lL:=ee (fun h=>c (by omega));clear c;go_wp2;go_ret;exact⟨by rw[i];rfl,a⟩
  ·by_cases c:b1<=a1
   ·(have d:¬ a1<b1:=by omega);have l:=c;clear c;go_wp2;go_roundg (4-(1+1));exact⟨2,rfl,by omega,rfl,fun h=>n (by omega),fun h=>l,fun h=>by omega,fun h=>by omega,rfl⟩;omega
   ·(have d:a1<b1:=by omega);have i:decide (b0<=a0/\b1<=a1/\b2<=a2/\b3<=a3)=lL:=ee (fun h=>c (by omega));clear c;go_wp2;go_ret;exact⟨by rw[i];rfl,a⟩
  ·by_cases c:b2<=a2
   ·(have d:¬ a2<b2:=by omega);have l:=c;clear c;go_wp2;go_roundg (4-(2+1));exact⟨3,rfl,by omega,rfl,fun h=>n (by omega),fun h=>o (by omega),fun h=>l,fun h=>by omega,rfl⟩;omega
   ·(have d:a2<b2:=by omega);have i:decide (b0<=a0/\b1<=a1/\b2<=a2/\b3<=a3)=lL:=ee (fun h=>c (by omega));clear c;go_wp2;go_ret;exact⟨by rw[i];rfl,a⟩
  ·by_cases c:b3<=a3
   ·(have d:¬ a3<b3:=by omega);have l:=c;clear c;go_wp2;go_roundg (4-(3+1));exact⟨4,rfl,by omega,rfl,fun h=>n (by omega),fun h=>o (by omega),fun h=>q (by omega),fun h=>l,rfl⟩;omega
   ·(have d:a3<b3:=by omega);have i:decide (b0<=a0/\b1<=a1/\b2<=a2/\b3<=a3)=lL:=ee (fun h=>c (by omega));clear c;go_wp2;go_ret;exact⟨by rw[i];rfl,a⟩
  ·have i:decide (b0<=a0/\b1<=a1/\b2<=a2/\b3<=a3)=lK:=ei ⟨n (by omega),o (by omega),q (by omega),x (by omega)⟩;go_wp2;go_ret;exact⟨by rw[i];rfl,a⟩
theorem DK (a b:Nat->Int):decide (b 0<=a 0/\b 1<=a 1/\b 2<=a 2/\b 3<=a 3)=zU a b 4:=by
 rw[jz,eN,oe];constructor
 ·rintro⟨c,d,e,f⟩ r g;(have:r=0\/r=1\/r=2\/r=3:=by omega);rcases this with rfl|rfl|rfl|rfl<;>assumption
 ·exact fun h=>⟨h 0 (by omega),h 1 (by omega),h 2 (by omega),h 3 (by omega)⟩
theorem sX {a b:Nat->Int}:Calls prog 202 #[lA (av a),lA (av b)] w fun e w'=>e=lF (kZ (zU a b 4))/\Below w.heap.size w w':=by
 rw[<-DK];exact abears4
def FBk (w:lM)(b:Nat)(M:Nat->lN):Prop:=w.heap[b]?=lJ (lE (Array.ofFn (n:=180) fun i=>M i.val) 115 (0,0))
variable{M:Nat->lN}
theorem FBk.lt (h:FBk w b M):b<w.heap.size:=(ek.1 h).1
variable{o:Nat}
theorem FBk.cell (h:FBk w b M)(ho:o<180):lH w ⟨b,o,lI⟩=lJ (M o):=by
 rw[hH w b o _ _ _ h,Array.getElem?_ofFn,dif_pos ho]
theorem FBk.frozen (h:FBk w b M)(o:Nat):w.frozen? ⟨b,o,lI⟩=lL:=jg w b o _ _ h
theorem FBk.iP (h:FBk w b M)(hb:Below B w w')(hB:b<B):FBk w' b M:=(hb.block b hB).trans h
def xV (M:Nat->lN)(o:Nat)(v:lN):Nat->lN:=fun j=>if j=o then v else M j
theorem mq (M:Nat->lN)(o:Nat)(v:lN):xV M o v o=v:=ed rfl
theorem i6 (M:Nat->lN)(v:lN)(h:j≠o):xV M o v j=M j:=ec h
theorem Bf (n:Nat)(M:Nat->lN)(o:Nat)(v:lN):(Array.ofFn (n:=n) fun i=>M i.val).setIfInBounds o v=Array.ofFn (n:=n) fun i=>xV M o v i.val:=by
 apply Array.ext
 ·simp
 ·intro i a b;simp only[Array.size_setIfInBounds,Array.size_ofFn]at a;rw[Array.getElem_setIfInBounds (by simpa using a)];simp only[Array.getElem_ofFn,xV];by_cases e:o=i
  ·subst e;simp
  ·rw[ec e,ec (fun h=>e h.symm)]
theorem FBk.set (h:FBk w b M)(o:Nat)(v:lN):FBk (lG w ⟨b,o,lI⟩ v) b (xV M o v):=by
 have a:=eP w b o _ _ v h;rw[Bf]at a;exact a
structure Flt where
  k:Nat
  mg:Nat
  ug:Nat
  mt:Nat->Bool
  ms:Nat->Nat->Int
  ut:Nat->Bool
  ud:Nat->Nat->Int
  uw:Nat->Int
  uc:Nat->Int
  m:FM
  due:Nat->ByteArray
  ks:Nat->Nat->Int
  ck:Int
  ku:Nat->Int
structure Enc (M:Nat->lN)(F:Flt):Prop where
  k:M 0=kW lD F.k
  mg:M 1=kW lD F.mg
  ug:M 2=kW lD F.ug
  mt:∀i,i<8->M (3+i*5)=kZ (F.mt i)
  ms:∀i,i<8->∀r,r<4->M (3+i*5+1+r)=kW lD (F.ms i r)
  ut:∀u,u<6->M (43+u*22)=kZ (F.ut u)
  ud:∀u,u<6->∀r,r<4->M (43+u*22+1+r)=kW lD (F.ud u r)
  uw:∀u,u<6->M (43+u*22+5)=kW lD (F.uw u)
  uc:∀u,u<6->M (43+u*22+6)=kW lD (F.uc u)
  kV:∀u,u<6->M (43+u*22+7)=kW lD (F.m.kV u)
  on:∀u,u<6->∀m,m<8->M (43+u*22+8+m)=kW lD (F.m.on u m)
  due:∀u,u<6->M (43+u*22+16)=lC (F.due u)
  ky:∀u,u<6->M (43+u*22+17)=kW lD (F.m.ky u)
  ks:∀u,u<6->∀r,r<4->M (43+u*22+18+r)=kW lD (F.ks u r)
  ck:M 175=kW lD F.ck
  ku:∀r,r<4->M (176+r)=kW lD (F.ku r)
def FL (w:lM)(b:Nat)(F:Flt):Prop:=∃M,FBk w b M/\Enc M F
variable{F:Flt}
theorem FL.lt (h:FL w b F):b<w.heap.size:=by obtain⟨M,a,_⟩:=h;exact a.lt
theorem FL.iP (h:FL w b F)(hb:Below w.heap.size w w'):FL w' b F:=by
 obtain⟨M,a,c⟩:=h;exact⟨M,a.iP hb a.lt,c⟩
theorem Enc.setWait {u:Nat}(h:Enc M F)(hu:u<6)(x:Int):Enc (xV M (43+u*22+7) (kW lD x)) {F with m:={F.m with kV:=zE F.m.kV u x} }:=by
 refine⟨?_,?_,?_,fun i hi=>?_,fun i hi r hr=>?_,fun v hv=>?_,fun v hv r hr=>?_,fun v hv=>?_,fun v hv=>?_,fun v hv=>?_,fun v hv m hm=>?_,fun v hv=>?_,fun v hv=>?_,fun v hv r hr=>?_,?_,fun r hr=>?_⟩
 ·rw[i6 _ _ (by omega)];exact h.k
 ·rw[i6 _ _ (by omega)];exact h.mg
 ·rw[i6 _ _ (by omega)];exact h.ug
 ·rw[i6 _ _ (by omega)];exact h.mt i hi
 ·rw[i6 _ _ (by omega)];exact h.ms i hi r hr
 ·rw[i6 _ _ (by omega)];exact h.ut v hv
 ·rw[i6 _ _ (by omega)];exact h.ud v hv r hr
 ·rw[i6 _ _ (by omega)];exact h.uw v hv
 ·rw[i6 _ _ (by omega)];exact h.uc v hv
 ·by_cases e:v=u
  ·subst e;rw[mq];show _=Value.int lD (zE F.m.kV v x v);rw[JP]
  ·rw[i6 _ _ (by omega)];show _=Value.int lD (zE F.m.kV u x v);rw[JJ _ _ e];exact h.kV v hv
 ·rw[i6 _ _ (by omega)];exact h.on v hv m hm
 ·rw[i6 _ _ (by omega)];exact h.due v hv
 ·rw[i6 _ _ (by omega)];exact h.ky v hv
 ·rw[i6 _ _ (by omega)];exact h.ks v hv r hr
 ·rw[i6 _ _ (by omega)];exact h.ck
 ·rw[i6 _ _ (by omega)];exact h.ku r hr
theorem Enc.setOn {u:Nat}(h:Enc M F)(hu:u<6)(hm:m<8)(x:Int):Enc (xV M (43+u*22+8+m) (kW lD x)) {F with m:={F.m with on:=yC F.m.on u m x} }:=by
 refine⟨?_,?_,?_,fun i hi=>?_,fun i hi r hr=>?_,fun v hv=>?_,fun v hv r hr=>?_,fun v hv=>?_,fun v hv=>?_,fun v hv=>?_,fun v hv l hl=>?_,fun v hv=>?_,fun v hv=>?_,fun v hv r hr=>?_,?_,fun r hr=>?_⟩
 ·rw[i6 _ _ (by omega)];exact h.k
 ·rw[i6 _ _ (by omega)];exact h.mg
 ·rw[i6 _ _ (by omega)];exact h.ug
 ·rw[i6 _ _ (by omega)];exact h.mt i hi
 ·rw[i6 _ _ (by omega)];exact h.ms i hi r hr
 ·rw[i6 _ _ (by omega)];exact h.ut v hv
 ·rw[i6 _ _ (by omega)];exact h.ud v hv r hr
 ·rw[i6 _ _ (by omega)];exact h.uw v hv
 ·rw[i6 _ _ (by omega)];exact h.uc v hv
 ·rw[i6 _ _ (by omega)];exact h.kV v hv
 ·show _=Value.int lD (yC F.m.on u m x v l);by_cases e:v=u/\l=m
  ·obtain⟨rfl,rfl⟩:=e;rw[mq,nU]
  ·rw[i6 _ _ (by omega),rE _ _ e];exact h.on v hv l hl
 ·rw[i6 _ _ (by omega)];exact h.due v hv
 ·rw[i6 _ _ (by omega)];exact h.ky v hv
 ·rw[i6 _ _ (by omega)];exact h.ks v hv r hr
 ·rw[i6 _ _ (by omega)];exact h.ck
 ·rw[i6 _ _ (by omega)];exact h.ku r hr
theorem Enc.setRev {u:Nat}(h:Enc M F)(hu:u<6)(x:Int):Enc (xV M (43+u*22+17) (kW lD x)) {F with m:={F.m with ky:=zE F.m.ky u x} }:=by
 refine⟨?_,?_,?_,fun i hi=>?_,fun i hi r hr=>?_,fun v hv=>?_,fun v hv r hr=>?_,fun v hv=>?_,fun v hv=>?_,fun v hv=>?_,fun v hv m hm=>?_,fun v hv=>?_,fun v hv=>?_,fun v hv r hr=>?_,?_,fun r hr=>?_⟩
 ·rw[i6 _ _ (by omega)];exact h.k
 ·rw[i6 _ _ (by omega)];exact h.mg
 ·rw[i6 _ _ (by omega)];exact h.ug
 ·rw[i6 _ _ (by omega)];exact h.mt i hi
 ·rw[i6 _ _ (by omega)];exact h.ms i hi r hr
 ·rw[i6 _ _ (by omega)];exact h.ut v hv
 ·rw[i6 _ _ (by omega)];exact h.ud v hv r hr
 ·rw[i6 _ _ (by omega)];exact h.uw v hv
 ·rw[i6 _ _ (by omega)];exact h.uc v hv
 ·rw[i6 _ _ (by omega)];exact h.kV v hv
 ·rw[i6 _ _ (by omega)];exact h.on v hv m hm
 ·rw[i6 _ _ (by omega)];exact h.due v hv
 ·by_cases e:v=u
  ·subst e;rw[mq];show _=Value.int lD (zE F.m.ky v x v);rw[JP]
  ·rw[i6 _ _ (by omega)];show _=Value.int lD (zE F.m.ky u x v);rw[JJ _ _ e];exact h.ky v hv
 ·rw[i6 _ _ (by omega)];exact h.ks v hv r hr
 ·rw[i6 _ _ (by omega)];exact h.ck
 ·rw[i6 _ _ (by omega)];exact h.ku r hr
def yh (c:Bool)(v z:lN):lN:=if c then lB #[v,kW lD 0]else lB #[z,kW lD 7]
def yH (F:Flt)(x:Int):Bool:=decide (0<=x)&&decide (x<6)&&F.ut x.toNat
def yl (F:Flt)(x:Int):Bool:=decide (0<=x)&&decide (x<8)&&F.mt x.toNat
def xB (F:Flt)(x:Int):Bool:=decide (0<=x)&&decide (x<F.ug)
def yx (F:Flt)(x:Int):Bool:=decide (0<=x)&&decide (x<F.k)
variable{x:Int}
theorem lV (h:yH F x=lK):∃u:Nat,x=u/\u<6/\F.ut u=lK:=by
 unfold yH at h;simp only[eJ,eN]at h;exact⟨x.toNat,by omega,by omega,h.2⟩
theorem pm (h:yl F x=lK):∃u:Nat,x=u/\u<8/\F.mt u=lK:=by
 unfold yl at h;simp only[eJ,eN]at h;exact⟨x.toNat,by omega,by omega,h.2⟩
theorem rI (h:xB F x=lK):∃u:Nat,x=u/\u<F.ug:=by
 unfold xB at h;simp only[eJ,eN]at h;exact⟨x.toNat,by omega,by omega⟩
theorem rJ (h:yx F x=lK):∃u:Nat,x=u/\u<F.k:=by
 unfold yx at h;simp only[eJ,eN]at h;exact⟨x.toNat,by omega,by omega⟩
theorem nL (hf:FL w b F):Calls prog 135 #[kY (lJ ⟨b,0,lI⟩),kW lD x] w fun e w'=>e=lF (kZ (yH F x))/\w'=w:=by
 obtain⟨M,d,f⟩:=hf;have p:=d.lt;have g:=hid f;clear f;go_enter func135,ntmps135;by_cases n:x<0
 ·(have a:Hid (yH F x=lL):=by unfold Hid yH;rw[ee (by omega:¬ 0<=x)];rfl);have l:decide ((0:Int)<=x)=lL:=ee (by omega);(have m:¬ (0:Int)<=x:=by omega);go_wp2;go_ret;exact⟨by rw[a.out];rfl,rfl⟩
 ·obtain⟨u,rfl⟩:∃u:Nat,x=(u:Int):=⟨x.toNat,by omega⟩;by_cases k:u<6
  ·(have c:(u:Int)<6:=by omega);(have a:Hid (yH F (u:Int)=F.ut u):=by unfold Hid yH;rw[ei (by omega:(0:Int)<=u),ei c];simp);have i:=d.cell (o:=43+u*22) (by omega);rw[g.out.ut u k]at i;go_wp2;go_ret;exact⟨by rw[a.out];rfl,rfl⟩
  ·(have c:¬ (u:Int)<6:=by omega);have j:=ee c;(have a:Hid (yH F (u:Int)=lL):=by unfold Hid yH;rw[j];simp);go_wp2;go_ret;exact⟨by rw[a.out];rfl,rfl⟩
theorem sB (hf:FL w b F):Calls prog 131 #[kY (lJ ⟨b,0,lI⟩),kW lD x] w fun e w'=>e=lF (kZ (yl F x))/\w'=w:=by
 obtain⟨M,d,f⟩:=hf;have p:=d.lt;have g:=hid f;clear f;go_enter func131,ntmps131;by_cases n:x<0
 ·(have a:Hid (yl F x=lL):=by unfold Hid yl;rw[ee (by omega:¬ 0<=x)];rfl);have l:decide ((0:Int)<=x)=lL:=ee (by omega);(have m:¬ (0:Int)<=x:=by omega);go_wp2;go_ret;exact⟨by rw[a.out];rfl,rfl⟩
 ·obtain⟨u,rfl⟩:∃u:Nat,x=(u:Int):=⟨x.toNat,by omega⟩;by_cases k:u<8
  ·(have c:(u:Int)<8:=by omega);(have a:Hid (yl F (u:Int)=F.mt u):=by unfold Hid yl;rw[ei (by omega:(0:Int)<=u),ei c];simp);have i:=d.cell (o:=3+u*5) (by omega);rw[g.out.mt u k]at i;go_wp2;go_ret;exact⟨by rw[a.out];rfl,rfl⟩
  ·(have c:¬ (u:Int)<8:=by omega);have j:=ee c;(have a:Hid (yl F (u:Int)=lL):=by unfold Hid yl;rw[j];simp);go_wp2;go_ret;exact⟨by rw[a.out];rfl,rfl⟩
theorem wy (hf:FL w b F):Calls prog 156 #[kY (lJ ⟨b,0,lI⟩),kW lD x] w fun e w'=>e=lF (kZ (xB F x))/\w'=w:=by
 obtain⟨M,d,f⟩:=hf;have k:=d.lt;have g:=d.cell (o:=2) (by omega);rw[f.ug]at g;clear f d;go_enter func156,ntmps156;by_cases j:x<0
 ·(have a:Hid (xB F x=lL):=by unfold Hid xB;rw[ee (by omega:¬ 0<=x)];rfl);have h:decide ((0:Int)<=x)=lL:=ee (by omega);(have i:¬ (0:Int)<=x:=by omega);go_wp2;go_ret;exact⟨by rw[a.out];rfl,rfl⟩
 ·(have c:(0:Int)<=x:=by omega);(have a:Hid (xB F x=decide (x<F.ug)):=by unfold Hid xB;rw[ei c];rfl);go_wp2;go_ret;exact⟨by rw[a.out];rfl,rfl⟩
theorem wK (hf:FL w b F):Calls prog 158 #[kY (lJ ⟨b,0,lI⟩),kW lD x] w fun e w'=>e=lF (kZ (yx F x))/\w'=w:=by
 obtain⟨M,d,f⟩:=hf;have l:=d.lt;have g:=d.cell (o:=0) (by omega);rw[f.k]at g;clear f d;go_enter func158,ntmps158;by_cases j:x<0
 ·(have a:Hid (yx F x=lL):=by unfold Hid yx;rw[ee (by omega:¬ 0<=x)];rfl);have h:decide ((0:Int)<=x)=lL:=ee (by omega);(have i:¬ (0:Int)<=x:=by omega);go_wp2;go_ret;exact⟨by rw[a.out];rfl,rfl⟩
 ·(have c:(0:Int)<=x:=by omega);(have a:Hid (yx F x=decide (x<F.k)):=by unfold Hid yx;rw[ei c];rfl);go_wp2;go_ret;exact⟨by rw[a.out];rfl,rfl⟩
variable{y:Int}
theorem Running_any (hf:FL w b F):Calls prog 112 #[kY (lJ ⟨b,0,lI⟩),kW lD x,kW lD y] w fun e w'=>e=lF (yh (yH F x&&yl F y) (kW lD (F.m.on x.toNat y.toNat)) (kW lD 0))/\w'=w:=by
 go_enter func112,ntmps112;go_wp2_with fail;refine(nL hf).mono ?_;rintro p q ⟨rfl,rfl⟩;by_cases c:yH F x=lK
 ·have d:=c;rw[c];obtain⟨u,rfl,k,_⟩:=lV c;(have t:(u:Int)<6:=by omega);go_wp2_with fail;refine(sB hf).mono ?_;rintro p q ⟨rfl,rfl⟩;by_cases a:yl F y=lK
  ·have f:=a;rw[a];obtain⟨m,rfl,j,_⟩:=pm a;(have s:(m:Int)<8:=by omega);obtain⟨M,i,l⟩:=hf;have r:=i.lt;have n:=i.cell (o:=43+u*22+8+m) (by omega);rw[l.on u k m j]at n;go_wp2;go_ret2;exact⟨by rw[d,f];rfl,rfl⟩
  ·(have g:yl F y=lL:=by simpa using a);have f:=g;rw[g];go_wp2;go_ret2;exact⟨by rw[d,f];rfl,rfl⟩
 ·(have g:yH F x=lL:=by simpa using c);have d:=g;rw[g];go_wp2;go_ret2;exact⟨by rw[d];rfl,rfl⟩
theorem Waiting_any (hf:FL w b F):Calls prog 114 #[kY (lJ ⟨b,0,lI⟩),kW lD x] w fun e w'=>e=lF (yh (yH F x) (kW lD (F.m.kV x.toNat)) (kW lD 0))/\w'=w:=by
 go_enter func114,ntmps114;go_wp2_with fail;refine(nL hf).mono ?_;rintro k p ⟨rfl,rfl⟩;by_cases a:yH F x=lK
 ·have c:=a;rw[a];obtain⟨u,rfl,g,_⟩:=lV a;(have n:(u:Int)<6:=by omega);obtain⟨M,f,i⟩:=hf;have l:=f.lt;have j:=f.cell (o:=43+u*22+7) (by omega);rw[i.kV u g]at j;go_wp2;go_ret2;exact⟨by rw[c];rfl,rfl⟩
 ·(have d:yH F x=lL:=by simpa using a);have c:=d;rw[d];go_wp2;go_ret2;exact⟨by rw[c];rfl,rfl⟩
theorem Due_any (hf:FL w b F):Calls prog 118 #[kY (lJ ⟨b,0,lI⟩),kW lD x] w fun e w'=>e=lF (yh (yH F x) (lC (F.due x.toNat)) (lC ⟨#[]⟩))/\w'=w:=by
 go_enter func118,ntmps118;go_wp2_with fail;refine(nL hf).mono ?_;rintro k n ⟨rfl,rfl⟩;by_cases a:yH F x=lK
 ·have c:=a;rw[a];obtain⟨u,rfl,g,_⟩:=lV a;(have m:(u:Int)<6:=by omega);obtain⟨M,f,i⟩:=hf;have l:=f.lt;have j:=f.cell (o:=43+u*22+16) (by omega);rw[i.due u g]at j;go_wp2;go_ret2;exact⟨by rw[c];rfl,rfl⟩
 ·(have d:yH F x=lL:=by simpa using a);have c:=d;rw[d];go_wp2;go_ret2;exact⟨by rw[c];rfl,rfl⟩
theorem Revoked_any (hf:FL w b F)(hug:F.ug<=6):Calls prog 116 #[kY (lJ ⟨b,0,lI⟩),kW lD x] w fun e w'=>e=lF (yh (xB F x) (kW lD (F.m.ky x.toNat)) (kW lD 0))/\w'=w:=by
 go_enter func116,ntmps116;go_wp2_with fail;refine(wy hf).mono ?_;rintro k p ⟨rfl,rfl⟩;by_cases a:xB F x=lK
 ·have c:=a;rw[a];obtain⟨u,rfl,j⟩:=rI a;(have n:(u:Int)<F.ug:=by omega);obtain⟨M,f,h⟩:=hf;have l:=f.lt;have i:=f.cell (o:=43+u*22+17) (by omega);rw[h.ky u (by omega)]at i;go_wp2;go_ret2;exact⟨by rw[c];rfl,rfl⟩
 ·(have d:xB F x=lL:=by simpa using a);have c:=d;rw[d];go_wp2;go_ret2;exact⟨by rw[c];rfl,rfl⟩
theorem Used_any (hf:FL w b F)(hug:F.ug<=6)(hk:F.k<=4):Calls prog 120 #[kY (lJ ⟨b,0,lI⟩),kW lD x,kW lD y] w fun e w'=>e=lF (yh (xB F x&&yx F y) (kW lD (F.ks x.toNat y.toNat)) (kW lD 0))/\w'=w:=by
 go_enter func120,ntmps120;go_wp2_with fail;refine(wy hf).mono ?_;rintro m q ⟨rfl,rfl⟩;by_cases a:xB F x=lK
 ·have d:=a;rw[a];obtain⟨u,rfl,p⟩:=rI a;(have v:(u:Int)<F.ug:=by omega);go_wp2_with fail;refine(wK hf).mono ?_;rintro m q ⟨rfl,rfl⟩;by_cases c:yx F y=lK
  ·have f:=c;rw[c];obtain⟨r,rfl,n⟩:=rJ c;(have t:(r:Int)<F.k:=by omega);obtain⟨M,i,j⟩:=hf;have s:=i.lt;have l:=i.cell (o:=43+u*22+18+r) (by omega);rw[j.ks u (by omega) r (by omega)]at l;go_wp2;go_ret2;exact⟨by rw[d,f];rfl,rfl⟩
  ·(have g:yx F y=lL:=by simpa using c);have f:=g;rw[g];go_wp2;go_ret2;exact⟨by rw[d,f];rfl,rfl⟩
 ·(have g:xB F x=lL:=by simpa using a);have d:=g;rw[g];go_wp2;go_ret2;exact⟨by rw[d];rfl,rfl⟩
theorem Idle_any (hf:FL w b F)(hk:F.k<=4):Calls prog 122 #[kY (lJ ⟨b,0,lI⟩),kW lD y] w fun e w'=>e=lF (yh (yx F y) (kW lD (F.ku y.toNat)) (kW lD 0))/\w'=w:=by
 go_enter func122,ntmps122;go_wp2_with fail;refine(wK hf).mono ?_;rintro l p ⟨rfl,rfl⟩;by_cases a:yx F y=lK
 ·have c:=a;rw[a];obtain⟨r,rfl,j⟩:=rJ a;(have n:(r:Int)<F.k:=by omega);obtain⟨M,f,h⟩:=hf;have m:=f.lt;have i:=f.cell (o:=176+r) (by omega);rw[h.ku r (by omega)]at i;go_wp2;go_ret2;exact⟨by rw[c];rfl,rfl⟩
 ·(have d:yx F y=lL:=by simpa using a);have c:=d;rw[d];go_wp2;go_ret2;exact⟨by rw[c];rfl,rfl⟩
theorem Clock_any (hf:FL w b F):Calls prog 124 #[kY (lJ ⟨b,0,lI⟩)] w fun e w'=>e=lF (kW lD F.ck)/\w'=w:=by
 obtain⟨M,a,c⟩:=hf;have f:=a.lt;have d:=a.cell (o:=175) (by omega);rw[c.ck]at d;go_enter func124,ntmps124;go_wp2;go_ret;exact⟨rfl,rfl⟩
theorem running8 {pb po:Nat}{o0 o1 o2 o3 o4 o5 o6 o7:Int}(lb:pb<w.heap.size)(c0:lH w ⟨pb,po+8,lI⟩=lJ (kW lD o0))(h0:0<=o0/\o0<=1000000)(c1:lH w ⟨pb,po+8+1,lI⟩=lJ (kW lD o1))(h1:0<=o1/\o1<=1000000)(c2:lH w ⟨pb,po+8+2,lI⟩=lJ (kW lD o2))(h2:0<=o2/\o2<=1000000)(c3:lH w ⟨pb,po+8+3,lI⟩=lJ (kW lD o3))(h3:0<=o3/\o3<=1000000)(c4:lH w ⟨pb,po+8+4,lI⟩=lJ (kW lD o4))(h4:0<=o4/\o4<=1000000)(c5:lH w ⟨pb,po+8+5,lI⟩=lJ (kW lD o5))(h5:0<=o5/\o5<=1000000)(c6:lH w ⟨pb,po+8+6,lI⟩=lJ (kW lD o6))(h6:0<=o6/\o6<=1000000)(c7:lH w ⟨pb,po+8+7,lI⟩=lJ (kW lD o7))(h7:0<=o7/\o7<=1000000):Calls prog 169 #[kY (lJ ⟨pb,po,lI⟩)] w fun e w'=>e=lF (kW lD ((((((((0+o0)+o1)+o2)+o3)+o4)+o5)+o6)+o7))/\w'=w:=by
 (have f:∀w:lM,(Instr.index 110 (lA #[kW lD o0,kW lD o1,kW lD o2,kW lD o3,kW lD o4,kW lD o5,kW lD o6,kW lD o7]) (kW lD 0)).run prog w=.ok (kW lD o0) w:=fun _=>by kernel_rfl);(have g:∀w:lM,(Instr.index 110 (lA #[kW lD o0,kW lD o1,kW lD o2,kW lD o3,kW lD o4,kW lD o5,kW lD o6,kW lD o7]) (kW lD 1)).run prog w=.ok (kW lD o1) w:=fun _=>by kernel_rfl);(have h:∀w:lM,(Instr.index 110 (lA #[kW lD o0,kW lD o1,kW lD o2,kW lD o3,kW lD o4,kW lD o5,kW lD o6,kW lD o7]) (kW lD 2)).run prog w=.ok (kW lD o2) w:=fun _=>by kernel_rfl);(have i:∀w:lM,(Instr.index 110 (lA #[kW lD o0,kW lD o1,kW lD o2,kW lD o3,kW lD o4,kW lD o5,kW lD o6,kW lD o7]) (kW lD 3)).run prog w=.ok (kW lD o3) w:=fun _=>by kernel_rfl);(have j:∀w:lM,(Instr.index 110 (lA #[kW lD o0,kW lD o1,kW lD o2,kW lD o3,kW lD o4,kW lD o5,kW lD o6,kW lD o7]) (kW lD 4)).run prog w=.ok (kW lD o4) w:=fun _=>by kernel_rfl);(have l:∀w:lM,(Instr.index 110 (lA #[kW lD o0,kW lD o1,kW lD o2,kW lD o3,kW lD o4,kW lD o5,kW lD o6,kW lD o7]) (kW lD 5)).run prog w=.ok (kW lD o5) w:=fun _=>by kernel_rfl);(have m:∀w:lM,(Instr.index 110 (lA #[kW lD o0,kW lD o1,kW lD o2,kW lD o3,kW lD o4,kW lD o5,kW lD o6,kW lD o7]) (kW lD 6)).run prog w=.ok (kW lD o6) w:=fun _=>by kernel_rfl);(have n:∀w:lM,(Instr.index 110 (lA #[kW lD o0,kW lD o1,kW lD o2,kW lD o3,kW lD o4,kW lD o5,kW lD o6,kW lD o7]) (kW lD 7)).run prog w=.ok (kW lD o7) w:=fun _=>by kernel_rfl);have o:IntKind.i64.wrap (0+o0)=(0+o0):=eF _ ⟨by omega,by omega⟩;have p:IntKind.i64.wrap ((0+o0)+o1)=((0+o0)+o1):=eF _ ⟨by omega,by omega⟩;have q:IntKind.i64.wrap (((0+o0)+o1)+o2)=(((0+o0)+o1)+o2):=eF _ ⟨by omega,by omega⟩;have r:IntKind.i64.wrap ((((0+o0)+o1)+o2)+o3)=((((0+o0)+o1)+o2)+o3):=eF _ ⟨by omega,by omega⟩;have s:IntKind.i64.wrap (((((0+o0)+o1)+o2)+o3)+o4)=(((((0+o0)+o1)+o2)+o3)+o4):=eF _ ⟨by omega,by omega⟩;have t:IntKind.i64.wrap ((((((0+o0)+o1)+o2)+o3)+o4)+o5)=((((((0+o0)+o1)+o2)+o3)+o4)+o5):=eF _ ⟨by omega,by omega⟩;have u:IntKind.i64.wrap (((((((0+o0)+o1)+o2)+o3)+o4)+o5)+o6)=(((((((0+o0)+o1)+o2)+o3)+o4)+o5)+o6):=eF _ ⟨by omega,by omega⟩;have v:IntKind.i64.wrap ((((((((0+o0)+o1)+o2)+o3)+o4)+o5)+o6)+o7)=((((((((0+o0)+o1)+o2)+o3)+o4)+o5)+o6)+o7):=eF _ ⟨by omega,by omega⟩;go_enter func169,ntmps169;go_wp2
 go_loopg[3,10] 8 (fun gg s3 ix wr=>∃(k:Nat) (c:Int),gg=8-k/\k<=8/\ix=kW lD k/\s3=kW lD c/\c=(if k=0 then 0 else if k=1 then(0+o0)else if k=2 then((0+o0)+o1)else if k=3 then(((0+o0)+o1)+o2)else if k=4 then((((0+o0)+o1)+o2)+o3)else if k=5 then(((((0+o0)+o1)+o2)+o3)+o4)else if k=6 then((((((0+o0)+o1)+o2)+o3)+o4)+o5)else if k=7 then(((((((0+o0)+o1)+o2)+o3)+o4)+o5)+o6)else((((((((0+o0)+o1)+o2)+o3)+o4)+o5)+o6)+o7))/\wr=w)
 case atStart=>exact⟨0,0,rfl,by omega,rfl,rfl,rfl,rfl⟩
 case round=>
  obtain⟨k,c,d,x,rfl,rfl,a,rfl⟩:=hrel;(have b:k=0\/k=1\/k=2\/k=3\/k=4\/k=5\/k=6\/k=7\/k=8:=by omega);rcases b with rfl|rfl|rfl|rfl|rfl|rfl|rfl|rfl|rfl
  ·obtain rfl:c=0:=a;go_wp2;go_roundg (8-(0+1));exact⟨1,(0+o0),rfl,by omega,rfl,by first|rfl|simp,rfl,rfl⟩;omega
  ·obtain rfl:c=(0+o0):=a;go_wp2;go_roundg (8-(1+1));exact⟨2,((0+o0)+o1),rfl,by omega,rfl,by first|rfl|simp,rfl,rfl⟩;omega
  ·obtain rfl:c=((0+o0)+o1):=a;go_wp2;go_roundg (8-(2+1));exact⟨3,(((0+o0)+o1)+o2),rfl,by omega,rfl,by first|rfl|simp,rfl,rfl⟩;omega
  ·obtain rfl:c=(((0+o0)+o1)+o2):=a;go_wp2;go_roundg (8-(3+1));exact⟨4,((((0+o0)+o1)+o2)+o3),rfl,by omega,rfl,by first|rfl|simp,rfl,rfl⟩;omega
  ·obtain rfl:c=((((0+o0)+o1)+o2)+o3):=a;go_wp2;go_roundg (8-(4+1));exact⟨5,(((((0+o0)+o1)+o2)+o3)+o4),rfl,by omega,rfl,by first|rfl|simp,rfl,rfl⟩;omega
  ·obtain rfl:c=(((((0+o0)+o1)+o2)+o3)+o4):=a;go_wp2;go_roundg (8-(5+1));exact⟨6,((((((0+o0)+o1)+o2)+o3)+o4)+o5),rfl,by omega,rfl,by first|rfl|simp,rfl,rfl⟩;omega
  ·obtain rfl:c=((((((0+o0)+o1)+o2)+o3)+o4)+o5):=a;go_wp2;go_roundg (8-(6+1));exact⟨7,(((((((0+o0)+o1)+o2)+o3)+o4)+o5)+o6),rfl,by omega,rfl,by first|rfl|simp,rfl,rfl⟩;omega
  ·obtain rfl:c=(((((((0+o0)+o1)+o2)+o3)+o4)+o5)+o6):=a;go_wp2;go_roundg (8-(7+1));exact⟨8,((((((((0+o0)+o1)+o2)+o3)+o4)+o5)+o6)+o7),rfl,by omega,rfl,by first|rfl|simp,rfl,rfl⟩;omega
  ·obtain rfl:c=((((((((0+o0)+o1)+o2)+o3)+o4)+o5)+o6)+o7):=a;go_wp2;go_ret;exact⟨rfl,rfl⟩
theorem qP (pb po:Nat) (on:Nat->Int) (w:lM) (lb:pb<w.heap.size) (hc:∀m,m<8->lH w ⟨pb,po+8+m,lI⟩=lJ (kW lD (on m))) (h:∀m,m<8->0<=on m/\on m<=1000000) :
    Calls prog 169 #[kY (lJ ⟨pb,po,lI⟩)] w fun e w'=>e=lF (kW lD (sumI on 8))/\w'=w:=
  running8 lb (hc 0 (by omega)) (h 0 (by omega)) (hc 1 (by omega)) (h 1 (by omega)) (hc 2 (by omega)) (h 2 (by omega)) (hc 3 (by omega)) (h 3 (by omega)) (hc 4 (by omega)) (h 4 (by omega)) (hc 5 (by omega)) (h 5 (by omega)) (hc 6 (by omega)) (h 6 (by omega)) (hc 7 (by omega)) (h 7 (by omega))
theorem vA (T e:TypeId)(n s k:Nat)(A:Array lN)(d:TypeDesc)(w:lM)(hu:prog.underlying T=lJ (.array n e))(he:prog.underlying e=lJ d)(hd:d.isRow=lK)(hs:(prog.info? e).map (·.size)=lJ s)(hk:k<n):(Instr.index T (lA A) (kW lD k)).run prog w=.ok (lA (A.extract (k*s) (k*s+s))) w:=by
 have f:(0:Int)<=(k:Int)/\(k:Int)<(n:Int):=by omega
 cases b:prog.info? e with
 |none=>simp[b]at hs
 | some i=>
  have c:i.size=s:=by simpa[b]using hs
  have a:(isAgg e).run prog w=.ok lK w:=by
   unfold isAgg;rw[Sem.run_bind,run_underlying he w]
   cases d<;>simp_all
  simp[Instr.index,Sem.run_bind,asIntOf,run_underlying hu w,sizeOf,typeInfo,b,c,part,a,f];intro h;omega
def yS (M:Nat->lN)(o n:Nat):List lN:=(List.range n).map fun j=>M (o+j)
theorem nQ (M:Nat->lN)(o n:Nat):(yS M o n).length=n:=by simp[yS]
theorem wB (M:Nat->lN)(o n a m:Nat)(h:a+m<=n):(yS M o n).toArray.extract a (a+m)=(yS M (o+a) m).toArray:=by
 apply Array.ext
 ·simp[yS];omega
 ·intro i c b;simp[yS]at b ⊢;congr 1;omega
theorem FBk.range (h:FBk w b M)(o n:Nat)(hn:o+n<=180):w.rangeAt b o (yS M o n):=by
 intro j v a;(have c:j<n:=by simpa[yS]using(eA.1 a).1);rw[h.cell (by omega)];unfold yS at a;rw[eD,iL c]at a;exact a
theorem Tryz.uMachs:prog.underlying 109=lJ (.array 8 108):=by kernel_rfl
theorem Tryz.uUsers:prog.underlying 113=lJ (.array 6 112):=by kernel_rfl
theorem Tryz.zMachs:(prog.info? 109).map (·.size)=lJ 40:=by kernel_rfl
theorem Tryz.zUsers:(prog.info? 113).map (·.size)=lJ 132:=by kernel_rfl
theorem Tryz.zMach:(prog.info? 108).map (·.size)=lJ 5:=by kernel_rfl
theorem Tryz.zUser:(prog.info? 112).map (·.size)=lJ 22:=by kernel_rfl
theorem Tryz.uMach:∃d,prog.underlying 108=lJ d/\d.isRow=lK:=by
 have h:(prog.underlying 108).map TypeDesc.isRow=lJ lK:=by kernel_rfl
 cases a:prog.underlying 108 with
 |none=>rw[a]at h;cases h
 |some d=>rw[a]at h;exact⟨d,rfl,by simpa using h⟩
theorem Tryz.uUser:∃d,prog.underlying 112=lJ d/\d.isRow=lK:=by
 have h:(prog.underlying 112).map TypeDesc.isRow=lJ lK:=by kernel_rfl
 cases a:prog.underlying 112 with
 |none=>rw[a]at h;cases h
 |some d=>rw[a]at h;exact⟨d,rfl,by simpa using h⟩
abbrev mcells (F:Flt)(i:Nat):Array lN:=#[kZ (F.mt i),kW lD (F.ms i 0),kW lD (F.ms i 1),kW lD (F.ms i 2),kW lD (F.ms i 3)]
abbrev zH (F:Flt)(u:Nat):Array lN:=#[kZ (F.ut u),kW lD (F.ud u 0),kW lD (F.ud u 1),kW lD (F.ud u 2),kW lD (F.ud u 3),kW lD (F.uw u),kW lD (F.uc u),kW lD (F.m.kV u),kW lD (F.m.on u 0),kW lD (F.m.on u 1),kW lD (F.m.on u 2),kW lD (F.m.on u 3),kW lD (F.m.on u 4),kW lD (F.m.on u 5),kW lD (F.m.on u 6),kW lD (F.m.on u 7),lC (F.due u),kW lD (F.m.ky u),kW lD (F.ks u 0),kW lD (F.ks u 1),kW lD (F.ks u 2),kW lD (F.ks u 3)]
theorem sw (hE:Enc M F)(hi:i<8)(w:lM):(Instr.index 109 (lA (yS M 3 40).toArray) (kW lD i)).run prog w=.ok (lA (mcells F i)) w:=by
 obtain⟨d,h,j⟩:=Tryz.uMach;rw[vA _ _ 8 5 i _ d w Tryz.uMachs h j Tryz.zMach hi,wB M 3 40 (i*5) 5 (by omega)];have e:(yS M (3+i*5) 5).toArray=#[M (3+i*5+0),M (3+i*5+1),M (3+i*5+2),M (3+i*5+3),M (3+i*5+4)]:=rfl;rw[e];have g:=hE.mt i hi;have a:=hE.ms i hi 0 (by omega);have b:=hE.ms i hi 1 (by omega);have c:=hE.ms i hi 2 (by omega);have f:=hE.ms i hi 3 (by omega);rw[show 3+i*5+1+0=3+i*5+1 by omega]at a;rw[show 3+i*5+1+1=3+i*5+2 by omega]at b;rw[show 3+i*5+1+2=3+i*5+3 by omega]at c;rw[show 3+i*5+1+3=3+i*5+4 by omega]at f;rw[show 3+i*5+0=3+i*5 by omega,g,a,b,c,f]
theorem pU (hE:Enc M F)(hi:i<6)(w:lM):(Instr.index 113 (lA (yS M 43 132).toArray) (kW lD i)).run prog w=.ok (lA (zH F i)) w:=by
 obtain⟨d,g,f⟩:=Tryz.uUser;rw[vA _ _ 6 22 i _ d w Tryz.uUsers g f Tryz.zUser hi,wB M 43 132 (i*22) 22 (by omega)];(have b:∀r,r<4->M (43+i*22+(1+r))=kW lD (F.ud i r):=fun r f=>by rw[<-hJ];exact hE.ud i hi r f);(have a:∀r,r<8->M (43+i*22+(8+r))=kW lD (F.m.on i r):=fun r f=>by rw[<-hJ];exact hE.on i hi r f);(have c:∀r,r<4->M (43+i*22+(18+r))=kW lD (F.ks i r):=fun r f=>by rw[<-hJ];exact hE.ks i hi r f);have e:(yS M (43+i*22) 22).toArray=#[M (43+i*22),M (43+i*22+(1+0)),M (43+i*22+(1+1)),M (43+i*22+(1+2)),M (43+i*22+(1+3)),M (43+i*22+5),M (43+i*22+6),M (43+i*22+7),M (43+i*22+(8+0)),M (43+i*22+(8+1)),M (43+i*22+(8+2)),M (43+i*22+(8+3)),M (43+i*22+(8+4)),M (43+i*22+(8+5)),M (43+i*22+(8+6)),M (43+i*22+(8+7)),M (43+i*22+16),M (43+i*22+17),M (43+i*22+(18+0)),M (43+i*22+(18+1)),M (43+i*22+(18+2)),M (43+i*22+(18+3))]:=rfl;rw[e,hE.ut i hi,b 0 (by omega),b 1 (by omega),b 2 (by omega),b 3 (by omega),hE.uw i hi,hE.uc i hi,hE.kV i hi,a 0 (by omega),a 1 (by omega),a 2 (by omega),a 3 (by omega),a 4 (by omega),a 5 (by omega),a 6 (by omega),a 7 (by omega),hE.due i hi,hE.ky i hi,c 0 (by omega),c 1 (by omega),c 2 (by omega),c 3 (by omega)]
end Go.Proofs.YtigokanoflkinaaGreatDoor
