/- MFill, MLen, MRun, MRise, MDen, MRef, MRefB, joined. -/
import Derived.Test.YtigokanoflkinaaGreatDoorRows
namespace Go.Proofs.YtigokanoflkinaaGreatDoor.Por
set_option linter.unusedVariables false
def zZ (f:Nat->Rat):Nat->Rat
  |0=>0
  |n+1=>zZ f n+f n
variable{f g:Nat->Rat}{n:Nat}
theorem oh (h:∀i,i<n->f i=g i):zZ f n=zZ g n:=by
 induction n with
 |zero=>rfl
 |succ n ih=>simp only[zZ];rw[ih (fun i hi=>h i (by omega)),h n (by omega)]
theorem pC (h:∀i,i<n->f i<=g i):zZ f n<=zZ g n:=by
 induction n with
 |zero=>exact Rat.le_refl
 |succ n ih=>have a:=ih (fun i hi=>h i (by omega));have b:=h n (by omega);simp only[zZ];grind
theorem tF (h:∀i,i<n->f i=0):zZ f n=0:=by
 induction n with
 |zero=>rfl
 |succ n ih=>simp only[zZ];rw[ih (fun i hi=>h i (by omega)),h n (by omega)];grind
theorem vX (h:∀i,i<n->0<=f i):0<=zZ f n:=by
 have:=pC (f:=fun _=>0) h
 rwa[tF (fun i _=>rfl)]at this
theorem nx (c:Rat):zZ (fun i=>c*f i) n=c*zZ f n:=by
 induction n with
 |zero=>simp[zZ]
 |succ n ih=>simp only[zZ];rw[ih];grind
theorem tS:zZ (fun i=>f i+g i) n=zZ f n+zZ g n:=by
 induction n with
 |zero=>simp only[zZ];grind
 |succ n ih=>simp only[zZ];rw[ih];grind
variable{i:Nat}
theorem rP (h:∀i,i<n->0<=f i)(hi:i<n):f i<=zZ f n:=by
 induction n with
 |zero=>omega
 |succ n ih=>
  simp only[zZ];have a:=vX (f:=f) (n:=n) (fun i hi=>h i (by omega));have b:=h n (by omega);by_cases e:i=n
  ·subst e;grind
  ·have:=ih (fun i hi=>h i (by omega)) (by omega);grind
theorem Fs (h:zZ f n<=zZ g n)(hi:i<n)(hg:g i<f i):∃j,j<n/\f j<g j:=by
 induction n with
 |zero=>omega
 | succ n ih=>
  simp only[zZ]at h;by_cases e:f n<g n
  ·exact⟨n,by omega,e⟩
  ·by_cases c:i=n
   ·subst c;by_cases b:∃j,j<i/\f j<g j
    ·obtain⟨j,d,a⟩:=b;exact⟨j,by omega,a⟩
    ·exfalso
     have:zZ g i<=zZ f i:=pC (fun j hj=>by
      by_cases k:g j<=f j
      ·exact k
      ·exact absurd ⟨j,hj,by grind⟩ b)
     grind
   ·obtain⟨j,d,a⟩:=ih (by grind) (by omega);exact⟨j,by omega,a⟩
variable{a b c:Rat}
theorem lX (h:a<=b)(hc:0<=c):c*a<=c*b:=Rat.mul_le_mul_of_nonneg_left h hc
theorem om (h:a<=b)(hc:0<=c):a*c<=b*c:=Rat.mul_le_mul_of_nonneg_right h hc
theorem Ei (h:0<=a):0<=a⁻¹:=by
 by_cases e:a=0
 ·rw[e,Rat.inv_zero];exact Rat.le_refl
 ·have:=Rat.inv_pos.2 (show 0<a by grind);grind
theorem EU (ha:0<=a)(hb:0<=b):0<=a/b:=by
 rw[Rat.div_def];exact Rat.mul_nonneg ha (Ei hb)
theorem l7 (hb:b≠0):a/b*b=a:=by grind
theorem mi (h:a*c<=b*c)(hc:0<c):a<=b:=by
 by_cases e:a<=b
 ·exact e
 ·have:=Rat.mul_lt_mul_of_pos_right (a:=b) (b:=a) (by grind) hc;grind
theorem Ch (hb:0<b)(h:a<=c*b):a/b<=c:=by
 apply mi (c:=b) _ hb;rw[l7 (by grind)];exact h
theorem D9 (h:a<b)(hc:0<c):a/c<b/c:=by
 rw[Rat.div_def,Rat.div_def];exact Rat.mul_lt_mul_of_pos_right h (Rat.inv_pos.2 hc)
structure Prob where
  n:Nat
  k:Nat
  P:Nat->Rat
  D:Nat->Nat->Rat
  W:Nat->Rat
  C:Nat->Rat
structure Prob.Ok (p:Prob):Prop where
  P0:∀r,r<p.k->0<=p.P r
  D0:∀i r,i<p.n->r<p.k->0<=p.D i r
  W0:∀i,i<p.n->0<p.W i
  C0:∀i,i<p.n->0<=p.C i
structure Rate (p:Prob)(g:Nat->Rat):Prop where
  pos:∀i,i<p.n->0<=g i
  le:∀i r,i<p.n->r<p.k->0<p.D i r->g i*p.D i r<=p.W i*p.P r
  eq:∀i,i<p.n->∃r,r<p.k/\0<p.D i r/\g i*p.D i r=p.W i*p.P r
def used (p:Prob)(x:Nat->Rat)(r:Nat):Rat:=zZ (fun i=>x i*p.D i r) p.n
structure Borne (p:Prob)(x:Nat->Rat):Prop where
  low:∀i,i<p.n->0<=x i
  cap:∀i,i<p.n->x i<=p.C i
  kq:∀r,r<p.k->used p x r<=p.P r
def Held (p:Prob)(g x:Nat->Rat)(i r:Nat):Prop:=0<p.D i r/\used p x r=p.P r/\∀j,j<p.n->0<p.D j r->x j/g j<=x i/g i
structure FairFill (p:Prob)(g x:Nat->Rat):Prop extends Borne p x where
  none:∀i,i<p.n->g i=0->x i=0
  stop:∀i,i<p.n->x i=p.C i\/∃r,r<p.k/\Held p g x i r
variable{p:Prob}{x:Nat->Rat}
theorem qZ (hg:Rate p g)(hx:Borne p x)(hi:i<p.n):0<=x i/g i:=EU (hx.low i hi) (hg.pos i hi)
theorem qi (hx:FairFill p g x)(hi:i<p.n):x i/g i*g i=x i:=by
 by_cases h:g i=0
 ·rw[h,hx.none i hi h];simp
 ·exact l7 h
theorem GM (hg:Rate p g)(hx:FairFill p g x)(hi:i<p.n)(h:x i/g i<=0):x i=0:=by
 have a:=qi hx hi;have c:=qZ hg hx.toBorne hi;(have b:x i/g i=0:=by grind);rw[b]at a;grind
variable{r:Nat}
theorem tE (ho:p.Ok)(hg:Rate p g)(hi:i<p.n)(hr:r<p.k)(hD:0<p.D i r)(hP:p.P r=0):g i=0:=by
 have c:=hg.le i r hi hr hD;have e:=hg.pos i hi;rw[hP]at c;(have d:p.W i*0=0:=by grind);rw[d]at c;by_cases h:g i=0
 ·exact h
 ·have:=Rat.mul_pos (a:=g i) (b:=p.D i r) (by grind) hD;grind
variable{y:Nat->Rat}
theorem fair (ho:p.Ok)(hx:FairFill p g x)(hy:Borne p y)(hi:i<p.n)(h:x i<y i):∃j,j<p.n/\y j<x j/\x j/g j<=x i/g i:=by
 rcases hx.stop i hi with e|⟨r,l,q,t,s⟩
 ·have:=hy.cap i hi;grind
 ·have k:=hy.kq r l;rw[<-t]at k;have m:x i*p.D i r<y i*p.D i r:=Rat.mul_lt_mul_of_pos_right h q;obtain⟨j,f,o⟩:=Fs k hi m
  have d:0<p.D j r:=by
   have:=ho.D0 j r f l;by_cases e:p.D j r=0
   ·rw[e]at o;grind
   ·grind
  refine⟨j,f,?_,s j f d⟩;by_cases e:y j<x j
  ·exact e
  ·have:=om (a:=x j) (b:=y j) (c:=p.D j r) (by grind) (by grind);grind
theorem vN (S:Nat->Prop)(f:Nat->Rat)(n:Nat)(h:∃i,i<n/\S i):∃i,i<n/\S i/\∀j,j<n->S j->f i<=f j:=by
 classical
 induction n with
 |zero=>obtain⟨i,c,_⟩:=h;omega
 | succ n ih=>
  by_cases a:∃i,i<n/\S i
  ·obtain⟨i,c,hs,d⟩:=ih a;by_cases b:S n/\f n<f i
   ·refine⟨n,by omega,b.1,fun j hj hs'=>?_⟩;by_cases e:j=n
    ·subst e;exact Rat.le_refl
    ·have:=d j (by omega) hs';grind
   ·refine⟨i,by omega,hs,fun j hj hs'=>?_⟩;by_cases e:j=n
    ·subst e;by_cases g:f j<f i
     ·exact absurd ⟨hs',g⟩ b
     ·grind
    ·exact d j (by omega) hs'
  ·obtain⟨i,c,hs⟩:=h
   have e:i=n:=by
    by_cases e:i=n
    ·exact e
    ·exact absurd ⟨i,by omega,hs⟩ a
   subst e;refine⟨i,by omega,hs,fun j hj hs'=>?_⟩;by_cases e:j=i
   ·subst e;exact Rat.le_refl
   ·exact absurd ⟨j,by omega,hs'⟩ a
theorem Ck (hg:Rate p g)(hx:FairFill p g x)(hy:FairFill p g y)(hi:i<p.n)(h:x i<y i):x i/g i<y i/g i:=by
 have c:=hg.pos i hi;(have d:g i≠0:=fun e=>by have a:=hx.none i hi e;have b:=hy.none i hi e;grind);exact D9 h (by grind)
theorem unique (ho:p.Ok)(hg:Rate p g)(hx:FairFill p g x)(hy:FairFill p g y):∀i,i<p.n->x i=y i:=by
 classical
 intro f e;by_cases c:x f=y f
 ·exact c
 ·exfalso;obtain⟨i,k,hs,l⟩:=vN (fun i=>x i≠y i) (fun i=>if x i<y i then x i/g i else y i/g i) p.n ⟨f,e,c⟩;by_cases h:x i<y i
  ·obtain⟨j,b,d,m⟩:=fair ho hx hy.toBorne k h;have a:=l j b (by grind);have o:=Ck hg hy hx b d;simp only[h,if_true]at a;rw[if_neg (by grind)]at a
   grind
  ·obtain⟨j,b,d,m⟩:=fair ho hy hx.toBorne k (by grind);have a:=l j b (by grind);have o:=Ck hg hx hy b d;simp only[d,if_true]at a;rw[if_neg h]at a
   grind
theorem Is (ho:p.Ok)(hg:Rate p g)(hx:FairFill p g x){j:Nat}(hj:j<p.n)(hr:r<p.k):x j*p.D j r<=x j/g j*(p.W j*p.P r):=by
 have c:=qZ hg hx.toBorne hj;have i:=ho.P0 r hr;have l:=ho.W0 j hj;by_cases h:0<p.D j r
 ·have d:=hg.le j r hj hr h;have e:=lX d c;have f:=qi hx hj
  calc x j*p.D j r=(x j/g j*g j)*p.D j r:=by rw[f]
   _=x j/g j*(g j*p.D j r):=by grind
   _<=_:=e
 ·(have:p.D j r=0:=by have:=ho.D0 j r hj hr;grind);rw[this];have:=Rat.mul_nonneg c (Rat.mul_nonneg (a:=p.W j) (b:=p.P r) (by grind) i)
  grind
theorem alone (ho:p.Ok)(hg:Rate p g)(hx:FairFill p g x)(hi:i<p.n):p.C i<=x i\/∃r,r<p.k/\0<p.D i r/\p.P r*p.W i/zZ p.W p.n/p.D i r<=x i:=by
 (have F:0<zZ p.W p.n:=by have l:=rP (f:=p.W) (n:=p.n) (fun j d=>by have:=ho.W0 j d;grind) hi;have w:=ho.W0 i hi;grind);rcases hx.stop i hi with e|⟨r,m,B,I,H⟩
 ·left;grind
 ·right;have v:=hx.low i hi;by_cases E:p.P r=0
  ·refine⟨r,m,B,?_⟩;rw[E];(have y:0*p.W i/zZ p.W p.n/p.D i r=0:=by rw[Rat.div_def,Rat.div_def];grind);rw[y];exact v
  ·(have t:0<p.P r:=by have:=ho.P0 r m;grind);obtain ⟨s,hs,h,J⟩:=hg.eq i hi;refine ⟨s,hs,h,?_⟩
   have u:used p x r<=zZ (fun j=>x i/g i*p.P r*p.W j) p.n:=by
    apply pC;intro j d;have G:=ho.W0 j d;by_cases q:0<p.D j r
    ·have l:=Is ho hg hx d m;have w:=om (H j d q) (Rat.mul_nonneg (a:=p.W j) (b:=p.P r) (by grind) (by grind));(have:x i/g i*p.P r*p.W j=x i/g i*(p.W j*p.P r):=by grind);rw[this];exact Rat.le_trans l w
    ·(have e:p.D j r=0:=by have:=ho.D0 j r d m;grind);simp only[e];have o:=qZ hg hx.toBorne hi;have:=Rat.mul_nonneg (Rat.mul_nonneg o (show 0<=p.P r by grind)) (show 0<=p.W j by grind)
     grind
   rw[I,nx]at u
   have l:1<=x i/g i*zZ p.W p.n:=by
    apply mi (c:=p.P r) _ t
    grind
   apply Ch h;apply Ch F;have z:=qi hx hi;have A:=om l (Rat.mul_nonneg (hg.pos i hi) (show 0<=p.D i s by grind))
   have o:x i/g i*zZ p.W p.n*(g i*p.D i s)=x i*p.D i s*zZ p.W p.n:=by
    calc _=(x i/g i*g i)*p.D i s*zZ p.W p.n:=by grind
     _=_:=by rw[z]
   rw[o]at A
   grind
def isInt (q:Rat):Prop:=∃z:Int,q=(z:Rat)
theorem isInt.add (ha:isInt a)(hb:isInt b):isInt (a+b):=by
 obtain⟨x,rfl⟩:=ha;obtain⟨y,rfl⟩:=hb;exact⟨x+y,by rw[Rat.intCast_add]⟩
theorem isInt.sub (ha:isInt a)(hb:isInt b):isInt (a-b):=by
 obtain⟨x,rfl⟩:=ha;obtain⟨y,rfl⟩:=hb;exact⟨x-y,by rw[Rat.intCast_sub]⟩
theorem isInt.mul (ha:isInt a)(hb:isInt b):isInt (a*b):=by
 obtain⟨x,rfl⟩:=ha;obtain⟨y,rfl⟩:=hb;exact⟨x*y,by rw[Rat.intCast_mul]⟩
theorem isInt.nat (n:Nat):isInt (n:Rat):=⟨(n:Int),by rfl⟩
theorem isInt.zero:isInt 0:=⟨0,rfl⟩
theorem isInt.sum (h:∀i,i<n->isInt (f i)):isInt (zZ f n):=by
 induction n with
 |zero=>exact isInt.zero
 |succ n ih=>exact(ih (fun i hi=>h i (by omega))).add (h n (by omega))
theorem isInt.toNat (ha:isInt a)(h0:0<=a):∃n:Nat,a=(n:Rat):=by
 obtain⟨z,rfl⟩:=ha;have b:(0:Int)<=z:=Rat.intCast_nonneg.1 h0;obtain⟨n,rfl⟩:=Int.eq_ofNat_of_zero_le b;exact⟨n,rfl⟩
noncomputable def cnt (S:Nat->Prop):Nat->Nat
  |0=>0
  |k+1=>cnt S k+(open Classical in if S k then 1 else 0)
theorem r6 (S:Nat->Prop)(k:Nat):cnt S k<=k:=by
 induction k with
 |zero=>exact Nat.le_refl _
 |succ k ih=>simp only[cnt];split<;>omega
variable{S T:Nat->Prop}
theorem Ic (h:∀r,S r->T r)(k:Nat):cnt S k<=cnt T k:=by
 induction k with
 |zero=>exact Nat.le_refl _
 |succ k ih=>
  simp only[cnt];by_cases e:S k
  ·rw[if_pos e,if_pos (h k e)];omega
  ·rw[if_neg e];omega
variable{k r0:Nat}
theorem ql (h:∀r,S r->T r)(hr:r0<k)(h1:T r0)(h2:¬ S r0):cnt S k<cnt T k:=by
 induction k with
 |zero=>omega
 | succ k ih=>
  simp only[cnt];by_cases e:r0=k
  ·subst e;rw[if_pos h1,if_neg h2];have:=Ic h r0;omega
  ·have:=ih (by omega);by_cases e:S k
   ·rw[if_pos e,if_pos (h k e)];omega
   ·rw[if_neg e];omega
theorem pow_pos' {B:Nat}(hB:0<B)(m:Nat):0<B^m:=Nat.pow_pos hB
theorem D8 (ho:p.Ok)(hg:Rate p g)(hx:FairFill p g x)(hC:∀i,i<p.n->isInt (p.C i))(hD:∀i r,i<p.n->r<p.k->isInt (p.D i r))(hP:∀r,r<p.k->isInt (p.P r))(G M:Nat)(hG:0<G)(hM:0<M)(hGg:∀i,i<p.n->isInt (G*g i))(hMr:∀r,r<p.k->zZ (fun i=>p.W i*p.P r) p.n<=M):∀m (l:Rat),cnt (fun r=>∃i,i<p.n/\x i≠p.C i/\Held p g x i r/\x i/g i<l) p.k<=m->∃Q:Nat,0<Q/\Q<=(G*M)^m/\∀i,i<p.n->x i/g i<l->isInt (Q*x i):=by
 classical
 have hB:0<G*M:=Nat.mul_pos hG hM;(have ab:(0:Rat)<(G:Rat):=by exact_mod_cast hG);intro m
 induction m with
 | zero=>
  intro l hl;refine⟨1,by omega,by simp,fun i b hil=>?_⟩;(have e:((1:Nat):Rat)*x i=x i:=by have:((1:Nat):Rat)=1:=rfl;rw[this];grind);rw[e];rcases hx.stop i b with h|⟨r,hr,h⟩
  ·rw[h];exact hC i b
  ·by_cases o:x i=p.C i
   ·rw[o];exact hC i b
   ·exfalso;have:=ql (S:=fun _=>False) (T:=fun r=>∃i,i<p.n/\x i≠p.C i/\Held p g x i r/\x i/g i<l) (fun r h=>h.elim) hr ⟨i,b,o,h,hil⟩ (fun h=>h);omega
 | succ m ih=>
  intro l hl;have Y:((1:Nat):Rat)=1:=rfl;by_cases K:∃i,i<p.n/\(x i≠p.C i/\x i/g i<l)
  ·obtain⟨a,q,⟨I,ag⟩,R⟩:=vN (fun i=>x i≠p.C i/\x i/g i<l) (fun i=>-(x i/g i)) p.n K;(have v:∀i,i<p.n->x i≠p.C i->x i/g i<l->x i/g i<=x a/g a:=fun i b B o=>by have:=R i b ⟨B,o⟩;grind);by_cases U:x a/g a<=0
   ·refine⟨1,by omega,pow_pos' hB _,fun i b hil=>?_⟩;rw[Y,Rat.one_mul];by_cases o:x i=p.C i
    ·rw[o];exact hC i b
    ·have:=v i b o hil;rw[GM hg hx b (by grind)];exact isInt.zero
   ·rcases hx.stop a q with h|⟨c,d,h0⟩
    ·exact absurd h I
    ·obtain⟨E,X,y⟩:=h0
     obtain⟨f,ae,O,w⟩:=ih (x a/g a) (by
      have:=ql (S:=fun r=>∃i,i<p.n /\ x i≠p.C i /\ Held p g x i r /\ x i/g i<x a/g a) (T:=fun r=>∃i,i<p.n /\ x i≠p.C i /\ Held p g x i r /\ x i/g i<l)
       (fun r ⟨i,B,o,s,Z⟩=>⟨i,B,o,s,by grind⟩) d ⟨a,q,I,⟨E,X,y⟩,ag⟩ (fun ⟨i,B,o,s,Z⟩=>by
        have:=s.2.2 a q E;grind)
      omega)
     have aj:g a≠0:=fun e=>by have:=hx.none a q e;rw[this,Rat.div_def]at U;apply U;grind
     let t:Nat->Rat:=fun i=>if x i≠p.C i/\x i/g i=x a/g a then g i*p.D i c else 0
     have ai:∀i,i<p.n->0<=t i:=fun i b=>by
      simp only[t];split
      ·exact Rat.mul_nonneg (hg.pos i b) (ho.D0 i c b d)
      ·exact Rat.le_refl
     have H:0<zZ t p.n:=by
      have B:=rP ai q;have o:t a=g a*p.D a c:=if_pos ⟨I,rfl⟩;have s:=hg.pos a q;have Z:=Rat.mul_pos (show 0<g a by grind) E
      grind
     have F:isInt (G*zZ t p.n):=by
      rw[<-nx];apply isInt.sum;intro i b;simp only[t];split
      ·have:=(hGg i b).mul (hD i c b d);(have e:(G:Rat)*(g i*p.D i c)=G*g i*p.D i c:=by grind);rw[e];exact this
      ·rw[Rat.mul_zero];exact isInt.zero
     obtain⟨N,K⟩:=F.toNat (Rat.mul_nonneg (by grind) (by grind))
     have ac:0<N:=by
      apply Nat.pos_of_ne_zero;intro e;rw[e]at K;have:=Rat.mul_pos ab H;have z:((0:Nat):Rat)=0:=rfl
      grind
     have ad:N<=G*M:=by
      have B:zZ t p.n<=zZ (fun i=>p.W i*p.P c) p.n:=by
       apply pC;intro i b;have af:0<=p.W i*p.P c:=Rat.mul_nonneg (by have:=ho.W0 i b;grind) (ho.P0 c d);simp only[t];split
       ·by_cases e:0<p.D i c
        ·exact hg.le i c b d e
        ·(have:p.D i c=0:=by have:=ho.D0 i c b d;grind);rw[this];grind
       ·exact af
      have o:=Rat.le_trans B (hMr c d);have s:=lX o (show(0:Rat)<=G by grind);rw[K]at s;have Z:((G*M:Nat):Rat)=(G:Rat)*(M:Rat):=Rat.natCast_mul _ _;rw[<-Z]at s;exact Rat.natCast_le_natCast.1 s
     have J:isInt (f*zZ (fun i=>x i*p.D i c-x a/g a*t i) p.n):=by
      rw[<-nx];apply isInt.sum;intro i b;have L:=hD i c b d;by_cases j:x i=p.C i
      ·(have e:t i=0:=by simp only[t];rw[if_neg (fun h=>h.1 j)]);rw[e,j];have:=(isInt.nat f).mul ((hC i b).mul L);(have A:p.C i*p.D i c-x a/g a*0=p.C i*p.D i c:=by grind);rw[A];exact this
      ·by_cases aa:0<p.D i c
       ·have ah:=y i b aa;by_cases u:x i/g i=x a/g a
        ·(have e:t i=g i*p.D i c:=by simp only[t];rw[if_pos ⟨j,u⟩]);have s:=qi hx b;rw[e,<-u];(have A:x i*p.D i c-x i/g i*(g i*p.D i c)=0:=by(have:x i/g i*(g i*p.D i c)=(x i/g i*g i)*p.D i c:=by grind);rw[this,s];grind);rw[A,Rat.mul_zero];exact isInt.zero
        ·(have e:t i=0:=by simp only[t];rw[if_neg (fun h=>u h.2)]);have:=(w i b (by grind)).mul L;rw[e];(have A:(f:Rat)*(x i*p.D i c-x a/g a*0)=f*x i*p.D i c:=by grind);rw[A];exact this
       ·(have e0:p.D i c=0:=by have:=ho.D0 i c b d;grind);(have e:t i=0:=by simp only[t];rw[e0];split<;>grind);rw[e,e0];(have A:(f:Rat)*(x i*0-x a/g a*0)=0:=by grind);rw[A];exact isInt.zero
     (have V:used p x c=zZ (fun i=>x i*p.D i c-x a/g a*t i) p.n+x a/g a*zZ t p.n:=by rw[<-nx,<-tS];unfold used;apply oh;intro i b;grind);(have hz:isInt (f*(x a/g a*zZ t p.n)):=by(have e:(f:Rat)*(x a/g a*zZ t p.n)=f*p.P c-f*zZ (fun i=>x i*p.D i c-x a/g a*t i) p.n:=by rw[<-X,V];grind);rw[e];exact((isInt.nat f).mul (hP c d)).sub J);refine⟨f*N,Nat.mul_pos ae ac,?_,fun i b hil=>?_⟩
     ·rw[Nat.pow_succ];exact Nat.mul_le_mul O ad
     ·have eQ:((f*N:Nat):Rat)=(f:Rat)*(N:Rat):=Rat.natCast_mul _ _;rw[eQ];by_cases j:x i=p.C i
      ·rw[j];exact((isInt.nat f).mul (isInt.nat N)).mul (hC i b)
      ·have ah:=v i b j hil;by_cases u:x i/g i=x a/g a
       ·have s:=qi hx b
        have e:(f:Rat)*N*x i=f*(x a/g a*zZ t p.n)*(G*g i):=by
         rw[<-K,<-u]
         calc (f:Rat)*(G*zZ t p.n)*x i=f*(G*zZ t p.n)*(x i/g i*g i):=by rw[s]
          _=_:=by grind
        rw[e];exact hz.mul (hGg i b)
       ·have:=(w i b (by grind)).mul (isInt.nat N);(have e:(f:Rat)*N*x i=f*x i*N:=by grind);rw[e];exact this
  ·refine⟨1,by omega,pow_pos' hB _,fun i b hil=>?_⟩;rw[Y,Rat.one_mul];by_cases o:x i=p.C i
   ·rw[o];exact hC i b
   ·exact absurd ⟨i,b,o,hil⟩ K
theorem Iw (ho:p.Ok)(hg:Rate p g)(hx:FairFill p g x)(hC:∀i,i<p.n->isInt (p.C i))(hD:∀i r,i<p.n->r<p.k->isInt (p.D i r))(hP:∀r,r<p.k->isInt (p.P r))(G M:Nat)(hG:0<G)(hM:0<M)(hGg:∀i,i<p.n->isInt (G*g i))(hMr:∀r,r<p.k->zZ (fun i=>p.W i*p.P r) p.n<=M):∃Q:Nat,0<Q/\Q<=(G*M)^p.k/\∀i,i<p.n->isInt (Q*x i):=by
 obtain⟨Q,a,b,c⟩:=D8 ho hg hx hC hD hP G M hG hM hGg hMr p.k (zZ (fun i=>x i/g i) p.n+1) (r6 _ _);refine⟨Q,a,b,fun i hi=>c i hi ?_⟩;have:=rP (f:=fun i=>x i/g i) (fun i hi=>qZ hg hx.toBorne hi) hi
 grind
structure St where
  lev:Rat
  rt:Nat->Rat
  ts:Nat->Rat
  lv:Nat->Rat
structure Inv (p:Prob)(g:Nat->Rat)(s:St):Prop where
  lev0:0<=s.lev
  grow:∀i,i<p.n->s.rt i≠0->s.rt i=g i/\s.ts i=g i*s.lev/\s.lv i=s.lev
  lvs:∀i,i<p.n->s.ts i=g i*s.lv i/\0<=s.lv i/\s.lv i<=s.lev/\(g i=0->s.lv i=0/\s.rt i=0)
  stop:∀i,i<p.n->s.rt i=0->s.ts i=p.C i\/∃r,r<p.k/\0<p.D i r/\used p s.ts r=p.P r/\∀j,j<p.n->0<p.D j r->s.rt j=0/\s.lv j<=s.lv i
  kA:Borne p s.ts
def yO (g:Nat->Rat)(s:St)(l:Rat):Nat->Rat:=fun i=>if s.rt i=0 then s.ts i else g i*l
def lvAt (s:St)(l:Rat):Nat->Rat:=fun i=>if s.rt i=0 then s.lv i else l
variable{s:St}
theorem Inv.step (ho:p.Ok)(hg:Rate p g)(h:Inv p g s)(l:Rat)(hl:s.lev<=l)(hb:Borne p (yO g s l))(rt':Nat->Rat)(hr0:∀i,i<p.n->s.rt i=0->rt' i=0)(hr:∀i,i<p.n->s.rt i≠0->(rt' i=0/\(yO g s l i=p.C i\/∃r,r<p.k/\0<p.D i r/\used p (yO g s l) r=p.P r))\/(rt' i=s.rt i/\¬ (yO g s l i=p.C i\/∃r,r<p.k/\0<p.D i r/\used p (yO g s l) r=p.P r))):Inv p g ⟨l,rt',yO g s l,lvAt s l⟩:=by
 refine⟨by have:=h.lev0;grind,?_,?_,?_,hb⟩
 ·intro i f t;show rt' i=g i/\yO g s l i=g i*l/\lvAt s l i=l;(have m:s.rt i≠0:=fun e=>t (hr0 i f e));rcases hr i f m with⟨e,_⟩|⟨e,_⟩
  ·exact absurd e t
  ·refine⟨by rw[e];exact(h.grow i f m).1,?_,?_⟩
   ·unfold yO;rw[if_neg m]
   ·unfold lvAt;rw[if_neg m]
 ·intro i f;show yO g s l i=g i*lvAt s l i/\0<=lvAt s l i/\lvAt s l i<=l/\(g i=0->lvAt s l i=0/\rt' i=0);obtain⟨b,q,E,y⟩:=h.lvs i f;have F:=h.lev0;by_cases e:s.rt i=0
  ·unfold yO lvAt;rw[if_pos e,if_pos e];exact⟨b,q,by grind,fun m=>⟨(y m).1,hr0 i f e⟩⟩
  ·unfold yO lvAt;rw[if_neg e,if_neg e];exact⟨rfl,by grind,Rat.le_refl,fun m=>absurd (y m).2 e⟩
 ·intro i f e;show yO g s l i=p.C i\/∃r,r<p.k/\0<p.D i r/\used p (yO g s l) r=p.P r/\∀j,j<p.n->0<p.D j r->rt' j=0/\lvAt s l j<=lvAt s l i;by_cases o:s.rt i=0
  ·rcases h.stop i f o with b|⟨r,d,w,v,z⟩
   ·left;unfold yO;rw[if_pos o];exact b
   ·right;refine⟨r,d,w,?_,?_⟩
    ·rw[<-v];apply oh;intro j a;show yO g s l j*p.D j r=s.ts j*p.D j r;by_cases c:0<p.D j r
     ·unfold yO;rw[if_pos (z j a c).1]
     ·(have:p.D j r=0:=by have:=ho.D0 j r a d;grind);rw[this,Rat.mul_zero,Rat.mul_zero]
    ·intro j a c;obtain⟨b,q⟩:=z j a c;refine⟨hr0 j a b,?_⟩;unfold lvAt;rw[if_pos b,if_pos o];exact q
  ·rcases hr i f o with⟨_,b⟩|⟨b,_⟩
   ·rcases b with b|⟨r,d,w,v⟩
    ·left;exact b
    ·right;refine⟨r,d,w,v,fun j a c=>?_⟩;(have x:lvAt s l i=l:=by unfold lvAt;rw[if_neg o]);rw[x];by_cases u:s.rt j=0
     ·refine⟨hr0 j a u,?_⟩;unfold lvAt;rw[if_pos u];have:=(h.lvs j a).2.2.1;grind
     ·refine⟨?_,by unfold lvAt;rw[if_neg u];exact Rat.le_refl⟩;rcases hr j a u with⟨B,_⟩|⟨_,q⟩
      ·exact B
      ·exact absurd (Or.inr ⟨r,d,c,v⟩) q
   ·have A:rt' i=0:=e;rw[A]at b;exact absurd b.symm o
theorem Inv.first (ho:p.Ok)(hg:Rate p g)(rt:Nat->Rat)(h:∀i,i<p.n->rt i=g i\/(rt i=0/\p.C i=0)):Inv p g ⟨0,rt,fun _=>0,fun _=>0⟩:=by
 (have o:∀r,used p (fun _=>0) r=0:=fun r=>tF (fun i _=>by grind));refine⟨Rat.le_refl,?_,?_,?_,?_⟩
 ·intro i a l;show rt i=g i/\(0:Rat)=g i*0/\(0:Rat)=0;rcases h i a with e|e
  ·exact⟨e,by grind,rfl⟩
  ·exact absurd e.1 l
 ·intro i a;refine⟨by show(0:Rat)=g i*0;grind,Rat.le_refl,Rat.le_refl,fun h0=>⟨rfl,?_⟩⟩;show rt i=0;rcases h i a with e|e
  ·rw[e];exact h0
  ·exact e.1
 ·intro i a e;show(0:Rat)=p.C i\/∃r,r<p.k/\0<p.D i r/\used p (fun _=>0) r=p.P r/\∀j,j<p.n->0<p.D j r->rt j=0/\(0:Rat)<=0;have q:rt i=0:=e;rcases h i a with d|d
  ·right;(have f:g i=0:=by rw[<-d];exact q);obtain⟨r,c,s,u⟩:=hg.eq i a;rw[f]at u;have t:=ho.W0 i a
   have m:p.P r=0:=by
    by_cases b:p.P r=0
    ·exact b
    ·have:=Rat.mul_pos t (show 0<p.P r by have:=ho.P0 r c;grind);grind
   refine⟨r,c,s,by rw[o,m],fun j hj hDj=>⟨?_,Rat.le_refl⟩⟩;have:=tE ho hg hj c hDj m;rcases h j hj with b|b
   ·rw[b];exact this
   ·exact b.1
  ·left;exact d.2.symm
 ·exact⟨fun i a=>Rat.le_refl,fun i a=>ho.C0 i a,fun r c=>by
   show used p (fun _=>0) r<=p.P r
   rw[o];exact ho.P0 r c⟩
theorem Inv.last (hg:Rate p g)(h:Inv p g s)(hz:∀i,i<p.n->s.rt i=0):FairFill p g s.ts/\∀i,i<p.n->s.lv i=s.ts i/g i:=by
 have a:∀i,i<p.n->s.lv i=s.ts i/g i:=fun i hi=>by
  obtain⟨b,m,o,c⟩:=h.lvs i hi;by_cases e:g i=0
  ·rw[(c e).1,b,e,Rat.div_def];grind
  ·rw[b];grind
 refine⟨⟨h.kA,fun i hi e=>?_,fun i hi=>?_⟩,a⟩
 ·rw[(h.lvs i hi).1,e];grind
 ·rcases h.stop i hi (hz i hi)with b|⟨r,k,d,l,f⟩
  ·left;exact b
  ·right;refine⟨r,k,d,l,fun j hjn hDj=>?_⟩;rw[<-a j hjn,<-a i hi];exact(f j hjn hDj).2
theorem Bq (h:Inv p g s)(d:Rat)(r:Nat):used p (yO g s (s.lev+d)) r=used p s.ts r+d*used p s.rt r:=by
 unfold used;rw[<-nx,<-tS];apply oh;intro i c;show yO g s (s.lev+d) i*p.D i r=s.ts i*p.D i r+d*(s.rt i*p.D i r);unfold yO;by_cases e:s.rt i=0
 ·rw[if_pos e,e];grind
 ·rw[if_neg e];obtain⟨a,b,f⟩:=h.grow i c e;rw[a,b];grind
theorem si (h:Inv p g s)(d:Rat)(hi:i<p.n):yO g s (s.lev+d) i=s.ts i+s.rt i*d:=by
 unfold yO;by_cases e:s.rt i=0
 ·rw[if_pos e,e];grind
 ·rw[if_neg e];obtain⟨a,b,c⟩:=h.grow i hi e;rw[a,b];grind
theorem pW (hg:Rate p g)(h:Inv p g s)(hi:i<p.n):0<=s.rt i:=by
 by_cases e:s.rt i=0
 ·rw[e];exact Rat.le_refl
 ·rw[(h.grow i hi e).1];exact hg.pos i hi
theorem sF (ho:p.Ok) (hg:Rate p g) (h:Inv p g s) (hr:r<p.k):0<=used p s.rt r:=
  vX (fun i hi=>Rat.mul_nonneg (pW hg h hi) (ho.D0 i r hi hr))
structure Least (p:Prob)(s:St)(d:Rat):Prop where
  caps:∀i,i<p.n->s.rt i≠0->d*s.rt i<=p.C i-s.ts i
  kinds:∀r,r<p.k->used p s.rt r≠0->d*used p s.rt r<=p.P r-used p s.ts r
  some:(∃i,i<p.n/\s.rt i≠0/\d*s.rt i=p.C i-s.ts i)\/(∃r,r<p.k/\used p s.rt r≠0/\d*used p s.rt r=p.P r-used p s.ts r)
variable{d:Rat}
theorem Least.pos (ho:p.Ok)(hg:Rate p g)(h:Inv p g s)(hd:Least p s d):0<=d:=by
 rcases hd.some with⟨i,b,a,k⟩|⟨r,e,a,k⟩
 ·have f:=pW hg h b;have j:=h.kA.cap i b;apply mi (c:=s.rt i) _ (by grind)
  grind
 ·have f:=sF ho hg h e;have j:=h.kA.kq r e;apply mi (c:=used p s.rt r) _ (by grind)
  grind
theorem Least.kA (ho:p.Ok)(hg:Rate p g)(h:Inv p g s)(hd:Least p s d):Borne p (yO g s (s.lev+d)):=by
 have a:=hd.pos ho hg h;refine⟨fun i hi=>?_,fun i hi=>?_,fun r hr=>?_⟩
 ·rw[si h d hi];have b:=h.kA.low i hi;have c:=Rat.mul_nonneg (pW hg h hi) a
  grind
 ·rw[si h d hi];by_cases e:s.rt i=0
  ·rw[e];have:=h.kA.cap i hi;grind
  ·have:=hd.caps i hi e;grind
 ·rw[Bq h d r];by_cases e:used p s.rt r=0
  ·rw[e];have:=h.kA.kq r hr;grind
  ·have:=hd.kinds r hr e;grind
theorem Least.stops (ho:p.Ok)(h:Inv p g s)(hd:Least p s d):∃i,i<p.n/\s.rt i≠0/\(yO g s (s.lev+d) i=p.C i\/∃r,r<p.k/\0<p.D i r/\used p (yO g s (s.lev+d)) r=p.P r):=by
 rcases hd.some with⟨i,a,b,l⟩|⟨r,f,b,l⟩
 ·refine⟨i,a,b,Or.inl ?_⟩;rw[si h d a];grind
 ·(have:∃i,i<p.n/\s.rt i*p.D i r≠0:=by apply Classical.byContradiction;intro m;apply b;apply tF;intro i a;apply Classical.byContradiction;intro c;exact m ⟨i,a,c⟩);obtain⟨i,a,c⟩:=this;(have j:s.rt i≠0:=fun e=>c (by rw[e,Rat.zero_mul]));(have o:p.D i r≠0:=fun e=>c (by rw[e,Rat.mul_zero]));refine⟨i,a,j,Or.inr ⟨r,f,by have:=ho.D0 i r a f;grind,?_⟩⟩;rw[Bq h d r];grind
def rq (l:List Rat)(i:Nat):Rat:=l.getD i 0
def xm (l:List Rat):Nat->Rat
  |0=>rq l 0
  |m+1=>if rq l m<xm l m then rq l m else xm l m
def yX (l:List Rat):Rat:=xm l l.length
theorem GB (l:List Rat)(m:Nat):∀i,i<m->xm l m<=rq l i:=by
 induction m with
 |zero=>intro i a;omega
 |succ m ih=>
  intro i a;simp only[xm];by_cases e:i=m
  ·subst e;split<;>grind
  ·have:=ih i (by omega);split<;>grind
theorem EF (l:List Rat)(m:Nat)(hm:m<=l.length)(h0:0<l.length):∃i,i<l.length/\xm l m=rq l i:=by
 induction m with
 |zero=>exact⟨0,h0,rfl⟩
 |succ m ih=>
  simp only[xm];split
  ·exact⟨m,by omega,rfl⟩
  ·exact ih (by omega)
variable{l:List Rat}
theorem rY (h:i<l.length):rq l i∈l:=by
 unfold rq;rw[List.getD_eq_getElem?_getD,List.getElem?_eq_getElem h];exact List.getElem_mem h
variable{v:Rat}
theorem Jd (h:v∈l):∃i,i<l.length/\rq l i=v:=by
 obtain⟨i,a,e⟩:=List.getElem_of_mem h;refine⟨i,a,?_⟩;unfold rq;rw[List.getD_eq_getElem?_getD,List.getElem?_eq_getElem a];exact e
theorem tg (h:v∈l):yX l<=v:=by
 obtain⟨i,a,e⟩:=Jd h;rw[<-e];exact GB l _ i a
theorem wl (h:l≠[]):yX l∈l:=by
 have a:0<l.length:=List.length_pos_iff.2 h;obtain⟨i,b,e⟩:=EF l l.length (Nat.le_refl _) a;unfold yX;rw[e];exact rY b
def stU (p:Prob)(s:St):Nat->List Rat
  |0=>[]
  |i+1=>if s.rt i=0 then stU p s i else stU p s i++[(p.C i-s.ts i)/s.rt i]
def stK (p:Prob)(s:St)(l:List Rat):Nat->List Rat
  |0=>l
  |r+1=>if used p s.rt r=0 then stK p s l r else stK p s l r++[(p.P r-used p s.ts r)/used p s.rt r]
def yN (p:Prob)(s:St):List Rat:=stK p s (stU p s p.n) p.k
theorem uq:∀n,v∈stU p s n↔∃i,i<n/\s.rt i≠0/\v=(p.C i-s.ts i)/s.rt i:=by
 intro n
 induction n with
 |zero=>simp[stU]
 | succ n ih=>
  simp only[stU];split
  ·rename_i e;rw[ih];constructor
   ·rintro⟨i,d,a⟩;exact⟨i,by omega,a⟩
   ·rintro⟨i,d,a,b⟩;by_cases c:i=n
    ·subst c;exact absurd e a
    ·exact⟨i,by omega,a,b⟩
  ·rename_i e;rw[List.mem_append,ih,List.mem_singleton];constructor
   ·rintro(⟨i,d,a⟩|h)
    ·exact⟨i,by omega,a⟩
    ·exact⟨n,by omega,e,h⟩
   ·rintro⟨i,d,a,b⟩;by_cases c:i=n
    ·subst c;exact Or.inr b
    ·exact Or.inl ⟨i,by omega,a,b⟩
theorem rS:∀n,v∈stK p s l n↔v∈l\/∃r,r<n/\used p s.rt r≠0/\v=(p.P r-used p s.ts r)/used p s.rt r:=by
 intro n
 induction n with
 |zero=>simp[stK]
 | succ n ih=>
  simp only[stK];split
  ·rename_i e;rw[ih];constructor
   ·rintro(h|⟨i,d,a⟩)
    ·exact Or.inl h
    ·exact Or.inr ⟨i,by omega,a⟩
   ·rintro(h|⟨i,d,a,b⟩)
    ·exact Or.inl h
    ·by_cases c:i=n
     ·subst c;exact absurd e a
     ·exact Or.inr ⟨i,by omega,a,b⟩
  ·rename_i e;rw[List.mem_append,ih,List.mem_singleton];constructor
   ·rintro((h|⟨i,d,a⟩)|h)
    ·exact Or.inl h
    ·exact Or.inr ⟨i,by omega,a⟩
    ·exact Or.inr ⟨n,by omega,e,h⟩
   ·rintro(h|⟨i,d,a,b⟩)
    ·exact Or.inl (Or.inl h)
    ·by_cases c:i=n
     ·subst c;exact Or.inr b
     ·exact Or.inl (Or.inr ⟨i,by omega,a,b⟩)
theorem Gd (h:yN p s=[]):∀i,i<p.n->s.rt i=0:=by
 intro i a;apply Classical.byContradiction;intro e;have:(p.C i-s.ts i)/s.rt i∈yN p s:=(rS _).2 (Or.inl ((uq _).2 ⟨i,a,e,rfl⟩));rw[h]at this;cases this
theorem qO (ho:p.Ok)(hg:Rate p g)(h:Inv p g s)(hne:yN p s≠[]):Least p s (yX (yN p s)):=by
 refine⟨fun i c e=>?_,fun r d e=>?_,?_⟩
 ·have a:=tg (l:=yN p s) ((rS _).2 (Or.inl ((uq _).2 ⟨i,c,e,rfl⟩)));have b:=om a (pW hg h c)
  rwa[l7 e]at b
 ·have a:=tg (l:=yN p s) ((rS _).2 (Or.inr ⟨r,d,e,rfl⟩));have b:=om a (sF ho hg h d)
  rwa[l7 e]at b
 ·have a:=wl hne;rcases(rS _).1 a with b|⟨r,d,e,f⟩
  ·obtain⟨i,c,e,f⟩:=(uq _).1 b;left;exact⟨i,c,e,by rw[f,l7 e]⟩
  ·right;exact⟨r,d,e,by rw[f,l7 e]⟩
def upTs (s:St)(d:Rat):Nat->Rat:=fun i=>if s.rt i=0 then s.ts i else s.ts i+s.rt i*d
def upLv (s:St)(d:Rat):Nat->Rat:=fun i=>if s.rt i=0 then s.lv i else s.lev+d
def yv (p:Prob)(ts:Nat->Rat)(i:Nat):Prop:=ts i=p.C i\/∃r,r<p.k/\0<p.D i r/\used p ts r=p.P r
open Classical in
noncomputable def upRt (p:Prob)(s:St)(d:Rat):Nat->Rat:=fun i=>if yv p (upTs s d) i then 0 else s.rt i
open Classical in
noncomputable def yy (p:Prob)(s:St):St:=
  if yN p s=[]then s else⟨s.lev+yX (yN p s),upRt p s (yX (yN p s)),upTs s (yX (yN p s)),upLv s (yX (yN p s))⟩
theorem pP (h:∀i,i<p.n->x i=y i)(r:Nat):used p x r=used p y r:=oh (fun i hi=>by rw[h i hi])
theorem Inv.congr {t:St}(h:Inv p g s)(hl:t.lev=s.lev)(h1:∀i,i<p.n->t.rt i=s.rt i)(h2:∀i,i<p.n->t.ts i=s.ts i)(h3:∀i,i<p.n->t.lv i=s.lv i):Inv p g t:=by
 refine⟨by rw[hl];exact h.lev0,fun i hi=>?_,fun i hi=>?_,fun i hi=>?_,⟨fun i hi=>?_,fun i hi=>?_,fun r a=>?_⟩⟩
 ·rw[h1 i hi,h2 i hi,h3 i hi,hl];exact h.grow i hi
 ·rw[h1 i hi,h2 i hi,h3 i hi,hl];exact h.lvs i hi
 ·rw[h1 i hi,h2 i hi,h3 i hi];intro e;rcases h.stop i hi e with b|⟨r,a,c,f,d⟩
  ·left;exact b
  ·right;refine⟨r,a,c,by rw[pP h2];exact f,fun j hjn hDj=>?_⟩;rw[h1 j hjn,h3 j hjn];exact d j hjn hDj
 ·rw[h2 i hi];exact h.kA.low i hi
 ·rw[h2 i hi];exact h.kA.cap i hi
 ·rw[pP h2];exact h.kA.kq r a
theorem vS (h:∀i,i<p.n->x i=y i)(hi:i<p.n):yv p x i↔yv p y i:=by
 unfold yv;rw[h i hi];constructor
 ·rintro(a|⟨r,b,c,d⟩)
  ·exact Or.inl a
  ·exact Or.inr ⟨r,b,c,by rw[<-pP h];exact d⟩
 ·rintro(a|⟨r,b,c,d⟩)
  ·exact Or.inl a
  ·exact Or.inr ⟨r,b,c,by rw[pP h];exact d⟩
theorem uS (h:Inv p g s)(d:Rat):∀i,i<p.n->upTs s d i=yO g s (s.lev+d) i:=by
 intro i a;rw[si h d a];unfold upTs;split
 ·rename_i e;rw[e];grind
 ·rfl
theorem Be (ho:p.Ok)(hg:Rate p g)(h:Inv p g s):Inv p g (yy p s):=by
 classical
 unfold yy;split
 ·exact h
 ·rename_i c;have b:=qO ho hg h c;generalize yX (yN p s)=d at b;have k:=b.pos ho hg h
  have f:=h.step ho hg (s.lev+d) (by grind) (b.kA ho hg h) (upRt p s d)
   (fun i hi e=>by unfold upRt;split;rfl;exact e)
   (fun i hi e=>by
    have j:=vS (uS h d) hi
    unfold upRt
    by_cases a:yv p (upTs s d) i
    ·left;exact⟨if_pos a,j.1 a⟩
    ·right;exact⟨if_neg a,fun h5=>a (j.2 h5)⟩)
  exact f.congr rfl (fun i hi=>rfl) (uS h d) (fun i hi=>rfl)
theorem GZ (ho:p.Ok)(hg:Rate p g)(h:Inv p g s):(∀i,i<p.n->(yy p s).rt i=0)\/cnt (fun i=>(yy p s).rt i≠0) p.n<cnt (fun i=>s.rt i≠0) p.n:=by
 classical
 by_cases a:yN p s=[]
 ·left;unfold yy;rw[if_pos a];exact Gd a
 ·right;(have e:(yy p s).rt=upRt p s (yX (yN p s)):=by unfold yy;rw[if_neg a]);rw[e];have c:=qO ho hg h a;generalize yX (yN p s)=d at c;obtain⟨i,f,k,l⟩:=c.stops ho h;apply ql (r0:=i) _ f k
  ·intro b;apply b;have o:=vS (uS h d) f;unfold upRt;exact if_pos (o.2 l)
  ·intro j b m;apply b;unfold upRt;split
   ·rfl
   ·exact m
noncomputable def yp (p:Prob)(s:St):Nat->St
  |0=>s
  |m+1=>yy p (yp p s m)
theorem p5 (ho:p.Ok)(hg:Rate p g)(h:Inv p g s):∀m,Inv p g (yp p s m):=by
 intro m
 induction m with
 |zero=>exact h
 |succ m ih=>exact Be ho hg ih
theorem Ga (h:cnt S k=0):∀i,i<k->¬ S i:=by
 intro i a hs;have:=ql (S:=fun _=>False) (T:=S) (fun r h=>h.elim) a hs (fun h=>h);omega
theorem Gg (ho:p.Ok)(hg:Rate p g)(h:Inv p g s):∀m,cnt (fun i=>(yp p s m).rt i≠0) p.n<=p.n-m:=by
 intro m
 induction m with
 |zero=>exact r6 _ _
 | succ m ih=>
  rcases GZ ho hg (p5 ho hg h m)with a|a
  ·have:∀k,k<=p.n->cnt (fun i=>(yp p s (m+1)).rt i≠0) k=0:=by
    intro k b
    induction k with
    |zero=>rfl
    |succ k ihk=>simp only[cnt];rw[ihk (by omega),if_neg (fun h5=>h5 (a k (by omega)))]
   rw[this p.n (Nat.le_refl _)];omega
  ·show cnt (fun i=>(yy p (yp p s m)).rt i≠0) p.n<=p.n-(m+1);omega
theorem Fe (ho:p.Ok)(hg:Rate p g)(h:Inv p g s):∀i,i<p.n->(yp p s p.n).rt i=0:=by
 intro i a;have b:=Gg ho hg h p.n;have:=Ga (k:=p.n) (S:=fun i=>(yp p s p.n).rt i≠0) (by omega) i a;exact Classical.byContradiction this
structure Dens (p:Prob)(s:St)(Q:Nat):Prop where
  ts:∀i,i<p.n->isInt (Q*s.ts i)
  lv:∀i,i<p.n->isInt (Q*s.lv i)
  lev:isInt (Q*s.lev)
theorem Dens.rise (ho:p.Ok)(hg:Rate p g)(h:Inv p g s)(hC:∀i,i<p.n->isInt (p.C i))(hD:∀i r,i<p.n->r<p.k->isInt (p.D i r))(hP:∀r,r<p.k->isInt (p.P r))(G M:Nat)(hG:0<G)(hGg:∀i,i<p.n->isInt (G*g i))(hMr:∀r,r<p.k->zZ (fun i=>p.W i*p.P r) p.n<=M)(hgM:∀i,i<p.n->g i<=M){Q:Nat}(hQ:Dens p s Q)(hQ0:0<Q)(hM:0<M):∃N:Nat,0<N/\N<=G*M/\Dens p (yy p s) (Q*N):=by
 classical
 (have t:(0:Rat)<(G:Rat):=by exact_mod_cast hG);have hB:0<G*M:=Nat.mul_pos hG hM;unfold yy;split
 ·refine⟨1,by omega,hB,?_⟩;rw[Nat.mul_one];exact hQ
 ·rename_i b;have F:=qO ho hg h b;generalize yX (yN p s)=d at F
  have o:∀i,i<p.n->isInt (G*s.rt i):=fun i a=>by
   by_cases e:s.rt i=0
   ·rw[e,Rat.mul_zero];exact isInt.zero
   ·rw[(h.grow i a e).1];exact hGg i a
  have E:∃N:Nat,0<N/\N<=G*M/\∃z:Rat,isInt z/\d*(Q*N)=z*G:=by
   rcases F.some with⟨i,a,b,q⟩|⟨r,f,b,q⟩
   ·have v:=pW hg h a;obtain⟨N,l⟩:=(o i a).toNat (Rat.mul_nonneg (by grind) v);have B:=Rat.mul_pos t (show 0<s.rt i by grind);refine⟨N,?_,?_,Q*(p.C i-s.ts i),?_,?_⟩
    ·apply Nat.pos_of_ne_zero;intro e;rw[e]at l;have z:((0:Nat):Rat)=0:=rfl
     grind
    ·(have w:s.rt i<=M:=by rw[(h.grow i a b).1];exact hgM i a);have j:=lX w (show(0:Rat)<=G by grind);rw[l]at j;have x:((G*M:Nat):Rat)=(G:Rat)*(M:Rat):=Rat.natCast_mul _ _;rw[<-x]at j;exact Rat.natCast_le_natCast.1 j
    ·(have e:(Q:Rat)*(p.C i-s.ts i)=Q*p.C i-Q*s.ts i:=by grind);rw[e];exact((isInt.nat Q).mul (hC i a)).sub (hQ.ts i a)
    ·rw[<-l]
     calc d*(Q*(G*s.rt i))=Q*(d*s.rt i)*G:=by grind
      _=_:=by rw[q]
   ·have v:=sF ho hg h f;(have m:isInt (G*used p s.rt r):=by unfold used;rw[<-nx];apply isInt.sum;intro i a;have:=(o i a).mul (hD i r a f);(have e:(G:Rat)*(s.rt i*p.D i r)=G*s.rt i*p.D i r:=by grind);rw[e];exact this);obtain⟨N,l⟩:=m.toNat (Rat.mul_nonneg (by grind) v);have B:=Rat.mul_pos t (show 0<used p s.rt r by grind);refine⟨N,?_,?_,Q*(p.P r-used p s.ts r),?_,?_⟩
    ·apply Nat.pos_of_ne_zero;intro e;rw[e]at l;have z:((0:Nat):Rat)=0:=rfl
     grind
    ·have w:used p s.rt r<=M:=by
      refine Rat.le_trans ?_ (hMr r f);apply pC;intro i a;have J:0<=p.W i*p.P r:=Rat.mul_nonneg (by have:=ho.W0 i a;grind) (ho.P0 r f);by_cases e:s.rt i=0
      ·rw[e];grind
      ·rw[(h.grow i a e).1];by_cases I:0<p.D i r
       ·exact hg.le i r a f I
       ·(have:p.D i r=0:=by have:=ho.D0 i r a f;grind);rw[this];grind
     have j:=lX w (show(0:Rat)<=G by grind);rw[l]at j;have x:((G*M:Nat):Rat)=(G:Rat)*(M:Rat):=Rat.natCast_mul _ _;rw[<-x]at j;exact Rat.natCast_le_natCast.1 j
    ·(have e:(Q:Rat)*(p.P r-used p s.ts r)=Q*p.P r-Q*used p s.ts r:=by grind);rw[e];refine((isInt.nat Q).mul (hP r f)).sub ?_;unfold used;rw[<-nx];apply isInt.sum;intro i a;have:=(hQ.ts i a).mul (hD i r a f);(have e:(Q:Rat)*(s.ts i*p.D i r)=Q*s.ts i*p.D i r:=by grind);rw[e];exact this
    ·rw[<-l]
     calc d*(Q*(G*used p s.rt r))=Q*(d*used p s.rt r)*G:=by grind
      _=_:=by rw[q]
  obtain⟨N,y,A,z,H,q⟩:=E;have u:((Q*N:Nat):Rat)=(Q:Rat)*(N:Rat):=Rat.natCast_mul _ _;(have c:isInt (((Q*N:Nat):Rat)*(s.lev+d)):=by rw[u];(have e:(Q:Rat)*N*(s.lev+d)=Q*s.lev*N+z*G:=by rw[<-q];grind);rw[e];exact(hQ.lev.mul (isInt.nat N)).add (H.mul (isInt.nat G)));refine⟨N,y,A,?_,?_,c⟩
  ·intro i a;show isInt (((Q*N:Nat):Rat)*upTs s d i);rw[u];unfold upTs;split
   ·(have e:(Q:Rat)*N*s.ts i=Q*s.ts i*N:=by grind);rw[e];exact(hQ.ts i a).mul (isInt.nat N)
   ·(have e:(Q:Rat)*N*(s.ts i+s.rt i*d)=Q*s.ts i*N+z*(G*s.rt i):=by(have:(Q:Rat)*N*(s.rt i*d)=d*(Q*N)*s.rt i:=by grind);rw[Rat.mul_add,this,q];grind);rw[e];exact((hQ.ts i a).mul (isInt.nat N)).add (H.mul (o i a))
  ·intro i a;show isInt (((Q*N:Nat):Rat)*upLv s d i);unfold upLv;split
   ·rw[u];(have e:(Q:Rat)*N*s.lv i=Q*s.lv i*N:=by grind);rw[e];exact(hQ.lv i a).mul (isInt.nat N)
   ·exact c
theorem Ae (ho:p.Ok)(hg:Rate p g)(hW:∀i,i<p.n->1<=p.W i)(h:Inv p g s)(hi:i<p.n):s.lv i<=1:=by
 obtain⟨l,o,z,q⟩:=h.lvs i hi;by_cases e:g i=0
 ·rw[(q e).1];decide
 ·obtain⟨r,a,w,y⟩:=hg.eq i hi;have b:=hW i hi
  have x:0<p.P r:=by
   by_cases k:p.P r=0
   ·exact absurd (tE ho hg hi a w k) e
   ·have:=ho.P0 r a;grind
  have t:=h.kA.kq r a;have u:=rP (f:=fun i=>s.ts i*p.D i r) (n:=p.n) (fun j hj=>Rat.mul_nonneg (h.kA.low j hj) (ho.D0 j r hj a)) hi;have d:s.ts i*p.D i r<=p.P r:=Rat.le_trans u t;rw[l]at d
  have v:g i*s.lv i*p.D i r=s.lv i*p.W i*p.P r:=by
   calc _=s.lv i*(g i*p.D i r):=by grind
    _=_:=by rw[y];grind
  rw[v]at d;have A:s.lv i*p.W i<=1:=mi (c:=p.P r) (by grind) x;have m:=lX b o
  grind
theorem FF (ho:p.Ok)(hg:Rate p g)(hW:∀i,i<p.n->1<=p.W i)(h:Inv p g s)(h1:s.lev<=1):(yy p s).lev<=1:=by
 classical
 have f:=Be ho hg h;by_cases a:yN p s=[]
 ·unfold yy;rw[if_pos a];exact h1
 ·have d:=qO ho hg h a;obtain⟨i,b,c,j⟩:=d.stops ho h;have:=Ae ho hg hW f b;(have e:(yy p s).lv i=(yy p s).lev:=by unfold yy;rw[if_neg a];show upLv s _ i=_;unfold upLv;rw[if_neg c]);rw[e]at this;exact this
theorem DZ (ho:p.Ok)(hg:Rate p g)(hW:∀i,i<p.n->1<=p.W i)(hC:∀i,i<p.n->isInt (p.C i))(hD:∀i r,i<p.n->r<p.k->isInt (p.D i r))(hP:∀r,r<p.k->isInt (p.P r))(G M:Nat)(hG:0<G)(hGg:∀i,i<p.n->isInt (G*g i))(hMr:∀r,r<p.k->zZ (fun i=>p.W i*p.P r) p.n<=M)(hgM:∀i,i<p.n->g i<=M)(hM:0<M)(h:Inv p g s)(hl:s.lev<=1)(h1:Dens p s 1):∀m,(yp p s m).lev<=1/\∃Q:Nat,0<Q/\Q<=(G*M)^m/\Dens p (yp p s m) Q:=by
 intro m
 induction m with
 |zero=>exact⟨hl,1,by omega,by simp,h1⟩
 |succ m ih=>obtain⟨d,Q,a,f,j⟩:=ih;obtain⟨N,b,e,c⟩:=j.rise ho hg (p5 ho hg h m) hC hD hP G M hG hGg hMr hgM a hM;refine⟨FF ho hg hW (p5 ho hg h m) d,Q*N,Nat.mul_pos a b,?_,c⟩;rw[Nat.pow_succ];exact Nat.mul_le_mul f e
def xp (f:Nat->Nat):Nat->Nat
  |0=>0
  |n+1=>xp f n+f n
theorem Gl (f:Nat->Nat)(n:Nat):((xp f n:Nat):Rat)=zZ (fun i=>(f i:Rat)) n:=by
 induction n with
 |zero=>rfl
 |succ n ih=>simp only[xp,zZ];rw[Rat.natCast_add,ih]
structure NProb where
  n:Nat
  k:Nat
  P:Nat->Nat
  D:Nat->Nat->Nat
  W:Nat->Nat
  C:Nat->Nat
def NProb.toP (a:NProb):Prob:=⟨a.n,a.k,fun r=>(a.P r:Rat),fun i r=>(a.D i r:Rat),fun i=>(a.W i:Rat),fun i=>(a.C i:Rat)⟩
structure RS where
  kv:Nat->Bool
  hv:Nat->Nat
  q:Nat
def zX (a:NProb)(gr:Nat->Nat)(R:RS)(r:Nat):Nat:=xp (fun i=>if R.kv i then a.D i r*gr i else 0) a.n
def yE (a:NProb)(R:RS)(r:Nat):Nat->Nat
  |0=>a.P r*R.q
  |m+1=>if R.kv m then yE a R r m else yE a R r m-a.D m r*R.hv m
def lft (a:NProb)(R:RS)(r:Nat):Nat:=yE a R r a.n
def zR (a:NProb)(gr:Nat->Nat)(R:RS):Nat->Nat×Nat×Bool
  |0=>(0,0,false)
  |r+1=>let x:=zR a gr R r
             if zX a gr R r=0 then x else if x.2.1=0\/lft a R r*x.2.1<x.1*zX a gr R r then(lft a R r,zX a gr R r,true)else x
def yA (a:NProb)(gr:Nat->Nat)(R:RS)(x0:Nat×Nat×Bool):Nat->Nat×Nat×Bool
  |0=>x0
  |i+1=>let x:=yA a gr R x0 i
             if R.kv i then(if a.C i*R.q*x.2.1<x.1*gr i then(a.C i*R.q,gr i,false)else x)else x
def yF (a:NProb)(gr:Nat->Nat)(R:RS):Nat×Nat×Bool:=yA a gr R (zR a gr R a.k) a.n
def xH (a:NProb)(gr:Nat->Nat)(R:RS)(n s:Nat)(i:Nat):Prop:=a.C i*R.q*s=n*gr i\/∃r,r<a.k/\0<a.D i r/\lft a R r*s=n*zX a gr R r
structure TurnT (a:NProb)(gr:Nat->Nat)(R R':RS):Prop where
  kv:∀i,i<a.n->(R'.kv i=true↔R.kv i=true/\¬ xH a gr R (yF a gr R).1 (yF a gr R).2.1 i)
  q:R'.q=if (yF a gr R).2.2 then R.q*(yF a gr R).2.1 else R.q
  hvs:∀i,i<a.n->R.kv i=true->xH a gr R (yF a gr R).1 (yF a gr R).2.1 i->R'.hv i=if (yF a gr R).2.2 then(yF a gr R).1*gr i else a.C i*R'.q
  hvo:∀i,i<a.n->¬ (R.kv i=true/\xH a gr R (yF a gr R).1 (yF a gr R).2.1 i)->R'.hv i=if (yF a gr R).2.2 then R.hv i*(yF a gr R).2.1 else R.hv i
structure Abs (a:NProb)(g:Nat->Rat)(s:St)(R:RS):Prop where
  q:0<R.q
  kv:∀i,i<a.n->(R.kv i=true↔s.rt i≠0)
  hv:∀i,i<a.n->R.kv i=false->(R.hv i:Rat)=R.q*s.ts i
  hv0:∀i,i<a.n->R.kv i=true->R.hv i=0
theorem JC (h:0<n):(0:Rat)<(n:Rat):=Rat.natCast_pos.2 h
theorem nM (n:Nat):(0:Rat)<=(n:Rat):=Rat.natCast_nonneg
variable{m:Nat}
theorem oF:(n:Rat)<=(m:Rat)↔n<=m:=Rat.natCast_le_natCast
theorem ur:(n:Rat)<(m:Rat)↔n<m:=Rat.natCast_lt_natCast
theorem cast_eq:(n:Rat)=(m:Rat)↔n=m:=Rat.natCast_inj
theorem JI (n m:Nat):((n*m:Nat):Rat)=n*m:=Rat.natCast_mul _ _
variable{R:RS}
theorem rF {a:NProb}(hA:Abs a g s R)(hb:Borne a.toP s.ts)(hr:r<a.k):∀m,m<=a.n->((yE a R r m:Nat):Rat)=R.q*(a.P r-zZ (fun i=>if R.kv i then 0 else s.ts i*a.D i r) m):=by
 intro m u;have x:=JC hA.q
 induction m with
 |zero=>simp only[yE,zZ];rw[JI];grind
 | succ m ih=>
  have b:=ih (by omega);simp only[yE,zZ]
  cases hs:R.kv m with
  |true=>simp only[if_true];rw[b];grind
  | false=>
   simp only[Bool.false_eq_true,if_false];have h:=hA.hv m (by omega) hs
   have c:zZ (fun i=>if R.kv i then 0 else s.ts i*a.D i r) (m+1)<=a.P r:=by
    have j:zZ (fun i=>if R.kv i then 0 else s.ts i*a.D i r) (m+1)<=zZ (fun i=>if R.kv i then 0 else s.ts i*(a.D i r:Rat)) a.n:=by
     have:∀k,m+1<=k->k<=a.n->zZ (fun i=>if R.kv i then 0 else s.ts i*(a.D i r:Rat)) (m+1)<=zZ (fun i=>if R.kv i then 0 else s.ts i*(a.D i r:Rat)) k:=by
      intro k w
      induction k with
      |zero=>omega
      | succ k ihk=>
       intro t;by_cases e:m+1=k+1
       ·rw[e];exact Rat.le_refl
       ·have l:=ihk (by omega) (by omega);simp only[zZ]at l ⊢
        have v:(0:Rat)<=if R.kv k then 0 else s.ts k*(a.D k r:Rat):=by
         split
         ·exact Rat.le_refl
         ·exact Rat.mul_nonneg (hb.low k (by exact(by omega:k<a.n))) (nM _)
        grind
     exact this a.n u (Nat.le_refl _)
    refine Rat.le_trans j (Rat.le_trans (pC ?_) (hb.kq r hr));intro i p;show(if R.kv i then 0 else s.ts i*(a.D i r:Rat))<=s.ts i*(a.D i r:Rat);split
    ·exact Rat.mul_nonneg (hb.low i p) (nM _)
    ·exact Rat.le_refl
   simp only[zZ,hs,Bool.false_eq_true,if_false]at c
   have d:a.D m r*R.hv m<=yE a R r m:=by
    rw[<-oF,JI,b,h];have:=lX c (show(0:Rat)<=R.q by grind)
    grind
   have e:((yE a R r m-a.D m r*R.hv m:Nat):Rat)=(yE a R r m:Rat)-(a.D m r*R.hv m:Nat):=by
    have o:yE a R r m-a.D m r*R.hv m+a.D m r*R.hv m=yE a R r m:=Nat.sub_add_cancel d;have f:=congrArg (fun n:Nat=>(n:Rat)) o;simp only[Rat.natCast_add]at f
    grind
   rw[e,b,JI,h];grind
variable{gr:Nat->Nat}{Gm:Nat}
theorem H6 {a:NProb}(hgr:∀i,i<a.n->(gr i:Rat)=Gm*g i)(h:Inv a.toP g s)(hA:Abs a g s R)(r:Nat):((zX a gr R r:Nat):Rat)=Gm*used a.toP s.rt r:=by
 unfold zX used;rw[Gl,<-nx];apply oh;intro i c;show(((if R.kv i then a.D i r*gr i else 0:Nat)):Rat)=Gm*(s.rt i*(a.D i r:Rat));have b:=hA.kv i c
 cases e:R.kv i with
 |true=>simp only[if_true];have:=(h.grow i c (b.1 e)).1;rw[JI,hgr i c,this];grind
 |false=>simp only[Bool.false_eq_true,if_false];(have:s.rt i=0:=by apply Classical.byContradiction;intro d;rw[b.2 d]at e;cases e);rw[this];show((0:Nat):Rat)=_;have z:((0:Nat):Rat)=0:=rfl;rw[z];grind
theorem tt {a:NProb}(hGm:0<Gm)(hgr:∀i,i<a.n->(gr i:Rat)=Gm*g i)(h:Inv a.toP g s)(hA:Abs a g s R)(hr:r<a.k)(l:Rat):Gm*(R.q*used a.toP (yO g s l) r)=Gm*(R.q*a.P r-lft a R r)+l*R.q*zX a gr R r:=by
 have f:=rF hA h.kA hr a.n (Nat.le_refl _);have j:=H6 hgr h hA r;have p:=JC hA.q;unfold lft;rw[f,j]
 have m:used a.toP (yO g s l) r=zZ (fun i=>if R.kv i then 0 else s.ts i*a.D i r) a.n+l*used a.toP s.rt r:=by
  show zZ (fun i=>yO g s l i*(a.D i r:Rat)) a.n=_+l*zZ (fun i=>s.rt i*(a.D i r:Rat)) a.n;rw[<-nx,<-tS];apply oh;intro i d;show yO g s l i*(a.D i r:Rat)=(if R.kv i then 0 else s.ts i*a.D i r)+l*(s.rt i*(a.D i r:Rat));have c:=hA.kv i d;unfold yO
  cases e:R.kv i with
  |true=>have b:=c.1 e;rw[if_neg b,(h.grow i d b).1];simp only[if_true];grind
  |false=>(have b:s.rt i=0:=by apply Classical.byContradiction;intro o;rw[c.2 o]at e;cases e);rw[if_pos b,b];simp only[Bool.false_eq_true,if_false];grind
 rw[m];grind
structure Found (a:NProb)(gr:Nat->Nat)(R:RS)(x:Nat×Nat×Bool)(K U:Nat):Prop where
  pos:0<x.2.1
  kinds:∀r,r<K->zX a gr R r≠0->x.1*zX a gr R r<=lft a R r*x.2.1
  caps:∀i,i<U->R.kv i=true->x.1*gr i<=a.C i*R.q*x.2.1
  isK:x.2.2=true->∃r,r<K/\zX a gr R r≠0/\x.1=lft a R r/\x.2.1=zX a gr R r
  isU:x.2.2=false->(∃i,i<U/\R.kv i=true/\x.1=a.C i*R.q/\x.2.1=gr i)/\∀r,r<K->zX a gr R r≠0->x.1*zX a gr R r<lft a R r*x.2.1
variable{e:Nat}
theorem sM {a b c d f:Nat}(hb:0<d)(h1:a*d<=c*b)(h2:c*f<=e*d):a*f<=e*b:=by
 have g:a*d*f<=c*b*f:=Nat.mul_le_mul_right f h1;have h:c*f*b<=e*d*b:=Nat.mul_le_mul_right b h2
 have i:d*(a*f)<=d*(e*b):=by
  calc d*(a*f)=a*d*f:=by ac_rfl
   _<=c*b*f:=g
   _=c*f*b:=by ac_rfl
   _<=e*d*b:=h
   _=d*(e*b):=by ac_rfl
 exact Nat.le_of_mul_le_mul_left i hb
theorem De {a b c d f:Nat}(hf:0<f)(hd:0<d)(hb:0<b)(h1:a*d<c*b)(h2:c*f<=e*d):a*f<e*b:=by
 have g:a*d*f<c*b*f:=Nat.mul_lt_mul_of_pos_right h1 hf;have h:c*f*b<=e*d*b:=Nat.mul_le_mul_right b h2
 have i:d*(a*f)<d*(e*b):=by
  calc d*(a*f)=a*d*f:=by ac_rfl
   _<c*b*f:=g
   _=c*f*b:=by ac_rfl
   _<=e*d*b:=h
   _=d*(e*b):=by ac_rfl
 exact Nat.lt_of_mul_lt_mul_left i
theorem vY {a:NProb}:∀K,(zR a gr R K=(0,0,false)/\∀r,r<K->zX a gr R r=0)\/(Found a gr R (zR a gr R K) K 0/\(zR a gr R K).2.2=true):=by
 intro K
 induction K with
 |zero=>left;exact⟨rfl,fun r hr=>by omega⟩
 | succ K ih=>
  simp only[zR];by_cases d:zX a gr R K=0
  ·rw[if_pos d];rcases ih with⟨b,c⟩|⟨b,c⟩
   ·left;refine⟨b,fun r hr=>?_⟩;by_cases e:r=K
    ·subst e;exact d
    ·exact c r (by omega)
   ·right;refine⟨⟨b.pos,fun r hr hn=>?_,fun i hi=>by omega,fun hk=>?_,fun hk=>by rw[c]at hk;cases hk⟩,c⟩
    ·by_cases e:r=K
     ·subst e;exact absurd d hn
     ·exact b.kinds r (by omega) hn
    ·obtain⟨r,k,h⟩:=b.isK hk;exact⟨r,by omega,h⟩
  ·rw[if_neg d];right;rcases ih with⟨b,c⟩|⟨b,c⟩
   ·rw[b,if_pos (Or.inl rfl)];refine⟨⟨Nat.pos_of_ne_zero d,fun r hr hn=>?_,fun i hi=>by omega,fun _=>⟨K,by omega,d,rfl,rfl⟩,fun hk=>by cases hk⟩,rfl⟩;by_cases e:r=K
    ·subst e;exact Nat.le_refl _
    ·exact absurd (c r (by omega)) hn
   ·by_cases g:(zR a gr R K).2.1=0\/lft a R K*(zR a gr R K).2.1<(zR a gr R K).1*zX a gr R K
    ·rw[if_pos g]
     have j:lft a R K*(zR a gr R K).2.1<(zR a gr R K).1*zX a gr R K:=by
      rcases g with f|f
      ·have:=b.pos;omega
      ·exact f
     refine⟨⟨Nat.pos_of_ne_zero d,fun r hr hn=>?_,fun i hi=>by omega,fun _=>⟨K,by omega,d,rfl,rfl⟩,fun hk=>by cases hk⟩,rfl⟩;by_cases e:r=K
     ·subst e;exact Nat.le_refl _
     ·exact sM b.pos (Nat.le_of_lt j) (b.kinds r (by omega) hn)
    ·rw[if_neg g];refine⟨⟨b.pos,fun r hr hn=>?_,fun i hi=>by omega,fun hk=>?_,fun hk=>by rw[c]at hk;cases hk⟩,c⟩
     ·by_cases e:r=K
      ·subst e;(have:¬ lft a R r*(zR a gr R r).2.1<(zR a gr R r).1*zX a gr R r:=fun f=>g (Or.inr f));omega
      ·exact b.kinds r (by omega) hn
     ·obtain⟨r,k,h⟩:=b.isK hk;exact⟨r,by omega,h⟩
theorem wM {a:NProb}(hg0:∀i,i<a.n->R.kv i=true->0<gr i){x0:Nat×Nat×Bool}{K:Nat}(h0:Found a gr R x0 K 0):∀U,U<=a.n->Found a gr R (yA a gr R x0 U) K U:=by
 intro U h
 induction U with
 |zero=>exact h0
 | succ U ih=>
  have b:=ih (by omega);simp only[yA]
  cases hs:R.kv U with
  | false=>
   simp only[Bool.false_eq_true,if_false];refine⟨b.pos,b.kinds,fun i hi hst=>?_,b.isK,fun hk=>?_⟩
   ·by_cases e:i=U
    ·subst e;rw[hs]at hst;cases hst
    ·exact b.caps i (by omega) hst
   ·obtain⟨⟨i,g,d⟩,f⟩:=b.isU hk;exact⟨⟨i,by omega,d⟩,f⟩
  | true=>
   simp only[if_true];by_cases c:a.C U*R.q*(yA a gr R x0 U).2.1<(yA a gr R x0 U).1*gr U
   ·rw[if_pos c];refine⟨hg0 U (by omega) hs,fun r hr hn=>sM b.pos (Nat.le_of_lt c) (b.kinds r hr hn),fun i hi hst=>?_,fun hk=>(by cases hk),fun _=>⟨⟨U,by omega,hs,rfl,rfl⟩,fun r hr hn=>De (Nat.pos_of_ne_zero hn) b.pos (hg0 U (by omega) hs) c (b.kinds r hr hn)⟩⟩;by_cases e:i=U
    ·subst e;exact Nat.le_refl _
    ·exact sM b.pos (Nat.le_of_lt c) (b.caps i (by omega) hst)
   ·rw[if_neg c];refine⟨b.pos,b.kinds,fun i hi hst=>?_,b.isK,fun hk=>?_⟩
    ·by_cases e:i=U
     ·subst e;omega
     ·exact b.caps i (by omega) hst
    ·obtain⟨⟨i,g,d⟩,f⟩:=b.isU hk;exact⟨⟨i,by omega,d⟩,f⟩
theorem Fp (h:∀r,r<k->(S r↔T r)):cnt S k=cnt T k:=by
 induction k with
 |zero=>rfl
 |succ k ih=>
  simp only[cnt];rw[ih (fun r hr=>h r (by omega))];by_cases e:S k
  ·rw[if_pos e,if_pos ((h k (by omega)).1 e)]
  ·rw[if_neg e,if_neg (fun h5=>e ((h k (by omega)).2 h5))]
theorem cnt_lt' (h:∀r,r<k->S r->T r)(hr:r0<k)(h1:T r0)(h2:¬ S r0):cnt S k<cnt T k:=by
 rw[Fp (S:=S) (T:=fun r=>S r/\r<k) (fun r hr=>⟨fun h5=>⟨h5,hr⟩,fun h5=>h5.1⟩)];exact ql (fun r h5=>h r h5.2 h5.1) hr h1 (fun h5=>h2 h5.1)
theorem D6 {a:NProb}:∀U,yA a gr R (0,0,false) U=(0,0,false):=by
 intro U
 induction U with
 |zero=>rfl
 |succ U ih=>simp only[yA];rw[ih];simp
theorem E0 {a:NProb}(hg0:∀i,i<a.n->R.kv i=true->0<gr i)(hne:(yF a gr R).2.1≠0):Found a gr R (yF a gr R) a.k a.n:=by
 unfold yF at hne ⊢;rcases vY (a:=a) (gr:=gr) (R:=R) a.k with⟨b,c⟩|⟨b,c⟩
 ·rw[b,D6]at hne;exact absurd rfl hne
 ·exact wM hg0 b a.n (Nat.le_refl _)
theorem A7 {a:NProb}(hi:i<a.n)(hs:R.kv i=true)(hD:0<a.D i r)(hg:0<gr i):zX a gr R r≠0:=by
 have b:∀n,i<n->0<xp (fun i=>if R.kv i then a.D i r*gr i else 0) n:=by
  intro n
  induction n with
  |zero=>intro h;omega
  |succ n ih=>
   intro h;simp only[xp];by_cases e:i=n
   ·subst e;rw[hs];have:=Nat.mul_pos hD hg;simp only[if_true];omega
   ·have:=ih (by omega);omega
 have:=b a.n hi;unfold zX;omega
theorem FA {a:NProb}(h:zX a gr R r≠0):∃i,i<a.n/\R.kv i=true/\0<a.D i r:=by
 apply Classical.byContradiction;intro d;apply h
 have:∀n,n<=a.n->xp (fun i=>if R.kv i then a.D i r*gr i else 0) n=0:=by
  intro n
  induction n with
  |zero=>intro _;rfl
  |succ n ih=>
   intro c;simp only[xp];rw[ih (by omega)]
   cases hs:R.kv n with
   |false=>simp
   |true=>simp only[if_true];(have:a.D n r=0:=by apply Classical.byContradiction;intro b;exact d ⟨n,by omega,hs,Nat.pos_of_ne_zero b⟩);rw[this];simp
 exact this a.n (Nat.le_refl _)
theorem Gc {a:NProb}(hg0:∀i,i<a.n->R.kv i=true->0<gr i)(hD:∀i,i<a.n->∃r,r<a.k/\0<a.D i r)(hz:(yF a gr R).2.1=0):∀i,i<a.n->R.kv i=false:=by
 intro i c
 cases hs:R.kv i with
 |false=>rfl
 |true=>
  exfalso;obtain⟨r,f,d⟩:=hD i c;have e:=A7 c hs d (hg0 i c hs);rcases vY (a:=a) (gr:=gr) (R:=R) a.k with⟨_,b⟩|⟨b,_⟩
  ·exact e (b r f)
  ·have:=(wM hg0 b a.n (Nat.le_refl _)).pos;unfold yF at hz;omega
theorem F8 {a:NProb}(ho:a.toP.Ok)(hg:Rate a.toP g)(hGm:0<Gm)(hgr:∀i,i<a.n->(gr i:Rat)=Gm*g i){R':RS}(h:Inv a.toP g s)(hA:Abs a g s R)(hT:TurnT a gr R R')(hne:(yF a gr R).2.1≠0):(∃s',Inv a.toP g s'/\Abs a g s' R')/\cnt (fun i=>R'.kv i=true) a.n<cnt (fun i=>R.kv i=true) a.n:=by
 classical
 have hG:=JC hGm;have hq:=JC hA.q
 have W:∀i,i<a.n->R.kv i=true->0<g i:=fun i b hs=>by
  have d:=(hA.kv i b).1 hs;have o:=(h.grow i b d).1;have h3:=hg.pos i b;rw[o]at d
  grind
 (have M:∀i,i<a.n->R.kv i=true->0<gr i:=fun i b hs=>by apply ur.1;rw[hgr i b];exact Rat.mul_pos hG (W i b hs));have A:=E0 M hne;obtain⟨v,E,H,D⟩:=hT;revert A v E H D;generalize yF a gr R=x;obtain⟨N,S,B⟩:=x;intro A v E H D;simp only at v E H D;have hS:=JC A.pos;simp only at hS;have J:∀r,r<a.k->zX a gr R r≠0->N*zX a gr R r<=lft a R r*S:=A.kinds;have T:∀i,i<a.n->R.kv i=true->N*gr i<=a.C i*R.q*S:=A.caps;have Z:∃l:Rat,l*(S*R.q)=N*Gm:=⟨N*Gm/(S*R.q),l7 (by have:=Rat.mul_pos hS hq;grind)⟩;obtain⟨l,Z⟩:=Z;have af:0<=l:=mi (c:=S*R.q) (by rw[Z,Rat.zero_mul];exact Rat.mul_nonneg (nM _) (nM _)) (Rat.mul_pos hS hq);(have U:∀i,i<a.n->R.kv i=true->yO g s l i=g i*l:=fun i b hs=>by unfold yO;rw[if_neg ((hA.kv i b).1 hs)]);have O:∀i,i<a.n->R.kv i=false->s.rt i=0:=fun i b hs=>by apply Classical.byContradiction;intro w;rw[(hA.kv i b).2 w]at hs;cases hs
 have u:∀i,i<a.n->(S*R.q)*(Gm*(g i*l))=Gm*((N*gr i:Nat):Rat):=fun i b=>by
  rw[JI,hgr i b]
  calc (S*R.q)*(Gm*(g i*l))=Gm*g i*(l*(S*R.q)):=by grind
   _=_:=by rw[Z];grind
 have ae:=Rat.mul_pos hS hq;have L:=Rat.mul_pos ae hG;have y:∀i,(S*R.q)*(Gm*(a.C i:Rat))=Gm*((a.C i*R.q*S:Nat):Rat):=fun i=>by rw[JI,JI];grind
 have I:∀i,i<a.n->R.kv i=true->g i*l<=a.C i:=fun i b hs=>by
  have d:=lX (oF.2 (T i b hs)) (show(0:Rat)<=Gm by grind);rw[<-u i b,<-y i]at d;apply mi (c:=S*R.q*Gm) _ L
  grind
 have f:∀i,i<a.n->(g i*l=a.C i↔a.C i*R.q*S=N*gr i):=fun i b=>by
  constructor
  ·intro e;have d:=u i b;rw[e,y i]at d;apply cast_eq.1;have:(Gm:Rat)≠0:=by grind
   grind
  ·intro e;have d:=u i b;rw[<-e,<-y i]at d;(have:(S*R.q*Gm:Rat)≠0:=by grind);have o:(S*R.q*Gm:Rat)*(g i*l)=(S*R.q*Gm)*a.C i:=by grind
   grind
 have Y:∀r,r<a.k->(S:Rat)*(Gm*(R.q*used a.toP (yO g s l) r))=S*(Gm*(R.q*a.P r))+Gm*(((N*zX a gr R r:Nat):Rat)-((lft a R r*S:Nat):Rat)):=fun r m=>by rw[tt hGm hgr h hA m l,JI,JI];(have:(S:Rat)*(l*R.q*zX a gr R r)=l*(S*R.q)*zX a gr R r:=by grind);rw[Rat.mul_add,this,Z];grind
 have X:∀r,r<a.k->used a.toP (yO g s l) r<=a.P r:=fun r m=>by
  have d:=Y r m
  have o:N*zX a gr R r<=lft a R r*S:=by
   by_cases e:zX a gr R r=0
   ·rw[e];simp
   ·exact J r m e
  have h3:=lX (show(((N*zX a gr R r:Nat):Rat)-((lft a R r*S:Nat):Rat))<=0 by have:=oF.2 o;grind) (show(0:Rat)<=Gm by grind);apply mi (c:=S*R.q*Gm) _ L
  grind
 have F:∀r,r<a.k->(used a.toP (yO g s l) r=a.P r↔lft a R r*S=N*zX a gr R r):=fun r m=>by
  have d:=Y r m;constructor
  ·intro e;rw[e]at d;apply cast_eq.1;have:(Gm:Rat)≠0:=by grind
   grind
  ·intro e;rw[e]at d;(have:(S*R.q*Gm:Rat)≠0:=by grind);have o:(S*R.q*Gm:Rat)*used a.toP (yO g s l) r=(S*R.q*Gm)*a.P r:=by grind
   grind
 have G:∀i,i<a.n->R.kv i=true->(yv a.toP (yO g s l) i↔xH a gr R N S i):=fun i b hs=>by
  unfold yv xH;rw[U i b hs];constructor
  ·rintro(e|⟨r,m,Q,e⟩)
   ·exact Or.inl ((f i b).1 e)
   ·exact Or.inr ⟨r,m,Rat.natCast_pos.1 Q,(F r m).1 e⟩
  ·rintro(e|⟨r,m,Q,e⟩)
   ·exact Or.inl ((f i b).2 e)
   ·exact Or.inr ⟨r,m,JC Q,(F r m).2 e⟩
 have aa:s.lev<=l:=by
  have ab:∀i,i<a.n->yO g s s.lev i=s.ts i:=fun i b=>by
   unfold yO;split
   ·rfl
   ·rename_i e;rw[(h.grow i b e).2.1]
  cases B with
  |true=>
   obtain⟨r,m,hp,z,t⟩:=A.isK rfl;simp only at z t;have d:=(F r m).2 (by rw[z,t]);have o:=h.kA.kq r m;rw[<-pP ab]at o;have h3:=tt hGm hgr h hA m s.lev;have h4:=tt hGm hgr h hA m l;rw[d]at h4;have ag:=JC (Nat.pos_of_ne_zero hp);have ah:=Rat.mul_pos hq ag;apply mi (c:=R.q*zX a gr R r) _ ah;have w:=lX (lX o (show(0:Rat)<=R.q by grind)) (show(0:Rat)<=Gm by grind);have h6:a.toP.P r=a.P r:=rfl;rw[h6]at w
   grind
  |false=>
   obtain⟨⟨i,b,hs,z,t⟩,_⟩:=A.isU rfl;simp only at z t;have d:=(f i b).2 (by rw[z,t]);have o:=h.kA.cap i b;rw[(h.grow i b ((hA.kv i b).1 hs)).2.1]at o;have h6:a.toP.C i=a.C i:=rfl;rw[h6,<-d]at o;apply mi (c:=g i) _ (W i b hs)
   grind
 have hb:Borne a.toP (yO g s l):=by
  refine⟨fun i b=>?_,fun i b=>?_,fun r m=>X r m⟩
  ·unfold yO;split
   ·exact h.kA.low i b
   ·exact Rat.mul_nonneg (hg.pos i b) af
  ·cases hs:R.kv i with
   |true=>rw[U i b hs];exact I i b hs
   |false=>unfold yO;rw[if_pos (O i b hs)];exact h.kA.cap i b
 have V:=h.step ho hg l aa hb (fun i=>if yv a.toP (yO g s l) i then 0 else s.rt i)
  (fun i b e=>by show(if _ then(0:Rat)else s.rt i)=0;split;rfl;exact e)
  (fun i b e=>by
   by_cases t:yv a.toP (yO g s l) i
   ·left;exact⟨if_pos t,t⟩
   ·right;exact⟨if_neg t,t⟩)
 have ac:(R'.q:Rat)=if B then(R.q:Rat)*S else R.q:=by
  rw[E];cases B
  ·rfl
  ·simp only[if_true];rw[JI]
 refine⟨⟨_,V,?_,?_,?_,?_⟩,?_⟩
 ·rw[E];split
  ·exact Nat.mul_pos hA.q A.pos
  ·exact hA.q
 ·intro i b;rw[v i b];show _↔(if yv a.toP (yO g s l) i then 0 else s.rt i)≠0;constructor
  ·rintro⟨d,o⟩;rw[if_neg (fun w=>o ((G i b d).1 w))];exact(hA.kv i b).1 d
  ·intro d;by_cases t:yv a.toP (yO g s l) i
   ·rw[if_pos t]at d;exact absurd rfl d
   ·rw[if_neg t]at d;have o:=(hA.kv i b).2 d;exact⟨o,fun w=>t ((G i b o).2 w)⟩
 ·intro i b K;show(R'.hv i:Rat)=R'.q*yO g s l i;rw[ac];by_cases p:R.kv i=true/\xH a gr R N S i
  ·rw[H i b p.1 p.2,U i b p.1]
   cases B with
   |true=>
    simp only[if_true];have d:=u i b;(have o:(Gm:Rat)*((S*R.q)*(g i*l))=Gm*((N*gr i:Nat):Rat):=by rw[<-d];grind);have:(Gm:Rat)≠0:=by grind
    grind
   | false=>
    simp only[Bool.false_eq_true,if_false];have hU:=(A.isU rfl).2;simp only at hU
    have hc:a.C i*R.q*S=N*gr i:=by
     rcases p.2 with e|⟨r,m,Q,e⟩
     ·exact e
     ·have:=hU r m (A7 b p.1 Q (M i b p.1));omega
    rw[(f i b).2 hc,JI,ac];simp only[Bool.false_eq_true,if_false];grind
  ·have ad:R.kv i=false:=by
    cases e:R.kv i with
    |false=>rfl
    |true=>exfalso;have:R'.kv i=true:=(v i b).2 ⟨e,fun w=>p ⟨e,w⟩⟩;rw[this]at K;cases K
   rw[D i b p];have d:=hA.hv i b ad;(have o:yO g s l i=s.ts i:=by unfold yO;rw[if_pos (O i b ad)]);rw[o]
   cases B with
   |true=>simp only[if_true];rw[JI,d];grind
   |false=>simp only[Bool.false_eq_true,if_false];exact d
 ·intro i b K;obtain⟨d,o⟩:=(v i b).1 K;rw[D i b (fun w=>o w.2),hA.hv0 i b d]
  cases B<;>simp
 ·-- somebody stops
  have:∃i,i<a.n/\R.kv i=true/\xH a gr R N S i:=by
   cases B with
   |true=>obtain⟨r,m,hp,z,t⟩:=A.isK rfl;simp only at z t;obtain⟨i,b,hs,Q⟩:=FA hp;exact⟨i,b,hs,Or.inr ⟨r,m,Q,by rw[z,t]⟩⟩
   |false=>obtain⟨⟨i,b,hs,z,t⟩,_⟩:=A.isU rfl;simp only at z t;exact⟨i,b,hs,Or.inl (by rw[z,t])⟩
  obtain⟨i,b,hs,p⟩:=this;refine cnt_lt' (r0:=i) (fun j hj w=>((v j hj).1 w).1) b hs (fun w=>((v i b).1 w).2 p)
end Go.Proofs.YtigokanoflkinaaGreatDoor.Por
