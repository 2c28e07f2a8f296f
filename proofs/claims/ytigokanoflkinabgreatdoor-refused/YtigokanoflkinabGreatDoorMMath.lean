/- MFill, MLen, MRun, MRise, MDen, MRef, MRefB, joined. -/
import Derived.Test.YtigokanoflkinabGreatDoorRows
namespace Go.Proofs.YtigokanoflkinabGreatDoor.Por
set_option linter.unusedVariables false
def zZ (f:Nat->Rat):Nat->Rat
  | 0=>0
  | n+1=>zZ f n+f n
theorem jDD {f g:Nat->Rat}{n:Nat}(h:∀ i,i<n->f i=g i):zZ f n=zZ g n:=by
 induction n with
 | zero=>rfl
 | succ n ih=>simp only[zZ];rw[ih (fun i hi=>h i (by omega)),h n (by omega)]
theorem jE0 {f g:Nat->Rat}{n:Nat}(h:∀ i,i<n->f i<=g i):zZ f n<=zZ g n:=by
 induction n with
 | zero=>exact Rat.le_refl
 | succ n ih=>have a:=ih (fun i hi=>h i (by omega));have b:=h n (by omega);simp only[zZ];grind
theorem jFE {f:Nat->Rat}{n:Nat}(h:∀ i,i<n->f i=0):zZ f n=0:=by
 induction n with
 | zero=>rfl
 | succ n ih=>simp only[zZ];rw[ih (fun i hi=>h i (by omega)),h n (by omega)];grind
theorem jEu {f:Nat->Rat}{n:Nat}(h:∀ i,i<n->0<=f i):0<=zZ f n:=by
 have:=jE0 (f:=fun _=>0) h
 rwa [jFE (fun i _=>rfl)] at this
theorem jCO {f:Nat->Rat}{n:Nat}(c:Rat):zZ (fun i=>c*f i) n=c*zZ f n:=by
 induction n with
 | zero=>simp[zZ]
 | succ n ih=>simp only[zZ];rw[ih];grind
theorem jH5 {f g:Nat->Rat}{n:Nat}:zZ (fun i=>f i+g i) n=zZ f n+zZ g n:=by
 induction n with
 | zero=>simp only[zZ];grind
 | succ n ih=>simp only[zZ];rw[ih];grind
theorem jFl {f:Nat->Rat}{n:Nat}(h:∀ i,i<n->0<=f i){i:Nat}(hi:i<n):f i<=zZ f n:=by
 induction n with
 | zero=>omega
 | succ n ih=>
  simp only[zZ];have a:=jEu (f:=f) (n:=n) (fun i hi=>h i (by omega));have b:=h n (by omega);by_cases e:i=n
  ·subst e;grind
  ·have:=ih (fun i hi=>h i (by omega)) (by omega);grind
theorem jA7 {a b c:Rat}(h:a<=b)(hc:0<=c):c*a<=c*b:=Rat.mul_le_mul_of_nonneg_left h hc
theorem jBi {a b c:Rat}(h:a<=b)(hc:0<=c):a*c<=b*c:=Rat.mul_le_mul_of_nonneg_right h hc
theorem jIl {a:Rat}(h:0<=a):0<=a⁻¹:=by
 by_cases e:a=0
 ·rw[e,Rat.inv_zero];exact Rat.le_refl
 ·have:=Rat.inv_pos.2 (show 0<a by grind);grind
theorem jIg {a b:Rat}(ha:0<=a)(hb:0<=b):0<=a / b:=by
 rw[Rat.div_def];exact Rat.mul_nonneg ha (jIl hb)
theorem jDL {a b:Rat}(hb:b≠0):a / b*b=a:=by grind
theorem jCI {a b c:Rat}(h:a*c<=b*c)(hc:0<c):a<=b:=by
 by_cases e:a<=b
 ·exact e
 ·have:=Rat.mul_lt_mul_of_pos_right (a:=b) (b:=a) (by grind) hc;grind
theorem jL3 {a b c:Rat}(hb:0<b)(h:a<=c*b):a / b<=c:=by
 apply jCI (c:=b) _ hb;rw[jDL (by grind)];exact h
structure Prob where
  n:Nat
  k:Nat
  P:Nat->Rat
  D:Nat->Nat->Rat
  W:Nat->Rat
  C:Nat->Rat
structure Prob.Ok (p:Prob):Prop where
  P0:∀ r,r<p.k->0<=p.P r
  D0:∀ i r,i<p.n->r<p.k->0<=p.D i r
  W0:∀ i,i<p.n->0<p.W i
  C0:∀ i,i<p.n->0<=p.C i
structure Rate (p:Prob)(g:Nat->Rat):Prop where
  pos:∀ i,i<p.n->0<=g i
  le:∀ i r,i<p.n->r<p.k->0<p.D i r->g i*p.D i r<=p.W i*p.P r
  eq:∀ i,i<p.n->∃ r,r<p.k/\0<p.D i r/\g i*p.D i r=p.W i*p.P r
def used (p:Prob)(x:Nat->Rat)(r:Nat):Rat:=zZ (fun i=>x i*p.D i r) p.n
structure Borne (p:Prob)(x:Nat->Rat):Prop where
  low:∀ i,i<p.n->0<=x i
  cap:∀ i,i<p.n->x i<=p.C i
  pool:∀ r,r<p.k->used p x r<=p.P r
def Held (p:Prob)(g x:Nat->Rat)(i r:Nat):Prop:=0<p.D i r/\used p x r=p.P r/\∀ j,j<p.n->0<p.D j r->x j / g j<=x i / g i
structure FairFill (p:Prob)(g x:Nat->Rat):Prop extends Borne p x where
  none:∀ i,i<p.n->g i=0->x i=0
  stop:∀ i,i<p.n->x i=p.C i∨∃ r,r<p.k/\Held p g x i r
theorem jC8 {p:Prob}{g x:Nat->Rat}(hg:Rate p g)(hx:Borne p x){i:Nat}(hi:i<p.n):0<=x i / g i:=jIg (hx.low i hi) (hg.pos i hi)
theorem jEn {p:Prob}{g x:Nat->Rat}(hx:FairFill p g x){i:Nat}(hi:i<p.n):x i / g i*g i=x i:=by
 by_cases h:g i=0
 ·rw[h,hx.none i hi h];simp
 ·exact jDL h
theorem jLo {p:Prob}{g x:Nat->Rat}(hg:Rate p g)(hx:FairFill p g x){i:Nat}(hi:i<p.n)(h:x i / g i<=0):x i=0:=by
 have a:=jEn hx hi;have c:=jC8 hg hx.toBorne hi;(have b:x i / g i=0:=by grind);rw[b] at a;grind
theorem jGO {p:Prob}(ho:p.Ok){g:Nat->Rat}(hg:Rate p g){i r:Nat}(hi:i<p.n)(hr:r<p.k)(hD:0<p.D i r)(hP:p.P r=0):g i=0:=by
 have c:=hg.le i r hi hr hD;have e:=hg.pos i hi;rw[hP] at c;(have d:p.W i*0=0:=by grind);rw[d] at c;by_cases h:g i=0
 ·exact h
 ·have:=Rat.mul_pos (a:=g i) (b:=p.D i r) (by grind) hD;grind
theorem jGe (S:Nat->Prop)(f:Nat->Rat)(n:Nat)(h:∃ i,i<n/\S i):∃ i,i<n/\S i/\∀ j,j<n->S j->f i<=f j:=by
 classical
 induction n with
 | zero=>obtain ⟨i,c,_⟩:=h;omega
 | succ n ih=>
  by_cases a:∃ i,i<n/\S i
  ·obtain ⟨i,c,hs,d⟩:=ih a;by_cases b:S n/\f n<f i
   ·refine ⟨n,by omega,b.1,fun j hj hs'=>?_⟩;by_cases e:j=n
    ·subst e;exact Rat.le_refl
    ·have:=d j (by omega) hs';grind
   ·refine ⟨i,by omega,hs,fun j hj hs'=>?_⟩;by_cases e:j=n
    ·subst e;by_cases g:f j<f i
     ·exact absurd ⟨hs',g⟩ b
     ·grind
    ·exact d j (by omega) hs'
  ·obtain ⟨i,c,hs⟩:=h
   have e:i=n:=by
    by_cases e:i=n
    ·exact e
    ·exact absurd ⟨i,by omega,hs⟩ a
   subst e;refine ⟨i,by omega,hs,fun j hj hs'=>?_⟩;by_cases e:j=i
   ·subst e;exact Rat.le_refl
   ·exact absurd ⟨j,by omega,hs'⟩ a
theorem jMt {p:Prob}{g x:Nat->Rat}(ho:p.Ok)(hg:Rate p g)(hx:FairFill p g x){j r:Nat}(hj:j<p.n)(hr:r<p.k):x j*p.D j r<=x j / g j*(p.W j*p.P r):=by
  have c:=jC8 hg hx.toBorne hj;have i:=ho.P0 r hr;have l:=ho.W0 j hj;by_cases h:0<p.D j r
  · have d:=hg.le j r hj hr h;have e:=jA7 d c;have f:=jEn hx hj
    calc x j * p.D j r = (x j / g j * g j) * p.D j r := by rw [f]
      _ = x j / g j * (g j * p.D j r) := by grind
      _ <= _ := e
  · (have:p.D j r=0:=by have:=ho.D0 j r hj hr;grind);rw[this];have:=Rat.mul_nonneg c (Rat.mul_nonneg (a:=p.W j) (b:=p.P r) (by grind) i)
    grind
theorem alone {p:Prob}{g x:Nat->Rat}(ho:p.Ok)(hg:Rate p g)(hx:FairFill p g x){i:Nat}(hi:i<p.n):p.C i<=x i∨∃ r,r<p.k/\0<p.D i r/\p.P r*p.W i / zZ p.W p.n / p.D i r<=x i:=by
  (have F:0<zZ p.W p.n:=by have l:=jFl (f:=p.W) (n:=p.n) (fun j d=>by have:=ho.W0 j d;grind) hi;have w:=ho.W0 i hi;grind);rcases hx.stop i hi with e | ⟨r,m,B,I,H⟩
  · left;grind
  · right;have v:=hx.low i hi;by_cases E:p.P r=0
    · refine ⟨r,m,B,?_⟩;rw[E];(have y:0*p.W i / zZ p.W p.n / p.D i r=0:=by rw[Rat.div_def,Rat.div_def];grind);rw[y];exact v
    · (have t:0<p.P r:=by have:=ho.P0 r m;grind);obtain ⟨s,hs,h,J⟩:=hg.eq i hi;refine ⟨s,hs,h,?_⟩
      have u:used p x r<=zZ (fun j=>x i / g i*p.P r*p.W j) p.n:=by
        apply jE0;intro j d;have G:=ho.W0 j d;by_cases q:0<p.D j r
        · have l:=jMt ho hg hx d m;have w:=jBi (H j d q) (Rat.mul_nonneg (a:=p.W j) (b:=p.P r) (by grind) (by grind));(have:x i / g i*p.P r*p.W j=x i / g i*(p.W j*p.P r):=by grind);rw[this];exact Rat.le_trans l w
        · (have e:p.D j r=0:=by have:=ho.D0 j r d m;grind);simp only[e];have o:=jC8 hg hx.toBorne hi;have:=Rat.mul_nonneg (Rat.mul_nonneg o (show 0<=p.P r by grind)) (show 0<=p.W j by grind)
          grind
      rw[I,jCO] at u
      have l:1<=x i / g i*zZ p.W p.n:=by
        apply jCI (c:=p.P r) _ t
        grind
      apply jL3 h;apply jL3 F;have z:=jEn hx hi;have A:=jBi l (Rat.mul_nonneg (hg.pos i hi) (show 0<=p.D i s by grind))
      have o:x i / g i*zZ p.W p.n*(g i*p.D i s)=x i*p.D i s*zZ p.W p.n:=by
        calc _ = (x i / g i * g i) * p.D i s * zZ p.W p.n := by grind
          _ = _ := by rw [z]
      rw[o] at A
      grind
def isInt (q:Rat):Prop:=∃ z:Int,q=(z:Rat)
theorem isInt.add {a b:Rat}(ha:isInt a)(hb:isInt b):isInt (a+b):=by
 obtain ⟨x,rfl⟩:=ha;obtain ⟨y,rfl⟩:=hb;exact ⟨x+y,by rw[Rat.intCast_add]⟩
theorem isInt.sub {a b:Rat}(ha:isInt a)(hb:isInt b):isInt (a - b):=by
 obtain ⟨x,rfl⟩:=ha;obtain ⟨y,rfl⟩:=hb;exact ⟨x - y,by rw[Rat.intCast_sub]⟩
theorem isInt.mul {a b:Rat}(ha:isInt a)(hb:isInt b):isInt (a*b):=by
 obtain ⟨x,rfl⟩:=ha;obtain ⟨y,rfl⟩:=hb;exact ⟨x*y,by rw[Rat.intCast_mul]⟩
theorem isInt.nat (n:Nat):isInt (n:Rat):=⟨(n:Int),by rfl⟩
theorem isInt.zero:isInt 0:=⟨0,rfl⟩
theorem isInt.sum {f:Nat->Rat}{n:Nat}(h:∀ i,i<n->isInt (f i)):isInt (zZ f n):=by
 induction n with
 | zero=>exact isInt.zero
 | succ n ih=>exact (ih (fun i hi=>h i (by omega))).add (h n (by omega))
theorem isInt.toNat {a:Rat}(ha:isInt a)(h0:0<=a):∃ n:Nat,a=(n:Rat):=by
 obtain ⟨z,rfl⟩:=ha;have b:(0:Int)<=z:=Rat.intCast_nonneg.1 h0;obtain ⟨n,rfl⟩:=Int.eq_ofNat_of_zero_le b;exact ⟨n,rfl⟩
noncomputable def cnt (S:Nat->Prop):Nat->Nat
  | 0=>0
  | k+1=>cnt S k+(open Classical in if S k then 1 else 0)
theorem jLp (S:Nat->Prop)(k:Nat):cnt S k<=k:=by
 induction k with
 | zero=>exact Nat.le_refl _
 | succ k ih=>simp only[cnt];split <;> omega
theorem jLW {S T:Nat->Prop}(h:∀ r,S r->T r)(k:Nat):cnt S k<=cnt T k:=by
 induction k with
 | zero=>exact Nat.le_refl _
 | succ k ih=>
  simp only[cnt];by_cases e:S k
  ·rw[if_pos e,if_pos (h k e)];omega
  ·rw[if_neg e];omega
theorem jHl {S T:Nat->Prop}(h:∀ r,S r->T r){k r0:Nat}(hr:r0<k)(h1:T r0)(h2:¬ S r0):cnt S k<cnt T k:=by
 induction k with
 | zero=>omega
 | succ k ih=>
  simp only[cnt];by_cases e:r0=k
  ·subst e;rw[if_pos h1,if_neg h2];have:=jLW h r0;omega
  ·have:=ih (by omega);by_cases e:S k
   ·rw[if_pos e,if_pos (h k e)];omega
   ·rw[if_neg e];omega
theorem pow_pos' {B:Nat}(hB:0<B)(m:Nat):0<B ^ m:=Nat.pow_pos hB
theorem jI0 {p:Prob}{g x:Nat->Rat}(ho:p.Ok)(hg:Rate p g)(hx:FairFill p g x)(hC:∀ i,i<p.n->isInt (p.C i))(hD:∀ i r,i<p.n->r<p.k->isInt (p.D i r))(hP:∀ r,r<p.k->isInt (p.P r))(G M:Nat)(hG:0<G)(hM:0<M)(hGg:∀ i,i<p.n->isInt (G*g i))(hMr:∀ r,r<p.k->zZ (fun i=>p.W i*p.P r) p.n<=M):∀ m (l:Rat),cnt (fun r=>∃ i,i<p.n/\x i≠p.C i/\Held p g x i r/\x i / g i<l) p.k<=m->∃ Q:Nat,0<Q/\Q<=(G*M) ^ m/\∀ i,i<p.n->x i / g i<l->isInt (Q*x i):=by
  classical
  have hB:0<G*M:=Nat.mul_pos hG hM;(have ab:(0:Rat)<(G:Rat):=by exact_mod_cast hG);intro m
  induction m with
  | zero=>
    intro l hl;refine ⟨1,by omega,by simp,fun i b hil=>?_⟩;(have e:((1:Nat):Rat)*x i=x i:=by have:((1:Nat):Rat)=1:=rfl;rw[this];grind);rw[e];rcases hx.stop i b with h | ⟨r,hr,h⟩
    · rw[h];exact hC i b
    · by_cases o:x i=p.C i
      · rw[o];exact hC i b
      · exfalso;have:=jHl (S:=fun _=>False) (T:=fun r=>∃ i,i<p.n/\x i≠p.C i/\Held p g x i r/\x i / g i<l) (fun r h=>h.elim) hr ⟨i,b,o,h,hil⟩ (fun h=>h);omega
  | succ m ih=>
    intro l hl;have Y:((1:Nat):Rat)=1:=rfl;by_cases K:∃ i,i<p.n/\(x i≠p.C i/\x i / g i<l)
    · obtain ⟨a,q,⟨I,ah⟩,R⟩:=jGe (fun i=>x i≠p.C i/\x i / g i<l) (fun i=>-(x i / g i)) p.n K;(have v:∀ i,i<p.n->x i≠p.C i->x i / g i<l->x i / g i<=x a / g a:=fun i b B o=>by have:=R i b ⟨B,o⟩;grind);by_cases U:x a / g a<=0
      · refine ⟨1,by omega,pow_pos' hB _,fun i b hil=>?_⟩;rw[Y,Rat.one_mul];by_cases o:x i=p.C i
        · rw[o];exact hC i b
        · have:=v i b o hil;rw[jLo hg hx b (by grind)];exact isInt.zero
      · rcases hx.stop a q with h | ⟨c,d,h0⟩
        · exact absurd h I
        · obtain ⟨E,X,y⟩:=h0
          obtain ⟨f, af, O, w⟩ := ih (x a / g a) (by
            have := jHl (S := fun r => ∃ i, i < p.n /\ x i ≠ p.C i /\ Held p g x i r /\ x i / g i < x a / g a) (T := fun r => ∃ i, i < p.n /\ x i ≠ p.C i /\ Held p g x i r /\ x i / g i < l)
              (fun r ⟨i, B, o, s, Z⟩ => ⟨i, B, o, s, by grind⟩) d ⟨a, q, I, ⟨E, X, y⟩, ah⟩ (fun ⟨i, B, o, s, Z⟩ => by
                have := s.2.2 a q E; grind)
            omega)
          have ak:g a≠0:=fun e=>by have:=hx.none a q e;rw[this,Rat.div_def] at U;apply U;grind
          let t:Nat->Rat:=fun i=>if x i≠p.C i/\x i / g i=x a / g a then g i*p.D i c else 0
          have aj:∀ i,i<p.n->0<=t i:=fun i b=>by
            simp only[t];split
            · exact Rat.mul_nonneg (hg.pos i b) (ho.D0 i c b d)
            · exact Rat.le_refl
          have H:0<zZ t p.n:=by
            have B:=jFl aj q;have o:t a=g a*p.D a c:=if_pos ⟨I,rfl⟩;have s:=hg.pos a q;have Z:=Rat.mul_pos (show 0<g a by grind) E
            grind
          have F:isInt (G*zZ t p.n):=by
            rw[<- jCO];apply isInt.sum;intro i b;simp only[t];split
            · have:=(hGg i b).mul (hD i c b d);(have e:(G:Rat)*(g i*p.D i c)=G*g i*p.D i c:=by grind);rw[e];exact this
            · rw[Rat.mul_zero];exact isInt.zero
          obtain ⟨N,K⟩:=F.toNat (Rat.mul_nonneg (by grind) (by grind))
          have ad:0<N:=by
            apply Nat.pos_of_ne_zero;intro e;rw[e] at K;have:=Rat.mul_pos ab H;have z:((0:Nat):Rat)=0:=rfl
            grind
          have ae:N<=G*M:=by
            have B:zZ t p.n<=zZ (fun i=>p.W i*p.P c) p.n:=by
              apply jE0;intro i b;have ag:0<=p.W i*p.P c:=Rat.mul_nonneg (by have:=ho.W0 i b;grind) (ho.P0 c d);simp only[t];split
              · by_cases e:0<p.D i c
                · exact hg.le i c b d e
                · (have:p.D i c=0:=by have:=ho.D0 i c b d;grind);rw[this];grind
              · exact ag
            have o:=Rat.le_trans B (hMr c d);have s:=jA7 o (show (0:Rat)<=G by grind);rw[K] at s;have Z:((G*M:Nat):Rat)=(G:Rat)*(M:Rat):=Rat.natCast_mul _ _;rw[<- Z] at s;exact Rat.natCast_le_natCast.1 s
          have J:isInt (f*zZ (fun i=>x i*p.D i c - x a / g a*t i) p.n):=by
            rw[<- jCO];apply isInt.sum;intro i b;have L:=hD i c b d;by_cases j:x i=p.C i
            · (have e:t i=0:=by simp only[t];rw[if_neg (fun h=>h.1 j)]);rw[e,j];have:=(isInt.nat f).mul ((hC i b).mul L);(have A:p.C i*p.D i c - x a / g a*0=p.C i*p.D i c:=by grind);rw[A];exact this
            · by_cases aa:0<p.D i c
              · have ai:=y i b aa;by_cases u:x i / g i=x a / g a
                · (have e:t i=g i*p.D i c:=by simp only[t];rw[if_pos ⟨j,u⟩]);have s:=jEn hx b;rw[e,<- u];(have A:x i*p.D i c - x i / g i*(g i*p.D i c)=0:=by (have:x i / g i*(g i*p.D i c)=(x i / g i*g i)*p.D i c:=by grind);rw[this,s];grind);rw[A,Rat.mul_zero];exact isInt.zero
                · (have e:t i=0:=by simp only[t];rw[if_neg (fun h=>u h.2)]);have:=(w i b (by grind)).mul L;rw[e];(have A:(f:Rat)*(x i*p.D i c - x a / g a*0)=f*x i*p.D i c:=by grind);rw[A];exact this
              · (have e0:p.D i c=0:=by have:=ho.D0 i c b d;grind);(have e:t i=0:=by simp only[t];rw[e0];split <;> grind);rw[e,e0];(have A:(f:Rat)*(x i*0 - x a / g a*0)=0:=by grind);rw[A];exact isInt.zero
          (have V:used p x c=zZ (fun i=>x i*p.D i c - x a / g a*t i) p.n+x a / g a*zZ t p.n:=by rw[<- jCO,<- jH5];unfold used;apply jDD;intro i b;grind);(have hz:isInt (f*(x a / g a*zZ t p.n)):=by (have e:(f:Rat)*(x a / g a*zZ t p.n)=f*p.P c - f*zZ (fun i=>x i*p.D i c - x a / g a*t i) p.n:=by rw[<- X,V];grind);rw[e];exact ((isInt.nat f).mul (hP c d)).sub J);refine ⟨f*N,Nat.mul_pos af ad,?_,fun i b hil=>?_⟩
          · rw[Nat.pow_succ];exact Nat.mul_le_mul O ae
          · have eQ:((f*N:Nat):Rat)=(f:Rat)*(N:Rat):=Rat.natCast_mul _ _;rw[eQ];by_cases j:x i=p.C i
            · rw[j];exact ((isInt.nat f).mul (isInt.nat N)).mul (hC i b)
            · have ai:=v i b j hil;by_cases u:x i / g i=x a / g a
              · have s:=jEn hx b
                have e:(f:Rat)*N*x i=f*(x a / g a*zZ t p.n)*(G*g i):=by
                  rw[<- K,<- u]
                  calc (f : Rat) * (G * zZ t p.n) * x i = f * (G * zZ t p.n) * (x i / g i * g i) := by rw [s]
                    _ = _ := by grind
                rw[e];exact hz.mul (hGg i b)
              · have:=(w i b (by grind)).mul (isInt.nat N);(have e:(f:Rat)*N*x i=f*x i*N:=by grind);rw[e];exact this
    · refine ⟨1,by omega,pow_pos' hB _,fun i b hil=>?_⟩;rw[Y,Rat.one_mul];by_cases o:x i=p.C i
      · rw[o];exact hC i b
      · exact absurd ⟨i,b,o,hil⟩ K
theorem jMo {p:Prob}{g x:Nat->Rat}(ho:p.Ok)(hg:Rate p g)(hx:FairFill p g x)(hC:∀ i,i<p.n->isInt (p.C i))(hD:∀ i r,i<p.n->r<p.k->isInt (p.D i r))(hP:∀ r,r<p.k->isInt (p.P r))(G M:Nat)(hG:0<G)(hM:0<M)(hGg:∀ i,i<p.n->isInt (G*g i))(hMr:∀ r,r<p.k->zZ (fun i=>p.W i*p.P r) p.n<=M):∃ Q:Nat,0<Q/\Q<=(G*M) ^ p.k/\∀ i,i<p.n->isInt (Q*x i):=by
 obtain ⟨Q,a,b,c⟩:=jI0 ho hg hx hC hD hP G M hG hM hGg hMr p.k (zZ (fun i=>x i / g i) p.n+1) (jLp _ _);refine ⟨Q,a,b,fun i hi=>c i hi ?_⟩;have:=jFl (f:=fun i=>x i / g i) (fun i hi=>jC8 hg hx.toBorne hi) hi
 grind
structure St where
  lev:Rat
  rt:Nat->Rat
  ts:Nat->Rat
  lv:Nat->Rat
structure Inv (p:Prob)(g:Nat->Rat)(s:St):Prop where
  lev0:0<=s.lev
  grow:∀ i,i<p.n->s.rt i≠0->s.rt i=g i/\s.ts i=g i*s.lev/\s.lv i=s.lev
  lvs:∀ i,i<p.n->s.ts i=g i*s.lv i/\0<=s.lv i/\s.lv i<=s.lev/\(g i=0->s.lv i=0/\s.rt i=0)
  stop:∀ i,i<p.n->s.rt i=0->s.ts i=p.C i∨∃ r,r<p.k/\0<p.D i r/\used p s.ts r=p.P r/\∀ j,j<p.n->0<p.D j r->s.rt j=0/\s.lv j<=s.lv i
  borne:Borne p s.ts
def xA (g:Nat->Rat)(s:St)(l:Rat):Nat->Rat:=fun i=>if s.rt i=0 then s.ts i else g i*l
def lvAt (s:St)(l:Rat):Nat->Rat:=fun i=>if s.rt i=0 then s.lv i else l
theorem Inv.step {p:Prob}{g:Nat->Rat}(ho:p.Ok)(hg:Rate p g){s:St}(h:Inv p g s)(l:Rat)(hl:s.lev<=l)(hb:Borne p (xA g s l))(rt':Nat->Rat)(hr0:∀ i,i<p.n->s.rt i=0->rt' i=0)(hr:∀ i,i<p.n->s.rt i≠0->(rt' i=0/\(xA g s l i=p.C i∨∃ r,r<p.k/\0<p.D i r/\used p (xA g s l) r=p.P r))∨(rt' i=s.rt i/\¬ (xA g s l i=p.C i∨∃ r,r<p.k/\0<p.D i r/\used p (xA g s l) r=p.P r))):Inv p g ⟨l,rt',xA g s l,lvAt s l⟩:=by
 refine ⟨by have:=h.lev0;grind,?_,?_,?_,hb⟩
 ·intro i f t;show rt' i=g i/\xA g s l i=g i*l/\lvAt s l i=l;(have m:s.rt i≠0:=fun e=>t (hr0 i f e));rcases hr i f m with ⟨e,_⟩ | ⟨e,_⟩
  ·exact absurd e t
  ·refine ⟨by rw[e];exact (h.grow i f m).1,?_,?_⟩
   ·unfold xA;rw[if_neg m]
   ·unfold lvAt;rw[if_neg m]
 ·intro i f;show xA g s l i=g i*lvAt s l i/\0<=lvAt s l i/\lvAt s l i<=l/\(g i=0->lvAt s l i=0/\rt' i=0);obtain ⟨b,q,E,y⟩:=h.lvs i f;have F:=h.lev0;by_cases e:s.rt i=0
  ·unfold xA lvAt;rw[if_pos e,if_pos e];exact ⟨b,q,by grind,fun m=>⟨(y m).1,hr0 i f e⟩⟩
  ·unfold xA lvAt;rw[if_neg e,if_neg e];exact ⟨rfl,by grind,Rat.le_refl,fun m=>absurd (y m).2 e⟩
 ·intro i f e;show xA g s l i=p.C i∨∃ r,r<p.k/\0<p.D i r/\used p (xA g s l) r=p.P r/\∀ j,j<p.n->0<p.D j r->rt' j=0/\lvAt s l j<=lvAt s l i;by_cases o:s.rt i=0
  ·rcases h.stop i f o with b | ⟨r,d,w,v,z⟩
   ·left;unfold xA;rw[if_pos o];exact b
   ·right;refine ⟨r,d,w,?_,?_⟩
    ·rw[<- v];apply jDD;intro j a;show xA g s l j*p.D j r=s.ts j*p.D j r;by_cases c:0<p.D j r
     ·unfold xA;rw[if_pos (z j a c).1]
     ·(have:p.D j r=0:=by have:=ho.D0 j r a d;grind);rw[this,Rat.mul_zero,Rat.mul_zero]
    ·intro j a c;obtain ⟨b,q⟩:=z j a c;refine ⟨hr0 j a b,?_⟩;unfold lvAt;rw[if_pos b,if_pos o];exact q
  ·rcases hr i f o with ⟨_,b⟩ | ⟨b,_⟩
   ·rcases b with b | ⟨r,d,w,v⟩
    ·left;exact b
    ·right;refine ⟨r,d,w,v,fun j a c=>?_⟩;(have x:lvAt s l i=l:=by unfold lvAt;rw[if_neg o]);rw[x];by_cases u:s.rt j=0
     ·refine ⟨hr0 j a u,?_⟩;unfold lvAt;rw[if_pos u];have:=(h.lvs j a).2.2.1;grind
     ·refine ⟨?_,by unfold lvAt;rw[if_neg u];exact Rat.le_refl⟩;rcases hr j a u with ⟨B,_⟩ | ⟨_,q⟩
      ·exact B
      ·exact absurd (Or.inr ⟨r,d,c,v⟩) q
   ·have A:rt' i=0:=e;rw[A] at b;exact absurd b.symm o
theorem Inv.first {p:Prob}{g:Nat->Rat}(ho:p.Ok)(hg:Rate p g)(rt:Nat->Rat)(h:∀ i,i<p.n->rt i=g i∨(rt i=0/\p.C i=0)):Inv p g ⟨0,rt,fun _=>0,fun _=>0⟩:=by
  (have o:∀ r,used p (fun _=>0) r=0:=fun r=>jFE (fun i _=>by grind));refine ⟨Rat.le_refl,?_,?_,?_,?_⟩
  · intro i a l;show rt i=g i/\(0:Rat)=g i*0/\(0:Rat)=0;rcases h i a with e | e
    · exact ⟨e,by grind,rfl⟩
    · exact absurd e.1 l
  · intro i a;refine ⟨by show (0:Rat)=g i*0;grind,Rat.le_refl,Rat.le_refl,fun h0=>⟨rfl,?_⟩⟩;show rt i=0;rcases h i a with e | e
    · rw[e];exact h0
    · exact e.1
  · intro i a e;show (0:Rat)=p.C i∨∃ r,r<p.k/\0<p.D i r/\used p (fun _=>0) r=p.P r/\∀ j,j<p.n->0<p.D j r->rt j=0/\(0:Rat)<=0;have q:rt i=0:=e;rcases h i a with d | d
    · right;(have f:g i=0:=by rw[<- d];exact q);obtain ⟨r,c,s,u⟩:=hg.eq i a;rw[f] at u;have t:=ho.W0 i a
      have m:p.P r=0:=by
        by_cases b:p.P r=0
        · exact b
        · have:=Rat.mul_pos t (show 0<p.P r by have:=ho.P0 r c;grind);grind
      refine ⟨r,c,s,by rw[o,m],fun j hj hDj=>⟨?_,Rat.le_refl⟩⟩;have:=jGO ho hg hj c hDj m;rcases h j hj with b | b
      · rw[b];exact this
      · exact b.1
    · left;exact d.2.symm
  · exact ⟨fun i a => Rat.le_refl, fun i a => ho.C0 i a, fun r c => by
      show used p (fun _ => 0) r <= p.P r
      rw [o]; exact ho.P0 r c⟩
theorem Inv.last {p:Prob}{g:Nat->Rat}{s:St}(hg:Rate p g)(h:Inv p g s)(hz:∀ i,i<p.n->s.rt i=0):FairFill p g s.ts/\∀ i,i<p.n->s.lv i=s.ts i / g i:=by
 have a:∀ i,i<p.n->s.lv i=s.ts i / g i:=fun i hi=>by
  obtain ⟨b,m,o,c⟩:=h.lvs i hi;by_cases e:g i=0
  ·rw[(c e).1,b,e,Rat.div_def];grind
  ·rw[b];grind
 refine ⟨⟨h.borne,fun i hi e=>?_,fun i hi=>?_⟩,a⟩
 ·rw[(h.lvs i hi).1,e];grind
 ·rcases h.stop i hi (hz i hi) with b | ⟨r,k,d,l,f⟩
  ·left;exact b
  ·right;refine ⟨r,k,d,l,fun j hjn hDj=>?_⟩;rw[<- a j hjn,<- a i hi];exact (f j hjn hDj).2
theorem jJh {p:Prob}{g:Nat->Rat}{s:St}(h:Inv p g s)(d:Rat)(r:Nat):used p (xA g s (s.lev+d)) r=used p s.ts r+d*used p s.rt r:=by
 unfold used;rw[<- jCO,<- jH5];apply jDD;intro i c;show xA g s (s.lev+d) i*p.D i r=s.ts i*p.D i r+d*(s.rt i*p.D i r);unfold xA;by_cases e:s.rt i=0
 ·rw[if_pos e,e];grind
 ·rw[if_neg e];obtain ⟨a,b,f⟩:=h.grow i c e;rw[a,b];grind
theorem jLZ {p:Prob}{g:Nat->Rat}{s:St}(h:Inv p g s)(d:Rat){i:Nat}(hi:i<p.n):xA g s (s.lev+d) i=s.ts i+s.rt i*d:=by
 unfold xA;by_cases e:s.rt i=0
 ·rw[if_pos e,e];grind
 ·rw[if_neg e];obtain ⟨a,b,c⟩:=h.grow i hi e;rw[a,b];grind
theorem jCs {p:Prob}{g:Nat->Rat}(hg:Rate p g){s:St}(h:Inv p g s){i:Nat}(hi:i<p.n):0<=s.rt i:=by
 by_cases e:s.rt i=0
 ·rw[e];exact Rat.le_refl
 ·rw[(h.grow i hi e).1];exact hg.pos i hi
theorem jCm {p:Prob} {g:Nat->Rat} (ho:p.Ok) (hg:Rate p g) {s:St} (h:Inv p g s) {r:Nat} (hr:r<p.k):0<=used p s.rt r:=
  jEu (fun i hi=>Rat.mul_nonneg (jCs hg h hi) (ho.D0 i r hi hr))
structure Least (p:Prob)(s:St)(d:Rat):Prop where
  caps:∀ i,i<p.n->s.rt i≠0->d*s.rt i<=p.C i - s.ts i
  kinds:∀ r,r<p.k->used p s.rt r≠0->d*used p s.rt r<=p.P r - used p s.ts r
  some:(∃ i,i<p.n/\s.rt i≠0/\d*s.rt i=p.C i - s.ts i)∨(∃ r,r<p.k/\used p s.rt r≠0/\d*used p s.rt r=p.P r - used p s.ts r)
theorem Least.pos {p:Prob}{g:Nat->Rat}(ho:p.Ok)(hg:Rate p g){s:St}(h:Inv p g s){d:Rat}(hd:Least p s d):0<=d:=by
 rcases hd.some with ⟨i,b,a,k⟩ | ⟨r,e,a,k⟩
 ·have f:=jCs hg h b;have j:=h.borne.cap i b;apply jCI (c:=s.rt i) _ (by grind)
  grind
 ·have f:=jCm ho hg h e;have j:=h.borne.pool r e;apply jCI (c:=used p s.rt r) _ (by grind)
  grind
theorem Least.borne {p:Prob}{g:Nat->Rat}(ho:p.Ok)(hg:Rate p g){s:St}(h:Inv p g s){d:Rat}(hd:Least p s d):Borne p (xA g s (s.lev+d)):=by
 have a:=hd.pos ho hg h;refine ⟨fun i hi=>?_,fun i hi=>?_,fun r hr=>?_⟩
 ·rw[jLZ h d hi];have b:=h.borne.low i hi;have c:=Rat.mul_nonneg (jCs hg h hi) a
  grind
 ·rw[jLZ h d hi];by_cases e:s.rt i=0
  ·rw[e];have:=h.borne.cap i hi;grind
  ·have:=hd.caps i hi e;grind
 ·rw[jJh h d r];by_cases e:used p s.rt r=0
  ·rw[e];have:=h.borne.pool r hr;grind
  ·have:=hd.kinds r hr e;grind
theorem Least.stops {p:Prob}{g:Nat->Rat}(ho:p.Ok){s:St}(h:Inv p g s){d:Rat}(hd:Least p s d):∃ i,i<p.n/\s.rt i≠0/\(xA g s (s.lev+d) i=p.C i∨∃ r,r<p.k/\0<p.D i r/\used p (xA g s (s.lev+d)) r=p.P r):=by
 rcases hd.some with ⟨i,a,b,l⟩ | ⟨r,f,b,l⟩
 ·refine ⟨i,a,b,Or.inl ?_⟩;rw[jLZ h d a];grind
 ·(have:∃ i,i<p.n/\s.rt i*p.D i r≠0:=by apply Classical.byContradiction;intro m;apply b;apply jFE;intro i a;apply Classical.byContradiction;intro c;exact m ⟨i,a,c⟩);obtain ⟨i,a,c⟩:=this;(have j:s.rt i≠0:=fun e=>c (by rw[e,Rat.zero_mul]));(have o:p.D i r≠0:=fun e=>c (by rw[e,Rat.mul_zero]));refine ⟨i,a,j,Or.inr ⟨r,f,by have:=ho.D0 i r a f;grind,?_⟩⟩;rw[jJh h d r];grind
def rq (l:List Rat)(i:Nat):Rat:=l.getD i 0
def xh (l:List Rat):Nat->Rat
  | 0=>rq l 0
  | m+1=>if rq l m<xh l m then rq l m else xh l m
def yM (l:List Rat):Rat:=xh l l.length
theorem jJw (l:List Rat)(m:Nat):∀ i,i<m->xh l m<=rq l i:=by
 induction m with
 | zero=>intro i a;omega
 | succ m ih=>
  intro i a;simp only[xh];by_cases e:i=m
  ·subst e;split <;> grind
  ·have:=ih i (by omega);split <;> grind
theorem jIZ (l:List Rat)(m:Nat)(hm:m<=l.length)(h0:0<l.length):∃ i,i<l.length/\xh l m=rq l i:=by
 induction m with
 | zero=>exact ⟨0,h0,rfl⟩
 | succ m ih=>
  simp only[xh];split
  ·exact ⟨m,by omega,rfl⟩
  ·exact ih (by omega)
theorem jHi {l:List Rat}{i:Nat}(h:i<l.length):rq l i∈l:=by
 unfold rq;rw[List.getD_eq_getElem?_getD,List.getElem?_eq_getElem h];exact List.getElem_mem h
theorem jM5 {l:List Rat}{v:Rat}(h:v∈l):∃ i,i<l.length/\rq l i=v:=by
 obtain ⟨i,a,e⟩:=List.getElem_of_mem h;refine ⟨i,a,?_⟩;unfold rq;rw[List.getD_eq_getElem?_getD,List.getElem?_eq_getElem a];exact e
theorem jFG {l:List Rat}{v:Rat}(h:v∈l):yM l<=v:=by
 obtain ⟨i,a,e⟩:=jM5 h;rw[<- e];exact jJw l _ i a
theorem jFT {l:List Rat}(h:l≠[]):yM l∈l:=by
 have a:0<l.length:=List.length_pos_iff.2 h;obtain ⟨i,b,e⟩:=jIZ l l.length (Nat.le_refl _) a;unfold yM;rw[e];exact jHi b
def stU (p:Prob)(s:St):Nat->List Rat
  | 0=>[]
  | i+1=>if s.rt i=0 then stU p s i else stU p s i ++ [(p.C i - s.ts i) / s.rt i]
def stK (p:Prob)(s:St)(l:List Rat):Nat->List Rat
  | 0=>l
  | r+1=>if used p s.rt r=0 then stK p s l r else stK p s l r ++ [(p.P r - used p s.ts r) / used p s.rt r]
def zu (p:Prob)(s:St):List Rat:=stK p s (stU p s p.n) p.k
theorem jHB {p:Prob}{s:St}{v:Rat}:∀ n,v∈stU p s n↔∃ i,i<n/\s.rt i≠0/\v=(p.C i - s.ts i) / s.rt i:=by
 intro n
 induction n with
 | zero=>simp[stU]
 | succ n ih=>
  simp only[stU];split
  ·rename_i e;rw[ih];constructor
   ·rintro ⟨i,d,a⟩;exact ⟨i,by omega,a⟩
   ·rintro ⟨i,d,a,b⟩;by_cases c:i=n
    ·subst c;exact absurd e a
    ·exact ⟨i,by omega,a,b⟩
  ·rename_i e;rw[List.mem_append,ih,List.mem_singleton];constructor
   ·rintro (⟨i,d,a⟩ | h)
    ·exact ⟨i,by omega,a⟩
    ·exact ⟨n,by omega,e,h⟩
   ·rintro ⟨i,d,a,b⟩;by_cases c:i=n
    ·subst c;exact Or.inr b
    ·exact Or.inl ⟨i,by omega,a,b⟩
theorem jGA {p:Prob}{s:St}{l:List Rat}{v:Rat}:∀ n,v∈stK p s l n↔v∈l∨∃ r,r<n/\used p s.rt r≠0/\v=(p.P r - used p s.ts r) / used p s.rt r:=by
 intro n
 induction n with
 | zero=>simp[stK]
 | succ n ih=>
  simp only[stK];split
  ·rename_i e;rw[ih];constructor
   ·rintro (h | ⟨i,d,a⟩)
    ·exact Or.inl h
    ·exact Or.inr ⟨i,by omega,a⟩
   ·rintro (h | ⟨i,d,a,b⟩)
    ·exact Or.inl h
    ·by_cases c:i=n
     ·subst c;exact absurd e a
     ·exact Or.inr ⟨i,by omega,a,b⟩
  ·rename_i e;rw[List.mem_append,ih,List.mem_singleton];constructor
   ·rintro ((h | ⟨i,d,a⟩) | h)
    ·exact Or.inl h
    ·exact Or.inr ⟨i,by omega,a⟩
    ·exact Or.inr ⟨n,by omega,e,h⟩
   ·rintro (h | ⟨i,d,a,b⟩)
    ·exact Or.inl (Or.inl h)
    ·by_cases c:i=n
     ·subst c;exact Or.inr b
     ·exact Or.inl (Or.inr ⟨i,by omega,a,b⟩)
theorem jJ4 {p:Prob}{s:St}(h:zu p s = []):∀ i,i<p.n->s.rt i=0:=by
 intro i a;apply Classical.byContradiction;intro e;have:(p.C i - s.ts i) / s.rt i∈zu p s:=(jGA _).2 (Or.inl ((jHB _).2 ⟨i,a,e,rfl⟩));rw[h] at this;cases this
theorem jCS {p:Prob}{g:Nat->Rat}(ho:p.Ok)(hg:Rate p g){s:St}(h:Inv p g s)(hne:zu p s≠[]):Least p s (yM (zu p s)):=by
 refine ⟨fun i c e=>?_,fun r d e=>?_,?_⟩
 ·have a:=jFG (l:=zu p s) ((jGA _).2 (Or.inl ((jHB _).2 ⟨i,c,e,rfl⟩)));have b:=jBi a (jCs hg h c)
  rwa [jDL e] at b
 ·have a:=jFG (l:=zu p s) ((jGA _).2 (Or.inr ⟨r,d,e,rfl⟩));have b:=jBi a (jCm ho hg h d)
  rwa [jDL e] at b
 ·have a:=jFT hne;rcases (jGA _).1 a with b | ⟨r,d,e,f⟩
  ·obtain ⟨i,c,e,f⟩:=(jHB _).1 b;left;exact ⟨i,c,e,by rw[f,jDL e]⟩
  ·right;exact ⟨r,d,e,by rw[f,jDL e]⟩
def upTs (s:St)(d:Rat):Nat->Rat:=fun i=>if s.rt i=0 then s.ts i else s.ts i+s.rt i*d
def upLv (s:St)(d:Rat):Nat->Rat:=fun i=>if s.rt i=0 then s.lv i else s.lev+d
def stopsB (p:Prob)(ts:Nat->Rat)(i:Nat):Prop:=ts i=p.C i∨∃ r,r<p.k/\0<p.D i r/\used p ts r=p.P r
open Classical in
noncomputable def upRt (p:Prob)(s:St)(d:Rat):Nat->Rat:=fun i=>if stopsB p (upTs s d) i then 0 else s.rt i
open Classical in
noncomputable def yp (p:Prob)(s:St):St:=
  if zu p s = [] then s else ⟨s.lev+yM (zu p s),upRt p s (yM (zu p s)),upTs s (yM (zu p s)),upLv s (yM (zu p s))⟩
theorem jC9 {p:Prob}{x y:Nat->Rat}(h:∀ i,i<p.n->x i=y i)(r:Nat):used p x r=used p y r:=jDD (fun i hi=>by rw[h i hi])
theorem Inv.congr {p:Prob}{g:Nat->Rat}{s t:St}(h:Inv p g s)(hl:t.lev=s.lev)(h1:∀ i,i<p.n->t.rt i=s.rt i)(h2:∀ i,i<p.n->t.ts i=s.ts i)(h3:∀ i,i<p.n->t.lv i=s.lv i):Inv p g t:=by
 refine ⟨by rw[hl];exact h.lev0,fun i hi=>?_,fun i hi=>?_,fun i hi=>?_,⟨fun i hi=>?_,fun i hi=>?_,fun r a=>?_⟩⟩
 ·rw[h1 i hi,h2 i hi,h3 i hi,hl];exact h.grow i hi
 ·rw[h1 i hi,h2 i hi,h3 i hi,hl];exact h.lvs i hi
 ·rw[h1 i hi,h2 i hi,h3 i hi];intro e;rcases h.stop i hi e with b | ⟨r,a,c,f,d⟩
  ·left;exact b
  ·right;refine ⟨r,a,c,by rw[jC9 h2];exact f,fun j hjn hDj=>?_⟩;rw[h1 j hjn,h3 j hjn];exact d j hjn hDj
 ·rw[h2 i hi];exact h.borne.low i hi
 ·rw[h2 i hi];exact h.borne.cap i hi
 ·rw[jC9 h2];exact h.borne.pool r a
theorem jEG {p:Prob}{x y:Nat->Rat}(h:∀ i,i<p.n->x i=y i){i:Nat}(hi:i<p.n):stopsB p x i↔stopsB p y i:=by
 unfold stopsB;rw[h i hi];constructor
 ·rintro (a | ⟨r,b,c,d⟩)
  ·exact Or.inl a
  ·exact Or.inr ⟨r,b,c,by rw[<- jC9 h];exact d⟩
 ·rintro (a | ⟨r,b,c,d⟩)
  ·exact Or.inl a
  ·exact Or.inr ⟨r,b,c,by rw[jC9 h];exact d⟩
theorem jMz {p:Prob}{g:Nat->Rat}{s:St}(h:Inv p g s)(d:Rat):∀ i,i<p.n->upTs s d i=xA g s (s.lev+d) i:=by
 intro i a;rw[jLZ h d a];unfold upTs;split
 ·rename_i e;rw[e];grind
 ·rfl
theorem jHp {p:Prob}{g:Nat->Rat}(ho:p.Ok)(hg:Rate p g){s:St}(h:Inv p g s):Inv p g (yp p s):=by
  classical
  unfold yp;split
  · exact h
  · rename_i c;have b:=jCS ho hg h c;generalize yM (zu p s)=d at b;have k:=b.pos ho hg h
    have f := h.step ho hg (s.lev + d) (by grind) (b.borne ho hg h) (upRt p s d)
      (fun i hi e => by unfold upRt; split; rfl; exact e)
      (fun i hi e => by
        have j := jEG (jMz h d) hi
        unfold upRt
        by_cases a : stopsB p (upTs s d) i
        · left; exact ⟨if_pos a, j.1 a⟩
        · right; exact ⟨if_neg a, fun h5 => a (j.2 h5)⟩)
    exact f.congr rfl (fun i hi=>rfl) (jMz h d) (fun i hi=>rfl)
theorem jLV {p:Prob}{g:Nat->Rat}(ho:p.Ok)(hg:Rate p g){s:St}(h:Inv p g s):(∀ i,i<p.n->(yp p s).rt i=0)∨cnt (fun i=>(yp p s).rt i≠0) p.n<cnt (fun i=>s.rt i≠0) p.n:=by
 classical
 by_cases a:zu p s = []
 ·left;unfold yp;rw[if_pos a];exact jJ4 a
 ·right;(have e:(yp p s).rt=upRt p s (yM (zu p s)):=by unfold yp;rw[if_neg a]);rw[e];have c:=jCS ho hg h a;generalize yM (zu p s)=d at c;obtain ⟨i,f,k,l⟩:=c.stops ho h;apply jHl (r0:=i) _ f k
  ·intro b;apply b;have o:=jEG (jMz h d) f;unfold upRt;exact if_pos (o.2 l)
  ·intro j b m;apply b;unfold upRt;split
   ·rfl
   ·exact m
noncomputable def ya (p:Prob)(s:St):Nat->St
  | 0=>s
  | m+1=>yp p (ya p s m)
theorem jCp {p:Prob}{g:Nat->Rat}(ho:p.Ok)(hg:Rate p g){s:St}(h:Inv p g s):∀ m,Inv p g (ya p s m):=by
 intro m
 induction m with
 | zero=>exact h
 | succ m ih=>exact jHp ho hg ih
theorem jLn {S:Nat->Prop}{k:Nat}(h:cnt S k=0):∀ i,i<k->¬ S i:=by
 intro i a hs;have:=jHl (S:=fun _=>False) (T:=S) (fun r h=>h.elim) a hs (fun h=>h);omega
theorem jJG {p:Prob}{g:Nat->Rat}(ho:p.Ok)(hg:Rate p g){s:St}(h:Inv p g s):∀ m,cnt (fun i=>(ya p s m).rt i≠0) p.n<=p.n - m:=by
 intro m
 induction m with
 | zero=>exact jLp _ _
 | succ m ih=>
  rcases jLV ho hg (jCp ho hg h m) with a | a
  ·have:∀ k,k<=p.n->cnt (fun i=>(ya p s (m+1)).rt i≠0) k=0:=by
    intro k b
    induction k with
    | zero=>rfl
    | succ k ihk=>simp only[cnt];rw[ihk (by omega),if_neg (fun h5=>h5 (a k (by omega)))]
   rw[this p.n (Nat.le_refl _)];omega
  ·show cnt (fun i=>(yp p (ya p s m)).rt i≠0) p.n<=p.n - (m+1);omega
theorem jJW {p:Prob}{g:Nat->Rat}(ho:p.Ok)(hg:Rate p g){s:St}(h:Inv p g s):∀ i,i<p.n->(ya p s p.n).rt i=0:=by
 intro i a;have b:=jJG ho hg h p.n;have:=jLn (k:=p.n) (S:=fun i=>(ya p s p.n).rt i≠0) (by omega) i a;exact Classical.byContradiction this
structure Dens (p:Prob)(s:St)(Q:Nat):Prop where
  ts:∀ i,i<p.n->isInt (Q*s.ts i)
  lv:∀ i,i<p.n->isInt (Q*s.lv i)
  lev:isInt (Q*s.lev)
theorem Dens.rise {p:Prob}{g:Nat->Rat}(ho:p.Ok)(hg:Rate p g){s:St}(h:Inv p g s)(hC:∀ i,i<p.n->isInt (p.C i))(hD:∀ i r,i<p.n->r<p.k->isInt (p.D i r))(hP:∀ r,r<p.k->isInt (p.P r))(G M:Nat)(hG:0<G)(hGg:∀ i,i<p.n->isInt (G*g i))(hMr:∀ r,r<p.k->zZ (fun i=>p.W i*p.P r) p.n<=M)(hgM:∀ i,i<p.n->g i<=M){Q:Nat}(hQ:Dens p s Q)(hQ0:0<Q)(hM:0<M):∃ N:Nat,0<N/\N<=G*M/\Dens p (yp p s) (Q*N):=by
  classical
  (have t:(0:Rat)<(G:Rat):=by exact_mod_cast hG);have J:0<G*M:=Nat.mul_pos hG hM;unfold yp;split
  · refine ⟨1,by omega,J,?_⟩;rw[Nat.mul_one];exact hQ
  · rename_i b;have F:=jCS ho hg h b;generalize yM (zu p s)=d at F
    have o:∀ i,i<p.n->isInt (G*s.rt i):=fun i a=>by
      by_cases e:s.rt i=0
      · rw[e,Rat.mul_zero];exact isInt.zero
      · rw[(h.grow i a e).1];exact hGg i a
    have E:∃ N:Nat,0<N/\N<=G*M/\∃ z:Rat,isInt z/\d*(Q*N)=z*G:=by
      rcases F.some with ⟨i,a,b,q⟩ | ⟨r,f,b,q⟩
      · have v:=jCs hg h a;obtain ⟨N,l⟩:=(o i a).toNat (Rat.mul_nonneg (by grind) v);have B:=Rat.mul_pos t (show 0<s.rt i by grind);refine ⟨N,?_,?_,Q*(p.C i - s.ts i),?_,?_⟩
        · apply Nat.pos_of_ne_zero;intro e;rw[e] at l;have z:((0:Nat):Rat)=0:=rfl
          grind
        · (have w:s.rt i<=M:=by rw[(h.grow i a b).1];exact hgM i a);have j:=jA7 w (show (0:Rat)<=G by grind);rw[l] at j;have x:((G*M:Nat):Rat)=(G:Rat)*(M:Rat):=Rat.natCast_mul _ _;rw[<- x] at j;exact Rat.natCast_le_natCast.1 j
        · (have e:(Q:Rat)*(p.C i - s.ts i)=Q*p.C i - Q*s.ts i:=by grind);rw[e];exact ((isInt.nat Q).mul (hC i a)).sub (hQ.ts i a)
        · rw[<- l]
          calc d * (Q * (G * s.rt i)) = Q * (d * s.rt i) * G := by grind
            _ = _ := by rw [q]
      · have v:=jCm ho hg h f;(have m:isInt (G*used p s.rt r):=by unfold used;rw[<- jCO];apply isInt.sum;intro i a;have:=(o i a).mul (hD i r a f);(have e:(G:Rat)*(s.rt i*p.D i r)=G*s.rt i*p.D i r:=by grind);rw[e];exact this);obtain ⟨N,l⟩:=m.toNat (Rat.mul_nonneg (by grind) v);have B:=Rat.mul_pos t (show 0<used p s.rt r by grind);refine ⟨N,?_,?_,Q*(p.P r - used p s.ts r),?_,?_⟩
        · apply Nat.pos_of_ne_zero;intro e;rw[e] at l;have z:((0:Nat):Rat)=0:=rfl
          grind
        · have w:used p s.rt r<=M:=by
            refine Rat.le_trans ?_ (hMr r f);apply jE0;intro i a;have K:0<=p.W i*p.P r:=Rat.mul_nonneg (by have:=ho.W0 i a;grind) (ho.P0 r f);by_cases e:s.rt i=0
            · rw[e];grind
            · rw[(h.grow i a e).1];by_cases I:0<p.D i r
              · exact hg.le i r a f I
              · (have:p.D i r=0:=by have:=ho.D0 i r a f;grind);rw[this];grind
          have j:=jA7 w (show (0:Rat)<=G by grind);rw[l] at j;have x:((G*M:Nat):Rat)=(G:Rat)*(M:Rat):=Rat.natCast_mul _ _;rw[<- x] at j;exact Rat.natCast_le_natCast.1 j
        · (have e:(Q:Rat)*(p.P r - used p s.ts r)=Q*p.P r - Q*used p s.ts r:=by grind);rw[e];refine ((isInt.nat Q).mul (hP r f)).sub ?_;unfold used;rw[<- jCO];apply isInt.sum;intro i a;have:=(hQ.ts i a).mul (hD i r a f);(have e:(Q:Rat)*(s.ts i*p.D i r)=Q*s.ts i*p.D i r:=by grind);rw[e];exact this
        · rw[<- l]
          calc d * (Q * (G * used p s.rt r)) = Q * (d * used p s.rt r) * G := by grind
            _ = _ := by rw [q]
    obtain ⟨N,y,A,z,H,q⟩:=E;have u:((Q*N:Nat):Rat)=(Q:Rat)*(N:Rat):=Rat.natCast_mul _ _;(have c:isInt (((Q*N:Nat):Rat)*(s.lev+d)):=by rw[u];(have e:(Q:Rat)*N*(s.lev+d)=Q*s.lev*N+z*G:=by rw[<- q];grind);rw[e];exact (hQ.lev.mul (isInt.nat N)).add (H.mul (isInt.nat G)));refine ⟨N,y,A,?_,?_,c⟩
    · intro i a;show isInt (((Q*N:Nat):Rat)*upTs s d i);rw[u];unfold upTs;split
      · (have e:(Q:Rat)*N*s.ts i=Q*s.ts i*N:=by grind);rw[e];exact (hQ.ts i a).mul (isInt.nat N)
      · (have e:(Q:Rat)*N*(s.ts i+s.rt i*d)=Q*s.ts i*N+z*(G*s.rt i):=by (have:(Q:Rat)*N*(s.rt i*d)=d*(Q*N)*s.rt i:=by grind);rw[Rat.mul_add,this,q];grind);rw[e];exact ((hQ.ts i a).mul (isInt.nat N)).add (H.mul (o i a))
    · intro i a;show isInt (((Q*N:Nat):Rat)*upLv s d i);unfold upLv;split
      · rw[u];(have e:(Q:Rat)*N*s.lv i=Q*s.lv i*N:=by grind);rw[e];exact (hQ.lv i a).mul (isInt.nat N)
      · exact c
theorem jGu {p:Prob}{g:Nat->Rat}(ho:p.Ok)(hg:Rate p g)(hW:∀ i,i<p.n->1<=p.W i){s:St}(h:Inv p g s){i:Nat}(hi:i<p.n):s.lv i<=1:=by
  obtain ⟨l,o,z,q⟩:=h.lvs i hi;by_cases e:g i=0
  · rw[(q e).1];decide
  · obtain ⟨r,a,w,y⟩:=hg.eq i hi;have b:=hW i hi
    have x:0<p.P r:=by
      by_cases k:p.P r=0
      · exact absurd (jGO ho hg hi a w k) e
      · have:=ho.P0 r a;grind
    have t:=h.borne.pool r a;have u:=jFl (f:=fun i=>s.ts i*p.D i r) (n:=p.n) (fun j hj=>Rat.mul_nonneg (h.borne.low j hj) (ho.D0 j r hj a)) hi;have d:s.ts i*p.D i r<=p.P r:=Rat.le_trans u t;rw[l] at d
    have v:g i*s.lv i*p.D i r=s.lv i*p.W i*p.P r:=by
      calc _ = s.lv i * (g i * p.D i r) := by grind
        _ = _ := by rw [y]; grind
    rw[v] at d;have A:s.lv i*p.W i<=1:=jCI (c:=p.P r) (by grind) x;have m:=jA7 b o
    grind
theorem jKH {p:Prob}{g:Nat->Rat}(ho:p.Ok)(hg:Rate p g)(hW:∀ i,i<p.n->1<=p.W i){s:St}(h:Inv p g s)(h1:s.lev<=1):(yp p s).lev<=1:=by
 classical
 have f:=jHp ho hg h;by_cases a:zu p s = []
 ·unfold yp;rw[if_pos a];exact h1
 ·have d:=jCS ho hg h a;obtain ⟨i,b,c,j⟩:=d.stops ho h;have:=jGu ho hg hW f b;(have e:(yp p s).lv i=(yp p s).lev:=by unfold yp;rw[if_neg a];show upLv s _ i=_;unfold upLv;rw[if_neg c]);rw[e] at this;exact this
theorem jIM {p:Prob}{g:Nat->Rat}(ho:p.Ok)(hg:Rate p g)(hW:∀ i,i<p.n->1<=p.W i)(hC:∀ i,i<p.n->isInt (p.C i))(hD:∀ i r,i<p.n->r<p.k->isInt (p.D i r))(hP:∀ r,r<p.k->isInt (p.P r))(G M:Nat)(hG:0<G)(hGg:∀ i,i<p.n->isInt (G*g i))(hMr:∀ r,r<p.k->zZ (fun i=>p.W i*p.P r) p.n<=M)(hgM:∀ i,i<p.n->g i<=M)(hM:0<M){s:St}(h:Inv p g s)(hl:s.lev<=1)(h1:Dens p s 1):∀ m,(ya p s m).lev<=1/\∃ Q:Nat,0<Q/\Q<=(G*M) ^ m/\Dens p (ya p s m) Q:=by
 intro m
 induction m with
 | zero=>exact ⟨hl,1,by omega,by simp,h1⟩
 | succ m ih=>obtain ⟨d,Q,a,f,j⟩:=ih;obtain ⟨N,b,e,c⟩:=j.rise ho hg (jCp ho hg h m) hC hD hP G M hG hGg hMr hgM a hM;refine ⟨jKH ho hg hW (jCp ho hg h m) d,Q*N,Nat.mul_pos a b,?_,c⟩;rw[Nat.pow_succ];exact Nat.mul_le_mul f e
def sumT (f:Nat->Nat):Nat->Nat
  | 0=>0
  | n+1=>sumT f n+f n
structure NProb where
  n:Nat
  k:Nat
  P:Nat->Nat
  D:Nat->Nat->Nat
  W:Nat->Nat
  C:Nat->Nat
structure RS where
  still:Nat->Bool
  hv:Nat->Nat
  q:Nat
def pullT (a:NProb)(gr:Nat->Nat)(R:RS)(r:Nat):Nat:=sumT (fun i=>if R.still i then a.D i r*gr i else 0) a.n
def leftT (a:NProb)(R:RS)(r:Nat):Nat->Nat
  | 0=>a.P r*R.q
  | m+1=>if R.still m then leftT a R r m else leftT a R r m - a.D m r*R.hv m
def lft (a:NProb)(R:RS)(r:Nat):Nat:=leftT a R r a.n
def nextK (a:NProb)(gr:Nat->Nat)(R:RS):Nat->Nat×Nat×Bool
  | 0=>(0,0,false)
  | r+1=>let x:=nextK a gr R r
             if pullT a gr R r=0 then x else if x.2.1=0∨lft a R r*x.2.1<x.1*pullT a gr R r then (lft a R r,pullT a gr R r,true) else x
def nextU (a:NProb)(gr:Nat->Nat)(R:RS)(x0:Nat×Nat×Bool):Nat->Nat×Nat×Bool
  | 0=>x0
  | i+1=>let x:=nextU a gr R x0 i
             if R.still i then (if a.C i*R.q*x.2.1<x.1*gr i then (a.C i*R.q,gr i,false) else x) else x
def nextT (a:NProb)(gr:Nat->Nat)(R:RS):Nat×Nat×Bool:=nextU a gr R (nextK a gr R a.k) a.n
def stopT (a:NProb)(gr:Nat->Nat)(R:RS)(n s:Nat)(i:Nat):Prop:=a.C i*R.q*s=n*gr i∨∃ r,r<a.k/\0<a.D i r/\lft a R r*s=n*pullT a gr R r
structure TurnT (a:NProb)(gr:Nat->Nat)(R R':RS):Prop where
  still:∀ i,i<a.n->(R'.still i=true↔R.still i=true/\¬ stopT a gr R (nextT a gr R).1 (nextT a gr R).2.1 i)
  q:R'.q=if (nextT a gr R).2.2 then R.q*(nextT a gr R).2.1 else R.q
  hvs:∀ i,i<a.n->R.still i=true->stopT a gr R (nextT a gr R).1 (nextT a gr R).2.1 i->R'.hv i=if (nextT a gr R).2.2 then (nextT a gr R).1*gr i else a.C i*R'.q
  hvo:∀ i,i<a.n->¬ (R.still i=true/\stopT a gr R (nextT a gr R).1 (nextT a gr R).2.1 i)->R'.hv i=if (nextT a gr R).2.2 then R.hv i*(nextT a gr R).2.1 else R.hv i
structure Abs (a:NProb)(g:Nat->Rat)(s:St)(R:RS):Prop where
  q:0<R.q
  still:∀ i,i<a.n->(R.still i=true↔s.rt i≠0)
  hv:∀ i,i<a.n->R.still i=false->(R.hv i:Rat)=R.q*s.ts i
  hv0:∀ i,i<a.n->R.still i=true->R.hv i=0
theorem jLE {n:Nat}(h:0<n):(0:Rat)<(n:Rat):=Rat.natCast_pos.2 h
theorem jEr (n:Nat):(0:Rat)<=(n:Rat):=Rat.natCast_nonneg
theorem jKK {n m:Nat}:(n:Rat)<=(m:Rat)↔n<=m:=Rat.natCast_le_natCast
theorem jHv (n m:Nat):((n*m:Nat):Rat)=n*m:=Rat.natCast_mul _ _
structure Found (a:NProb)(gr:Nat->Nat)(R:RS)(x:Nat×Nat×Bool)(K U:Nat):Prop where
  pos:0<x.2.1
  kinds:∀ r,r<K->pullT a gr R r≠0->x.1*pullT a gr R r<=lft a R r*x.2.1
  caps:∀ i,i<U->R.still i=true->x.1*gr i<=a.C i*R.q*x.2.1
  isK:x.2.2=true->∃ r,r<K/\pullT a gr R r≠0/\x.1=lft a R r/\x.2.1=pullT a gr R r
  isU:x.2.2=false->(∃ i,i<U/\R.still i=true/\x.1=a.C i*R.q/\x.2.1=gr i)/\∀ r,r<K->pullT a gr R r≠0->x.1*pullT a gr R r<lft a R r*x.2.1
end Go.Proofs.YtigokanoflkinabGreatDoor.Por
