/- MFill, MLen, MRun, MRise, MDen, MRef, MRefB, joined. -/
import Derived.Test.YtigokanoflkinabGreatDoorRows
namespace Go.Proofs.YtigokanoflkinabGreatDoor.Por
set_option linter.unusedVariables false
def sumN (f:Nat→Rat):Nat→Rat
  | 0=>0
  | n+1=>sumN f n+f n
theorem jCi {f g:Nat→Rat}{n:Nat}(h:∀ i,i<n→f i=g i):sumN f n=sumN g n:=by
 induction n with
 | zero=>rfl
 | succ n ih=>simp only[sumN];rw[ih (fun i hi=>h i (by omega)),h n (by omega)]
theorem jFY {f g:Nat→Rat}{n:Nat}(h:∀ i,i<n→f i≤g i):sumN f n≤sumN g n:=by
 induction n with
 | zero=>exact Rat.le_refl
 | succ n ih=>have h1:=ih (fun i hi=>h i (by omega));have h2:=h n (by omega);simp only[sumN];grind
theorem jEC {f:Nat→Rat}{n:Nat}(h:∀ i,i<n→f i=0):sumN f n=0:=by
 induction n with
 | zero=>rfl
 | succ n ih=>simp only[sumN];rw[ih (fun i hi=>h i (by omega)),h n (by omega)];grind
theorem jEk {f:Nat→Rat}{n:Nat}(h:∀ i,i<n→0≤f i):0≤sumN f n:=by
 have:=jFY (f:=fun _=>0) h
 rwa [jEC (fun i _=>rfl)] at this
theorem jB7 {f:Nat→Rat}{n:Nat}(c:Rat):sumN (fun i=>c*f i) n=c*sumN f n:=by
 induction n with
 | zero=>simp[sumN]
 | succ n ih=>simp only[sumN];rw[ih];grind
theorem jHX {f g:Nat→Rat}{n:Nat}:sumN (fun i=>f i+g i) n=sumN f n+sumN g n:=by
 induction n with
 | zero=>simp only[sumN];grind
 | succ n ih=>simp only[sumN];rw[ih];grind
theorem jFN {f:Nat→Rat}{n:Nat}(h:∀ i,i<n→0≤f i){i:Nat}(hi:i<n):f i≤sumN f n:=by
 induction n with
 | zero=>omega
 | succ n ih=>
  simp only[sumN];have h1:=jEk (f:=f) (n:=n) (fun i hi=>h i (by omega));have h2:=h n (by omega);by_cases e:i=n
  ·subst e;grind
  ·have:=ih (fun i hi=>h i (by omega)) (by omega);grind
theorem jA1 {a b c:Rat}(h:a≤b)(hc:0≤c):c*a≤c*b:=Rat.mul_le_mul_of_nonneg_left h hc
theorem jBU {a b c:Rat}(h:a≤b)(hc:0≤c):a*c≤b*c:=Rat.mul_le_mul_of_nonneg_right h hc
theorem jII {a:Rat}(h:0≤a):0≤a⁻¹:=by
 by_cases e:a=0
 ·rw[e,Rat.inv_zero];exact Rat.le_refl
 ·have:=Rat.inv_pos.2 (show 0<a by grind);grind
theorem jH7 {a b:Rat}(ha:0≤a)(hb:0≤b):0≤a / b:=by
 rw[Rat.div_def];exact Rat.mul_nonneg ha (jII hb)
theorem jCw {a b:Rat}(hb:b≠0):a / b*b=a:=by grind
theorem jB3 {a b c:Rat}(h:a*c≤b*c)(hc:0<c):a≤b:=by
 by_cases e:a≤b
 ·exact e
 ·have:=Rat.mul_lt_mul_of_pos_right (a:=b) (b:=a) (by grind) hc;grind
theorem jKn {a b c:Rat}(hb:0<b)(h:a≤c*b):a / b≤c:=by
 apply jB3 (c:=b) _ hb;rw[jCw (by grind)];exact h
structure Prob where
  n:Nat
  k:Nat
  P:Nat→Rat
  D:Nat→Nat→Rat
  W:Nat→Rat
  C:Nat→Rat
structure Prob.Ok (p:Prob):Prop where
  P0:∀ r,r<p.k→0≤p.P r
  D0:∀ i r,i<p.n→r<p.k→0≤p.D i r
  W0:∀ i,i<p.n→0<p.W i
  C0:∀ i,i<p.n→0≤p.C i
structure Rate (p:Prob)(g:Nat→Rat):Prop where
  pos:∀ i,i<p.n→0≤g i
  le:∀ i r,i<p.n→r<p.k→0<p.D i r→g i*p.D i r≤p.W i*p.P r
  eq:∀ i,i<p.n→∃ r,r<p.k∧0<p.D i r∧g i*p.D i r=p.W i*p.P r
def used (p:Prob)(x:Nat→Rat)(r:Nat):Rat:=sumN (fun i=>x i*p.D i r) p.n
structure Borne (p:Prob)(x:Nat→Rat):Prop where
  low:∀ i,i<p.n→0≤x i
  cap:∀ i,i<p.n→x i≤p.C i
  pool:∀ r,r<p.k→used p x r≤p.P r
def Held (p:Prob)(g x:Nat→Rat)(i r:Nat):Prop:=0<p.D i r∧used p x r=p.P r∧∀ j,j<p.n→0<p.D j r→x j / g j≤x i / g i
structure FairFill (p:Prob)(g x:Nat→Rat):Prop extends Borne p x where
  none:∀ i,i<p.n→g i=0→x i=0
  stop:∀ i,i<p.n→x i=p.C i∨∃ r,r<p.k∧Held p g x i r
theorem jCe {p:Prob}{g x:Nat→Rat}(hg:Rate p g)(hx:Borne p x){i:Nat}(hi:i<p.n):0≤x i / g i:=jH7 (hx.low i hi) (hg.pos i hi)
theorem jD1 {p:Prob}{g x:Nat→Rat}(hx:FairFill p g x){i:Nat}(hi:i<p.n):x i / g i*g i=x i:=by
 by_cases h:g i=0
 ·rw[h,hx.none i hi h];simp
 ·exact jCw h
theorem jKS {p:Prob}{g x:Nat→Rat}(hg:Rate p g)(hx:FairFill p g x){i:Nat}(hi:i<p.n)(h:x i / g i≤0):x i=0:=by
 have h1:=jD1 hx hi;have h2:=jCe hg hx.toBorne hi;(have h3:x i / g i=0:=by grind);rw[h3] at h1;grind
theorem jFe {p:Prob}(ho:p.Ok){g:Nat→Rat}(hg:Rate p g){i r:Nat}(hi:i<p.n)(hr:r<p.k)(hD:0<p.D i r)(hP:p.P r=0):g i=0:=by
 have h1:=hg.le i r hi hr hD;have h2:=hg.pos i hi;rw[hP] at h1;(have h3:p.W i*0=0:=by grind);rw[h3] at h1;by_cases h:g i=0
 ·exact h
 ·have:=Rat.mul_pos (a:=g i) (b:=p.D i r) (by grind) hD;grind
theorem jF4 (S:Nat→Prop)(f:Nat→Rat)(n:Nat)(h:∃ i,i<n∧S i):∃ i,i<n∧S i∧∀ j,j<n→S j→f i≤f j:=by
 classical
 induction n with
 | zero=>obtain ⟨i,hi,_⟩:=h;omega
 | succ n ih=>
  by_cases h1:∃ i,i<n∧S i
  ·obtain ⟨i,hi,hs,hm⟩:=ih h1;by_cases h2:S n∧f n<f i
   ·refine ⟨n,by omega,h2.1,fun j hj hs'=>?_⟩;by_cases e:j=n
    ·subst e;exact Rat.le_refl
    ·have:=hm j (by omega) hs';grind
   ·refine ⟨i,by omega,hs,fun j hj hs'=>?_⟩;by_cases e:j=n
    ·subst e;by_cases h3:f j<f i
     ·exact absurd ⟨hs',h3⟩ h2
     ·grind
    ·exact hm j (by omega) hs'
  ·obtain ⟨i,hi,hs⟩:=h
   have e:i=n:=by
    by_cases e:i=n
    ·exact e
    ·exact absurd ⟨i,by omega,hs⟩ h1
   subst e;refine ⟨i,by omega,hs,fun j hj hs'=>?_⟩;by_cases e:j=i
   ·subst e;exact Rat.le_refl
   ·exact absurd ⟨j,by omega,hs'⟩ h1
theorem jLi {p:Prob}{g x:Nat→Rat}(ho:p.Ok)(hg:Rate p g)(hx:FairFill p g x){j r:Nat}(hj:j<p.n)(hr:r<p.k):x j*p.D j r≤x j / g j*(p.W j*p.P r):=by
  have hl:=jCe hg hx.toBorne hj;have hP:=ho.P0 r hr;have hW:=ho.W0 j hj;by_cases hD:0<p.D j r
  · have h1:=hg.le j r hj hr hD;have h2:=jA1 h1 hl;have h3:=jD1 hx hj
    calc x j * p.D j r = (x j / g j * g j) * p.D j r := by rw [h3]
      _ = x j / g j * (g j * p.D j r) := by grind
      _ ≤ _ := h2
  · (have:p.D j r=0:=by have:=ho.D0 j r hj hr;grind);rw[this];have:=Rat.mul_nonneg hl (Rat.mul_nonneg (a:=p.W j) (b:=p.P r) (by grind) hP)
    grind
theorem alone {p:Prob}{g x:Nat→Rat}(ho:p.Ok)(hg:Rate p g)(hx:FairFill p g x){i:Nat}(hi:i<p.n):p.C i≤x i∨∃ r,r<p.k∧0<p.D i r∧p.P r*p.W i / sumN p.W p.n / p.D i r≤x i:=by
  (have hS:0<sumN p.W p.n:=by have h1:=jFN (f:=p.W) (n:=p.n) (fun j hj=>by have:=ho.W0 j hj;grind) hi;have h2:=ho.W0 i hi;grind);rcases hx.stop i hi with e | ⟨r,hr,hD,hu,hl⟩
  · left;grind
  · right;have hxi:=hx.low i hi;by_cases hP:p.P r=0
    · refine ⟨r,hr,hD,?_⟩;rw[hP];(have e2:0*p.W i / sumN p.W p.n / p.D i r=0:=by rw[Rat.div_def,Rat.div_def];grind);rw[e2];exact hxi
    · (have hP0:0<p.P r:=by have:=ho.P0 r hr;grind);obtain ⟨s,hs,hDs,he⟩:=hg.eq i hi;refine ⟨s,hs,hDs,?_⟩
      have hle:used p x r≤sumN (fun j=>x i / g i*p.P r*p.W j) p.n:=by
        apply jFY;intro j hj;have hWj:=ho.W0 j hj;by_cases hDj:0<p.D j r
        · have h1:=jLi ho hg hx hj hr;have h2:=jBU (hl j hj hDj) (Rat.mul_nonneg (a:=p.W j) (b:=p.P r) (by grind) (by grind));(have:x i / g i*p.P r*p.W j=x i / g i*(p.W j*p.P r):=by grind);rw[this];exact Rat.le_trans h1 h2
        · (have e:p.D j r=0:=by have:=ho.D0 j r hj hr;grind);simp only[e];have h5:=jCe hg hx.toBorne hi;have:=Rat.mul_nonneg (Rat.mul_nonneg h5 (show 0≤p.P r by grind)) (show 0≤p.W j by grind)
          grind
      rw[hu,jB7] at hle
      have h1:1≤x i / g i*sumN p.W p.n:=by
        apply jB3 (c:=p.P r) _ hP0
        grind
      apply jKn hDs;apply jKn hS;have h3:=jD1 hx hi;have h4:=jBU h1 (Rat.mul_nonneg (hg.pos i hi) (show 0≤p.D i s by grind))
      have h5:x i / g i*sumN p.W p.n*(g i*p.D i s)=x i*p.D i s*sumN p.W p.n:=by
        calc _ = (x i / g i * g i) * p.D i s * sumN p.W p.n := by grind
          _ = _ := by rw [h3]
      rw[h5] at h4
      grind
def isInt (q:Rat):Prop:=∃ z:Int,q=(z:Rat)
theorem isInt.add {a b:Rat}(ha:isInt a)(hb:isInt b):isInt (a+b):=by
 obtain ⟨x,rfl⟩:=ha;obtain ⟨y,rfl⟩:=hb;exact ⟨x+y,by rw[Rat.intCast_add]⟩
theorem isInt.sub {a b:Rat}(ha:isInt a)(hb:isInt b):isInt (a - b):=by
 obtain ⟨x,rfl⟩:=ha;obtain ⟨y,rfl⟩:=hb;exact ⟨x - y,by rw[Rat.intCast_sub]⟩
theorem isInt.mul {a b:Rat}(ha:isInt a)(hb:isInt b):isInt (a*b):=by
 obtain ⟨x,rfl⟩:=ha;obtain ⟨y,rfl⟩:=hb;exact ⟨x*y,by rw[Rat.intCast_mul]⟩
theorem isInt.nat (n:Nat):isInt (n:Rat):=⟨(n:Int),by rfl⟩
theorem isInt.zero:isInt 0:=⟨0,rfl⟩
theorem isInt.sum {f:Nat→Rat}{n:Nat}(h:∀ i,i<n→isInt (f i)):isInt (sumN f n):=by
 induction n with
 | zero=>exact isInt.zero
 | succ n ih=>exact (ih (fun i hi=>h i (by omega))).add (h n (by omega))
theorem isInt.toNat {a:Rat}(ha:isInt a)(h0:0≤a):∃ n:Nat,a=(n:Rat):=by
 obtain ⟨z,rfl⟩:=ha;have h1:(0:Int)≤z:=Rat.intCast_nonneg.1 h0;obtain ⟨n,rfl⟩:=Int.eq_ofNat_of_zero_le h1;exact ⟨n,rfl⟩
noncomputable def cnt (S:Nat→Prop):Nat→Nat
  | 0=>0
  | k+1=>cnt S k+(open Classical in if S k then 1 else 0)
theorem jKz (S:Nat→Prop)(k:Nat):cnt S k≤k:=by
 induction k with
 | zero=>exact Nat.le_refl _
 | succ k ih=>simp only[cnt];split <;> omega
theorem jJ2 {S T:Nat→Prop}(h:∀ r,S r→T r)(k:Nat):cnt S k≤cnt T k:=by
 induction k with
 | zero=>exact Nat.le_refl _
 | succ k ih=>
  simp only[cnt];by_cases e:S k
  ·rw[if_pos e,if_pos (h k e)];omega
  ·rw[if_neg e];omega
theorem jHa {S T:Nat→Prop}(h:∀ r,S r→T r){k r0:Nat}(hr:r0<k)(h1:T r0)(h2:¬ S r0):cnt S k<cnt T k:=by
 induction k with
 | zero=>omega
 | succ k ih=>
  simp only[cnt];by_cases e:r0=k
  ·subst e;rw[if_pos h1,if_neg h2];have:=jJ2 h r0;omega
  ·have:=ih (by omega);by_cases e:S k
   ·rw[if_pos e,if_pos (h k e)];omega
   ·rw[if_neg e];omega
theorem pow_pos' {B:Nat}(hB:0<B)(m:Nat):0<B ^ m:=Nat.pow_pos hB
theorem jIK {p:Prob}{g x:Nat→Rat}(ho:p.Ok)(hg:Rate p g)(hx:FairFill p g x)(hC:∀ i,i<p.n→isInt (p.C i))(hD:∀ i r,i<p.n→r<p.k→isInt (p.D i r))(hP:∀ r,r<p.k→isInt (p.P r))(G M:Nat)(hG:0<G)(hM:0<M)(hGg:∀ i,i<p.n→isInt (G*g i))(hMr:∀ r,r<p.k→sumN (fun i=>p.W i*p.P r) p.n≤M):∀ m (l:Rat),cnt (fun r=>∃ i,i<p.n∧x i≠p.C i∧Held p g x i r∧x i / g i<l) p.k≤m→∃ Q:Nat,0<Q∧Q≤(G*M) ^ m∧∀ i,i<p.n→x i / g i<l→isInt (Q*x i):=by
  classical
  have hB:0<G*M:=Nat.mul_pos hG hM;(have hGr:(0:Rat)<(G:Rat):=by exact_mod_cast hG);intro m
  induction m with
  | zero=>
    intro l hl;refine ⟨1,by omega,by simp,fun i hi hil=>?_⟩;(have e:((1:Nat):Rat)*x i=x i:=by have:((1:Nat):Rat)=1:=rfl;rw[this];grind);rw[e];rcases hx.stop i hi with h | ⟨r,hr,h⟩
    · rw[h];exact hC i hi
    · by_cases h2:x i=p.C i
      · rw[h2];exact hC i hi
      · exfalso;have:=jHa (S:=fun _=>False) (T:=fun r=>∃ i,i<p.n∧x i≠p.C i∧Held p g x i r∧x i / g i<l) (fun r h=>h.elim) hr ⟨i,hi,h2,h,hil⟩ (fun h=>h);omega
  | succ m ih=>
    intro l hl;have one:((1:Nat):Rat)=1:=rfl;by_cases hN:∃ i,i<p.n∧(x i≠p.C i∧x i / g i<l)
    · obtain ⟨i0,hi0,⟨hc0,hl0⟩,hmax⟩:=jF4 (fun i=>x i≠p.C i∧x i / g i<l) (fun i=>-(x i / g i)) p.n hN;(have hmax':∀ i,i<p.n→x i≠p.C i→x i / g i<l→x i / g i≤x i0 / g i0:=fun i hi h1 h2=>by have:=hmax i hi ⟨h1,h2⟩;grind);by_cases hmu:x i0 / g i0≤0
      · refine ⟨1,by omega,pow_pos' hB _,fun i hi hil=>?_⟩;rw[one,Rat.one_mul];by_cases h2:x i=p.C i
        · rw[h2];exact hC i hi
        · have:=hmax' i hi h2 hil;rw[jKS hg hx hi (by grind)];exact isInt.zero
      · rcases hx.stop i0 hi0 with h | ⟨r0,hr0,h0⟩
        · exact absurd h hc0
        · obtain ⟨hD0,hu0,hl00⟩:=h0
          obtain ⟨Q1, hQ1, hQ1b, hQ1i⟩ := ih (x i0 / g i0) (by
            have := jHa (S := fun r => ∃ i, i < p.n ∧ x i ≠ p.C i ∧ Held p g x i r ∧ x i / g i < x i0 / g i0) (T := fun r => ∃ i, i < p.n ∧ x i ≠ p.C i ∧ Held p g x i r ∧ x i / g i < l)
              (fun r ⟨i, h1, h2, h3, h4⟩ => ⟨i, h1, h2, h3, by grind⟩) hr0 ⟨i0, hi0, hc0, ⟨hD0, hu0, hl00⟩, hl0⟩ (fun ⟨i, h1, h2, h3, h4⟩ => by
                have := h3.2.2 i0 hi0 hD0; grind)
            omega)
          have hg0:g i0≠0:=fun e=>by have:=hx.none i0 hi0 e;rw[this,Rat.div_def] at hmu;apply hmu;grind
          let t:Nat→Rat:=fun i=>if x i≠p.C i∧x i / g i=x i0 / g i0 then g i*p.D i r0 else 0
          have ht0:∀ i,i<p.n→0≤t i:=fun i hi=>by
            simp only[t];split
            · exact Rat.mul_nonneg (hg.pos i hi) (ho.D0 i r0 hi hr0)
            · exact Rat.le_refl
          have hNpos:0<sumN t p.n:=by
            have h1:=jFN ht0 hi0;have h2:t i0=g i0*p.D i0 r0:=if_pos ⟨hc0,rfl⟩;have h3:=hg.pos i0 hi0;have h4:=Rat.mul_pos (show 0<g i0 by grind) hD0
            grind
          have hNint:isInt (G*sumN t p.n):=by
            rw[← jB7];apply isInt.sum;intro i hi;simp only[t];split
            · have:=(hGg i hi).mul (hD i r0 hi hr0);(have e:(G:Rat)*(g i*p.D i r0)=G*g i*p.D i r0:=by grind);rw[e];exact this
            · rw[Rat.mul_zero];exact isInt.zero
          obtain ⟨N,hN⟩:=hNint.toNat (Rat.mul_nonneg (by grind) (by grind))
          have hN0:0<N:=by
            apply Nat.pos_of_ne_zero;intro e;rw[e] at hN;have:=Rat.mul_pos hGr hNpos;have z:((0:Nat):Rat)=0:=rfl
            grind
          have hNB:N≤G*M:=by
            have h1:sumN t p.n≤sumN (fun i=>p.W i*p.P r0) p.n:=by
              apply jFY;intro i hi;have hWP:0≤p.W i*p.P r0:=Rat.mul_nonneg (by have:=ho.W0 i hi;grind) (ho.P0 r0 hr0);simp only[t];split
              · by_cases e:0<p.D i r0
                · exact hg.le i r0 hi hr0 e
                · (have:p.D i r0=0:=by have:=ho.D0 i r0 hi hr0;grind);rw[this];grind
              · exact hWP
            have h2:=Rat.le_trans h1 (hMr r0 hr0);have h3:=jA1 h2 (show (0:Rat)≤G by grind);rw[hN] at h3;have h4:((G*M:Nat):Rat)=(G:Rat)*(M:Rat):=Rat.natCast_mul _ _;rw[← h4] at h3;exact Rat.natCast_le_natCast.1 h3
          have hrest:isInt (Q1*sumN (fun i=>x i*p.D i r0 - x i0 / g i0*t i) p.n):=by
            rw[← jB7];apply isInt.sum;intro i hi;have hDi:=hD i r0 hi hr0;by_cases hcap:x i=p.C i
            · (have e:t i=0:=by simp only[t];rw[if_neg (fun h=>h.1 hcap)]);rw[e,hcap];have:=(isInt.nat Q1).mul ((hC i hi).mul hDi);(have e2:p.C i*p.D i r0 - x i0 / g i0*0=p.C i*p.D i r0:=by grind);rw[e2];exact this
            · by_cases hDz:0<p.D i r0
              · have hle:=hl00 i hi hDz;by_cases heq:x i / g i=x i0 / g i0
                · (have e:t i=g i*p.D i r0:=by simp only[t];rw[if_pos ⟨hcap,heq⟩]);have h3:=jD1 hx hi;rw[e,← heq];(have e2:x i*p.D i r0 - x i / g i*(g i*p.D i r0)=0:=by (have:x i / g i*(g i*p.D i r0)=(x i / g i*g i)*p.D i r0:=by grind);rw[this,h3];grind);rw[e2,Rat.mul_zero];exact isInt.zero
                · (have e:t i=0:=by simp only[t];rw[if_neg (fun h=>heq h.2)]);have:=(hQ1i i hi (by grind)).mul hDi;rw[e];(have e2:(Q1:Rat)*(x i*p.D i r0 - x i0 / g i0*0)=Q1*x i*p.D i r0:=by grind);rw[e2];exact this
              · (have e0:p.D i r0=0:=by have:=ho.D0 i r0 hi hr0;grind);(have e:t i=0:=by simp only[t];rw[e0];split <;> grind);rw[e,e0];(have e2:(Q1:Rat)*(x i*0 - x i0 / g i0*0)=0:=by grind);rw[e2];exact isInt.zero
          (have hsum:used p x r0=sumN (fun i=>x i*p.D i r0 - x i0 / g i0*t i) p.n+x i0 / g i0*sumN t p.n:=by rw[← jB7,← jHX];unfold used;apply jCi;intro i hi;grind);(have hz:isInt (Q1*(x i0 / g i0*sumN t p.n)):=by (have e:(Q1:Rat)*(x i0 / g i0*sumN t p.n)=Q1*p.P r0 - Q1*sumN (fun i=>x i*p.D i r0 - x i0 / g i0*t i) p.n:=by rw[← hu0,hsum];grind);rw[e];exact ((isInt.nat Q1).mul (hP r0 hr0)).sub hrest);refine ⟨Q1*N,Nat.mul_pos hQ1 hN0,?_,fun i hi hil=>?_⟩
          · rw[Nat.pow_succ];exact Nat.mul_le_mul hQ1b hNB
          · have eQ:((Q1*N:Nat):Rat)=(Q1:Rat)*(N:Rat):=Rat.natCast_mul _ _;rw[eQ];by_cases hcap:x i=p.C i
            · rw[hcap];exact ((isInt.nat Q1).mul (isInt.nat N)).mul (hC i hi)
            · have hle:=hmax' i hi hcap hil;by_cases heq:x i / g i=x i0 / g i0
              · have h3:=jD1 hx hi
                have e:(Q1:Rat)*N*x i=Q1*(x i0 / g i0*sumN t p.n)*(G*g i):=by
                  rw[← hN,← heq]
                  calc (Q1 : Rat) * (G * sumN t p.n) * x i = Q1 * (G * sumN t p.n) * (x i / g i * g i) := by rw [h3]
                    _ = _ := by grind
                rw[e];exact hz.mul (hGg i hi)
              · have:=(hQ1i i hi (by grind)).mul (isInt.nat N);(have e:(Q1:Rat)*N*x i=Q1*x i*N:=by grind);rw[e];exact this
    · refine ⟨1,by omega,pow_pos' hB _,fun i hi hil=>?_⟩;rw[one,Rat.one_mul];by_cases h2:x i=p.C i
      · rw[h2];exact hC i hi
      · exact absurd ⟨i,hi,h2,hil⟩ hN
theorem jLr {p:Prob}{g x:Nat→Rat}(ho:p.Ok)(hg:Rate p g)(hx:FairFill p g x)(hC:∀ i,i<p.n→isInt (p.C i))(hD:∀ i r,i<p.n→r<p.k→isInt (p.D i r))(hP:∀ r,r<p.k→isInt (p.P r))(G M:Nat)(hG:0<G)(hM:0<M)(hGg:∀ i,i<p.n→isInt (G*g i))(hMr:∀ r,r<p.k→sumN (fun i=>p.W i*p.P r) p.n≤M):∃ Q:Nat,0<Q∧Q≤(G*M) ^ p.k∧∀ i,i<p.n→isInt (Q*x i):=by
 obtain ⟨Q,h1,h2,h3⟩:=jIK ho hg hx hC hD hP G M hG hM hGg hMr p.k (sumN (fun i=>x i / g i) p.n+1) (jKz _ _);refine ⟨Q,h1,h2,fun i hi=>h3 i hi ?_⟩;have:=jFN (f:=fun i=>x i / g i) (fun i hi=>jCe hg hx.toBorne hi) hi
 grind
structure St where
  lev:Rat
  rt:Nat→Rat
  ts:Nat→Rat
  lv:Nat→Rat
structure Inv (p:Prob)(g:Nat→Rat)(s:St):Prop where
  lev0:0≤s.lev
  grow:∀ i,i<p.n→s.rt i≠0→s.rt i=g i∧s.ts i=g i*s.lev∧s.lv i=s.lev
  lvs:∀ i,i<p.n→s.ts i=g i*s.lv i∧0≤s.lv i∧s.lv i≤s.lev∧(g i=0→s.lv i=0∧s.rt i=0)
  stop:∀ i,i<p.n→s.rt i=0→s.ts i=p.C i∨∃ r,r<p.k∧0<p.D i r∧used p s.ts r=p.P r∧∀ j,j<p.n→0<p.D j r→s.rt j=0∧s.lv j≤s.lv i
  borne:Borne p s.ts
def tsAt (g:Nat→Rat)(s:St)(l:Rat):Nat→Rat:=fun i=>if s.rt i=0 then s.ts i else g i*l
def lvAt (s:St)(l:Rat):Nat→Rat:=fun i=>if s.rt i=0 then s.lv i else l
theorem Inv.step {p:Prob}{g:Nat→Rat}(ho:p.Ok)(hg:Rate p g){s:St}(h:Inv p g s)(l:Rat)(hl:s.lev≤l)(hb:Borne p (tsAt g s l))(rt':Nat→Rat)(hr0:∀ i,i<p.n→s.rt i=0→rt' i=0)(hr:∀ i,i<p.n→s.rt i≠0→(rt' i=0∧(tsAt g s l i=p.C i∨∃ r,r<p.k∧0<p.D i r∧used p (tsAt g s l) r=p.P r))∨(rt' i=s.rt i∧¬ (tsAt g s l i=p.C i∨∃ r,r<p.k∧0<p.D i r∧used p (tsAt g s l) r=p.P r))):Inv p g ⟨l,rt',tsAt g s l,lvAt s l⟩:=by
 refine ⟨by have:=h.lev0;grind,?_,?_,?_,hb⟩
 ·intro i hi hne;show rt' i=g i∧tsAt g s l i=g i*l∧lvAt s l i=l;(have h0:s.rt i≠0:=fun e=>hne (hr0 i hi e));rcases hr i hi h0 with ⟨e,_⟩ | ⟨e,_⟩
  ·exact absurd e hne
  ·refine ⟨by rw[e];exact (h.grow i hi h0).1,?_,?_⟩
   ·unfold tsAt;rw[if_neg h0]
   ·unfold lvAt;rw[if_neg h0]
 ·intro i hi;show tsAt g s l i=g i*lvAt s l i∧0≤lvAt s l i∧lvAt s l i≤l∧(g i=0→lvAt s l i=0∧rt' i=0);obtain ⟨h1,h2,h3,h4⟩:=h.lvs i hi;have h5:=h.lev0;by_cases e:s.rt i=0
  ·unfold tsAt lvAt;rw[if_pos e,if_pos e];exact ⟨h1,h2,by grind,fun h0=>⟨(h4 h0).1,hr0 i hi e⟩⟩
  ·unfold tsAt lvAt;rw[if_neg e,if_neg e];exact ⟨rfl,by grind,Rat.le_refl,fun h0=>absurd (h4 h0).2 e⟩
 ·intro i hi e;show tsAt g s l i=p.C i∨∃ r,r<p.k∧0<p.D i r∧used p (tsAt g s l) r=p.P r∧∀ j,j<p.n→0<p.D j r→rt' j=0∧lvAt s l j≤lvAt s l i;by_cases e0:s.rt i=0
  ·rcases h.stop i hi e0 with h1 | ⟨r,hrk,hD,hu,hj⟩
   ·left;unfold tsAt;rw[if_pos e0];exact h1
   ·right;refine ⟨r,hrk,hD,?_,?_⟩
    ·rw[← hu];apply jCi;intro j hjn;show tsAt g s l j*p.D j r=s.ts j*p.D j r;by_cases hDj:0<p.D j r
     ·unfold tsAt;rw[if_pos (hj j hjn hDj).1]
     ·(have:p.D j r=0:=by have:=ho.D0 j r hjn hrk;grind);rw[this,Rat.mul_zero,Rat.mul_zero]
    ·intro j hjn hDj;obtain ⟨h1,h2⟩:=hj j hjn hDj;refine ⟨hr0 j hjn h1,?_⟩;unfold lvAt;rw[if_pos h1,if_pos e0];exact h2
  ·rcases hr i hi e0 with ⟨_,h1⟩ | ⟨h1,_⟩
   ·rcases h1 with h1 | ⟨r,hrk,hD,hu⟩
    ·left;exact h1
    ·right;refine ⟨r,hrk,hD,hu,fun j hjn hDj=>?_⟩;(have hl':lvAt s l i=l:=by unfold lvAt;rw[if_neg e0]);rw[hl'];by_cases ej:s.rt j=0
     ·refine ⟨hr0 j hjn ej,?_⟩;unfold lvAt;rw[if_pos ej];have:=(h.lvs j hjn).2.2.1;grind
     ·refine ⟨?_,by unfold lvAt;rw[if_neg ej];exact Rat.le_refl⟩;rcases hr j hjn ej with ⟨e2,_⟩ | ⟨_,h2⟩
      ·exact e2
      ·exact absurd (Or.inr ⟨r,hrk,hDj,hu⟩) h2
   ·have e':rt' i=0:=e;rw[e'] at h1;exact absurd h1.symm e0
theorem Inv.first {p:Prob}{g:Nat→Rat}(ho:p.Ok)(hg:Rate p g)(rt:Nat→Rat)(h:∀ i,i<p.n→rt i=g i∨(rt i=0∧p.C i=0)):Inv p g ⟨0,rt,fun _=>0,fun _=>0⟩:=by
  (have hu:∀ r,used p (fun _=>0) r=0:=fun r=>jEC (fun i _=>by grind));refine ⟨Rat.le_refl,?_,?_,?_,?_⟩
  · intro i hi hne;show rt i=g i∧(0:Rat)=g i*0∧(0:Rat)=0;rcases h i hi with e | e
    · exact ⟨e,by grind,rfl⟩
    · exact absurd e.1 hne
  · intro i hi;refine ⟨by show (0:Rat)=g i*0;grind,Rat.le_refl,Rat.le_refl,fun h0=>⟨rfl,?_⟩⟩;show rt i=0;rcases h i hi with e | e
    · rw[e];exact h0
    · exact e.1
  · intro i hi e;show (0:Rat)=p.C i∨∃ r,r<p.k∧0<p.D i r∧used p (fun _=>0) r=p.P r∧∀ j,j<p.n→0<p.D j r→rt j=0∧(0:Rat)≤0;have e':rt i=0:=e;rcases h i hi with h1 | h1
    · right;(have hg0:g i=0:=by rw[← h1];exact e');obtain ⟨r,hr,hD,he⟩:=hg.eq i hi;rw[hg0] at he;have hW:=ho.W0 i hi
      have hP:p.P r=0:=by
        by_cases e5:p.P r=0
        · exact e5
        · have:=Rat.mul_pos hW (show 0<p.P r by have:=ho.P0 r hr;grind);grind
      refine ⟨r,hr,hD,by rw[hu,hP],fun j hj hDj=>⟨?_,Rat.le_refl⟩⟩;have:=jFe ho hg hj hr hDj hP;rcases h j hj with e5 | e5
      · rw[e5];exact this
      · exact e5.1
    · left;exact h1.2.symm
  · exact ⟨fun i hi => Rat.le_refl, fun i hi => ho.C0 i hi, fun r hr => by
      show used p (fun _ => 0) r ≤ p.P r
      rw [hu]; exact ho.P0 r hr⟩
theorem Inv.last {p:Prob}{g:Nat→Rat}{s:St}(hg:Rate p g)(h:Inv p g s)(hz:∀ i,i<p.n→s.rt i=0):FairFill p g s.ts∧∀ i,i<p.n→s.lv i=s.ts i / g i:=by
 have hlv:∀ i,i<p.n→s.lv i=s.ts i / g i:=fun i hi=>by
  obtain ⟨h1,h2,h3,h4⟩:=h.lvs i hi;by_cases e:g i=0
  ·rw[(h4 e).1,h1,e,Rat.div_def];grind
  ·rw[h1];grind
 refine ⟨⟨h.borne,fun i hi e=>?_,fun i hi=>?_⟩,hlv⟩
 ·rw[(h.lvs i hi).1,e];grind
 ·rcases h.stop i hi (hz i hi) with h1 | ⟨r,hr,hD,hu,hj⟩
  ·left;exact h1
  ·right;refine ⟨r,hr,hD,hu,fun j hjn hDj=>?_⟩;rw[← hlv j hjn,← hlv i hi];exact (hj j hjn hDj).2
theorem jJb {p:Prob}{g:Nat→Rat}{s:St}(h:Inv p g s)(d:Rat)(r:Nat):used p (tsAt g s (s.lev+d)) r=used p s.ts r+d*used p s.rt r:=by
 unfold used;rw[← jB7,← jHX];apply jCi;intro i hi;show tsAt g s (s.lev+d) i*p.D i r=s.ts i*p.D i r+d*(s.rt i*p.D i r);unfold tsAt;by_cases e:s.rt i=0
 ·rw[if_pos e,e];grind
 ·rw[if_neg e];obtain ⟨h1,h2,h3⟩:=h.grow i hi e;rw[h1,h2];grind
theorem jJ1 {p:Prob}{g:Nat→Rat}{s:St}(h:Inv p g s)(d:Rat){i:Nat}(hi:i<p.n):tsAt g s (s.lev+d) i=s.ts i+s.rt i*d:=by
 unfold tsAt;by_cases e:s.rt i=0
 ·rw[if_pos e,e];grind
 ·rw[if_neg e];obtain ⟨h1,h2,h3⟩:=h.grow i hi e;rw[h1,h2];grind
theorem jCV {p:Prob}{g:Nat→Rat}(hg:Rate p g){s:St}(h:Inv p g s){i:Nat}(hi:i<p.n):0≤s.rt i:=by
 by_cases e:s.rt i=0
 ·rw[e];exact Rat.le_refl
 ·rw[(h.grow i hi e).1];exact hg.pos i hi
theorem jCO {p:Prob} {g:Nat→Rat} (ho:p.Ok) (hg:Rate p g) {s:St} (h:Inv p g s) {r:Nat} (hr:r<p.k):0≤used p s.rt r:=
  jEk (fun i hi=>Rat.mul_nonneg (jCV hg h hi) (ho.D0 i r hi hr))
structure Least (p:Prob)(s:St)(d:Rat):Prop where
  caps:∀ i,i<p.n→s.rt i≠0→d*s.rt i≤p.C i - s.ts i
  kinds:∀ r,r<p.k→used p s.rt r≠0→d*used p s.rt r≤p.P r - used p s.ts r
  some:(∃ i,i<p.n∧s.rt i≠0∧d*s.rt i=p.C i - s.ts i)∨(∃ r,r<p.k∧used p s.rt r≠0∧d*used p s.rt r=p.P r - used p s.ts r)
theorem Least.pos {p:Prob}{g:Nat→Rat}(ho:p.Ok)(hg:Rate p g){s:St}(h:Inv p g s){d:Rat}(hd:Least p s d):0≤d:=by
 rcases hd.some with ⟨i,hi,hne,he⟩ | ⟨r,hr,hne,he⟩
 ·have h1:=jCV hg h hi;have h2:=h.borne.cap i hi;apply jB3 (c:=s.rt i) _ (by grind)
  grind
 ·have h1:=jCO ho hg h hr;have h2:=h.borne.pool r hr;apply jB3 (c:=used p s.rt r) _ (by grind)
  grind
theorem Least.borne {p:Prob}{g:Nat→Rat}(ho:p.Ok)(hg:Rate p g){s:St}(h:Inv p g s){d:Rat}(hd:Least p s d):Borne p (tsAt g s (s.lev+d)):=by
 have h0:=hd.pos ho hg h;refine ⟨fun i hi=>?_,fun i hi=>?_,fun r hr=>?_⟩
 ·rw[jJ1 h d hi];have h1:=h.borne.low i hi;have h2:=Rat.mul_nonneg (jCV hg h hi) h0
  grind
 ·rw[jJ1 h d hi];by_cases e:s.rt i=0
  ·rw[e];have:=h.borne.cap i hi;grind
  ·have:=hd.caps i hi e;grind
 ·rw[jJb h d r];by_cases e:used p s.rt r=0
  ·rw[e];have:=h.borne.pool r hr;grind
  ·have:=hd.kinds r hr e;grind
theorem Least.stops {p:Prob}{g:Nat→Rat}(ho:p.Ok){s:St}(h:Inv p g s){d:Rat}(hd:Least p s d):∃ i,i<p.n∧s.rt i≠0∧(tsAt g s (s.lev+d) i=p.C i∨∃ r,r<p.k∧0<p.D i r∧used p (tsAt g s (s.lev+d)) r=p.P r):=by
 rcases hd.some with ⟨i,hi,hne,he⟩ | ⟨r,hr,hne,he⟩
 ·refine ⟨i,hi,hne,Or.inl ?_⟩;rw[jJ1 h d hi];grind
 ·(have:∃ i,i<p.n∧s.rt i*p.D i r≠0:=by apply Classical.byContradiction;intro hn;apply hne;apply jEC;intro i hi;apply Classical.byContradiction;intro h5;exact hn ⟨i,hi,h5⟩);obtain ⟨i,hi,h5⟩:=this;(have h6:s.rt i≠0:=fun e=>h5 (by rw[e,Rat.zero_mul]));(have h7:p.D i r≠0:=fun e=>h5 (by rw[e,Rat.mul_zero]));refine ⟨i,hi,h6,Or.inr ⟨r,hr,by have:=ho.D0 i r hi hr;grind,?_⟩⟩;rw[jJb h d r];grind
def rq (l:List Rat)(i:Nat):Rat:=l.getD i 0
def leastN (l:List Rat):Nat→Rat
  | 0=>rq l 0
  | m+1=>if rq l m<leastN l m then rq l m else leastN l m
def leastL (l:List Rat):Rat:=leastN l l.length
theorem jIc (l:List Rat)(m:Nat):∀ i,i<m→leastN l m≤rq l i:=by
 induction m with
 | zero=>intro i hi;omega
 | succ m ih=>
  intro i hi;simp only[leastN];by_cases e:i=m
  ·subst e;split <;> grind
  ·have:=ih i (by omega);split <;> grind
theorem jH5 (l:List Rat)(m:Nat)(hm:m≤l.length)(h0:0<l.length):∃ i,i<l.length∧leastN l m=rq l i:=by
 induction m with
 | zero=>exact ⟨0,h0,rfl⟩
 | succ m ih=>
  simp only[leastN];split
  ·exact ⟨m,by omega,rfl⟩
  ·exact ih (by omega)
theorem jHB {l:List Rat}{i:Nat}(h:i<l.length):rq l i∈l:=by
 unfold rq;rw[List.getD_eq_getElem?_getD,List.getElem?_eq_getElem h];exact List.getElem_mem h
theorem jMA {l:List Rat}{v:Rat}(h:v∈l):∃ i,i<l.length∧rq l i=v:=by
 obtain ⟨i,hi,e⟩:=List.getElem_of_mem h;refine ⟨i,hi,?_⟩;unfold rq;rw[List.getD_eq_getElem?_getD,List.getElem?_eq_getElem hi];exact e
theorem jEY {l:List Rat}{v:Rat}(h:v∈l):leastL l≤v:=by
 obtain ⟨i,hi,e⟩:=jMA h;rw[← e];exact jIc l _ i hi
theorem jEr {l:List Rat}(h:l≠[]):leastL l∈l:=by
 have h0:0<l.length:=List.length_pos_iff.2 h;obtain ⟨i,hi,e⟩:=jH5 l l.length (Nat.le_refl _) h0;unfold leastL;rw[e];exact jHB hi
def stU (p:Prob)(s:St):Nat→List Rat
  | 0=>[]
  | i+1=>if s.rt i=0 then stU p s i else stU p s i ++ [(p.C i - s.ts i) / s.rt i]
def stK (p:Prob)(s:St)(l:List Rat):Nat→List Rat
  | 0=>l
  | r+1=>if used p s.rt r=0 then stK p s l r else stK p s l r ++ [(p.P r - used p s.ts r) / used p s.rt r]
def stepsL (p:Prob)(s:St):List Rat:=stK p s (stU p s p.n) p.k
theorem jGb {p:Prob}{s:St}{v:Rat}:∀ n,v∈stU p s n↔∃ i,i<n∧s.rt i≠0∧v=(p.C i - s.ts i) / s.rt i:=by
 intro n
 induction n with
 | zero=>simp[stU]
 | succ n ih=>
  simp only[stU];split
  ·rename_i e;rw[ih];constructor
   ·rintro ⟨i,h1,h2⟩;exact ⟨i,by omega,h2⟩
   ·rintro ⟨i,h1,h2,h3⟩;by_cases e2:i=n
    ·subst e2;exact absurd e h2
    ·exact ⟨i,by omega,h2,h3⟩
  ·rename_i e;rw[List.mem_append,ih,List.mem_singleton];constructor
   ·rintro (⟨i,h1,h2⟩ | h)
    ·exact ⟨i,by omega,h2⟩
    ·exact ⟨n,by omega,e,h⟩
   ·rintro ⟨i,h1,h2,h3⟩;by_cases e2:i=n
    ·subst e2;exact Or.inr h3
    ·exact Or.inl ⟨i,by omega,h2,h3⟩
theorem jFV {p:Prob}{s:St}{l:List Rat}{v:Rat}:∀ n,v∈stK p s l n↔v∈l∨∃ r,r<n∧used p s.rt r≠0∧v=(p.P r - used p s.ts r) / used p s.rt r:=by
 intro n
 induction n with
 | zero=>simp[stK]
 | succ n ih=>
  simp only[stK];split
  ·rename_i e;rw[ih];constructor
   ·rintro (h | ⟨i,h1,h2⟩)
    ·exact Or.inl h
    ·exact Or.inr ⟨i,by omega,h2⟩
   ·rintro (h | ⟨i,h1,h2,h3⟩)
    ·exact Or.inl h
    ·by_cases e2:i=n
     ·subst e2;exact absurd e h2
     ·exact Or.inr ⟨i,by omega,h2,h3⟩
  ·rename_i e;rw[List.mem_append,ih,List.mem_singleton];constructor
   ·rintro ((h | ⟨i,h1,h2⟩) | h)
    ·exact Or.inl h
    ·exact Or.inr ⟨i,by omega,h2⟩
    ·exact Or.inr ⟨n,by omega,e,h⟩
   ·rintro (h | ⟨i,h1,h2,h3⟩)
    ·exact Or.inl (Or.inl h)
    ·by_cases e2:i=n
     ·subst e2;exact Or.inr h3
     ·exact Or.inl (Or.inr ⟨i,by omega,h2,h3⟩)
theorem jJK {p:Prob}{s:St}(h:stepsL p s = []):∀ i,i<p.n→s.rt i=0:=by
 intro i hi;apply Classical.byContradiction;intro e;have:(p.C i - s.ts i) / s.rt i∈stepsL p s:=(jFV _).2 (Or.inl ((jGb _).2 ⟨i,hi,e,rfl⟩));rw[h] at this;cases this
theorem jCC {p:Prob}{g:Nat→Rat}(ho:p.Ok)(hg:Rate p g){s:St}(h:Inv p g s)(hne:stepsL p s≠[]):Least p s (leastL (stepsL p s)):=by
 refine ⟨fun i hi e=>?_,fun r hr e=>?_,?_⟩
 ·have h1:=jEY (l:=stepsL p s) ((jFV _).2 (Or.inl ((jGb _).2 ⟨i,hi,e,rfl⟩)));have h2:=jBU h1 (jCV hg h hi)
  rwa [jCw e] at h2
 ·have h1:=jEY (l:=stepsL p s) ((jFV _).2 (Or.inr ⟨r,hr,e,rfl⟩));have h2:=jBU h1 (jCO ho hg h hr)
  rwa [jCw e] at h2
 ·have h1:=jEr hne;rcases (jFV _).1 h1 with h2 | ⟨r,hr,e,he⟩
  ·obtain ⟨i,hi,e,he⟩:=(jGb _).1 h2;left;exact ⟨i,hi,e,by rw[he,jCw e]⟩
  ·right;exact ⟨r,hr,e,by rw[he,jCw e]⟩
def upTs (s:St)(d:Rat):Nat→Rat:=fun i=>if s.rt i=0 then s.ts i else s.ts i+s.rt i*d
def upLv (s:St)(d:Rat):Nat→Rat:=fun i=>if s.rt i=0 then s.lv i else s.lev+d
def stopsB (p:Prob)(ts:Nat→Rat)(i:Nat):Prop:=ts i=p.C i∨∃ r,r<p.k∧0<p.D i r∧used p ts r=p.P r
open Classical in
noncomputable def upRt (p:Prob)(s:St)(d:Rat):Nat→Rat:=fun i=>if stopsB p (upTs s d) i then 0 else s.rt i
open Classical in
noncomputable def riseS (p:Prob)(s:St):St:=
  if stepsL p s = [] then s else ⟨s.lev+leastL (stepsL p s),upRt p s (leastL (stepsL p s)),upTs s (leastL (stepsL p s)),upLv s (leastL (stepsL p s))⟩
theorem jCn {p:Prob}{x y:Nat→Rat}(h:∀ i,i<p.n→x i=y i)(r:Nat):used p x r=used p y r:=jCi (fun i hi=>by rw[h i hi])
theorem Inv.congr {p:Prob}{g:Nat→Rat}{s t:St}(h:Inv p g s)(hl:t.lev=s.lev)(h1:∀ i,i<p.n→t.rt i=s.rt i)(h2:∀ i,i<p.n→t.ts i=s.ts i)(h3:∀ i,i<p.n→t.lv i=s.lv i):Inv p g t:=by
 refine ⟨by rw[hl];exact h.lev0,fun i hi=>?_,fun i hi=>?_,fun i hi=>?_,⟨fun i hi=>?_,fun i hi=>?_,fun r hr=>?_⟩⟩
 ·rw[h1 i hi,h2 i hi,h3 i hi,hl];exact h.grow i hi
 ·rw[h1 i hi,h2 i hi,h3 i hi,hl];exact h.lvs i hi
 ·rw[h1 i hi,h2 i hi,h3 i hi];intro e;rcases h.stop i hi e with h5 | ⟨r,hr,hD,hu,hj⟩
  ·left;exact h5
  ·right;refine ⟨r,hr,hD,by rw[jCn h2];exact hu,fun j hjn hDj=>?_⟩;rw[h1 j hjn,h3 j hjn];exact hj j hjn hDj
 ·rw[h2 i hi];exact h.borne.low i hi
 ·rw[h2 i hi];exact h.borne.cap i hi
 ·rw[jCn h2];exact h.borne.pool r hr
theorem jDo {p:Prob}{x y:Nat→Rat}(h:∀ i,i<p.n→x i=y i){i:Nat}(hi:i<p.n):stopsB p x i↔stopsB p y i:=by
 unfold stopsB;rw[h i hi];constructor
 ·rintro (h1 | ⟨r,h2,h3,h4⟩)
  ·exact Or.inl h1
  ·exact Or.inr ⟨r,h2,h3,by rw[← jCn h];exact h4⟩
 ·rintro (h1 | ⟨r,h2,h3,h4⟩)
  ·exact Or.inl h1
  ·exact Or.inr ⟨r,h2,h3,by rw[jCn h];exact h4⟩
theorem jLa {p:Prob}{g:Nat→Rat}{s:St}(h:Inv p g s)(d:Rat):∀ i,i<p.n→upTs s d i=tsAt g s (s.lev+d) i:=by
 intro i hi;rw[jJ1 h d hi];unfold upTs;split
 ·rename_i e;rw[e];grind
 ·rfl
theorem jHE {p:Prob}{g:Nat→Rat}(ho:p.Ok)(hg:Rate p g){s:St}(h:Inv p g s):Inv p g (riseS p s):=by
  classical
  unfold riseS;split
  · exact h
  · rename_i hne;have hd:=jCC ho hg h hne;generalize leastL (stepsL p s)=d at hd;have h0:=hd.pos ho hg h
    have hst := h.step ho hg (s.lev + d) (by grind) (hd.borne ho hg h) (upRt p s d)
      (fun i hi e => by unfold upRt; split; rfl; exact e)
      (fun i hi e => by
        have hc := jDo (jLa h d) hi
        unfold upRt
        by_cases e2 : stopsB p (upTs s d) i
        · left; exact ⟨if_pos e2, hc.1 e2⟩
        · right; exact ⟨if_neg e2, fun h5 => e2 (hc.2 h5)⟩)
    exact hst.congr rfl (fun i hi=>rfl) (jLa h d) (fun i hi=>rfl)
theorem jKZ {p:Prob}{g:Nat→Rat}(ho:p.Ok)(hg:Rate p g){s:St}(h:Inv p g s):(∀ i,i<p.n→(riseS p s).rt i=0)∨cnt (fun i=>(riseS p s).rt i≠0) p.n<cnt (fun i=>s.rt i≠0) p.n:=by
 classical
 by_cases hne:stepsL p s = []
 ·left;unfold riseS;rw[if_pos hne];exact jJK hne
 ·right;(have e:(riseS p s).rt=upRt p s (leastL (stepsL p s)):=by unfold riseS;rw[if_neg hne]);rw[e];have hd:=jCC ho hg h hne;generalize leastL (stepsL p s)=d at hd;obtain ⟨i,hi,h1,h2⟩:=hd.stops ho h;apply jHa (r0:=i) _ hi h1
  ·intro h5;apply h5;have hc:=jDo (jLa h d) hi;unfold upRt;exact if_pos (hc.2 h2)
  ·intro j h5 h6;apply h5;unfold upRt;split
   ·rfl
   ·exact h6
noncomputable def risesN (p:Prob)(s:St):Nat→St
  | 0=>s
  | m+1=>riseS p (risesN p s m)
theorem jCR {p:Prob}{g:Nat→Rat}(ho:p.Ok)(hg:Rate p g){s:St}(h:Inv p g s):∀ m,Inv p g (risesN p s m):=by
 intro m
 induction m with
 | zero=>exact h
 | succ m ih=>exact jHE ho hg ih
theorem jKX {S:Nat→Prop}{k:Nat}(h:cnt S k=0):∀ i,i<k→¬ S i:=by
 intro i hi hs;have:=jHa (S:=fun _=>False) (T:=S) (fun r h=>h.elim) hi hs (fun h=>h);omega
theorem jJh {p:Prob}{g:Nat→Rat}(ho:p.Ok)(hg:Rate p g){s:St}(h:Inv p g s):∀ m,cnt (fun i=>(risesN p s m).rt i≠0) p.n≤p.n - m:=by
 intro m
 induction m with
 | zero=>exact jKz _ _
 | succ m ih=>
  rcases jKZ ho hg (jCR ho hg h m) with h1 | h1
  ·have:∀ k,k≤p.n→cnt (fun i=>(risesN p s (m+1)).rt i≠0) k=0:=by
    intro k hk
    induction k with
    | zero=>rfl
    | succ k ihk=>simp only[cnt];rw[ihk (by omega),if_neg (fun h5=>h5 (h1 k (by omega)))]
   rw[this p.n (Nat.le_refl _)];omega
  ·show cnt (fun i=>(riseS p (risesN p s m)).rt i≠0) p.n≤p.n - (m+1);omega
theorem jIf {p:Prob}{g:Nat→Rat}(ho:p.Ok)(hg:Rate p g){s:St}(h:Inv p g s):∀ i,i<p.n→(risesN p s p.n).rt i=0:=by
 intro i hi;have h1:=jJh ho hg h p.n;have:=jKX (k:=p.n) (S:=fun i=>(risesN p s p.n).rt i≠0) (by omega) i hi;exact Classical.byContradiction this
structure Dens (p:Prob)(s:St)(Q:Nat):Prop where
  ts:∀ i,i<p.n→isInt (Q*s.ts i)
  lv:∀ i,i<p.n→isInt (Q*s.lv i)
  lev:isInt (Q*s.lev)
theorem Dens.rise {p:Prob}{g:Nat→Rat}(ho:p.Ok)(hg:Rate p g){s:St}(h:Inv p g s)(hC:∀ i,i<p.n→isInt (p.C i))(hD:∀ i r,i<p.n→r<p.k→isInt (p.D i r))(hP:∀ r,r<p.k→isInt (p.P r))(G M:Nat)(hG:0<G)(hGg:∀ i,i<p.n→isInt (G*g i))(hMr:∀ r,r<p.k→sumN (fun i=>p.W i*p.P r) p.n≤M)(hgM:∀ i,i<p.n→g i≤M){Q:Nat}(hQ:Dens p s Q)(hQ0:0<Q)(hM:0<M):∃ N:Nat,0<N∧N≤G*M∧Dens p (riseS p s) (Q*N):=by
  classical
  (have hGr:(0:Rat)<(G:Rat):=by exact_mod_cast hG);have hB:0<G*M:=Nat.mul_pos hG hM;unfold riseS;split
  · refine ⟨1,by omega,hB,?_⟩;rw[Nat.mul_one];exact hQ
  · rename_i hne;have hd:=jCC ho hg h hne;generalize leastL (stepsL p s)=d at hd
    have hrt:∀ i,i<p.n→isInt (G*s.rt i):=fun i hi=>by
      by_cases e:s.rt i=0
      · rw[e,Rat.mul_zero];exact isInt.zero
      · rw[(h.grow i hi e).1];exact hGg i hi
    have key:∃ N:Nat,0<N∧N≤G*M∧∃ z:Rat,isInt z∧d*(Q*N)=z*G:=by
      rcases hd.some with ⟨i,hi,hne,he⟩ | ⟨r,hr,hne,he⟩
      · have h1:=jCV hg h hi;obtain ⟨N,hN⟩:=(hrt i hi).toNat (Rat.mul_nonneg (by grind) h1);have hNp:=Rat.mul_pos hGr (show 0<s.rt i by grind);refine ⟨N,?_,?_,Q*(p.C i - s.ts i),?_,?_⟩
        · apply Nat.pos_of_ne_zero;intro e;rw[e] at hN;have z:((0:Nat):Rat)=0:=rfl
          grind
        · (have h3:s.rt i≤M:=by rw[(h.grow i hi hne).1];exact hgM i hi);have h4:=jA1 h3 (show (0:Rat)≤G by grind);rw[hN] at h4;have h5:((G*M:Nat):Rat)=(G:Rat)*(M:Rat):=Rat.natCast_mul _ _;rw[← h5] at h4;exact Rat.natCast_le_natCast.1 h4
        · (have e:(Q:Rat)*(p.C i - s.ts i)=Q*p.C i - Q*s.ts i:=by grind);rw[e];exact ((isInt.nat Q).mul (hC i hi)).sub (hQ.ts i hi)
        · rw[← hN]
          calc d * (Q * (G * s.rt i)) = Q * (d * s.rt i) * G := by grind
            _ = _ := by rw [he]
      · have h1:=jCO ho hg h hr;(have hNint:isInt (G*used p s.rt r):=by unfold used;rw[← jB7];apply isInt.sum;intro i hi;have:=(hrt i hi).mul (hD i r hi hr);(have e:(G:Rat)*(s.rt i*p.D i r)=G*s.rt i*p.D i r:=by grind);rw[e];exact this);obtain ⟨N,hN⟩:=hNint.toNat (Rat.mul_nonneg (by grind) h1);have hNp:=Rat.mul_pos hGr (show 0<used p s.rt r by grind);refine ⟨N,?_,?_,Q*(p.P r - used p s.ts r),?_,?_⟩
        · apply Nat.pos_of_ne_zero;intro e;rw[e] at hN;have z:((0:Nat):Rat)=0:=rfl
          grind
        · have h3:used p s.rt r≤M:=by
            refine Rat.le_trans ?_ (hMr r hr);apply jFY;intro i hi;have hWP:0≤p.W i*p.P r:=Rat.mul_nonneg (by have:=ho.W0 i hi;grind) (ho.P0 r hr);by_cases e:s.rt i=0
            · rw[e];grind
            · rw[(h.grow i hi e).1];by_cases e2:0<p.D i r
              · exact hg.le i r hi hr e2
              · (have:p.D i r=0:=by have:=ho.D0 i r hi hr;grind);rw[this];grind
          have h4:=jA1 h3 (show (0:Rat)≤G by grind);rw[hN] at h4;have h5:((G*M:Nat):Rat)=(G:Rat)*(M:Rat):=Rat.natCast_mul _ _;rw[← h5] at h4;exact Rat.natCast_le_natCast.1 h4
        · (have e:(Q:Rat)*(p.P r - used p s.ts r)=Q*p.P r - Q*used p s.ts r:=by grind);rw[e];refine ((isInt.nat Q).mul (hP r hr)).sub ?_;unfold used;rw[← jB7];apply isInt.sum;intro i hi;have:=(hQ.ts i hi).mul (hD i r hi hr);(have e:(Q:Rat)*(s.ts i*p.D i r)=Q*s.ts i*p.D i r:=by grind);rw[e];exact this
        · rw[← hN]
          calc d * (Q * (G * used p s.rt r)) = Q * (d * used p s.rt r) * G := by grind
            _ = _ := by rw [he]
    obtain ⟨N,hN0,hNB,z,hz,he⟩:=key;have eQ:((Q*N:Nat):Rat)=(Q:Rat)*(N:Rat):=Rat.natCast_mul _ _;(have hlev:isInt (((Q*N:Nat):Rat)*(s.lev+d)):=by rw[eQ];(have e:(Q:Rat)*N*(s.lev+d)=Q*s.lev*N+z*G:=by rw[← he];grind);rw[e];exact (hQ.lev.mul (isInt.nat N)).add (hz.mul (isInt.nat G)));refine ⟨N,hN0,hNB,?_,?_,hlev⟩
    · intro i hi;show isInt (((Q*N:Nat):Rat)*upTs s d i);rw[eQ];unfold upTs;split
      · (have e:(Q:Rat)*N*s.ts i=Q*s.ts i*N:=by grind);rw[e];exact (hQ.ts i hi).mul (isInt.nat N)
      · (have e:(Q:Rat)*N*(s.ts i+s.rt i*d)=Q*s.ts i*N+z*(G*s.rt i):=by (have:(Q:Rat)*N*(s.rt i*d)=d*(Q*N)*s.rt i:=by grind);rw[Rat.mul_add,this,he];grind);rw[e];exact ((hQ.ts i hi).mul (isInt.nat N)).add (hz.mul (hrt i hi))
    · intro i hi;show isInt (((Q*N:Nat):Rat)*upLv s d i);unfold upLv;split
      · rw[eQ];(have e:(Q:Rat)*N*s.lv i=Q*s.lv i*N:=by grind);rw[e];exact (hQ.lv i hi).mul (isInt.nat N)
      · exact hlev
theorem jFi {p:Prob}{g:Nat→Rat}(ho:p.Ok)(hg:Rate p g)(hW:∀ i,i<p.n→1≤p.W i){s:St}(h:Inv p g s){i:Nat}(hi:i<p.n):s.lv i≤1:=by
  obtain ⟨h1,h2,h3,h4⟩:=h.lvs i hi;by_cases e:g i=0
  · rw[(h4 e).1];decide
  · obtain ⟨r,hr,hD,he⟩:=hg.eq i hi;have hW1:=hW i hi
    have hP:0<p.P r:=by
      by_cases e2:p.P r=0
      · exact absurd (jFe ho hg hi hr hD e2) e
      · have:=ho.P0 r hr;grind
    have h5:=h.borne.pool r hr;have h6:=jFN (f:=fun i=>s.ts i*p.D i r) (n:=p.n) (fun j hj=>Rat.mul_nonneg (h.borne.low j hj) (ho.D0 j r hj hr)) hi;have h7:s.ts i*p.D i r≤p.P r:=Rat.le_trans h6 h5;rw[h1] at h7
    have h8:g i*s.lv i*p.D i r=s.lv i*p.W i*p.P r:=by
      calc _ = s.lv i * (g i * p.D i r) := by grind
        _ = _ := by rw [he]; grind
    rw[h8] at h7;have h9:s.lv i*p.W i≤1:=jB3 (c:=p.P r) (by grind) hP;have h10:=jA1 hW1 h2
    grind
theorem jJS {p:Prob}{g:Nat→Rat}(ho:p.Ok)(hg:Rate p g)(hW:∀ i,i<p.n→1≤p.W i){s:St}(h:Inv p g s)(h1:s.lev≤1):(riseS p s).lev≤1:=by
 classical
 have hi:=jHE ho hg h;by_cases hne:stepsL p s = []
 ·unfold riseS;rw[if_pos hne];exact h1
 ·have hd:=jCC ho hg h hne;obtain ⟨i,hin,h2,h3⟩:=hd.stops ho h;have:=jFi ho hg hW hi hin;(have e:(riseS p s).lv i=(riseS p s).lev:=by unfold riseS;rw[if_neg hne];show upLv s _ i=_;unfold upLv;rw[if_neg h2]);rw[e] at this;exact this
theorem jH8 {p:Prob}{g:Nat→Rat}(ho:p.Ok)(hg:Rate p g)(hW:∀ i,i<p.n→1≤p.W i)(hC:∀ i,i<p.n→isInt (p.C i))(hD:∀ i r,i<p.n→r<p.k→isInt (p.D i r))(hP:∀ r,r<p.k→isInt (p.P r))(G M:Nat)(hG:0<G)(hGg:∀ i,i<p.n→isInt (G*g i))(hMr:∀ r,r<p.k→sumN (fun i=>p.W i*p.P r) p.n≤M)(hgM:∀ i,i<p.n→g i≤M)(hM:0<M){s:St}(h:Inv p g s)(hl:s.lev≤1)(h1:Dens p s 1):∀ m,(risesN p s m).lev≤1∧∃ Q:Nat,0<Q∧Q≤(G*M) ^ m∧Dens p (risesN p s m) Q:=by
 intro m
 induction m with
 | zero=>exact ⟨hl,1,by omega,by simp,h1⟩
 | succ m ih=>obtain ⟨hl',Q,hQ0,hQ,hd⟩:=ih;obtain ⟨N,hN0,hN,hd'⟩:=hd.rise ho hg (jCR ho hg h m) hC hD hP G M hG hGg hMr hgM hQ0 hM;refine ⟨jJS ho hg hW (jCR ho hg h m) hl',Q*N,Nat.mul_pos hQ0 hN0,?_,hd'⟩;rw[Nat.pow_succ];exact Nat.mul_le_mul hQ hN
def sumT (f:Nat→Nat):Nat→Nat
  | 0=>0
  | n+1=>sumT f n+f n
structure NProb where
  n:Nat
  k:Nat
  P:Nat→Nat
  D:Nat→Nat→Nat
  W:Nat→Nat
  C:Nat→Nat
structure RS where
  still:Nat→Bool
  hv:Nat→Nat
  q:Nat
def pullT (a:NProb)(gr:Nat→Nat)(R:RS)(r:Nat):Nat:=sumT (fun i=>if R.still i then a.D i r*gr i else 0) a.n
def leftT (a:NProb)(R:RS)(r:Nat):Nat→Nat
  | 0=>a.P r*R.q
  | m+1=>if R.still m then leftT a R r m else leftT a R r m - a.D m r*R.hv m
def lft (a:NProb)(R:RS)(r:Nat):Nat:=leftT a R r a.n
def nextK (a:NProb)(gr:Nat→Nat)(R:RS):Nat→Nat×Nat×Bool
  | 0=>(0,0,false)
  | r+1=>let x:=nextK a gr R r
             if pullT a gr R r=0 then x else if x.2.1=0∨lft a R r*x.2.1<x.1*pullT a gr R r then (lft a R r,pullT a gr R r,true) else x
def nextU (a:NProb)(gr:Nat→Nat)(R:RS)(x0:Nat×Nat×Bool):Nat→Nat×Nat×Bool
  | 0=>x0
  | i+1=>let x:=nextU a gr R x0 i
             if R.still i then (if a.C i*R.q*x.2.1<x.1*gr i then (a.C i*R.q,gr i,false) else x) else x
def nextT (a:NProb)(gr:Nat→Nat)(R:RS):Nat×Nat×Bool:=nextU a gr R (nextK a gr R a.k) a.n
def stopT (a:NProb)(gr:Nat→Nat)(R:RS)(n s:Nat)(i:Nat):Prop:=a.C i*R.q*s=n*gr i∨∃ r,r<a.k∧0<a.D i r∧lft a R r*s=n*pullT a gr R r
structure TurnT (a:NProb)(gr:Nat→Nat)(R R':RS):Prop where
  still:∀ i,i<a.n→(R'.still i=true↔R.still i=true∧¬ stopT a gr R (nextT a gr R).1 (nextT a gr R).2.1 i)
  q:R'.q=if (nextT a gr R).2.2 then R.q*(nextT a gr R).2.1 else R.q
  hvs:∀ i,i<a.n→R.still i=true→stopT a gr R (nextT a gr R).1 (nextT a gr R).2.1 i→R'.hv i=if (nextT a gr R).2.2 then (nextT a gr R).1*gr i else a.C i*R'.q
  hvo:∀ i,i<a.n→¬ (R.still i=true∧stopT a gr R (nextT a gr R).1 (nextT a gr R).2.1 i)→R'.hv i=if (nextT a gr R).2.2 then R.hv i*(nextT a gr R).2.1 else R.hv i
structure Abs (a:NProb)(g:Nat→Rat)(s:St)(R:RS):Prop where
  q:0<R.q
  still:∀ i,i<a.n→(R.still i=true↔s.rt i≠0)
  hv:∀ i,i<a.n→R.still i=false→(R.hv i:Rat)=R.q*s.ts i
  hv0:∀ i,i<a.n→R.still i=true→R.hv i=0
theorem jKI {n:Nat}(h:0<n):(0:Rat)<(n:Rat):=Rat.natCast_pos.2 h
theorem jEh (n:Nat):(0:Rat)≤(n:Rat):=Rat.natCast_nonneg
theorem jJL {n m:Nat}:(n:Rat)≤(m:Rat)↔n≤m:=Rat.natCast_le_natCast
theorem jHG (n m:Nat):((n*m:Nat):Rat)=n*m:=Rat.natCast_mul _ _
structure Found (a:NProb)(gr:Nat→Nat)(R:RS)(x:Nat×Nat×Bool)(K U:Nat):Prop where
  pos:0<x.2.1
  kinds:∀ r,r<K→pullT a gr R r≠0→x.1*pullT a gr R r≤lft a R r*x.2.1
  caps:∀ i,i<U→R.still i=true→x.1*gr i≤a.C i*R.q*x.2.1
  isK:x.2.2=true→∃ r,r<K∧pullT a gr R r≠0∧x.1=lft a R r∧x.2.1=pullT a gr R r
  isU:x.2.2=false→(∃ i,i<U∧R.still i=true∧x.1=a.C i*R.q∧x.2.1=gr i)∧∀ r,r<K→pullT a gr R r≠0→x.1*pullT a gr R r<lft a R r*x.2.1
end Go.Proofs.YtigokanoflkinabGreatDoor.Por
