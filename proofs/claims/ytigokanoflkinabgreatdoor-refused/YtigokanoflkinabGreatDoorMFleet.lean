/- A fleet: what moves while it settles, and how; what settling leaves. -/
import Derived.Test.YtigokanoflkinabGreatDoorRows
namespace Go.Proofs.YtigokanoflkinabGreatDoor.Por
set_option linter.unusedVariables false
def sumI (f:Nat->Int):Nat->Int
  | 0=>0
  | n+1=>sumI f n+f n
theorem jAp {f g:Nat->Int}{n:Nat}(h:∀ i,i<n->f i=g i):sumI f n=sumI g n:=by
 induction n with
 | zero=>rfl
 | succ n ih=>simp only[sumI];rw[ih (fun i hi=>h i (by omega)),h n (by omega)]
theorem jD0 {f g:Nat->Int}{n:Nat}(h:∀ i,i<n->f i<=g i):sumI f n<=sumI g n:=by
 induction n with
 | zero=>exact Int.le_refl _
 | succ n ih=>simp only[sumI];have:=ih (fun i hi=>h i (by omega));have:=h n (by omega);omega
theorem jAY {f:Nat->Int}{n:Nat}(h:∀ i,i<n->f i=0):sumI f n=0:=by
 induction n with
 | zero=>rfl
 | succ n ih=>simp only[sumI];rw[ih (fun i hi=>h i (by omega)),h n (by omega)];rfl
theorem jAK {f:Nat->Int}{n:Nat}(h:∀ i,i<n->0<=f i):0<=sumI f n:=by
 have:=jD0 (f:=fun _=>0) h
 rwa [jAY (fun i _=>rfl)] at this
theorem jHy (f g:Nat->Int)(n:Nat):sumI (fun i=>f i+g i) n=sumI f n+sumI g n:=by
 induction n with
 | zero=>rfl
 | succ n ih=>simp only[sumI];rw[ih];omega
theorem jH9 (f g:Nat->Int)(n:Nat):sumI (fun i=>f i - g i) n=sumI f n - sumI g n:=by
 induction n with
 | zero=>rfl
 | succ n ih=>simp only[sumI];rw[ih];omega
theorem jH1 (c:Int)(f:Nat->Int)(n:Nat):sumI (fun i=>c*f i) n=c*sumI f n:=by
 induction n with
 | zero=>simp[sumI]
 | succ n ih=>simp only[sumI];rw[ih,Int.mul_add]
theorem jA2 {f g:Nat->Int}{n i:Nat}(hi:i<n)(h:∀ j,j<n->j≠i->f j=g j):sumI f n=sumI g n+(f i - g i):=by
 induction n with
 | zero=>omega
 | succ n ih=>
  simp only[sumI];by_cases e:i=n
  ·subst e;rw[jAp (fun j hj=>h j (by omega) (by omega))];omega
  ·rw[ih (by omega) (fun j hj hne=>h j (by omega) hne),h n (by omega) (fun e2=>e e2.symm)];omega
theorem jBu {f:Nat->Int}{n i:Nat}(h:∀ j,j<n->0<=f j)(hi:i<n):f i<=sumI f n:=by
 induction n with
 | zero=>omega
 | succ n ih=>
  simp only[sumI];by_cases e:i=n
  ·subst e;have:=jAK (fun j hj=>h j (Nat.lt_succ_of_lt hj));omega
  ·have:=ih (fun j hj=>h j (by omega)) (by omega);have:=h n (by omega);omega
theorem jBL {f:Nat->Int}{n:Nat}{B:Int}(h:∀ i,i<n->f i<=B):sumI f n<=n*B:=by
 induction n with
 | zero=>simp[sumI]
 | succ n ih=>have a:=ih (fun i hi=>h i (by omega));have b:=h n (by omega);(have e:((n+1:Nat):Int)*B=n*B+B:=by rw[Int.natCast_add,Int.add_mul];simp);simp only[sumI];rw[e];omega
theorem jJD (f:Nat->Nat->Int)(n m:Nat):sumI (fun i=>sumI (f i) m) n=sumI (fun j=>sumI (fun i=>f i j) n) m:=by
 induction n with
 | zero=>simp only[sumI];exact (jAY (fun _ _=>rfl)).symm
 | succ n ih=>simp only[sumI];rw[ih,<- jHy]
def zF (f:Nat->Int)(i:Nat)(x:Int):Nat->Int:=fun j=>if j=i then x else f j
theorem jAU (f:Nat->Int)(i:Nat)(x:Int):zF f i x i=x:=if_pos rfl
theorem jAL (f:Nat->Int){i j:Nat}(x:Int)(h:j≠i):zF f i x j=f j:=if_neg h
def yR (f:Nat->Nat->Int)(i k:Nat)(x:Int):Nat->Nat->Int:=fun j l=>if j=i/\l=k then x else f j l
theorem jCf (f:Nat->Nat->Int)(i k:Nat)(x:Int):yR f i k x i k=x:=if_pos ⟨rfl,rfl⟩
theorem jCX (f:Nat->Nat->Int){i j:Nat}(k:Nat)(x:Int)(h:j≠i):yR f i k x j=f j:=funext fun l=>if_neg (fun h5=>h h5.1)
theorem jFz (f:Nat->Nat->Int)(i j:Nat){k l:Nat}(x:Int)(h:l≠k):yR f i k x j l=f j l:=if_neg (fun h5=>h h5.2)
theorem jDj (f:Nat->Nat->Int){i j k l:Nat}(x:Int)(h:¬ (j=i/\l=k)):yR f i k x j l=f j l:=if_neg h
structure FC where
  mt:Nat->Bool
  ms:Nat->Nat->Int
  ud:Nat->Nat->Int
  uw:Nat->Int
  uc:Nat->Int
  pool:Nat->Int
  goal:Nat->Int
structure FM where
  wait:Nat->Int
  on:Nat->Nat->Int
  rev:Nat->Int
def runs (s:FM)(u:Nat):Int:=sumI (s.on u) 8
def room (c:FC)(s:FM)(m r:Nat):Int:=c.ms m r - sumI (fun u=>c.ud u r*s.on u m) 6
def zN (a b:Nat->Int):Nat->Bool
  | 0=>true
  | k+1=>zN a b k && decide (b k<=a k)
theorem jAz {a b:Nat->Int}:∀ {k},zN a b k=true↔∀ r,r<k->b r<=a r:=by
 intro k
 induction k with
 | zero=>simp[zN]
 | succ k ih=>
  simp only[zN,Bool.and_eq_true,ih,decide_eq_true_eq];constructor
  ·intro h r c;by_cases e:r=k
   ·subst e;exact h.2
   ·exact h.1 r (by omega)
  ·exact fun h=>⟨fun r c=>h r (by omega),h k (by omega)⟩
def yX (c:FC)(s:FM)(u m:Nat):Bool:=c.mt m && zN (room c s m) (c.ud u) 4
def zY (c:FC)(s:FM)(u:Nat):Nat->Nat×Int×Bool
  | 0=>(0,0,false)
  | k+1=>let x:=zY c s u k
             if yX c s u k then (if !x.2.2 || decide (sumI (room c s k) 4<x.2.1) then (k,sumI (room c s k) 4,true) else x) else x
def tight (c:FC)(s:FM)(u:Nat):Nat×Bool:=((zY c s u 8).1,(zY c s u 8).2.2)
theorem jEm (c:FC)(s:FM)(u:Nat):∀ k,((zY c s u k).2.2=true->(zY c s u k).1<k/\yX c s u (zY c s u k).1=true)/\((zY c s u k).2.2=false->∀ m,m<k->yX c s u m=false):=by
 intro k
 induction k with
 | zero=>exact ⟨fun h=>(by cases h),fun _ m hm=>by omega⟩
 | succ k ih=>
  simp only[zY]
  cases a:yX c s u k with
  | false=>
   simp only[Bool.false_eq_true,if_false];refine ⟨fun h=>⟨by have:=(ih.1 h).1;omega,(ih.1 h).2⟩,fun h m hm=>?_⟩;by_cases e:m=k
   ·subst e;exact a
   ·exact ih.2 h m (by omega)
  | true=>
   simp only[if_true]
   cases b:(!(zY c s u k).2.2 || decide (sumI (room c s k) 4<(zY c s u k).2.1)) with
   | true=>simp only[if_true];exact ⟨fun _=>⟨by omega,a⟩,fun h=>by cases h⟩
   | false=>
    simp only[Bool.false_eq_true,if_false]
    have d:(zY c s u k).2.2=true:=by
     cases f:(zY c s u k).2.2 with
     | true=>rfl
     | false=>rw[f] at b;cases b
    refine ⟨fun h=>⟨by have:=(ih.1 h).1;omega,(ih.1 h).2⟩,fun h=>by rw[d] at h;cases h⟩
theorem jDo {c:FC}{s:FM}{u:Nat}(h:(tight c s u).2=true):(tight c s u).1<8/\yX c s u (tight c s u).1=true:=(jEm c s u 8).1 h
theorem jLa {c:FC}{s:FM}{u:Nat}(h:(tight c s u).2=false){m:Nat}(hm:m<8):yX c s u m=false:=(jEm c s u 8).2 h m hm
def yG (s:FM)(u m:Nat):FM:=⟨zF s.wait u (s.wait u - 1),yR s.on u m (s.on u m+1),s.rev⟩
def wayF (s:FM)(u m:Nat):FM:=⟨zF s.wait u (s.wait u+1),yR s.on u m (s.on u m - 1),zF s.rev u (s.rev u+1)⟩
def yD (a b:Int×Int):Bool:=decide (a.1*b.2<b.1*a.2)
def zx (c:FC)(u:Nat):Nat->Int×Int
  | 0=>(0,1)
  | k+1=>if decide (0<c.ud u k) && yD (zx c u k) (c.ud u k,c.pool k) then (c.ud u k,c.pool k) else zx c u k
def zq (c:FC)(u:Nat)(t:Int):Int×Int:=if t=0 then (0,1) else ((zx c u 4).1*t,(zx c u 4).2*c.uw u)
def xI (c:FC)(s:FM)(u:Nat):Bool:=!(decide (s.wait u<1) || decide (c.uc u<=runs s u)) && (tight c s u).2
def zQ (c:FC)(s:FM):Nat->Nat×(Int×Int)×Bool
  | 0=>(0,(0,0),false)
  | k+1=>let x:=zQ c s k
             if xI c s k then (if !x.2.2 || yD (zq c k (runs s k)) x.2.1 then (k,zq c k (runs s k),true) else x) else x
theorem jDw (c:FC)(s:FM):∀ k,((zQ c s k).2.2=true->(zQ c s k).1<k/\xI c s (zQ c s k).1=true)/\((zQ c s k).2.2=false->∀ m,m<k->xI c s m=false):=by
 intro k
 induction k with
 | zero=>exact ⟨fun h=>(by cases h),fun _ m hm=>by omega⟩
 | succ k ih=>
  simp only[zQ]
  cases a:xI c s k with
  | false=>
   simp only[Bool.false_eq_true,if_false];refine ⟨fun h=>⟨by have:=(ih.1 h).1;omega,(ih.1 h).2⟩,fun h m hm=>?_⟩;by_cases e:m=k
   ·subst e;exact a
   ·exact ih.2 h m (by omega)
  | true=>
   simp only[if_true]
   cases b:(!(zQ c s k).2.2 || yD (zq c k (runs s k)) (zQ c s k).2.1) with
   | true=>simp only[if_true];exact ⟨fun _=>⟨by omega,a⟩,fun h=>by cases h⟩
   | false=>
    simp only[Bool.false_eq_true,if_false]
    have d:(zQ c s k).2.2=true:=by
     cases f:(zQ c s k).2.2 with
     | true=>rfl
     | false=>rw[f] at b;cases b
    refine ⟨fun h=>⟨by have:=(ih.1 h).1;omega,(ih.1 h).2⟩,fun h=>by rw[d] at h;cases h⟩
def yP (c:FC)(s:FM):Option FM:=if (zQ c s 6).2.2 then some (yG s (zQ c s 6).1 (tight c s (zQ c s 6).1).1) else none
structure FK where
  rm:Nat->Int
  here:Nat->Int
  run:Nat->Int
  off:List Nat
def kBeg (c:FC)(s:FM)(m:Nat):FK:=⟨room c s m,fun u=>s.on u m,runs s,[]⟩
def yu (c:FC)(u:Nat)(k:FK)(j:Nat):Bool:=!(decide (j=u) || decide (k.here j<1) || decide (k.run j<=c.goal j))
def zv (c:FC)(u:Nat)(k:FK):Nat->Nat×(Int×Int)×Bool
  | 0=>(0,(0,0),false)
  | j+1=>let x:=zv c u k j
             if yu c u k j then (if !x.2.2 || yD x.2.1 (zq c j (k.run j)) then (j,zq c j (k.run j),true) else x) else x
theorem jE6 (c:FC)(u:Nat)(k:FK):∀ n,((zv c u k n).2.2=true->(zv c u k n).1<n/\yu c u k (zv c u k n).1=true)/\((zv c u k n).2.2=false->∀ m,m<n->yu c u k m=false):=by
 intro n
 induction n with
 | zero=>exact ⟨fun h=>(by cases h),fun _ m hm=>by omega⟩
 | succ n ih=>
  simp only[zv]
  cases a:yu c u k n with
  | false=>
   simp only[Bool.false_eq_true,if_false];refine ⟨fun h=>⟨by have:=(ih.1 h).1;omega,(ih.1 h).2⟩,fun h m hm=>?_⟩;by_cases e:m=n
   ·subst e;exact a
   ·exact ih.2 h m (by omega)
  | true=>
   simp only[if_true]
   cases b:(!(zv c u k n).2.2 || yD (zv c u k n).2.1 (zq c n (k.run n))) with
   | true=>simp only[if_true];exact ⟨fun _=>⟨by omega,a⟩,fun h=>by cases h⟩
   | false=>
    simp only[Bool.false_eq_true,if_false]
    have d:(zv c u k n).2.2=true:=by
     cases f:(zv c u k n).2.2 with
     | true=>rfl
     | false=>rw[f] at b;cases b
    refine ⟨fun h=>⟨by have:=(ih.1 h).1;omega,(ih.1 h).2⟩,fun h=>by rw[d] at h;cases h⟩
def kOff (c:FC)(k:FK)(j:Nat):FK:=⟨fun r=>k.rm r+c.ud j r,zF k.here j (k.here j - 1),zF k.run j (k.run j - 1),k.off ++ [j]⟩
def yU (c:FC)(u:Nat)(k:FK):Option FK:=if zN k.rm (c.ud u) 4 then none else if (zv c u k 6).2.2 then some (kOff c k (zv c u k 6).1) else none
def yJ (c:FC)(u:Nat):List Nat->(Nat->Int)->List Nat
  | [],_=>[]
  | j :: l,rm=>if zN (fun r=>rm r - c.ud j r) (c.ud u) 4 then yJ c u l (fun r=>rm r - c.ud j r) else j :: yJ c u l rm
inductive Iter {α:Type} (f:α->Option α):α->α->Prop
  | done {s:α} (h:f s=none):Iter f s s
  | step {s t z:α} (h:f s=some t) (i:Iter f t z):Iter f s z
theorem Iter.det {α:Type}{f:α->Option α}{s a b:α}(h:Iter f s a)(k:Iter f s b):a=b:=by
 induction h with
 | done h=>
  cases k with
  | done _=>rfl
  | step h2 _=>rw[h] at h2;cases h2
 | step h i ih=>
  cases k with
  | done h2=>rw[h] at h2;cases h2
  | step h2 j=>rw[h] at h2;cases h2;exact ih j
theorem Iter.last {α:Type}{f:α->Option α}{s a:α}(h:Iter f s a):f a=none:=by
 induction h with
 | done h=>exact h
 | step _ _ ih=>exact ih
theorem Iter.inv {α:Type}{f:α->Option α}{P:α->Prop}(hP:∀ s t,P s->f s=some t->P t){s a:α}(h:Iter f s a)(h0:P s):P a:=by
 induction h with
 | done _=>exact h0
 | step h _ ih=>exact ih (hP _ _ h0 h)
theorem Iter.rel {α:Type}{f:α->Option α}{R:α->α->Prop}(hr:∀ s,R s s)(ht:∀ s t z,f s=some t->R t z->R s z){s a:α}(h:Iter f s a):R s a:=by
 induction h with
 | done _=>exact hr _
 | step h _ ih=>exact ht _ _ _ h ih
theorem Iter.ends {α:Type}{f:α->Option α}{P:α->Prop}(hP:∀ s t,P s->f s=some t->P t)(μ:α->Nat)(hμ:∀ s t,P s->f s=some t->μ t < μ s):∀ n s,μ s<=n->P s->∃ a,Iter f s a:=by
 intro n
 induction n with
 | zero=>
  intro s hs b
  cases e:f s with
  | none=>exact ⟨s,.done e⟩
  | some t=>have:=hμ s t b e;omega
 | succ n ih=>
  intro s hs b
  cases e:f s with
  | none=>exact ⟨s,.done e⟩
  | some t=>obtain ⟨a,h⟩:=ih t (by have:=hμ s t b e;omega) (hP s t b e);exact ⟨a,.step e h⟩
theorem Iter.part {α:Type}{f:α->Option α}{s a z:α}(h:Iter f s z)(hs:f s=some a):Iter f a z:=by
 cases h with
 | done h2=>rw[hs] at h2;cases h2
 | step h2 j=>rw[hs] at h2;cases h2;exact j
def kRun (c:FC)(u:Nat):Nat->FK->FK
  | 0,k=>k
  | n+1,k=>match yU c u k with
    | none=>k
    | some k'=>kRun c u n k'
def kEnd (c:FC)(u:Nat)(k:FK):FK:=kRun c u (sumI k.here 6).toNat k
theorem jD8 {c:FC}{u:Nat}{k k':FK}(h:yU c u k=some k'):∃ j,j<6/\j≠u/\1<=k.here j/\c.goal j<k.run j/\k'=kOff c k j/\zN k.rm (c.ud u) 4=false:=by
 unfold yU at h
 cases d:zN k.rm (c.ud u) 4 with
 | true=>rw[d] at h;simp at h
 | false=>
  rw[d] at h;simp only[Bool.false_eq_true,if_false] at h
  cases b:(zv c u k 6).2.2 with
  | false=>rw[b] at h;simp at h
  | true=>rw[b] at h;simp only[if_true,Option.some.injEq] at h;obtain ⟨e,a⟩:=(jE6 c u k 6).1 b;unfold yu at a;simp only[Bool.not_eq_true',Bool.or_eq_false_iff,decide_eq_false_iff_not] at a;exact ⟨_,e,a.1.1,by omega,by omega,h.symm,rfl⟩
theorem jD7 {c:FC}{u:Nat}{k k':FK}(h:yU c u k=some k'):sumI k'.here 6=sumI k.here 6 - 1:=by
 obtain ⟨j,a,_,_,_,rfl,_⟩:=jD8 h;have:=jA2 (f:=(kOff c k j).here) (g:=k.here) a (fun i _ hne=>jAL _ _ hne);rw[this];show sumI k.here 6+(zF k.here j (k.here j - 1) j - k.here j)=_;rw[jAU];omega
theorem jB1 {c:FC}{u:Nat}{k k':FK}(h:yU c u k=some k')(h0:∀ j,j<6->0<=k.here j):∀ j,j<6->0<=k'.here j:=by
 obtain ⟨i,d,_,b,_,rfl,_⟩:=jD8 h;intro j a;show 0<=zF k.here i (k.here i - 1) j;by_cases e:j=i
 ·subst e;rw[jAU];omega
 ·rw[jAL _ _ e];exact h0 j a
theorem jJR {c:FC}{u:Nat}:∀ n k,(sumI k.here 6).toNat<=n->(∀ j,j<6->0<=k.here j)->Iter (yU c u) k (kRun c u n k):=by
 intro n
 induction n with
 | zero=>
  intro k f a;have b:=jAK a
  cases e:yU c u k with
  | none=>exact .done e
  | some k'=>have d:=jD7 e;have g:=jAK (jB1 e a);omega
 | succ n ih=>
  intro k f a;simp only[kRun]
  cases e:yU c u k with
  | none=>exact .done e
  | some k'=>have d:=jD7 e;have b:=jAK a;exact .step e (ih k' (by omega) (jB1 e a))
theorem jGY {c:FC}{u:Nat}{k:FK}(h0:∀ j,j<6->0<=k.here j):Iter (yU c u) k (kEnd c u k):=jJR _ k (Nat.le_refl _) h0
def yB (c:FC)(s:FM)(u m:Nat):Option (List Nat):=let k:=kEnd c u (kBeg c s m)
  if zN k.rm (c.ud u) 4 then some (yJ c u k.off k.rm) else none
def zK (c:FC)(s:FM)(u:Nat):Nat->Nat×List Nat×Bool
  | 0=>(0,[],false)
  | m+1=>let x:=zK c s u m
             if c.mt m then (match yB c s u m with
               | none=>x
               | some l=>if !x.2.2 || decide (l.length<x.2.1.length) then (m,l,true) else x) else x
def zt (s:FM)(m:Nat):List Nat->FM
  | []=>s
  | j :: l=>zt (wayF s j m) m l
def yH (c:FC)(s:FM)(u:Nat):Option FM:=
  if (tight c s u).2 then some (yG s u (tight c s u).1)
  else let x:=zK c s u 8
       if x.2.2 then some (yG (zt s x.1 x.2.1) u x.1) else none
def oneF (c:FC)(s:FM):Nat->Nat->Option FM
  | _,0=>none
  | i,n+1=>if decide (c.goal i<=runs s i) then oneF c s (i+1) n else match yH c s i with
    | some t=>some t
    | none=>oneF c s (i+1) n
def zl (c:FC)(s:FM):Option FM:=oneF c s 0 6
inductive Outer (c:FC):FM->FM->Prop
  | done {s:FM} (h:zl c s=none):Outer c s s
  | more {s t v x z:FM} (h:zl c s=some t) (i:Iter (zl c) t v) (j:Iter (yP c) v x) (k:Outer c x z):Outer c s z
def Settles (c:FC)(s z:FM):Prop:=∃ v x,Iter (zl c) s v/\Iter (yP c) v x/\Outer c x z
theorem Outer.det {c:FC}{s a:FM}(h:Outer c s a):∀ b,Outer c s b->a=b:=by
 induction h with
 | done h=>
  intro b k
  cases k with
  | done _=>rfl
  | more h2 _ _ _=>rw[h] at h2;cases h2
 | more h i j _ ih=>
  intro b k
  cases k with
  | done h2=>rw[h] at h2;cases h2
  | more h2 i2 j2 k2=>rw[h] at h2;cases h2;have:=i.det i2;subst this;have:=j.det j2;subst this;exact ih b k2
theorem Settles.det {c:FC}{s a b:FM}(h:Settles c s a)(k:Settles c s b):a=b:=by
 obtain ⟨v,x,d,e,f⟩:=h;obtain ⟨l,m,g,i,j⟩:=k;have:=d.det g;subst this;have:=e.det i;subst this;exact f.det _ j
structure FOk (c:FC):Prop where
  ud:∀ u,u<6->∀ r,r<4->0<=c.ud u r
  goal:∀ u,u<6->0<=c.goal u
structure FInv (c:FC)(s:FM):Prop where
  on:∀ u,u<6->∀ m,m<8->0<=s.on u m
  wait:∀ u,u<6->0<=s.wait u
  room:∀ m,m<8->∀ r,r<4->0<=room c s m r
  goal:∀ u,u<6->c.goal u<=s.wait u+runs s u
  gone:∀ m,m<8->c.mt m=false->∀ u,u<6->s.on u m=0
theorem jDy {s:FM}{u m:Nat}(hm:m<8)(j:Nat):runs (yG s u m) j=if j=u then runs s u+1 else runs s j:=by
 by_cases e:j=u
 ·subst e;rw[if_pos rfl];have:=jA2 (f:=(yG s j m).on j) (g:=s.on j) hm (fun i _ hne=>jFz _ _ _ _ hne);show sumI ((yG s j m).on j) 8=_;rw[this];show sumI (s.on j) 8+(yR s.on j m (s.on j m+1) j m - s.on j m)=sumI (s.on j) 8+1;rw[jCf];omega
 ·rw[if_neg e];show sumI (yR s.on u m (s.on u m+1) j) 8=_;rw[jCX _ _ _ e];rfl
theorem jIC {s:FM}{u m:Nat}(hm:m<8)(j:Nat):runs (wayF s u m) j=if j=u then runs s u - 1 else runs s j:=by
 by_cases e:j=u
 ·subst e;rw[if_pos rfl];have:=jA2 (f:=(wayF s j m).on j) (g:=s.on j) hm (fun i _ hne=>jFz _ _ _ _ hne);show sumI ((wayF s j m).on j) 8=_;rw[this];show sumI (s.on j) 8+(yR s.on j m (s.on j m - 1) j m - s.on j m)=sumI (s.on j) 8 - 1;rw[jCf];omega
 ·rw[if_neg e];show sumI (yR s.on u m (s.on u m - 1) j) 8=_;rw[jCX _ _ _ e];rfl
theorem jHs {c:FC}{s t:FM}{u m:Nat}(hu:u<6){x:Int}(ht:t.on=yR s.on u m x)(l r:Nat):room c t l r=if l=m then room c s m r - c.ud u r*(x - s.on u m) else room c s l r:=by
 unfold room;rw[ht];by_cases e:l=m
 ·subst e;rw[if_pos rfl];have:=jA2 (f:=fun i=>c.ud i r*yR s.on u l x i l) (g:=fun i=>c.ud i r*s.on i l) hu (fun i _ hne=>by show _ * _=_;rw[jCX _ _ _ hne]);rw[this];simp only[jCf];rw[Int.mul_sub];omega
 ·rw[if_neg e];rw[jAp (g:=fun u=>c.ud u r*s.on u l) (fun i _=>by show _ * _=_;rw[jFz _ _ _ _ e])]
theorem jIk {c:FC}{s:FM}{u m:Nat}(hu:u<6)(l r:Nat):room c (yG s u m) l r=if l=m then room c s m r - c.ud u r else room c s l r:=by
 rw[jHs (s:=s) hu (t:=yG s u m) rfl l r];split
 ·rw[show s.on u m+1 - s.on u m=1 by omega,Int.mul_one]
 ·rfl
theorem jH3 {c:FC}{s:FM}{u m:Nat}(hu:u<6)(l r:Nat):room c (wayF s u m) l r=if l=m then room c s m r+c.ud u r else room c s l r:=by
 rw[jHs (s:=s) hu (t:=wayF s u m) rfl l r];split
 ·rw[show s.on u m - 1 - s.on u m = -1 by omega,Int.mul_neg,Int.mul_one];omega
 ·rfl
theorem jES {c:FC}{s:FM}{u m:Nat}:yX c s u m=true↔c.mt m=true/\∀ r,r<4->c.ud u r<=room c s m r:=by
 unfold yX;rw[Bool.and_eq_true,jAz]
theorem FInv.start {c:FC}{s:FM}{u m:Nat}(h:FInv c s)(hu:u<6)(hm:m<8)(hf:yX c s u m=true)(hw:0<s.wait u):FInv c (yG s u m):=by
 obtain ⟨b,a⟩:=jES.1 hf;refine ⟨fun v hv l hl=>?_,fun v hv=>?_,fun l hl r hr'=>?_,fun v hv=>?_,fun l hl hg v hv=>?_⟩
 ·show 0<=yR s.on u m (s.on u m+1) v l;unfold yR;split
  ·have:=h.on u hu m hm;omega
  ·exact h.on v hv l hl
 ·show 0<=zF s.wait u (s.wait u - 1) v;unfold zF;split
  ·omega
  ·exact h.wait v hv
 ·rw[jIk hu];split
  ·have:=a r hr';omega
  ·exact h.room l hl r hr'
 ·rw[jDy hm];show c.goal v<=zF s.wait u (s.wait u - 1) v + _;by_cases e:v=u
  ·subst e;rw[if_pos rfl,jAU];have:=h.goal v hv;omega
  ·rw[if_neg e,jAL _ _ e];exact h.goal v hv
 ·show yR s.on u m (s.on u m+1) v l=0;rw[jDj _ _ (fun h5=>by rw[h5.2,b] at hg;cases hg)];exact h.gone l hl hg v hv
theorem FInv.way {c:FC}{s:FM}(ho:FOk c){u m:Nat}(h:FInv c s)(hu:u<6)(hm:m<8)(hn:0<s.on u m):FInv c (wayF s u m):=by
 refine ⟨fun v hv l hl=>?_,fun v hv=>?_,fun l hl r hr'=>?_,fun v hv=>?_,fun l hl hg v hv=>?_⟩
 ·show 0<=yR s.on u m (s.on u m - 1) v l;unfold yR;split
  ·omega
  ·exact h.on v hv l hl
 ·show 0<=zF s.wait u (s.wait u+1) v;unfold zF;split
  ·have:=h.wait u hu;omega
  ·exact h.wait v hv
 ·rw[jH3 hu];split
  ·rename_i e;subst e;have:=h.room l hl r hr';have:=ho.ud u hu r hr';omega
  ·exact h.room l hl r hr'
 ·rw[jIC hm];show c.goal v<=zF s.wait u (s.wait u+1) v + _;by_cases e:v=u
  ·subst e;rw[if_pos rfl,jAU];have:=h.goal v hv;omega
  ·rw[if_neg e,jAL _ _ e];exact h.goal v hv
 ·show yR s.on u m (s.on u m - 1) v l=0;rw[jDj _ _ (fun h5=>by have:=h.gone l hl hg v hv;rw[h5.1,h5.2] at this;omega)];exact h.gone l hl hg v hv
def yv (c:FC)(r:Nat):List Nat->Int
  | []=>0
  | j :: l=>c.ud j r+yv c r l
theorem jK9 (c:FC)(r:Nat)(l m:List Nat):yv c r (l ++ m)=yv c r l+yv c r m:=by
 induction l with
 | nil=>simp[yv]
 | cons j l ih=>simp only[List.cons_append,yv];rw[ih];omega
def zT (j:Nat)(l:List Nat):Int:=(l.count j:Int)
structure KInv (c:FC)(s:FM)(u m:Nat)(k:FK):Prop where
  here:∀ j,j<6->k.here j=s.on j m - zT j k.off
  here0:∀ j,j<6->0<=k.here j
  run:∀ j,j<6->k.run j=runs s j - zT j k.off
  keep:∀ j,j∈k.off->j<6/\j≠u/\c.goal j<=k.run j
  rm:∀ r,k.rm r=room c s m r+yv c r k.off
theorem jIG (i j:Nat)(l:List Nat):zT i (l ++ [j])=zT i l+if i=j then 1 else 0:=by
 unfold zT;rw[List.count_append,List.count_singleton];by_cases e:i=j
 ·subst e;simp
 ·rw[if_neg e];(have:(j == i)=false:=by simp;exact fun h=>e h.symm);rw[this];simp
theorem KInv.beg {c:FC}{s:FM}{u m:Nat}(h:FInv c s)(hm:m<8):KInv c s u m (kBeg c s m):=by
 refine ⟨fun j hj=>?_,fun j hj=>h.on j hj m hm,fun j hj=>?_,fun j hj=>(by cases hj),fun r=>?_⟩
 ·show s.on j m=s.on j m - ((List.count j []:Nat):Int);simp
 ·show runs s j=runs s j - ((List.count j []:Nat):Int);simp
 ·show room c s m r=room c s m r+0;omega
theorem KInv.step {c:FC}{s:FM}{u m:Nat}{k k':FK}(h:KInv c s u m k)(hk:yU c u k=some k'):KInv c s u m k':=by
 obtain ⟨i,f,d,g,l,rfl,_⟩:=jD8 hk;refine ⟨fun j hj=>?_,jB1 hk h.here0,fun j hj=>?_,fun j hj=>?_,fun r=>?_⟩
 ·show zF k.here i (k.here i - 1) j=s.on j m - zT j (k.off ++ [i]);rw[jIG];have:=h.here j hj;by_cases e:j=i
  ·subst e;rw[jAU,if_pos rfl];omega
  ·rw[jAL _ _ e,if_neg e];omega
 ·show zF k.run i (k.run i - 1) j=runs s j - zT j (k.off ++ [i]);rw[jIG];have:=h.run j hj;by_cases e:j=i
  ·subst e;rw[jAU,if_pos rfl];omega
  ·rw[jAL _ _ e,if_neg e];omega
 ·have b:j∈k.off∨j=i:=by
   have:j∈k.off ++ [i]:=hj
   simpa using this
  show j<6/\j≠u/\c.goal j<=zF k.run i (k.run i - 1) j;by_cases e:j=i
  ·subst e;rw[jAU];exact ⟨f,d,by omega⟩
  ·rw[jAL _ _ e];rcases b with a | a
   ·exact h.keep j a
   ·exact absurd a e
 ·show k.rm r+c.ud i r=room c s m r+yv c r (k.off ++ [i]);rw[jK9,h.rm r];simp only[yv];omega
theorem KInv.fin {c:FC}{s:FM}{u m:Nat}(h:FInv c s)(hm:m<8):KInv c s u m (kEnd c u (kBeg c s m))/\yU c u (kEnd c u (kBeg c s m))=none:=by
 have a:=jGY (c:=c) (u:=u) (k:=kBeg c s m) (fun j hj=>h.on j hj m hm);exact ⟨a.inv (P:=KInv c s u m) (fun _ _ h1 h2=>h1.step h2) (KInv.beg h hm),a.last⟩
theorem jKu {c:FC}{u:Nat}:∀ (l:List Nat) (rm:Nat->Int),(yJ c u l rm).Sublist l:=by
 intro l
 induction l with
 | nil=>intro rm;exact List.Sublist.refl _
 | cons j l ih=>
  intro rm;simp only[yJ];split
  ·exact (ih _).cons j
  ·exact (ih _).cons_cons j
theorem jIq {c:FC}{u:Nat}:∀ (l:List Nat) (rm:Nat->Int),(∀ r,r<4->c.ud u r<=rm r)->∀ r,r<4->c.ud u r<=rm r - yv c r l+yv c r (yJ c u l rm):=by
 intro l
 induction l with
 | nil=>intro rm h r a;simp only[yv,yJ];have:=h r a;omega
 | cons j l ih=>
  intro rm h r a;simp only[yJ]
  cases d:zN (fun r=>rm r - c.ud j r) (c.ud u) 4 with
  | true=>simp only[if_true];have b:=ih (fun r=>rm r - c.ud j r) (jAz.1 d) r a;simp only[yv];omega
  | false=>simp only[Bool.false_eq_true,if_false];have b:=ih rm h r a;simp only[yv];omega
structure Cleared (c:FC)(s:FM)(u m:Nat)(l:List Nat):Prop where
  mem:∀ j,j∈l->j<6/\j≠u/\c.goal j<=runs s j - zT j l
  on:∀ j,j<6->zT j l<=s.on j m
  fits:∀ r,r<4->c.ud u r<=room c s m r+yv c r l
theorem jFa {c:FC}{s:FM}{u m:Nat}{l:List Nat}(h:FInv c s)(hm:m<8)(hc:yB c s u m=some l):Cleared c s u m l:=by
 obtain ⟨d,_⟩:=KInv.fin (u:=u) h hm;unfold yB at hc;simp only at hc
 cases f:zN (kEnd c u (kBeg c s m)).rm (c.ud u) 4 with
 | false=>rw[f] at hc;simp at hc
 | true=>
  rw[f] at hc;simp only[if_true,Option.some.injEq] at hc;subst hc;generalize kEnd c u (kBeg c s m)=k at *;have b:=jKu (c:=c) (u:=u) k.off k.rm;(have a:∀ j,zT j (yJ c u k.off k.rm)<=zT j k.off:=fun j=>by unfold zT;have:=b.count_le j;omega);refine ⟨fun j hj=>?_,fun j hj=>?_,fun r hr=>?_⟩
  ·obtain ⟨e,g,i⟩:=d.keep j (b.subset hj);have:=d.run j e;have:=a j;exact ⟨e,g,by omega⟩
  ·have:=d.here j hj;have:=d.here0 j hj;have:=a j;omega
  ·have e:=jIq (c:=c) (u:=u) k.off k.rm (jAz.1 f) r hr;rw[d.rm r] at e;omega
theorem jIO {c:FC}{s:FM}{u m:Nat}(h:FInv c s)(hm:m<8)(hc:yB c s u m=none):∃ x:Nat->Int,(∀ j,j<6->x j=if j=u then 0 else max 0 (min (s.on j m) (runs s j - c.goal j)))/\∃ r,r<4/\room c s m r+sumI (fun j=>x j*c.ud j r) 6<c.ud u r:=by
  obtain ⟨o,p⟩:=KInv.fin (u:=u) h hm;unfold yB at hc;simp only at hc
  cases q:zN (kEnd c u (kBeg c s m)).rm (c.ud u) 4 with
  | true=>rw[q] at hc;simp at hc
  | false=>
    generalize kEnd c u (kBeg c s m)=k at *;unfold yU at p;rw[q] at p;simp only[Bool.false_eq_true,if_false] at p
    have A:(zv c u k 6).2.2=false:=by
      cases e:(zv c u k 6).2.2 with
      | false=>rfl
      | true=>rw[e] at p;simp at p
    have hs:=(jE6 c u k 6).2 A;refine ⟨fun j=>zT j k.off,fun j hj=>?_,?_⟩
    · have t:=o.here j hj;have v:=o.run j hj;have y:=o.here0 j hj;have b:=hs j hj;have n:=o.keep j;have B:0<=zT j k.off:=by unfold zT;omega
      have d:zT j k.off=0∨j∈k.off:=by
        by_cases e:j∈k.off
        · exact Or.inr e
        · left;unfold zT;rw[List.count_eq_zero.2 e];rfl
      show zT j k.off=_;unfold yu at b;simp only[Bool.not_eq_false',Bool.or_eq_true,decide_eq_true_eq] at b;by_cases e:j=u
      · rw[if_pos e];rcases d with d | d
        · exact d
        · exact absurd e (n d).2.1
      · rw[if_neg e];rcases d with d | d
        · rw[d] at t v ⊢;rcases b with (b | b) | b
          · exact absurd b e
          · omega
          · omega
        · have:=(n d).2.2;rcases b with (b | b) | b
          · exact absurd b e
          · omega
          · omega
    · (have w:¬ ∀ r,r<4->c.ud u r<=k.rm r:=fun n=>by rw[jAz.2 n] at q;cases q);have ⟨r,hr⟩:∃ r,¬ (r<4->c.ud u r<=k.rm r):=Classical.not_forall.1 w;refine ⟨r,by omega,?_⟩
      have e:∀ l:List Nat,(∀ j,j∈l->j<6)->sumI (fun j=>zT j l*c.ud j r) 6=yv c r l:=by
        intro l
        induction l with
        | nil=>intro _;exact jAY (fun j _=>by show ((List.count j []:Nat):Int) * _=0;simp)
        | cons a l ih=>
          intro z;have t:=ih (fun j hj=>z j (List.mem_cons_of_mem _ hj))
          have v := jA2 (f := fun j => zT j (a :: l) * c.ud j r) (g := fun j => zT j l * c.ud j r) (i := a) (z a (List.mem_cons_self)) (fun j _ hne => by
            show zT j (a :: l) * _ = zT j l * _
            unfold zT
            rw [List.count_cons_of_ne (fun n => hne n.symm)])
          rw[v,t];simp only[yv];(have y:zT a (a :: l)=zT a l+1:=by unfold zT;rw[List.count_cons_self];omega);rw[y,Int.add_mul];omega
      rw[e k.off (fun j hj=>(o.keep j hj).1)];have:=o.rm r;omega
theorem jCE (j a:Nat)(l:List Nat):zT j (a :: l)=zT j l+if j=a then 1 else 0:=by
 unfold zT;by_cases e:j=a
 ·subst e;rw[List.count_cons_self,if_pos rfl];omega
 ·rw[List.count_cons_of_ne (fun h=>e h.symm),if_neg e];omega
theorem jAf (j:Nat)(l:List Nat):0<=zT j l:=by unfold zT;omega
theorem jHT (m:Nat):∀ (l:List Nat) (s:FM) (j k:Nat),(zt s m l).on j k=s.on j k - if k=m then zT j l else 0:=by
 intro l
 induction l with
 | nil=>intro s j k;show s.on j k=_;unfold zT;simp
 | cons a l ih=>
  intro s j k;show (zt (wayF s a m) m l).on j k=_;rw[ih,jCE];show yR s.on a m (s.on a m - 1) j k - _=_;unfold yR;by_cases c:j=a <;> by_cases b:k=m
  ·subst c;subst b;simp;omega
  ·simp[b]
  ·simp[c,b]
  ·simp[c,b]
theorem jB7 (m:Nat):∀ (l:List Nat) (s:FM) (j:Nat),(zt s m l).wait j=s.wait j+zT j l:=by
 intro l
 induction l with
 | nil=>intro s j;show s.wait j=_;unfold zT;simp
 | cons a l ih=>
  intro s j;show (zt (wayF s a m) m l).wait j=_;rw[ih,jCE];show zF s.wait a (s.wait a+1) j + _=_;unfold zF;by_cases b:j=a
  ·subst b;simp;omega
  ·simp[b]
theorem jHq (m:Nat):∀ (l:List Nat) (s:FM) (j:Nat),(zt s m l).rev j=s.rev j+zT j l:=by
 intro l
 induction l with
 | nil=>intro s j;show s.rev j=_;unfold zT;simp
 | cons a l ih=>
  intro s j;show (zt (wayF s a m) m l).rev j=_;rw[ih,jCE];show zF s.rev a (s.rev a+1) j + _=_;unfold zF;by_cases b:j=a
  ·subst b;simp;omega
  ·simp[b]
theorem jFH {m:Nat}(hm:m<8):∀ (l:List Nat) (s:FM) (j:Nat),runs (zt s m l) j=runs s j - zT j l:=by
 intro l
 induction l with
 | nil=>intro s j;show runs s j=_;unfold zT;simp
 | cons a l ih=>
  intro s j;show runs (zt (wayF s a m) m l) j=_;rw[ih,jCE,jIC hm];by_cases b:j=a
  ·subst b;simp;omega
  ·simp[b]
theorem jGX {c:FC}{m:Nat}:∀ (l:List Nat) (s:FM),(∀ j,j∈l->j<6)->∀ k r,room c (zt s m l) k r=room c s k r+if k=m then yv c r l else 0:=by
 intro l
 induction l with
 | nil=>intro s _ k r;show room c s k r=_;simp[yv]
 | cons a l ih=>
  intro s b k r;show room c (zt (wayF s a m) m l) k r=_;rw[ih _ (fun j hj=>b j (List.mem_cons_of_mem _ hj)),jH3 (b a List.mem_cons_self)];by_cases e:k=m
  ·subst e;simp[yv];omega
  ·simp[e]
theorem jHG {c:FC}(ho:FOk c){r:Nat}(hr:r<4):∀ l:List Nat,(∀ j,j∈l->j<6)->0<=yv c r l:=by
 intro l
 induction l with
 | nil=>intro _;exact Int.le_refl _
 | cons a l ih=>intro b;have:=ih (fun j hj=>b j (List.mem_cons_of_mem _ hj));have:=ho.ud a (b a List.mem_cons_self) r hr;simp only[yv];omega
theorem Cleared.inv {c:FC}{s:FM}(ho:FOk c){u m:Nat}{l:List Nat}(h:FInv c s)(hm:m<8)(hc:Cleared c s u m l):FInv c (zt s m l):=by
 (have a:∀ j,j∈l->j<6:=fun j hj=>(hc.mem j hj).1);refine ⟨fun v hv k hk=>?_,fun v hv=>?_,fun k hk r hr=>?_,fun v hv=>?_,fun k hk hg v hv=>?_⟩
 ·rw[jHT];split
  ·rename_i e;subst e;have:=hc.on v hv;omega
  ·have:=h.on v hv k hk;omega
 ·rw[jB7];have:=h.wait v hv;have:=jAf v l;omega
 ·rw[jGX l s a];have:=h.room k hk r hr;have:=jHG ho hr l a;split <;> omega
 ·rw[jB7,jFH hm];have:=h.goal v hv;omega
 ·rw[jHT];have b:=h.gone k hk hg v hv;split
  ·rename_i e;subst e;have:=hc.on v hv;have:=jAf v l;omega
  ·omega
theorem Cleared.zero {c:FC}{s:FM}{u m:Nat}{l:List Nat}(hc:Cleared c s u m l):zT u l=0:=by
 unfold zT;rw[List.count_eq_zero.2 (fun h=>(hc.mem u h).2.1 rfl)];rfl
structure Goal1 (c:FC)(s t:FM)(u m:Nat)(l:List Nat):Prop where
  hu:u<6
  hm:m<8
  lt:runs s u<c.goal u
  mt:c.mt m=true
  cl:Cleared c s u m l
  eq:t=yG (zt s m l) u m
theorem Goal1.inv {c:FC}{s t:FM}(ho:FOk c){u m:Nat}{l:List Nat}(h:FInv c s)(g:Goal1 c s t u m l):FInv c t:=by
 rw[g.eq];refine (g.cl.inv ho h g.hm).start g.hu g.hm (jES.2 ⟨g.mt,fun r hr=>?_⟩) ?_
 ·rw[jGX l s (fun j hj=>(g.cl.mem j hj).1),if_pos rfl];exact g.cl.fits r hr
 ·rw[jB7,g.cl.zero];have:=h.goal u g.hu;have:=g.lt;omega
theorem Goal1.runs {c:FC}{s t:FM}{u m:Nat}{l:List Nat}(g:Goal1 c s t u m l)(j:Nat):Por.runs t j=Por.runs s j - zT j l+if j=u then 1 else 0:=by
 rw[g.eq,jDy g.hm,jFH g.hm,jFH g.hm];by_cases e:j=u
 ·subst e;simp
 ·simp[e]
theorem Goal1.wait {c:FC}{s t:FM}{u m:Nat}{l:List Nat}(g:Goal1 c s t u m l)(j:Nat):t.wait j=s.wait j+zT j l - if j=u then 1 else 0:=by
 rw[g.eq];show zF (zt s m l).wait u ((zt s m l).wait u - 1) j=_;unfold zF;by_cases e:j=u
 ·subst e;simp[jB7]
 ·simp[e,jB7]
theorem Goal1.rev {c:FC}{s t:FM}{u m:Nat}{l:List Nat}(g:Goal1 c s t u m l)(j:Nat):t.rev j=s.rev j+zT j l:=by
 rw[g.eq];exact jHq m l s j
theorem choose_spec (c:FC)(s:FM)(u:Nat):∀ k,((zK c s u k).2.2=true->(zK c s u k).1<k/\c.mt (zK c s u k).1=true/\yB c s u (zK c s u k).1=some (zK c s u k).2.1)/\((zK c s u k).2.2=false->∀ m,m<k->c.mt m=true->yB c s u m=none):=by
 intro k
 induction k with
 | zero=>exact ⟨fun h=>(by cases h),fun _ m hm=>by omega⟩
 | succ k ih=>
  simp only[zK]
  cases b:c.mt k with
  | false=>
   simp only[Bool.false_eq_true,if_false];refine ⟨fun h=>⟨by have:=(ih.1 h).1;omega,(ih.1 h).2⟩,fun h m hm hmt=>?_⟩;by_cases e:m=k
   ·subst e;rw[b] at hmt;cases hmt
   ·exact ih.2 h m (by omega) hmt
  | true=>
   simp only[if_true]
   cases a:yB c s u k with
   | none=>
    simp only;refine ⟨fun h=>⟨by have:=(ih.1 h).1;omega,(ih.1 h).2⟩,fun h m hm hmt=>?_⟩;by_cases e:m=k
    ·subst e;exact a
    ·exact ih.2 h m (by omega) hmt
   | some l=>
    simp only
    cases d:(!(zK c s u k).2.2 || decide (l.length<(zK c s u k).2.1.length)) with
    | true=>simp only[if_true];exact ⟨fun _=>⟨by omega,b,a⟩,fun h=>(by cases h)⟩
    | false=>
     simp only[Bool.false_eq_true,if_false]
     have f:(zK c s u k).2.2=true:=by
      cases g:(zK c s u k).2.2 with
      | true=>rfl
      | false=>rw[g] at d;cases d
     exact ⟨fun h=>⟨by have:=(ih.1 h).1;omega,(ih.1 h).2⟩,fun h=>by rw[f] at h;cases h⟩
theorem jIW {c:FC}{s t:FM}{u:Nat}(h:FInv c s)(hu:u<6)(hlt:runs s u<c.goal u)(hp:yH c s u=some t):∃ m l,Goal1 c s t u m l:=by
 unfold yH at hp
 cases e:(tight c s u).2 with
 | true=>
  rw[e] at hp;simp only[if_true,Option.some.injEq] at hp;obtain ⟨a,b⟩:=jDo e;obtain ⟨d,g⟩:=jES.1 b;refine ⟨_,[],hu,a,hlt,d,⟨fun j hj=>(by cases hj),fun j hj=>?_,fun r hr=>?_⟩,hp.symm⟩
  ·have:=h.on j hj _ a;show ((List.count j []:Nat):Int)<=_;simpa using this
  ·have:=g r hr;show _<=_+(0:Int);omega
 | false=>
  rw[e] at hp;simp only[Bool.false_eq_true,if_false] at hp
  cases f:(zK c s u 8).2.2 with
  | false=>rw[f] at hp;simp at hp
  | true=>rw[f] at hp;simp only[if_true,Option.some.injEq] at hp;obtain ⟨a,b,d⟩:=(choose_spec c s u 8).1 f;exact ⟨(zK c s u 8).1,(zK c s u 8).2.1,hu,a,hlt,b,jFa h a d,hp.symm⟩
theorem jIo {c:FC}{s:FM}{u:Nat}(hp:yH c s u=none):∀ m,m<8->c.mt m=true->yB c s u m=none:=by
 unfold yH at hp
 cases a:(tight c s u).2 with
 | true=>rw[a] at hp;simp at hp
 | false=>
  rw[a] at hp;simp only[Bool.false_eq_true,if_false] at hp
  cases b:(zK c s u 8).2.2 with
  | false=>exact (choose_spec c s u 8).2 b
  | true=>rw[b] at hp;simp at hp
theorem jKq {c:FC}{s t:FM}:∀ n i,oneF c s i n=some t->∃ u,i<=u/\u<i+n/\runs s u<c.goal u/\yH c s u=some t:=by
 intro n
 induction n with
 | zero=>intro i h;cases h
 | succ n ih=>
  intro i h;simp only[oneF] at h;by_cases d:c.goal i<=runs s i
  ·rw[decide_eq_true d] at h;simp only[if_true] at h;obtain ⟨u,e,f,a⟩:=ih (i+1) h;exact ⟨u,by omega,by omega,a⟩
  ·rw[decide_eq_false d] at h;simp only[Bool.false_eq_true,if_false] at h
   cases b:yH c s i with
   | some t'=>rw[b] at h;simp only[Option.some.injEq] at h;subst h;exact ⟨i,by omega,by omega,by omega,b⟩
   | none=>rw[b] at h;simp only at h;obtain ⟨u,e,f,a⟩:=ih (i+1) h;exact ⟨u,by omega,by omega,a⟩
theorem jLA {c:FC}{s:FM}:∀ n i,oneF c s i n=none->∀ u,i<=u->u<i+n->runs s u<c.goal u->yH c s u=none:=by
 intro n
 induction n with
 | zero=>intro i _ u f g;omega
 | succ n ih=>
  intro i h u f g b;simp only[oneF] at h;by_cases d:c.goal i<=runs s i
  ·rw[decide_eq_true d] at h;simp only[if_true] at h;by_cases e:u=i
   ·subst e;omega
   ·exact ih (i+1) h u (by omega) (by omega) b
  ·rw[decide_eq_false d] at h;simp only[Bool.false_eq_true,if_false] at h
   cases a:yH c s i with
   | some t'=>rw[a] at h;simp at h
   | none=>
    rw[a] at h;simp only at h;by_cases e:u=i
    ·subst e;exact a
    ·exact ih (i+1) h u (by omega) (by omega) b
theorem jBk {c:FC}{s t:FM}(h:FInv c s)(hg:zl c s=some t):∃ u m l,Goal1 c s t u m l:=by
 obtain ⟨u,_,e,a,b⟩:=jKq 6 0 hg;obtain ⟨m,l,d⟩:=jIW h (by omega) a b;exact ⟨u,m,l,d⟩
theorem jJa {c:FC} {s:FM} (hg:zl c s=none) {u:Nat} (hu:u<6) (hlt:runs s u<c.goal u):∀ m,m<8->c.mt m=true->yB c s u m=none:=
  jIo (jLA 6 0 hg u (by omega) (by omega) hlt)
structure Fill1 (c:FC)(s t:FM)(u m:Nat):Prop where
  hu:u<6
  hm:m<8
  lt:runs s u<c.uc u
  wait:0<s.wait u
  fits:yX c s u m=true
  eq:t=yG s u m
theorem jBe {c:FC}{s t:FM}(hf:yP c s=some t):∃ u m,Fill1 c s t u m:=by
 unfold yP at hf
 cases b:(zQ c s 6).2.2 with
 | false=>rw[b] at hf;simp at hf
 | true=>rw[b] at hf;simp only[if_true,Option.some.injEq] at hf;obtain ⟨d,a⟩:=(jDw c s 6).1 b;unfold xI at a;simp only[Bool.and_eq_true,Bool.not_eq_true',Bool.or_eq_false_iff,decide_eq_false_iff_not] at a;obtain ⟨e,f⟩:=jDo a.2;exact ⟨_,_,d,e,by omega,by omega,f,hf.symm⟩
theorem jKb {c:FC}{s:FM}(hf:yP c s=none){u:Nat}(hu:u<6)(hw:0<s.wait u)(hlt:runs s u<c.uc u){m:Nat}(hm:m<8):yX c s u m=false:=by
 unfold yP at hf
 cases b:(zQ c s 6).2.2 with
 | true=>rw[b] at hf;simp at hf
 | false=>have a:=(jDw c s 6).2 b u hu;unfold xI at a;have d:decide (s.wait u<1)=false:=decide_eq_false (by omega);have e:decide (c.uc u<=runs s u)=false:=decide_eq_false (by omega);rw[d,e] at a;simp only[Bool.or_self,Bool.not_false,Bool.true_and] at a;exact jLa a hm
theorem Fill1.inv {c:FC}{s t:FM}{u m:Nat}(h:FInv c s)(f:Fill1 c s t u m):FInv c t:=by
 rw[f.eq];exact h.start f.hu f.hm f.fits f.wait
theorem Fill1.runs {c:FC}{s t:FM}{u m:Nat}(f:Fill1 c s t u m)(j:Nat):Por.runs t j=if j=u then Por.runs s u+1 else Por.runs s j:=by rw[f.eq,jDy f.hm]
theorem Fill1.wt {c:FC}{s t:FM}{u m:Nat}(f:Fill1 c s t u m)(j:Nat):t.wait j=if j=u then s.wait u - 1 else s.wait j:=by rw[f.eq];rfl
theorem Outer.rel {c:FC}{R:FM->FM->Prop}(hr:∀ s,R s s)(hg:∀ s t z,zl c s=some t->R t z->R s z)(hf:∀ s t z,yP c s=some t->R t z->R s z){s z:FM}(h:Outer c s z):R s z:=by
 have e:∀ {f:FM->Option FM},(∀ s t z,f s=some t->R t z->R s z)->∀ {a b z:FM},Iter f a b->R b z->R a z:=by
  intro f g a b z k d
  induction k with
  | done _=>exact d
  | step h _ ih=>exact g _ _ _ h (ih d)
 induction h with
 | done _=>exact hr _
 | more h i j _ ih=>exact hg _ _ _ h (e hg i (e hf j ih))
theorem Settles.rel {c:FC}{R:FM->FM->Prop}(hr:∀ s,R s s)(hg:∀ s t z,zl c s=some t->R t z->R s z)(hf:∀ s t z,yP c s=some t->R t z->R s z){s z:FM}(h:Settles c s z):R s z:=by
 have e:∀ {f:FM->Option FM},(∀ s t z,f s=some t->R t z->R s z)->∀ {a b z:FM},Iter f a b->R b z->R a z:=by
  intro f g a b z l d
  induction l with
  | done _=>exact d
  | step h _ ih=>exact g _ _ _ h (ih d)
 obtain ⟨v,x,i,j,k⟩:=h;exact e hg i (e hf j (k.rel hr hg hf))
theorem Settles.inv {c:FC} {P:FM->Prop} (hg:∀ s t,P s->zl c s=some t->P t) (hf:∀ s t,P s->yP c s=some t->P t) {s z:FM} (h:Settles c s z) (h0:P s):P z:=
  h.rel (R:=fun a b=>P a->P b) (fun _ h=>h) (fun _ _ _ h1 h2 h3=>h2 (hg _ _ h3 h1)) (fun _ _ _ h1 h2 h3=>h2 (hf _ _ h3 h1)) h0
theorem Outer.fin {c:FC}{s z:FM}(h:Outer c s z):yP c s=none->zl c z=none/\yP c z=none:=by
 induction h with
 | done h=>exact fun h2=>⟨h,h2⟩
 | more _ _ j _ ih=>exact fun _=>ih j.last
theorem Settles.fin {c:FC}{s z:FM}(h:Settles c s z):zl c z=none/\yP c z=none:=by
 obtain ⟨v,x,_,j,k⟩:=h;exact k.fin j.last
theorem Settles.finv {c:FC} (ho:FOk c) {s z:FM} (h:Settles c s z) (h0:FInv c s):FInv c z:=
  h.inv (P:=FInv c) (fun s t h1 h2=>by obtain ⟨u,m,l,g⟩:=jBk h1 h2;exact g.inv ho h1) (fun s t h1 h2=>by obtain ⟨u,m,f⟩:=jBe h2;exact f.inv h1) h0
theorem Settles.tasks {c:FC}(ho:FOk c){s z:FM}(h:Settles c s z)(h0:FInv c s)(u:Nat):z.wait u+runs z u=s.wait u+runs s u:=by
  have := h.inv (P := fun t => FInv c t /\ t.wait u + runs t u = s.wait u + runs s u) (fun a t h1 h2 => by
    obtain ⟨v, m, l, g⟩ := jBk h1.1 h2
    refine ⟨g.inv ho h1.1, ?_⟩
    rw [g.runs u, g.wait u]; have := h1.2; omega) (fun a t h1 h2 => by
    obtain ⟨v, m, f⟩ := jBe h2
    refine ⟨f.inv h1.1, ?_⟩
    rw [f.runs u, f.wt u]; have := h1.2
    by_cases e : u = v
    · subst e; simp; omega
    · simp [e]; omega) ⟨h0, rfl⟩
  exact this.2
structure Gent (c:FC)(s z:FM):Prop where
  rev:∀ u,u<6->s.rev u<=z.rev u
  way:∀ u,u<6->s.rev u<z.rev u->c.goal u<=runs z u
  kept:∀ u,u<6->s.rev u=z.rev u->runs s u<=runs z u
  low:∀ u,u<6->runs s u<=runs z u∨c.goal u<=runs z u
  gain:(∃ u,u<6/\s.rev u<z.rev u)->∃ v,v<6/\runs s v<c.goal v/\runs s v<runs z v
theorem Gent.goal {c:FC}{a s t:FM}(h:Gent c a s){u m:Nat}{l:List Nat}(g:Goal1 c s t u m l):Gent c a t:=by
 have q:=g.cl.zero;(have f:∀ j,j<6->0<zT j l->c.goal j<=runs s j - zT j l:=fun j hj d=>by refine (g.cl.mem j ?_).2.2;apply Classical.byContradiction;intro o;unfold zT at d;rw[List.count_eq_zero.2 o] at d;simp at d);(have n:∀ j,j≠u->runs t j=runs s j - zT j l:=fun j hj=>by rw[g.runs j,if_neg hj];omega);(have i:runs t u=runs s u+1:=by rw[g.runs u,if_pos rfl,q];omega);have b:=g.rev;have w:=g.lt;(have k:a.rev u=s.rev u:=by have r:=h.rev u g.hu;apply Classical.byContradiction;intro o;have:=h.way u g.hu (by omega);omega);have v:=h.kept u g.hu k;refine ⟨fun j hj=>?_,fun j hj hlt2=>?_,fun j hj he=>?_,fun j hj=>?_,fun _=>?_⟩
 ·have:=h.rev j hj;have:=b j;have:=jAf j l;omega
 ·by_cases e:j=u
  ·subst e;rw[b j,q] at hlt2;omega
  ·rw[n j e];by_cases d:0<zT j l
   ·have:=f j hj d;omega
   ·(have p:zT j l=0:=by have:=jAf j l;omega);rw[b j,p] at hlt2;rw[p];have:=h.way j hj (by omega);omega
 ·have d:=jAf j l;have r:=h.rev j hj;rw[b j] at he;by_cases e:j=u
  ·subst e;rw[i];omega
  ·rw[n j e];have:=h.kept j hj (by omega);omega
 ·by_cases e:j=u
  ·subst e;rw[i];left;omega
  ·rw[n j e];by_cases d:0<zT j l
   ·right;exact f j hj d
   ·(have p:zT j l=0:=by have:=jAf j l;omega);rw[p];rcases h.low j hj with o | o
    ·left;omega
    ·right;omega
 ·exact ⟨u,g.hu,by omega,by omega⟩
theorem Gent.fill {c:FC}{a s t:FM}(h:Gent c a s){u m:Nat}(f:Fill1 c s t u m):Gent c a t:=by
 have b:∀ j,runs s j<=runs t j:=fun j=>by
  rw[f.runs j];by_cases e:j=u
  ·subst e;simp;omega
  ·simp[e]
 (have d:t.rev=s.rev:=by rw[f.eq];rfl);refine ⟨fun j hj=>by rw[d];exact h.rev j hj,fun j hj h1=>?_,fun j hj h1=>?_,fun j hj=>?_,fun h1=>?_⟩
 ·rw[d] at h1;have:=h.way j hj h1;have:=b j;omega
 ·rw[d] at h1;have:=h.kept j hj h1;have:=b j;omega
 ·have:=b j;rcases h.low j hj with k | k <;> omega
 ·rw[d] at h1;obtain ⟨v,g,i,l⟩:=h.gain h1;exact ⟨v,g,i,by have:=b v;omega⟩
theorem Settles.gentle {c:FC}(ho:FOk c){s z:FM}(h:Settles c s z)(h0:FInv c s):Gent c s z:=by
  have := h.inv (P := fun t => FInv c t /\ Gent c s t) (fun a t h1 h2 => by
    obtain ⟨v, m, l, g⟩ := jBk h1.1 h2
    exact ⟨g.inv ho h1.1, h1.2.goal g⟩) (fun a t h1 h2 => by
    obtain ⟨v, m, f⟩ := jBe h2
    exact ⟨f.inv h1.1, h1.2.fill f⟩) ⟨h0, fun u _ => Int.le_refl _, fun u _ h => by omega, fun u _ _ => Int.le_refl _, fun u _ => Or.inl (Int.le_refl _), fun ⟨u, _, h⟩ => by omega⟩
  exact this.2
def lack (c:FC)(s:FM):Int:=sumI (fun u=>max 0 (c.goal u - runs s u)) 6
theorem jDQ (c:FC)(s:FM):0<=lack c s:=jAK (fun u _=>by omega)
theorem Goal1.lack {c:FC}{s t:FM}{u m:Nat}{l:List Nat}(g:Goal1 c s t u m l):lack c t=lack c s - 1:=by
  have d:=g.cl.zero
  have := jA2 (f := fun j => max 0 (c.goal j - Por.runs t j)) (g := fun j => max 0 (c.goal j - Por.runs s j)) g.hu (fun j hj hne => by
    show max 0 (c.goal j - Por.runs t j) = max 0 (c.goal j - Por.runs s j)
    rw [g.runs j, if_neg hne]
    have e := jAf j l
    by_cases a : 0 < zT j l
    · have h := (g.cl.mem j (by
        apply Classical.byContradiction
        intro b
        unfold zT at a
        rw [List.count_eq_zero.2 b] at a; simp at a)).2.2
      omega
    · have : zT j l = 0 := by omega
      rw [this]; omega)
  unfold Por.lack;rw[this,g.runs u,if_pos rfl,d];have:=g.lt;omega
theorem Fill1.lack {c:FC}{s t:FM}{u m:Nat}(f:Fill1 c s t u m):lack c t<=lack c s:=by
 refine jD0 (fun j hj=>?_);show max 0 (c.goal j - Por.runs t j)<=max 0 (c.goal j - Por.runs s j);rw[f.runs j];by_cases e:j=u
 ·subst e;rw[if_pos rfl];omega
 ·rw[if_neg e];omega
def waits (s:FM):Int:=sumI s.wait 6
theorem Fill1.waits {c:FC}{s t:FM}{u m:Nat}(f:Fill1 c s t u m):waits t=waits s - 1:=by
 have:=jA2 (f:=t.wait) (g:=s.wait) f.hu (fun j hj hne=>by rw[f.wt j,if_neg hne]);unfold Por.waits;rw[this,f.wt u,if_pos rfl];omega
theorem FInv.waits {c:FC}{s:FM}(h:FInv c s):0<=waits s:=jAK h.wait
theorem jKN (l:List Nat)(hl:∀ j,j∈l->j<6):sumI (fun j=>zT j l) 6=l.length:=by
 induction l with
 | nil=>exact jAY (fun j _=>by show ((List.count j []:Nat):Int)=0;simp)
 | cons a l ih=>have b:=ih (fun j hj=>hl j (List.mem_cons_of_mem _ hj));have c:=jA2 (f:=fun j=>zT j (a :: l)) (g:=fun j=>zT j l) (i:=a) (hl a List.mem_cons_self) (fun j _ hne=>by show zT j (a :: l)=zT j l;rw[jCE,if_neg hne];omega);rw[c,b];show _+(zT a (a :: l) - zT a l)=_;rw[jCE,if_pos rfl];simp;omega
theorem Settles.revs {c:FC}(ho:FOk c){s z:FM}(h:Settles c s z)(h0:FInv c s){T:Int}(hT:∀ u,u<6->s.wait u+runs s u<=T)(u:Nat)(hu:u<6):z.rev u<=s.rev u+T*lack c s:=by
  have d:0<=T:=by have b:=h0.wait u hu;have i:=hT u hu;have k:0<=runs s u:=jAK (h0.on u hu);omega
  have := h.inv (P := fun t => FInv c t /\ (∀ u, u < 6 -> t.wait u + runs t u <= T) /\ t.rev u + T * lack c t <= s.rev u + T * lack c s) (fun a t b i => by
    obtain ⟨v, m, l, g⟩ := jBk b.1 i
    refine ⟨g.inv ho b.1, fun j hj => ?_, ?_⟩
    · rw [g.runs j, g.wait j]; have := b.2.1 j hj; omega
    · rw [g.rev u, g.lack, Int.mul_sub, Int.mul_one]
      have k := g.cl.on u hu
      have n := jBu (b.1.on u hu) g.hm
      have o := b.2.1 u hu
      have p := b.1.wait u hu
      have q := b.2.2
      change a.on u m <= runs a u at n
      omega) (fun a t b i => by
    obtain ⟨v, m, f⟩ := jBe i
    refine ⟨f.inv b.1, fun j hj => ?_, ?_⟩
    · rw [f.runs j, f.wt j]; have := b.2.1 j hj
      by_cases e : j = v
      · subst e; simp; omega
      · simp [e]; omega
    · have e : t.rev = a.rev := by rw [f.eq]; rfl
      rw [e]
      have := Int.mul_le_mul_of_nonneg_left f.lack d
      have := b.2.2
      omega) ⟨h0, hT, Int.le_refl _⟩
  have r:=this.2.2;have:=Int.mul_nonneg d (jDQ c z);omega
end Go.Proofs.YtigokanoflkinabGreatDoor.Por
