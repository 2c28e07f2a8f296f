/- LimbsA, LimbsB, LimbsC, TextA, RatA, RatB, Digs, joined. -/
import Derived.Lib.ItoaNum
import Derived.WalkKit
namespace Go.Proofs.YtigokanoflkinabGreatDoor.Por
def limbsF:Nat->Nat->List Int
  | 0,_=>[]
  | f+1,n=>if n=0 then [] else ((n % 10000:Nat):Int) :: limbsF f (n / 10000)
def zA (n:Nat):List Int:=limbsF n n
def val:List Int->Int
  | []=>0
  | x :: xs=>x+10000*val xs
def lm (xs:List Int)(j:Nat):Int:=xs.getD j 0
def yg (xs:List Int):Prop:=∀ x∈xs,0<=x/\x<10000
theorem jDp:∀ (f g n:Nat),n<=f->n<=g->limbsF f n=limbsF g n
  | 0,g,n,hf,_=>by
    obtain rfl:n=0:=by omega
    cases g <;> simp[limbsF]
  | f+1,0,n,_,hg=>by
    obtain rfl:n=0:=by omega
    simp[limbsF]
  | f+1,g+1,n,hf,hg=>by
    unfold limbsF
    by_cases h:n=0
    · simp[h]
    · rw[if_neg h,if_neg h,jDp f g (n / 10000) (by omega) (by omega)]
theorem jAr:zA 0 = []:=rfl
theorem jBR (n:Nat)(h:n≠0):zA n=((n % 10000:Nat):Int) :: zA (n / 10000):=by
 obtain ⟨m,rfl⟩:∃ m,n=m+1:=⟨n - 1,by omega⟩;unfold zA;rw[limbsF,if_neg h,jDp m ((m+1) / 10000) _ (by omega) (by omega)]
theorem jCu (P:Nat->Prop)(h0:P 0)(hs:∀ n,n≠0->P (n / 10000)->P n)(n:Nat):P n:=by
 induction n using Nat.strongRecOn with
 | ind n ih=>
  by_cases h:n=0
  ·subst h;exact h0
  ·exact hs n h (ih _ (by omega))
theorem jAg (n:Nat):val (zA n)=n:=by
 induction n using jCu with
 | h0=>simp[jAr,val]
 | hs n h ih=>rw[jBR n h,val,ih];omega
theorem jAJ (n:Nat):yg (zA n):=by
 induction n using jCu with
 | h0=>simp[jAr,yg]
 | hs n h ih=>
  rw[jBR n h];intro x a;rcases List.mem_cons.1 a with rfl | a
  ·omega
  ·exact ih x a
theorem jAd {xs:List Int}(h:yg xs):0<=val xs:=by
 induction xs with
 | nil=>simp[val]
 | cons x xs ih=>have:=ih (fun y hy=>h y (by simp[hy]));have:=h x (by simp);simp only[val];omega
theorem jB0 {n:Nat}(h:n≠0):zA n≠[]:=by rw[jBR n h];simp
theorem jEE {n:Nat}:zA n = []↔n=0:=by
 constructor
 ·intro h;by_cases e:n=0
  ·exact e
  ·exact absurd h (jB0 e)
 ·rintro rfl;rfl
def xO (xs:List Int):Prop:=xs.getLast?≠some 0
theorem jFt {xs:List Int}(h:yg xs)(ht:xO xs):zA (val xs).toNat=xs:=by
 induction xs with
 | nil=>simp[val,jAr]
 | cons x xs a=>
  have k:=h x (by simp);(have f:yg xs:=fun y hy=>h y (by simp[hy]));have j:=jAd f;by_cases e:xs = []
  ·subst e;(have:x≠0:=by intro e;apply ht;simp[e]);(have g:val [x]=x:=by simp[val]);rw[g,jBR _ (by omega)];(have b:x.toNat / 10000=0:=by omega);rw[b,jAr];(have:((x.toNat % 10000:Nat):Int)=x:=by omega);rw[this]
  ·(have d:xO xs:=by intro c;apply ht;rw[List.getLast?_cons,c];simp);have a:=a f d;(have i:val xs≠0:=by intro c;rw[c] at a;exact e (by simpa [jAr] using a.symm));simp only[val];rw[jBR _ (by omega)];(have b:(x+10000*val xs).toNat / 10000=(val xs).toNat:=by omega);rw[b,a];(have:(((x+10000*val xs).toNat % 10000:Nat):Int)=x:=by omega);rw[this]
theorem jBj (n:Nat):xO (zA n):=by
 induction n using jCu with
 | h0=>simp[jAr,xO]
 | hs n h ih=>
  rw[jBR n h];unfold xO at *;by_cases e:n / 10000=0
  ·rw[e,jAr];simp;omega
  ·rw[List.getLast?_cons]
   cases a:(zA (n / 10000)).getLast? with
   | none=>exact absurd (List.getLast?_eq_none_iff.1 a) (jB0 e)
   | some v=>rw[a] at ih;simpa using ih
theorem jC7 (xs ys:List Int):val (xs ++ ys)=val xs+10000 ^ xs.length*val ys:=by
 induction xs with
 | nil=>simp[val]
 | cons x xs ih=>simp only[List.cons_append,val,ih,List.length_cons,Int.pow_succ];grind
theorem jDJ {xs:List Int}(h:yg xs):val xs<10000 ^ xs.length:=by
 induction xs with
 | nil=>simp[val]
 | cons x xs ih=>have:=ih (fun y hy=>h y (by simp[hy]));have:=h x (by simp);simp only[val,List.length_cons,Int.pow_succ];omega
theorem jCd (xs:List Int)(n:Nat)(hz:∀ i,n<=i->i<xs.length->lm xs i=0):val (xs.take n)=val xs:=by
 unfold lm at *
 induction xs generalizing n with
 | nil=>simp
 | cons x xs ih=>
  cases n with
  | zero=>have a:=hz 0 (by omega) (by simp);simp at a;have:=ih 0 (fun i _ hi=>by have:=hz (i+1) (by omega) (by simp;omega);simpa using this);simp[val] at this ⊢;omega
  | succ n=>have:=ih n (fun i h hi=>by have:=hz (i+1) (by omega) (by simp;omega);simpa using this);simp only[List.take_succ_cons,val,this]
theorem jAm {xs:List Int}(h:yg xs)(n:Nat):yg (xs.take n):=fun x hx=>h x (List.mem_of_mem_take hx)
theorem jJg (xs:List Int)(n:Nat)(hL:yg xs)(hn:n<=xs.length)(hz:∀ i,n<=i->i<xs.length->lm xs i=0)(ht:n=0∨lm xs (n - 1)≠0):xs.take n=zA (val xs).toNat:=by
 unfold lm at *;rw[<- jCd xs n hz];refine (jFt (jAm hL n) ?_).symm;unfold xO;rcases ht with rfl | ht
 ·simp
 ·by_cases e:n=0
  ·subst e;simp
  ·rw[List.getLast?_eq_getElem?,List.length_take,Nat.min_eq_left hn,List.getElem?_take,if_pos (by omega)];rw[List.getD_eq_getElem?_getD] at ht;intro a;rw[a] at ht;simp at ht
theorem jBQ (n:Nat):n<10000 ^ (zA n).length:=by
 have h:=jDJ (jAJ n);rw[jAg] at h;have e:((10000 ^ (zA n).length:Nat):Int)=10000 ^ (zA n).length:=Int.natCast_pow 10000 _;omega
theorem jAN {n k:Nat}(h:n<10000 ^ k):(zA n).length<=k:=by
 induction n using jCu generalizing k with
 | h0=>simp[jAr]
 | hs n hn ih=>
  rw[jBR n hn]
  cases k with
  | zero=>simp at h;omega
  | succ k=>simp only[List.length_cons];have:=@ih k (by rw[Nat.pow_succ] at h;omega);omega
theorem jF6 {n:Nat}(h:n≠0):10000 ^ ((zA n).length - 1)<=n:=by
 induction n using jCu with
 | h0=>exact absurd rfl h
 | hs n hn ih=>
  rw[jBR n hn];by_cases e:n / 10000=0
  ·rw[e,jAr,List.length_singleton,Nat.sub_self,Nat.pow_zero];omega
  ·have:=ih e;(have a:1<=(zA (n / 10000)).length:=by have:=jB0 e;cases c:zA (n / 10000) <;> simp_all);simp only[List.length_cons,Nat.add_sub_cancel];obtain ⟨m,b⟩:∃ m,(zA (n / 10000)).length=m+1:=⟨_,(Nat.sub_add_cancel a).symm⟩;rw[b] at this ⊢;simp only[Nat.add_sub_cancel] at this;rw[Nat.pow_succ];omega
theorem jAl {a b:Nat}(h:a<=b):(zA a).length<=(zA b).length:=jAN (Nat.lt_of_le_of_lt h (jBQ b))
theorem jCk (a b:Nat):(zA (a*b)).length<=(zA a).length+(zA b).length:=by
 apply jAN;rw[Nat.pow_add];have c:=jBQ a;have d:=jBQ b;exact Nat.mul_lt_mul_of_lt_of_lt c d
theorem jI8 (a b:Nat):(zA (a+b)).length<=max (zA a).length (zA b).length+1:=by
 apply jAN;have c:=jBQ a;have d:=jBQ b;have e:10000 ^ (zA a).length<=10000 ^ max (zA a).length (zA b).length:=Nat.pow_le_pow_right (by omega) (by omega);have f:10000 ^ (zA b).length<=10000 ^ max (zA a).length (zA b).length:=Nat.pow_le_pow_right (by omega) (by omega);rw[Nat.pow_succ];omega
theorem jAP (xs:List Int)(k:Nat):val (xs.take (k+1))=val (xs.take k)+10000 ^ k*lm xs k:=by
 unfold lm at *;by_cases h:k<xs.length
 ·rw[List.take_succ_eq_append_getElem h,jC7,List.length_take,Nat.min_eq_left (by omega)];simp[val,h]
 ·rw[List.take_of_length_le (by omega),List.take_of_length_le (by omega),List.getD_eq_getElem?_getD,List.getElem?_eq_none (by omega)];simp
theorem jGC (xs:List Int)(k:Nat)(v:Int)(h:k<xs.length):(xs.set k v).take (k+1)=xs.take k ++ [v]:=by
 rw[List.take_succ_eq_append_getElem (by simpa using h),List.take_set_of_le (by omega)];simp
theorem jBN (xs:List Int)(k:Nat)(v:Int)(h:k<xs.length):val ((xs.set k v).take (k+1))=val (xs.take k)+10000 ^ k*v:=by
 rw[jGC xs k v h,jC7,List.length_take,Nat.min_eq_left (by omega)];simp[val]
theorem jAM {xs:List Int}(h:yg xs)(k:Nat):0<=lm xs k/\lm xs k<10000:=by
 unfold lm at *;rw[List.getD_eq_getElem?_getD];by_cases a:k<xs.length
 ·rw[List.getElem?_eq_getElem a];exact h _ (List.getElem_mem a)
 ·rw[List.getElem?_eq_none (by omega)];simp
theorem jB4 {xs:List Int}(h:yg xs)(k:Nat)(v:Int)(h0:0<=v)(h1:v<10000):yg (xs.set k v):=by
 intro x a;rcases List.mem_or_eq_of_mem_set a with a | rfl
 ·exact h x a
 ·exact ⟨h0,h1⟩
theorem jBV (n:Nat):yg (List.replicate n 0):=by
 intro x a;have:=List.eq_of_mem_replicate a;omega
theorem jKl (o A B:List Int)(k:Nat)(c s:Int)(hk:k<o.length)(hs:s=lm A k+lm B k+c)(h:val (o.take k)+10000 ^ k*c=val (A.take k)+val (B.take k)):val ((o.set k (s % 10000)).take (k+1))+10000 ^ (k+1)*(s / 10000)=val (A.take (k+1))+val (B.take (k+1)):=by
 rw[jBN o k _ hk,jAP,jAP,Int.pow_succ];(have e:s=s % 10000+10000*(s / 10000):=by omega);generalize s % 10000=m at *;generalize s / 10000=q at *;generalize (10000:Int) ^ k=P at *
 grind
theorem jLU (o A B:List Int)(k:Nat)(b r b':Int)(hk:k<o.length)(hr:r - 10000*b'=lm A k - lm B k - b)(h:val (o.take k) - 10000 ^ k*b=val (A.take k) - val (B.take k)):val ((o.set k r).take (k+1)) - 10000 ^ (k+1)*b'=val (A.take (k+1)) - val (B.take (k+1)):=by
 rw[jBN o k _ hk,jAP,jAP,Int.pow_succ];generalize (10000:Int) ^ k=P at *
 grind
theorem jHe (xs:List Int)(k:Nat)(v:Int)(h:k<xs.length):val (xs.set k v)=val xs+10000 ^ k*(v - lm xs k):=by
 unfold lm at *
 induction xs generalizing k with
 | nil=>simp at h
 | cons x xs ih=>
  cases k with
  | zero=>simp[val];omega
  | succ k=>
   have:=ih k (by simpa using h);simp only[List.set_cons_succ,val,this,List.getD_cons_succ,Int.pow_succ]
   grind
theorem jK2 (o B:List Int)(i j:Nat)(x c s V:Int)(hk:i+j<o.length)(hs:s=lm o (i+j)+x*lm B j+c)(h:val o+10000 ^ (i+j)*c=V+10000 ^ i*(x*val (B.take j))):val (o.set (i+j) (s % 10000))+10000 ^ (i+(j+1))*(s / 10000)=V+10000 ^ i*(x*val (B.take (j+1))):=by
 rw[jHe o _ _ hk,jAP,<- Nat.add_assoc,Int.pow_succ,Int.pow_add] at *;(have e:s=s % 10000+10000*(s / 10000):=by omega);generalize s % 10000=m at *;generalize s / 10000=q at *;generalize (10000:Int) ^ i=P at *;generalize (10000:Int) ^ j=R at *
 grind
theorem jJB (l x y c:Int)(hl:0<=l/\l<10000)(hx:0<=x/\x<10000)(hy:0<=y/\y<10000)(hc:0<=c/\c<10000):0<=x*y/\x*y<=99980001/\0<=l+x*y+c/\l+x*y+c<=99999999:=by
 have a:0<=x*y:=Int.mul_nonneg hx.1 hy.1;have b:x*y<=9999*9999:=Int.mul_le_mul (by omega) (by omega) hy.1 (by omega);omega
theorem jC4 (A B:List Int)(hA:yg A)(hB:yg B)(n:Nat)(hn:A.length=n)(hm:B.length=n)(k:Nat)(hk:k<n)(he:∀ i,k<i->i<n->lm A i=lm B i)(hlt:lm A k<lm B k):val A<val B:=by
 have e:∀ m,k+1<=m->m<=n->val (A.take m)<val (B.take m):=by
  intro m c
  induction m with
  | zero=>omega
  | succ m ih=>
   intro d;rw[jAP,jAP];by_cases f:m=k
   ·subst f;have a:=jDJ (jAm hA m);rw[List.length_take,Nat.min_eq_left (by omega)] at a;have g:=jAd (jAm hB m);have h:(0:Int)<10000 ^ m:=Int.pow_pos (by omega);have b:(10000:Int) ^ m*(lm A m+1)<=10000 ^ m*lm B m:=Int.mul_le_mul_of_nonneg_left (by omega) (by omega);rw[Int.mul_add,Int.mul_one] at b;omega
   ·have:=ih (by omega) (by omega);rw[he m (by omega) (by omega)];omega
 have:=e n (by omega) (Nat.le_refl n)
 rwa [List.take_of_length_le (by omega),List.take_of_length_le (by omega)] at this
theorem jHt {A B:List Int}(n:Nat)(hn:A.length=n)(hm:B.length=n)(h:∀ i,i<n->lm A i=lm B i):A=B:=by
 unfold lm at *;(refine List.ext_getElem (by omega) fun i h1 h2=>?_);have:=h i (by omega)
 simpa [List.getD_eq_getElem?_getD,h1,h2] using this
theorem jCY {A B:List Int}(hA:yg A)(hB:yg B)(ht:xO B)(h:A.length<B.length):val A<val B:=by
 have f:=jDJ hA
 have g:10000 ^ (B.length - 1)<=(val B).toNat:=by
  have e:=jFt hB ht;(have a:(val B).toNat≠0:=by intro c;rw[c,jAr] at e;rw[<- e] at h;simp at h);have:=jF6 a
  rwa [e] at this
 (have i:(10000:Int) ^ A.length<=10000 ^ (B.length - 1):=by have j:(10000:Nat) ^ A.length<=10000 ^ (B.length - 1):=Nat.pow_le_pow_right (by omega) (by omega);have d:((10000 ^ A.length:Nat):Int)=10000 ^ A.length:=Int.natCast_pow 10000 _;have b:((10000 ^ (B.length - 1):Nat):Int)=10000 ^ (B.length - 1):=Int.natCast_pow 10000 _;omega);have b:((10000 ^ (B.length - 1):Nat):Int)=10000 ^ (B.length - 1):=Int.natCast_pow 10000 _;have:=jAd hB;omega
set_option linter.unusedSimpArgs false
set_option linter.unusedVariables false
def ltB (a b:Int):Bool:=decide (a<b)
theorem jCN (xs:List Int)(n j:Nat)(h:j<n):lm (xs.take n) j=lm xs j:=by
 unfold lm;simp[List.getD_eq_getElem?_getD,List.getElem?_take,h]
theorem jCP (xs:List Int)(o j:Nat):lm (xs.drop o) j=lm xs (o+j):=by
 unfold lm;simp[List.getD_eq_getElem?_getD,List.getElem?_drop]
theorem jBc {xs:List Int}(h:yg xs)(n:Nat):yg (xs.drop n):=fun x hx=>h x (List.mem_of_mem_drop hx)
theorem jCb (R:List Int)(n:Nat)(hn:R.length=n+1):val R=val (R.take n)+10000 ^ n*lm R n:=by
 rw[<- jAP,List.take_of_length_le (by omega)]
theorem jKB (R B:List Int)(n:Nat)(hR:yg R)(hB:yg B)(hn:R.length=n+1)(hm:B.length=n)(h:0<lm R n):ltB (val R) (val B)=false:=by
 have b:=jCb R n hn;have a:=jDJ hB;rw[hm] at a;have c:=jAd (jAm hR n);have d:(10000:Int) ^ n*1<=10000 ^ n*lm R n:=Int.mul_le_mul_of_nonneg_left (by omega) (Int.le_of_lt (Int.pow_pos (by omega)));unfold ltB;simp;omega
theorem jKn (R B:List Int)(n:Nat)(hn:R.length=n+1)(hm:B.length=n)(h:lm R n=0)(he:∀ j,j<n->lm R j=lm B j):ltB (val R) (val B)=false:=by
 have a:=jCb R n hn;have b:R.take n=B:=jHt n (by simp;omega) hm (fun i hi=>(jCN R n i hi).trans (he i hi));rw[h,b] at a;unfold ltB;simp;omega
theorem jLC (R B:List Int)(n q:Nat)(hR:yg R)(hB:yg B)(hn:R.length=n+1)(hm:B.length=n)(h:lm R n=0)(hq:q<n)(he:∀ j,q<j->j<n->lm R j=lm B j)(hne:lm R q≠lm B q):ltB (val R) (val B)=decide (lm R q<lm B q):=by
 have f:=jCb R n hn;rw[h,Int.mul_zero,Int.add_zero] at f;unfold ltB;rw[f,Bool.eq_iff_iff,decide_eq_true_iff,decide_eq_true_iff];rcases Int.lt_trichotomy (lm R q) (lm B q) with e | c | d
 ·have:=jC4 (R.take n) B (jAm hR n) hB n (by simp;omega) hm q hq (fun i a b=>(jCN R n i b).trans (he i a b)) (by rw[jCN R n q hq];exact e);omega
 ·exact absurd c hne
 ·have:=jC4 B (R.take n) hB (jAm hR n) n hm (by simp;omega) q hq (fun i a b=>((jCN R n i b).trans (he i a b)).symm) (by rw[jCN R n q hq];exact d);omega
theorem jJ2 (D R B:List Int)(i:Nat)(t c left c2:Int)(hk:i<D.length)(hD:lm D i=lm R i)(hl:left - 10000*c2=lm D i - (c+lm B i*t))(h:val (D.take i) - 10000 ^ i*c=val (R.take i) - t*val (B.take i)):val ((D.set i left).take (i+1)) - 10000 ^ (i+1)*c2=val (R.take (i+1)) - t*val (B.take (i+1)):=by
 rw[jBN D i _ hk,jAP,jAP,Int.pow_succ];rw[hD] at hl;generalize (10000:Int) ^ i=P at *
 grind
theorem jK1 (D R B:List Int)(n:Nat)(t c:Int)(hD:yg D)(hR:yg R)(hc:0<=c)(hk:n<D.length)(hl:lm D n=lm R n)(hm:B.length=n)(hR2:R.length=n+1)(h:val (D.take n) - 10000 ^ n*c=val (R.take n) - t*val (B.take n))(hle:t*val B<=val R):0<=lm D n - c/\lm D n - c<10000/\val ((D.set n (lm D n - c)).take (n+1))=val R - t*val B:=by
 have g:=jCb R n hR2;have e:B.take n=B:=List.take_of_length_le (by omega);rw[e] at h;have b:=jBN D n (lm D n - c) hk
 have d:val ((D.set n (lm D n - c)).take (n+1))=val R - t*val B:=by
  rw[b,hl];generalize (10000:Int) ^ n=P at *
  grind
 have j:=jAM hD n;refine ⟨?_,by omega,d⟩;have f:=jDJ (jAm hD n);rw[List.length_take,Nat.min_eq_left (by omega)] at f;rw[b] at d;have k:(0:Int)<10000 ^ n:=Int.pow_pos (by omega);by_cases a:0<=lm D n - c
 ·exact a
 ·exfalso;have i:(10000:Int) ^ n*(lm D n - c)<=10000 ^ n*(-1):=Int.mul_le_mul_of_nonneg_left (by omega) (by omega);omega
theorem jIV (x t c:Int)(hx:0<=x/\x<10000)(ht:0<=t/\t<10000)(hc:0<=c/\c<=10000):0<=x*t/\x*t<=99980001/\0<=c+x*t/\c+x*t<=99990001:=by
 have a:0<=x*t:=Int.mul_nonneg hx.1 ht.1;have b:x*t<=9999*9999:=Int.mul_le_mul (by omega) (by omega) ht.1 (by omega);omega
theorem jLk (R B:List Int)(n:Nat)(hR:yg R)(hB:yg B)(hn:R.length=n+2)(hm:B.length=n+1)(g:Int)(hg0:0<=g)(hg:g*(lm B n+1)<=lm R (n+1)*10000+lm R n):g*val B<=val R:=by
 have a:=jCb R (n+1) hn;have c:=jAP R n;have d:=jCb B n hm;have f:=jAd (jAm hR n);have e:=jDJ (jAm hB n);rw[List.length_take,Nat.min_eq_left (by omega)] at e;have h:(0:Int)<10000 ^ n:=Int.pow_pos (by omega);rw[c,Int.pow_succ] at a;generalize (10000:Int) ^ n=P at *;generalize val (R.take n)=u at *;generalize val (B.take n)=v at *;generalize lm R (n+1)=r1 at *;generalize lm R n=r0 at *;generalize lm B n=b at *;have i:g*val B<=g*(P*(b+1)):=Int.mul_le_mul_of_nonneg_left (by rw[d];grind) hg0;have j:P*(g*(b+1))<=P*(r1*10000+r0):=Int.mul_le_mul_of_nonneg_left hg (by omega);(have k:g*(P*(b+1))=P*(g*(b+1)):=by grind);(have l:val R=u+P*(r1*10000+r0):=by rw[a];grind);omega
theorem jLl (g V W:Int)(hV:0<V)(h1:g*V<=W)(h2:W<10000*V):g<10000:=by
 by_cases h:g<10000
 ·exact h
 ·exfalso;have:10000*V<=g*V:=Int.mul_le_mul_of_nonneg_right (by omega) (by omega);omega
theorem jMf {B:List Int}(hB:yg B)(n:Nat)(hm:B.length=n+1)(h:1<=lm B n):0<val B:=by
 have a:=jCb B n hm;have b:=jAd (jAm hB n);have c:(0:Int)<10000 ^ n:=Int.pow_pos (by omega);have:(10000:Int) ^ n*1<=10000 ^ n*lm B n:=Int.mul_le_mul_of_nonneg_left h (by omega);omega
structure Win (Z Z':List Int)(o n:Nat)(d:Int):Prop where
  len:Z'.length=Z.length
  pre:Z'.take o=Z.take o
  post:Z'.drop (o+n)=Z.drop (o+n)
  win:val ((Z'.drop o).take n)=val ((Z.drop o).take n) - d
theorem Win.refl (Z:List Int)(o n:Nat):Win Z Z o n 0:=⟨rfl,rfl,rfl,by omega⟩
theorem Win.trans {Z Z' Z'':List Int} {o n:Nat} {d d':Int} (h:Win Z Z' o n d) (k:Win Z' Z'' o n d'):Win Z Z'' o n (d+d'):=
  ⟨k.len.trans h.len,k.pre.trans h.pre,k.post.trans h.post,by rw[k.win,h.win];omega⟩
theorem jCi (Z:List Int)(n:Nat)(h:n<=Z.length):val Z=val (Z.take n)+10000 ^ n*val (Z.drop n):=by
 have:=jC7 (Z.take n) (Z.drop n)
 rwa [List.take_append_drop,List.length_take,Nat.min_eq_left h] at this
theorem Win.drop {Z Z':List Int}{o n:Nat}{d:Int}(h:Win Z Z' o n d)(hn:o+n<=Z.length):val (Z'.drop o)=val (Z.drop o) - d:=by
 have a:=jCi (Z'.drop o) n (by rw[List.length_drop,h.len];omega);have b:=jCi (Z.drop o) n (by rw[List.length_drop];omega);rw[List.drop_drop,h.post,h.win] at a;rw[List.drop_drop] at b;omega
theorem Win.all {Z Z':List Int}{o n:Nat}{d:Int}(h:Win Z Z' o n d)(hn:o+n<=Z.length):val Z'=val Z - 10000 ^ o*d:=by
 have a:=jCi Z' o (by rw[h.len];omega);have b:=jCi Z o (by omega);rw[h.pre,h.drop hn] at a;rw[a,b];grind
theorem jIQ (Z:List Int)(i n:Nat)(V:Int)(hZ:yg Z)(hV:V<=10000 ^ n)(hi:i+n+1<=Z.length)(h:val (Z.drop (i+1))<V):val ((Z.drop i).take (n+1))=val (Z.drop i)/\val (Z.drop i)<10000*V/\val ((Z.drop i).take (n+1))=lm Z i+10000*val (Z.drop (i+1)):=by
 (have c:val (Z.drop i)=lm Z i+10000*val (Z.drop (i+1)):=by rw[List.drop_eq_getElem_cons (show i<Z.length by omega),val];unfold lm;simp[show i<Z.length by omega]);have d:=jAM hZ i;have a:=jCi (Z.drop i) (n+1) (by rw[List.length_drop];omega);have g:=jAd (jAm (jBc hZ i) (n+1));have j:=jAd (jBc (jBc hZ i) (n+1));have f:(0:Int)<10000 ^ n:=Int.pow_pos (by omega)
 have b:val ((Z.drop i).drop (n+1))=0:=by
  by_cases e:val ((Z.drop i).drop (n+1))=0
  ·exact e
  ·exfalso;have:(10000:Int) ^ (n+1)*1<=10000 ^ (n+1)*val ((Z.drop i).drop (n+1)):=Int.mul_le_mul_of_nonneg_left (by omega) (Int.le_of_lt (Int.pow_pos (by omega)));rw[Int.pow_succ] at this a;omega
 rw[b,Int.mul_zero,Int.add_zero] at a;exact ⟨a.symm,by omega,by omega⟩
theorem jKW (a b q r:Nat)(h:a=q*b+r)(hr:r<b):q=a / b/\r=a % b:=by
 (have c:0<b:=by omega);subst h;constructor
 ·rw[Nat.mul_comm,Nat.mul_add_div c,Nat.div_eq_of_lt hr];omega
 ·rw[Nat.mul_comm,Nat.mul_add_mod,Nat.mod_eq_of_lt hr]
open Go.Lib (decDigits)
def dv (l:List UInt8):Nat:=l.foldl (fun a c=>a*10+(c.toNat - 48)) 0
theorem jM0 (l:List UInt8)(a:Nat):l.foldl (fun a c=>a*10+(c.toNat - 48)) a=a*10 ^ l.length+dv l:=by
 induction l generalizing a with
 | nil=>simp[dv]
 | cons c l ih=>
  unfold dv;simp only[List.foldl_cons,List.length_cons,Nat.pow_succ];rw[ih,ih (0*10+(c.toNat - 48))]
  grind
theorem jEV (a b:List UInt8):dv (a ++ b)=dv a*10 ^ b.length+dv b:=by
 have:=jM0 b (dv a);unfold dv at this ⊢;rw[List.foldl_append];exact this
theorem jLt:dv [] =0:=rfl
theorem jJN (c:UInt8):dv [c]=c.toNat - 48:=by simp[dv]
theorem jF4 (a:List UInt8)(c:UInt8):dv (a ++ [c])=dv a*10+(c.toNat - 48):=by rw[jEV,jJN];simp
def yx (c:UInt8):Bool:=decide (48<=c.toNat) && decide (c.toNat<=57)
def zO (l:List UInt8):Bool:=!l.isEmpty && l.all yx && (l.length == 1 || l.head? != some 48)
theorem jBF (c:UInt8):yx c=true↔48<=c.toNat/\c.toNat<=57:=by simp[yx]
theorem jDZ {n:Nat}(h:n<10):decDigits n = [UInt8.ofNat (48+n)]:=by rw[decDigits,dif_pos h]
theorem jD5 {n:Nat}(h:¬ n<10):decDigits n=decDigits (n / 10) ++ [UInt8.ofNat (48+n % 10)]:=by rw[decDigits,dif_neg h]
theorem jBX (n:Nat)(h:n<10):(UInt8.ofNat (48+n)).toNat=48+n:=by
 rw[UInt8.toNat_ofNat'];omega
theorem jI7 (l:List UInt8)(h:l.all yx=true):dv l<10 ^ l.length:=by
 induction l with
 | nil=>simp[dv]
 | cons c l ih=>rw[List.all_cons,Bool.and_eq_true,jBF] at h;have:=ih h.2;have e:=jEV [c] l;rw[List.singleton_append,jJN] at e;rw[e,List.length_cons,Nat.pow_succ];have:(c.toNat - 48)*10 ^ l.length<=9*10 ^ l.length:=Nat.mul_le_mul_right _ (by omega);omega
theorem jBb (l:List UInt8):zO l=true↔l≠[]/\l.all yx=true/\(l.length=1∨l.head?≠some 48):=by
 unfold zO
 cases l with
 | nil=>simp
 | cons c l=>simp[and_assoc]
theorem jCH (n:Nat):decDigits n≠[]/\(decDigits n).all yx=true/\dv (decDigits n)=n/\(n≠0->(decDigits n).head?≠some 48):=by
 induction n using Nat.strongRecOn with
 | ind n ih=>
  by_cases h:n<10
  ·rw[jDZ h];refine ⟨by simp,?_,?_,?_⟩
   ·simp only[List.all_cons,List.all_nil,Bool.and_true,jBF,jBX n h];omega
   ·rw[jJN,jBX n h];omega
   ·intro i f;rw[List.head?_cons] at f;have:=congrArg UInt8.toNat (Option.some.inj f);rw[jBX n h] at this;have e:(48:UInt8).toNat=48:=rfl;omega
  ·obtain ⟨a,b,c,d⟩:=ih (n / 10) (by omega);rw[jD5 h];refine ⟨by simp,?_,?_,?_⟩
   ·rw[List.all_append,b];simp only[List.all_cons,List.all_nil,Bool.and_true,Bool.true_and,jBF,jBX (n % 10) (by omega)];omega
   ·rw[jF4,c,jBX _ (by omega)];omega
   ·intro _;have:=d (by omega)
    cases g:decDigits (n / 10) with
    | nil=>exact absurd g a
    | cons e l=>rw[g] at this;simpa using this
theorem jFc (n:Nat):dv (decDigits n)=n:=(jCH n).2.2.1
theorem jEw (n:Nat):zO (decDigits n)=true:=by
 obtain ⟨a,b,c,d⟩:=jCH n;rw[jBb];refine ⟨a,b,?_⟩;by_cases h:n=0
 ·left;subst h;rw[jDZ (by omega)];rfl
 ·right;exact d h
def pad4 (m:Nat):List UInt8:=[UInt8.ofNat (48+m / 1000 % 10),UInt8.ofNat (48+m / 100 % 10),UInt8.ofNat (48+m / 10 % 10),UInt8.ofNat (48+m % 10)]
theorem jMD (a m:Nat)(ha:1<=a)(hm:m<10000):decDigits (m+10000*a)=decDigits a ++ pad4 m:=by
 rw[jD5 (by omega),jD5 (n:=(m+10000*a) / 10) (by omega),jD5 (n:=(m+10000*a) / 10 / 10) (by omega),jD5 (n:=(m+10000*a) / 10 / 10 / 10) (by omega)];(have b:(m+10000*a) / 10 / 10 / 10 / 10=a:=by omega);(have c:(m+10000*a) / 10 / 10 / 10 % 10=m / 1000 % 10:=by omega);(have d:(m+10000*a) / 10 / 10 % 10=m / 100 % 10:=by omega);(have e:(m+10000*a) / 10 % 10=m / 10 % 10:=by omega);(have f:(m+10000*a) % 10=m % 10:=by omega);rw[b,c,d,e,f];simp[pad4]
theorem jBa {n k:Nat}(hk:1<=k)(h:n<10 ^ k):(decDigits n).length<=k:=by
 induction k generalizing n with
 | zero=>omega
 | succ k ih=>
  by_cases c:n<10
  ·rw[jDZ c];simp
  ·rw[jD5 c,List.length_append,List.length_singleton]
   have b:1<=k:=by
    rcases Nat.eq_zero_or_pos k with a | a
    ·subst a;simp at h;omega
    ·exact a
   have:=@ih (n / 10) b (by rw[Nat.pow_succ] at h;omega);omega
theorem jIf (l:List UInt8)(e k:Nat)(o:List Int)(hk:k<o.length)(he:e<=l.length)(h:(dv l:Int)=dv (l.take e)*10000 ^ k+val (o.take k)):(dv l:Int)=dv (l.take (e - 4))*10000 ^ (k+1)+val ((o.set k (dv ((l.take e).drop (e - 4)):Nat)).take (k+1)):=by
 rw[jBN o k _ hk,Int.pow_succ]
 have b:l.take e=l.take (e - 4) ++ (l.take e).drop (e - 4):=by
  have:=(List.take_append_drop (e - 4) (l.take e)).symm
  rwa [List.take_take,Nat.min_eq_left (by omega)] at this
 by_cases d:4<=e
 ·(have c:((l.take e).drop (e - 4)).length=4:=by rw[List.length_drop,List.length_take];omega);(have a:dv (l.take e)=dv (l.take (e - 4))*10000+dv ((l.take e).drop (e - 4)):=by have:=jEV (l.take (e - 4)) ((l.take e).drop (e - 4));rw[<- b,c] at this;exact this);rw[h,a,Int.natCast_add,Int.natCast_mul];generalize (10000:Int) ^ k=P at *
  grind
 ·(have a:e - 4=0:=by omega);rw[h,a,List.take_zero,jLt,List.drop_zero];generalize (10000:Int) ^ k=P at *
  grind
def sg (m:Bool)(x:Nat):Int:=if m then -(x:Int) else x
def negB (q:Rat):Bool:=decide (q.num<0)
theorem jCo (m:Bool)(x:Nat):(sg m x).natAbs=x:=by cases m <;> simp[sg]
theorem jL6 (m:Bool)(x y:Nat)(hy:y≠0):(mkRat (sg m x) y).num.natAbs=x / Nat.gcd x y/\(mkRat (sg m x) y).den=y / Nat.gcd x y/\negB (mkRat (sg m x) y)=(m && !(x / Nat.gcd x y == 0)):=by
 have d:Nat.gcd x y ∣ x:=Nat.gcd_dvd_left x y;have b:0<Nat.gcd x y:=Nat.gcd_pos_of_pos_right x (by omega);have e:mkRat (sg m x) y=Rat.normalize (sg m x) y hy:=by unfold mkRat;rw[dif_neg hy]
 have c:(mkRat (sg m x) y).num=sg m (x / Nat.gcd x y):=by
  rw[e,Rat.normalize_eq];simp only[jCo];obtain ⟨k,a⟩:=d;rw[Nat.div_eq_of_eq_mul_right b a]
  cases m
  ·simp only[sg,Bool.false_eq_true,if_false];rw[<- Int.natCast_ediv,Nat.div_eq_of_eq_mul_right b a]
  ·simp only[sg,if_true];(have:((x:Int))=(k:Int)*(Nat.gcd x y:Int):=by have:=congrArg (Int.ofNat) a;simp only[Int.ofNat_eq_natCast] at this;rw[Nat.mul_comm,Int.natCast_mul] at this;exact this);rw[this,Int.neg_mul_eq_neg_mul];exact Int.mul_ediv_cancel _ (by omega)
 refine ⟨by rw[c,jCo],?_,?_⟩
 ·rw[e,Rat.normalize_eq];simp only[jCo]
 ·unfold negB;rw[c];generalize x / Nat.gcd x y=t
  cases m
  ·simp[sg]
  ·simp only[sg,if_true,Bool.true_and];rw[Bool.eq_iff_iff];simp;omega
theorem jDI (q:Rat):q.num=sg (negB q) q.num.natAbs:=by
 unfold sg negB;by_cases h:q.num<0 <;> simp[h] <;> omega
theorem jLx (q:Rat):mkRat (sg (negB q) q.num.natAbs) q.den=q:=by rw[<- jDI];exact Rat.mkRat_self q
theorem jGo (x y:Rat):x+y=mkRat (sg (negB x) (x.num.natAbs*y.den)+sg (negB y) (y.num.natAbs*x.den)) (x.den*y.den):=by
 have h:=Rat.mkRat_add_mkRat x.num y.num x.den_nz y.den_nz;rw[Rat.mkRat_self,Rat.mkRat_self] at h;rw[h];congr 1;(have e:∀ (m:Bool) (a b:Nat),sg m (a*b)=sg m a*b:=by intro m a b;cases m <;> simp[sg,Int.neg_mul]);rw[e,e,<- jDI,<- jDI]
theorem jMU (m:Bool)(a b:Nat):sg m a+sg m b=sg m (a+b):=by cases m <;> simp[sg];omega
theorem jMa (m k:Bool)(a b:Nat)(h:m≠k)(hab:b<=a):sg m a+sg k b=sg m (a - b):=by
 cases m <;> cases k <;> simp_all [sg] <;> omega
theorem jMl (m k:Bool)(a b:Nat)(h:m≠k)(hab:a<=b):sg m a+sg k b=sg k (b - a):=by
 cases m <;> cases k <;> simp_all [sg] <;> omega
theorem jKJ (x y:Rat):x*y=mkRat (sg (negB x != negB y) (x.num.natAbs*y.num.natAbs)) (x.den*y.den):=by
 have h:=Rat.mkRat_mul_mkRat x.num y.num x.den y.den;rw[Rat.mkRat_self,Rat.mkRat_self] at h;rw[h];congr 1;(have e:∀ (m k:Bool) (a b:Nat),sg (m != k) (a*b)=sg m a*sg k b:=by intro m k a b;cases m <;> cases k <;> simp[sg,Int.neg_mul,Int.mul_neg]);rw[e,<- jDI,<- jDI]
theorem jCM (q:Rat):1<=q.den:=Nat.pos_of_ne_zero q.den_nz
theorem jEQ (q:Rat):q.num.natAbs=0↔q=0:=by
 rw[Int.natAbs_eq_zero];exact Rat.num_eq_zero
theorem jM9 (y:Rat)(hy:y≠0):y⁻¹ = mkRat (sg (negB y) y.den) y.num.natAbs:=by
 (have a:y.num.natAbs≠0:=fun h=>hy ((jEQ y).1 h));rw[Rat.inv_def];unfold sg negB;by_cases h:y.num<0
 ·simp only[h,decide_true,if_true];(have e:y.num = -((y.num.natAbs:Nat):Int):=by omega);rw[e,Rat.divInt_neg',Int.natAbs_neg,Int.natAbs_natCast];exact Rat.divInt_ofNat _ _
 ·simp only[h,decide_false,Bool.false_eq_true,if_false];(have e:y.num=((y.num.natAbs:Nat):Int):=by omega);rw[e,Int.natAbs_natCast];exact Rat.divInt_ofNat _ _
theorem jKa (x y:Rat)(hy:y≠0):x / y=mkRat (sg (negB x != negB y) (x.num.natAbs*y.den)) (x.den*y.num.natAbs):=by
 rw[Rat.div_def,jM9 y hy];have h:=Rat.mkRat_mul_mkRat x.num (sg (negB y) y.den) x.den y.num.natAbs;rw[Rat.mkRat_self] at h;rw[h];congr 1;(have e:∀ (m k:Bool) (a b:Nat),sg (m != k) (a*b)=sg m a*sg k b:=by intro m k a b;cases m <;> cases k <;> simp[sg,Int.neg_mul,Int.mul_neg]);rw[e,<- jDI]
def txt (q:Rat):List UInt8:=(if negB q then [45] else []) ++ decDigits q.num.natAbs ++ (if 1<q.den then 47 :: decDigits q.den else [])
def zH (l:List UInt8):Nat:=(l.takeWhile (fun c=>c != 47)).length
theorem jFU (l:List UInt8):zH l<=l.length:=by
 unfold zH;exact (List.takeWhile_sublist _).length_le
def xc (x y:Nat):Bool:=decide (1<y) && (Nat.gcd x y == 1)
def zeroB (neg:Bool)(x:Nat):Bool:=neg && (x == 0)
def xH (neg:Bool)(t:List UInt8):Option Rat:=
  if zO (t.take (zH t)) then
    if zeroB neg (dv (t.take (zH t))) then none
    else if zH t=t.length then some (mkRat (sg neg (dv (t.take (zH t)))) 1)
    else if zO (t.drop (zH t+1)) then
      if xc (dv (t.take (zH t))) (dv (t.drop (zH t+1))) then some (mkRat (sg neg (dv (t.take (zH t)))) (dv (t.drop (zH t+1)))) else none
    else none
  else none
def xR (l:List UInt8):Option Rat:=if l.head? = some 45 then xH true l.tail else xH false l
def xF (l:List UInt8):Option Rat:=if l.length<=300 then xR l else none
theorem jCC (m:Bool)(x y:Nat)(hy:y≠0)(hg:Nat.gcd x y=1)(hz:zeroB m x=false):(mkRat (sg m x) y).num.natAbs=x/\(mkRat (sg m x) y).den=y/\negB (mkRat (sg m x) y)=m:=by
 obtain ⟨a,b,c⟩:=jL6 m x y hy;rw[hg,Nat.div_one] at a b c;refine ⟨a,b,?_⟩;rw[c];unfold zeroB at hz
 cases m
 ·rfl
 ·simpa using hz
theorem jGf {l:List UInt8}(h:l.all yx=true):zH l=l.length:=by
 unfold zH
 have:l.takeWhile (fun c=>c != 47)=l:=by
  induction l with
  | nil=>rfl
  | cons c l ih=>rw[List.all_cons,Bool.and_eq_true,jBF] at h;(have a:(c != 47)=true:=by rw[bne_iff_ne];intro e;rw[e] at h;have:(47:UInt8).toNat=47:=rfl;omega);rw[List.takeWhile_cons,if_pos a,ih h.2]
 rw[this]
theorem jGx {a b:List UInt8}(h:a.all yx=true):zH (a ++ 47 :: b)=a.length:=by
 unfold zH
 have:(a ++ 47 :: b).takeWhile (fun c=>c != 47)=a:=by
  induction a with
  | nil=>rfl
  | cons c l ih=>rw[List.all_cons,Bool.and_eq_true,jBF] at h;(have d:(c != 47)=true:=by rw[bne_iff_ne];intro e;rw[e] at h;have:(47:UInt8).toNat=47:=rfl;omega);rw[List.cons_append,List.takeWhile_cons,if_pos d,ih h.2]
 rw[this]
theorem jDT {l:List UInt8}(h:zO l=true):l.all yx=true:=((jBb l).1 h).2.1
theorem jIj (q:Rat):xH (negB q) (decDigits q.num.natAbs ++ (if 1<q.den then 47 :: decDigits q.den else []))=some q:=by
 have a:=jEw q.num.natAbs
 have d:zeroB (negB q) q.num.natAbs=false:=by
  unfold zeroB negB;by_cases h:q.num<0
  ·rw[decide_eq_true h,beq_eq_false_iff_ne.2 (by omega:q.num.natAbs≠0)];rfl
  ·rw[decide_eq_false h];rfl
 by_cases b:1<q.den
 ·rw[if_pos b];have hs:zH (decDigits q.num.natAbs ++ 47 :: decDigits q.den)=(decDigits q.num.natAbs).length:=jGx (jDT a);unfold xH;rw[hs];have e:(decDigits q.num.natAbs ++ 47 :: decDigits q.den).take (decDigits q.num.natAbs).length=decDigits q.num.natAbs:=List.take_left;(have f:(decDigits q.num.natAbs ++ 47 :: decDigits q.den).drop ((decDigits q.num.natAbs).length+1)=decDigits q.den:=by rw[<- List.drop_drop,List.drop_left];rfl);(have i:xc q.num.natAbs q.den=true:=by unfold xc;have:=q.reduced;unfold Nat.Coprime at this;simp[b,this]);(have c:¬ (decDigits q.num.natAbs).length=(decDigits q.num.natAbs ++ 47 :: decDigits q.den).length:=by simp);rw[e,f,a,jEw,jFc,jFc,d,i,if_neg c,jLx];simp
 ·(have g:q.den=1:=by have:=jCM q;omega);rw[if_neg b,List.append_nil];unfold xH;rw[jGf (jDT a),List.take_length,a,jFc,d];simp;rw[<- g,jLx]
theorem jFQ (q:Rat):xR (txt q)=some q:=by
 have h:=jIj q;unfold xR txt
 cases d:negB q with
 | true=>rw[d] at h;simp only[if_true,List.singleton_append,List.cons_append,List.head?_cons,List.tail_cons];exact h
 | false=>
  rw[d] at h;simp only[Bool.false_eq_true,if_false,List.nil_append];rw[if_neg]
  ·exact h
  ·have f:=jEw q.num.natAbs;have a:=jDT f;have g:=((jBb _).1 f).1
   cases e:decDigits q.num.natAbs with
   | nil=>exact absurd e g
   | cons c l=>rw[e,List.all_cons,Bool.and_eq_true,jBF] at a;intro b;simp at b;rw[b] at a;have:(45:UInt8).toNat=45:=rfl;omega
theorem jGM (q:Rat)(h:(txt q).length<=300):xF (txt q)=some q:=by unfold xF;rw[if_pos h];exact jFQ q
end Go.Proofs.YtigokanoflkinabGreatDoor.Por
namespace Go.Proofs.YtigokanoflkinabGreatDoor
set_option linter.unusedSimpArgs false
set_option linter.unusedVariables false
open Por
open Go.Lib (decDigits)
theorem jKE (n:Int):txt (n:Rat)=Go.Lib.itoa n:=by
 unfold txt Go.Lib.itoa negB;have a:(n:Rat).num=n:=Rat.num_intCast n;have b:(n:Rat).den=1:=Rat.den_intCast n;rw[a,b];by_cases h:n<0
 ·simp[h]
 ·simp only[h,decide_false,Bool.false_eq_true,if_false,List.nil_append,Nat.lt_irrefl,List.append_nil];congr 1;omega
def Dg (q:Rat)(k:Nat):Prop:=q.num.natAbs<10 ^ k/\q.den<10 ^ k
theorem Dg.txt {q:Rat}{k:Nat}(h:Dg q k)(hk:1<=k):(txt q).length<=2*k+2:=by
 have c:=jBa hk h.1;have d:=jBa hk h.2;unfold Por.txt;by_cases b:negB q=true <;> by_cases a:1<q.den <;> simp[b,a] <;> omega
theorem jLj (n:Int)(d:Nat)(hd:d≠0):(mkRat n d).num.natAbs<=n.natAbs/\(mkRat n d).den<=d:=by
 (have e:mkRat n d=Rat.normalize n d hd:=by unfold mkRat;rw[dif_neg hd]);rw[e,Rat.normalize_eq];exact ⟨Int.natAbs_ediv_le_natAbs _ _,Nat.div_le_self _ _⟩
theorem jEa {a b i j:Nat}(ha:a<10 ^ i)(hb:b<10 ^ j):a*b<10 ^ (i+j):=by
 rw[Nat.pow_add];exact Nat.mul_lt_mul_of_lt_of_lt ha hb
theorem Dg.add {x y:Rat}{a b:Nat}(hx:Dg x a)(hy:Dg y b):Dg (x+y) (a+b+1):=by
 rw[jGo];obtain ⟨e,f⟩:=jLj (sg (negB x) (x.num.natAbs*y.den)+sg (negB y) (y.num.natAbs*x.den)) (x.den*y.den) (Nat.mul_ne_zero x.den_nz y.den_nz);have h:=jEa hx.1 hy.2;have c:=jEa hy.1 hx.2;have i:=jEa hx.2 hy.2;have d:=Int.natAbs_add_le (sg (negB x) (x.num.natAbs*y.den)) (sg (negB y) (y.num.natAbs*x.den));rw[jCo,jCo] at d;rw[Nat.add_comm b a] at c;have g:10 ^ (a+b+1)=10 ^ (a+b)*10:=Nat.pow_succ _ _;exact ⟨by omega,by omega⟩
theorem Dg.neg {x:Rat}{a:Nat}(hx:Dg x a):Dg (-x) a:=by
 have b:(-x).num = -x.num:=rfl;have c:(-x).den=x.den:=rfl;unfold Dg;rw[b,c,Int.natAbs_neg];exact hx
theorem Dg.sub {x y:Rat}{a b:Nat}(hx:Dg x a)(hy:Dg y b):Dg (x - y) (a+b+1):=by rw[Rat.sub_eq_add_neg];exact hx.add hy.neg
theorem Dg.mul {x y:Rat}{a b:Nat}(hx:Dg x a)(hy:Dg y b):Dg (x*y) (a+b):=by
 rw[jKJ];obtain ⟨c,d⟩:=jLj (sg (negB x != negB y) (x.num.natAbs*y.num.natAbs)) (x.den*y.den) (Nat.mul_ne_zero x.den_nz y.den_nz);rw[jCo] at c;have e:=jEa hx.1 hy.1;have f:=jEa hx.2 hy.2;exact ⟨by omega,by omega⟩
theorem Dg.div {x y:Rat}{a b:Nat}(hx:Dg x a)(hy:Dg y b)(h0:y≠0):Dg (x / y) (a+b):=by
 rw[jKa x y h0];obtain ⟨c,d⟩:=jLj (sg (negB x != negB y) (x.num.natAbs*y.den)) (x.den*y.num.natAbs) (Nat.mul_ne_zero x.den_nz (fun h=>h0 ((jEQ y).1 h)));rw[jCo] at c;have e:=jEa hx.1 hy.2;have f:=jEa hx.2 hy.1;exact ⟨by omega,by omega⟩
theorem Dg.int (n:Int)(h0:-9223372036854775808<=n)(h1:n<=9223372036854775807):Dg (n:Rat) 19:=by
 have a:(n:Rat).num=n:=Rat.num_intCast n;have b:(n:Rat).den=1:=Rat.den_intCast n;unfold Dg;rw[a,b];exact ⟨by omega,by omega⟩
theorem Dg.ok {q:Rat}{k:Nat}(h:Dg q k)(hk:1<=k)(hk2:k<=149):xF (⟨(Por.txt q).toArray⟩:ByteArray).data.toList=some q:=by
 have:=h.txt hk;exact jGM q (by omega)
end Go.Proofs.YtigokanoflkinabGreatDoor
