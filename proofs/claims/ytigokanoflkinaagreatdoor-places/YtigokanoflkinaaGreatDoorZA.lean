/- Pure, WBase, joined. -/
import Derived.Lib.ItoaNum
import Derived.Test.YtigokanoflkinaaGreatDoorRows
import Derived.WalkSpells
import Derived.WalkLawsBesides
import Derived.BigQuiet
set_option maxHeartbeats 1000000
set_option maxRecDepth 10000
namespace Go.Proofs.YtigokanoflkinaaGreatDoor.Por
def limbsF:Nat->Nat->List Int
  |0,_=>[]
  |f+1,n=>if n=0 then[]else((n%10000:Nat):Int)::limbsF f (n/10000)
def zA (n:Nat):List Int:=limbsF n n
def val:List Int->Int
  |[]=>0
  |x::xs=>x+10000*val xs
def lm (xs:List Int)(j:Nat):Int:=xs.getD j 0
def yd (xs:List Int):Prop:=∀x∈xs,0<=x/\x<10000
theorem vw:∀(f g n:Nat),n<=f->n<=g->limbsF f n=limbsF g n
  | 0,g,n,hf,_=>by
    obtain rfl:n=0:=by omega
    cases g<;>simp[limbsF]
  | f+1,0,n,_,hg=>by
    obtain rfl:n=0:=by omega
    simp[limbsF]
  | f+1,g+1,n,hf,hg=>by
    unfold limbsF
    by_cases h:n=0
    · simp[h]
    · rw[if_neg h,if_neg h,vw f g (n/10000) (by omega) (by omega)]
theorem JD:zA 0=[]:=rfl
theorem mj (n:Nat)(h:n≠0):zA n=((n%10000:Nat):Int)::zA (n/10000):=by
 obtain⟨m,rfl⟩:∃m,n=m+1:=⟨n-1,by omega⟩;unfold zA;rw[limbsF,if_neg h,vw m ((m+1)/10000) _ (by omega) (by omega)]
theorem p7 (P:Nat->Prop)(h0:P 0)(hs:∀n,n≠0->P (n/10000)->P n)(n:Nat):P n:=by
 induction n using Nat.strongRecOn with
 |ind n ih=>
  by_cases h:n=0
  ·subst h;exact h0
  ·exact hs n h (ih _ (by omega))
theorem JG (n:Nat):val (zA n)=n:=by
 induction n using p7 with
 |h0=>simp[JD,val]
 |hs n h ih=>rw[mj n h,val,ih];omega
theorem qA (n:Nat):yd (zA n):=by
 induction n using p7 with
 |h0=>simp[JD,yd]
 |hs n h ih=>
  rw[mj n h];intro x a;rcases List.mem_cons.1 a with rfl|a
  ·omega
  ·exact ih x a
variable{xs:List Int}
theorem l4 (h:yd xs):0<=val xs:=by
 induction xs with
 |nil=>simp[val]
 |cons x xs ih=>have:=ih (fun y hy=>h y (by simp[hy]));have:=h x (by simp);simp only[val];omega
variable{n:Nat}
theorem ml (h:n≠0):zA n≠[]:=by rw[mj n h];simp
theorem jFE:zA n=[]↔n=0:=by
 constructor
 ·intro h;by_cases e:n=0
  ·exact e
  ·exact absurd h (ml e)
 ·rintro rfl;rfl
def xQ (xs:List Int):Prop:=xs.getLast?≠some 0
theorem tQ (h:yd xs)(ht:xQ xs):zA (val xs).toNat=xs:=by
 induction xs with
 |nil=>simp[val,JD]
 |cons x xs a=>
  have k:=h x (by simp);(have f:yd xs:=fun y hy=>h y (by simp[hy]));have j:=l4 f;by_cases e:xs=[]
  ·subst e;(have:x≠0:=by intro e;apply ht;simp[e]);(have g:val [x]=x:=by simp[val]);rw[g,mj _ (by omega)];(have b:x.toNat/10000=0:=by omega);rw[b,JD];(have:((x.toNat%10000:Nat):Int)=x:=by omega);rw[this]
  ·(have d:xQ xs:=by intro c;apply ht;rw[List.getLast?_cons,c];simp);have a:=a f d;(have i:val xs≠0:=by intro c;rw[c]at a;exact e (by simpa[JD]using a.symm));simp only[val];rw[mj _ (by omega)];(have b:(x+10000*val xs).toNat/10000=(val xs).toNat:=by omega);rw[b,a];(have:(((x+10000*val xs).toNat%10000:Nat):Int)=x:=by omega);rw[this]
theorem oq (n:Nat):xQ (zA n):=by
 induction n using p7 with
 |h0=>simp[JD,xQ]
 | hs n h ih=>
  rw[mj n h];unfold xQ at *;by_cases e:n/10000=0
  ·rw[e,JD];simp;omega
  ·rw[List.getLast?_cons]
   cases a:(zA (n/10000)).getLast? with
   |none=>exact absurd (List.getLast?_eq_none_iff.1 a) (ml e)
   |some v=>rw[a]at ih;simpa using ih
theorem qT (xs ys:List Int):val (xs++ys)=val xs+10000^xs.length*val ys:=by
 induction xs with
 |nil=>simp[val]
 |cons x xs ih=>simp only[List.cons_append,val,ih,List.length_cons,Int.pow_succ];grind
theorem mZ (h:yd xs):val xs<10000^xs.length:=by
 induction xs with
 |nil=>simp[val]
 |cons x xs ih=>have:=ih (fun y hy=>h y (by simp[hy]));have:=h x (by simp);simp only[val,List.length_cons,Int.pow_succ];omega
theorem vf (xs:List Int)(n:Nat)(hz:∀i,n<=i->i<xs.length->lm xs i=0):val (xs.take n)=val xs:=by
 unfold lm at *
 induction xs generalizing n with
 |nil=>simp
 |cons x xs ih=>
  cases n with
  |zero=>have a:=hz 0 (by omega) (by simp);simp at a;have:=ih 0 (fun i _ hi=>by have:=hz (i+1) (by omega) (by simp;omega);simpa using this);simp[val]at this ⊢;omega
  |succ n=>have:=ih n (fun i h hi=>by have:=hz (i+1) (by omega) (by simp;omega);simpa using this);simp only[List.take_succ_cons,val,this]
theorem lW (h:yd xs)(n:Nat):yd (xs.take n):=fun x hx=>h x (List.mem_of_mem_take hx)
theorem rU (xs:List Int)(n:Nat)(hL:yd xs)(hn:n<=xs.length)(hz:∀i,n<=i->i<xs.length->lm xs i=0)(ht:n=0\/lm xs (n-1)≠0):xs.take n=zA (val xs).toNat:=by
 unfold lm at *;rw[<-vf xs n hz];refine(tQ (lW hL n) ?_).symm;unfold xQ;rcases ht with rfl|ht
 ·simp
 ·by_cases e:n=0
  ·subst e;simp
  ·rw[List.getLast?_eq_getElem?,List.length_take,Nat.min_eq_left hn,List.getElem?_take,if_pos (by omega)];rw[List.getD_eq_getElem?_getD]at ht;intro a;rw[a]at ht;simp at ht
theorem m6 (n:Nat):n<10000^(zA n).length:=by
 have h:=mZ (qA n);rw[JG]at h;have e:((10000^(zA n).length:Nat):Int)=10000^(zA n).length:=Int.natCast_pow 10000 _;omega
variable{k:Nat}
theorem lP (h:n<10000^k):(zA n).length<=k:=by
 induction n using p7 generalizing k with
 |h0=>simp[JD]
 |hs n hn ih=>
  rw[mj n hn]
  cases k with
  |zero=>simp at h;omega
  |succ k=>simp only[List.length_cons];have:=@ih k (by rw[Nat.pow_succ]at h;omega);omega
theorem Df (h:n≠0):10000^((zA n).length-1)<=n:=by
 induction n using p7 with
 |h0=>exact absurd rfl h
 |hs n hn ih=>
  rw[mj n hn];by_cases e:n/10000=0
  ·rw[e,JD,List.length_singleton,Nat.sub_self,Nat.pow_zero];omega
  ·have:=ih e;(have a:1<=(zA (n/10000)).length:=by have:=ml e;cases c:zA (n/10000)<;>simp_all);simp only[List.length_cons,Nat.add_sub_cancel];obtain⟨m,b⟩:∃m,(zA (n/10000)).length=m+1:=⟨_,(Nat.sub_add_cancel a).symm⟩;rw[b]at this ⊢;simp only[Nat.add_sub_cancel]at this;rw[Nat.pow_succ];omega
theorem jAH {a b:Nat}(h:a<=b):(zA a).length<=(zA b).length:=lP (Nat.lt_of_le_of_lt h (m6 b))
theorem JE (a b:Nat):(zA (a*b)).length<=(zA a).length+(zA b).length:=by
 apply lP;rw[Nat.pow_add];have c:=m6 a;have d:=m6 b;exact Nat.mul_lt_mul_of_lt_of_lt c d
theorem uy (a b:Nat):(zA (a+b)).length<=max (zA a).length (zA b).length+1:=by
 apply lP;have c:=m6 a;have d:=m6 b;have e:10000^(zA a).length<=10000^max (zA a).length (zA b).length:=Nat.pow_le_pow_right (by omega) (by omega);have f:10000^(zA b).length<=10000^max (zA a).length (zA b).length:=Nat.pow_le_pow_right (by omega) (by omega);rw[Nat.pow_succ];omega
theorem mp (xs:List Int)(k:Nat):val (xs.take (k+1))=val (xs.take k)+10000^k*lm xs k:=by
 unfold lm at *;by_cases h:k<xs.length
 ·rw[List.take_succ_eq_append_getElem h,qT,List.length_take,Nat.min_eq_left (by omega)];simp[val,h]
 ·rw[List.take_of_length_le (by omega),List.take_of_length_le (by omega),List.getD_eq_getElem?_getD,List.getElem?_eq_none (by omega)];simp
theorem Db (xs:List Int)(k:Nat)(v:Int)(h:k<xs.length):(xs.set k v).take (k+1)=xs.take k++[v]:=by
 rw[List.take_succ_eq_append_getElem (by simpa using h),List.take_set_of_le (by omega)];simp
theorem oN (xs:List Int)(k:Nat)(v:Int)(h:k<xs.length):val ((xs.set k v).take (k+1))=val (xs.take k)+10000^k*v:=by
 rw[Db xs k v h,qT,List.length_take,Nat.min_eq_left (by omega)];simp[val]
theorem JA (h:yd xs)(k:Nat):0<=lm xs k/\lm xs k<10000:=by
 unfold lm at *;rw[List.getD_eq_getElem?_getD];by_cases a:k<xs.length
 ·rw[List.getElem?_eq_getElem a];exact h _ (List.getElem_mem a)
 ·rw[List.getElem?_eq_none (by omega)];simp
theorem lO (h:yd xs)(k:Nat)(v:Int)(h0:0<=v)(h1:v<10000):yd (xs.set k v):=by
 intro x a;rcases List.mem_or_eq_of_mem_set a with a|rfl
 ·exact h x a
 ·exact⟨h0,h1⟩
theorem mv (n:Nat):yd (List.replicate n 0):=by
 intro x a;have:=List.eq_of_mem_replicate a;omega
theorem tN (o A B:List Int)(k:Nat)(c s:Int)(hk:k<o.length)(hs:s=lm A k+lm B k+c)(h:val (o.take k)+10000^k*c=val (A.take k)+val (B.take k)):val ((o.set k (s%10000)).take (k+1))+10000^(k+1)*(s/10000)=val (A.take (k+1))+val (B.take (k+1)):=by
 rw[oN o k _ hk,mp,mp,Int.pow_succ];(have e:s=s%10000+10000*(s/10000):=by omega);generalize s%10000=m at *;generalize s/10000=q at *;generalize(10000:Int)^k=P at *
 grind
theorem Bh (o A B:List Int)(k:Nat)(b r b':Int)(hk:k<o.length)(hr:r-10000*b'=lm A k-lm B k-b)(h:val (o.take k)-10000^k*b=val (A.take k)-val (B.take k)):val ((o.set k r).take (k+1))-10000^(k+1)*b'=val (A.take (k+1))-val (B.take (k+1)):=by
 rw[oN o k _ hk,mp,mp,Int.pow_succ];generalize(10000:Int)^k=P at *
 grind
theorem rT (xs:List Int)(k:Nat)(v:Int)(h:k<xs.length):val (xs.set k v)=val xs+10000^k*(v-lm xs k):=by
 unfold lm at *
 induction xs generalizing k with
 |nil=>simp at h
 | cons x xs ih=>
  cases k with
  |zero=>simp[val];omega
  |succ k=>
   have:=ih k (by simpa using h);simp only[List.set_cons_succ,val,this,List.getD_cons_succ,Int.pow_succ]
   grind
theorem tL (o B:List Int)(i j:Nat)(x c s V:Int)(hk:i+j<o.length)(hs:s=lm o (i+j)+x*lm B j+c)(h:val o+10000^(i+j)*c=V+10000^i*(x*val (B.take j))):val (o.set (i+j) (s%10000))+10000^(i+(j+1))*(s/10000)=V+10000^i*(x*val (B.take (j+1))):=by
 rw[rT o _ _ hk,mp,<-Nat.add_assoc,Int.pow_succ,Int.pow_add]at *;(have e:s=s%10000+10000*(s/10000):=by omega);generalize s%10000=m at *;generalize s/10000=q at *;generalize(10000:Int)^i=P at *;generalize(10000:Int)^j=R at *
 grind
theorem Ai (l x y c:Int)(hl:0<=l/\l<10000)(hx:0<=x/\x<10000)(hy:0<=y/\y<10000)(hc:0<=c/\c<10000):0<=x*y/\x*y<=99980001/\0<=l+x*y+c/\l+x*y+c<=99999999:=by
 have a:0<=x*y:=Int.mul_nonneg hx.1 hy.1;have b:x*y<=9999*9999:=Int.mul_le_mul (by omega) (by omega) hy.1 (by omega);omega
theorem oS (A B:List Int)(hA:yd A)(hB:yd B)(n:Nat)(hn:A.length=n)(hm:B.length=n)(k:Nat)(hk:k<n)(he:∀i,k<i->i<n->lm A i=lm B i)(hlt:lm A k<lm B k):val A<val B:=by
 have e:∀m,k+1<=m->m<=n->val (A.take m)<val (B.take m):=by
  intro m c
  induction m with
  |zero=>omega
  |succ m ih=>
   intro d;rw[mp,mp];by_cases f:m=k
   ·subst f;have a:=mZ (lW hA m);rw[List.length_take,Nat.min_eq_left (by omega)]at a;have g:=l4 (lW hB m);have h:(0:Int)<10000^m:=Int.pow_pos (by omega);have b:(10000:Int)^m*(lm A m+1)<=10000^m*lm B m:=Int.mul_le_mul_of_nonneg_left (by omega) (by omega);rw[Int.mul_add,Int.mul_one]at b;omega
   ·have:=ih (by omega) (by omega);rw[he m (by omega) (by omega)];omega
 have:=e n (by omega) (Nat.le_refl n)
 rwa[List.take_of_length_le (by omega),List.take_of_length_le (by omega)]at this
variable{B A:List Int}
theorem tM (n:Nat)(hn:A.length=n)(hm:B.length=n)(h:∀i,i<n->lm A i=lm B i):A=B:=by
 unfold lm at *;(refine List.ext_getElem (by omega) fun i h1 h2=>?_);have:=h i (by omega)
 simpa[List.getD_eq_getElem?_getD,h1,h2]using this
theorem pM (hA:yd A)(hB:yd B)(ht:xQ B)(h:A.length<B.length):val A<val B:=by
 have f:=mZ hA
 have g:10000^(B.length-1)<=(val B).toNat:=by
  have e:=tQ hB ht;(have a:(val B).toNat≠0:=by intro c;rw[c,JD]at e;rw[<-e]at h;simp at h);have:=Df a
  rwa[e]at this
 (have i:(10000:Int)^A.length<=10000^(B.length-1):=by have j:(10000:Nat)^A.length<=10000^(B.length-1):=Nat.pow_le_pow_right (by omega) (by omega);have d:((10000^A.length:Nat):Int)=10000^A.length:=Int.natCast_pow 10000 _;have b:((10000^(B.length-1):Nat):Int)=10000^(B.length-1):=Int.natCast_pow 10000 _;omega);have b:((10000^(B.length-1):Nat):Int)=10000^(B.length-1):=Int.natCast_pow 10000 _;have:=l4 hB;omega
set_option linter.unusedSimpArgs false
set_option linter.unusedVariables false
def ltB (a b:Int):Bool:=decide (a<b)
theorem nE (xs:List Int)(n j:Nat)(h:j<n):lm (xs.take n) j=lm xs j:=by
 unfold lm;simp[List.getD_eq_getElem?_getD,List.getElem?_take,h]
theorem nB (xs:List Int)(o j:Nat):lm (xs.drop o) j=lm xs (o+j):=by
 unfold lm;simp[List.getD_eq_getElem?_getD,List.getElem?_drop]
theorem mQ (h:yd xs)(n:Nat):yd (xs.drop n):=fun x hx=>h x (List.mem_of_mem_drop hx)
theorem nD (R:List Int)(n:Nat)(hn:R.length=n+1):val R=val (R.take n)+10000^n*lm R n:=by
 rw[<-mp,List.take_of_length_le (by omega)]
theorem Fg (R B:List Int)(n:Nat)(hR:yd R)(hB:yd B)(hn:R.length=n+1)(hm:B.length=n)(h:0<lm R n):ltB (val R) (val B)=false:=by
 have b:=nD R n hn;have a:=mZ hB;rw[hm]at a;have c:=l4 (lW hR n);have d:(10000:Int)^n*1<=10000^n*lm R n:=Int.mul_le_mul_of_nonneg_left (by omega) (Int.le_of_lt (Int.pow_pos (by omega)));unfold ltB;simp;omega
theorem Hp (R B:List Int)(n:Nat)(hn:R.length=n+1)(hm:B.length=n)(h:lm R n=0)(he:∀j,j<n->lm R j=lm B j):ltB (val R) (val B)=false:=by
 have a:=nD R n hn;have b:R.take n=B:=tM n (by simp;omega) hm (fun i hi=>(nE R n i hi).trans (he i hi));rw[h,b]at a;unfold ltB;simp;omega
theorem Hc (R B:List Int)(n q:Nat)(hR:yd R)(hB:yd B)(hn:R.length=n+1)(hm:B.length=n)(h:lm R n=0)(hq:q<n)(he:∀j,q<j->j<n->lm R j=lm B j)(hne:lm R q≠lm B q):ltB (val R) (val B)=decide (lm R q<lm B q):=by
 have f:=nD R n hn;rw[h,Int.mul_zero,Int.add_zero]at f;unfold ltB;rw[f,Bool.eq_iff_iff,decide_eq_true_iff,decide_eq_true_iff];rcases Int.lt_trichotomy (lm R q) (lm B q)with e|c|d
 ·have:=oS (R.take n) B (lW hR n) hB n (by simp;omega) hm q hq (fun i a b=>(nE R n i b).trans (he i a b)) (by rw[nE R n q hq];exact e);omega
 ·exact absurd c hne
 ·have:=oS B (R.take n) hB (lW hR n) n hm (by simp;omega) q hq (fun i a b=>((nE R n i b).trans (he i a b)).symm) (by rw[nE R n q hq];exact d);omega
theorem Fk (D R B:List Int)(i:Nat)(t c left c2:Int)(hk:i<D.length)(hD:lm D i=lm R i)(hl:left-10000*c2=lm D i-(c+lm B i*t))(h:val (D.take i)-10000^i*c=val (R.take i)-t*val (B.take i)):val ((D.set i left).take (i+1))-10000^(i+1)*c2=val (R.take (i+1))-t*val (B.take (i+1)):=by
 rw[oN D i _ hk,mp,mp,Int.pow_succ];rw[hD]at hl;generalize(10000:Int)^i=P at *
 grind
theorem Hn (D R B:List Int)(n:Nat)(t c:Int)(hD:yd D)(hR:yd R)(hc:0<=c)(hk:n<D.length)(hl:lm D n=lm R n)(hm:B.length=n)(hR2:R.length=n+1)(h:val (D.take n)-10000^n*c=val (R.take n)-t*val (B.take n))(hle:t*val B<=val R):0<=lm D n-c/\lm D n-c<10000/\val ((D.set n (lm D n-c)).take (n+1))=val R-t*val B:=by
 have g:=nD R n hR2;have e:B.take n=B:=List.take_of_length_le (by omega);rw[e]at h;have b:=oN D n (lm D n-c) hk
 have d:val ((D.set n (lm D n-c)).take (n+1))=val R-t*val B:=by
  rw[b,hl];generalize(10000:Int)^n=P at *
  grind
 have j:=JA hD n;refine⟨?_,by omega,d⟩;have f:=mZ (lW hD n);rw[List.length_take,Nat.min_eq_left (by omega)]at f;rw[b]at d;have k:(0:Int)<10000^n:=Int.pow_pos (by omega);by_cases a:0<=lm D n-c
 ·exact a
 ·exfalso;have i:(10000:Int)^n*(lm D n-c)<=10000^n*(-1):=Int.mul_le_mul_of_nonneg_left (by omega) (by omega);omega
theorem EJ (x t c:Int)(hx:0<=x/\x<10000)(ht:0<=t/\t<10000)(hc:0<=c/\c<=10000):0<=x*t/\x*t<=99980001/\0<=c+x*t/\c+x*t<=99990001:=by
 have a:0<=x*t:=Int.mul_nonneg hx.1 ht.1;have b:x*t<=9999*9999:=Int.mul_le_mul (by omega) (by omega) ht.1 (by omega);omega
theorem GU (R B:List Int)(n:Nat)(hR:yd R)(hB:yd B)(hn:R.length=n+2)(hm:B.length=n+1)(g:Int)(hg0:0<=g)(hg:g*(lm B n+1)<=lm R (n+1)*10000+lm R n):g*val B<=val R:=by
 have a:=nD R (n+1) hn;have c:=mp R n;have d:=nD B n hm;have f:=l4 (lW hR n);have e:=mZ (lW hB n);rw[List.length_take,Nat.min_eq_left (by omega)]at e;have h:(0:Int)<10000^n:=Int.pow_pos (by omega);rw[c,Int.pow_succ]at a;generalize(10000:Int)^n=P at *;generalize val (R.take n)=u at *;generalize val (B.take n)=v at *;generalize lm R (n+1)=r1 at *;generalize lm R n=r0 at *;generalize lm B n=b at *;have i:g*val B<=g*(P*(b+1)):=Int.mul_le_mul_of_nonneg_left (by rw[d];grind) hg0;have j:P*(g*(b+1))<=P*(r1*10000+r0):=Int.mul_le_mul_of_nonneg_left hg (by omega);(have k:g*(P*(b+1))=P*(g*(b+1)):=by grind);(have l:val R=u+P*(r1*10000+r0):=by rw[a];grind);omega
theorem GV (g V W:Int)(hV:0<V)(h1:g*V<=W)(h2:W<10000*V):g<10000:=by
 by_cases h:g<10000
 ·exact h
 ·exfalso;have:10000*V<=g*V:=Int.mul_le_mul_of_nonneg_right (by omega) (by omega);omega
theorem IB (hB:yd B)(n:Nat)(hm:B.length=n+1)(h:1<=lm B n):0<val B:=by
 have a:=nD B n hm;have b:=l4 (lW hB n);have c:(0:Int)<10000^n:=Int.pow_pos (by omega);have:(10000:Int)^n*1<=10000^n*lm B n:=Int.mul_le_mul_of_nonneg_left h (by omega);omega
structure Win (Z Z':List Int)(o n:Nat)(d:Int):Prop where
  len:Z'.length=Z.length
  pre:Z'.take o=Z.take o
  post:Z'.drop (o+n)=Z.drop (o+n)
  win:val ((Z'.drop o).take n)=val ((Z.drop o).take n)-d
theorem Win.refl (Z:List Int)(o n:Nat):Win Z Z o n 0:=⟨rfl,rfl,rfl,by omega⟩
variable{Z Z':List Int}{o:Nat}{d:Int}
theorem Win.trans {Z'':List Int} {d':Int} (h:Win Z Z' o n d) (k:Win Z' Z'' o n d'):Win Z Z'' o n (d+d'):=
  ⟨k.len.trans h.len,k.pre.trans h.pre,k.post.trans h.post,by rw[k.win,h.win];omega⟩
theorem pX (Z:List Int)(n:Nat)(h:n<=Z.length):val Z=val (Z.take n)+10000^n*val (Z.drop n):=by
 have:=qT (Z.take n) (Z.drop n)
 rwa[List.take_append_drop,List.length_take,Nat.min_eq_left h]at this
theorem Win.drop (h:Win Z Z' o n d)(hn:o+n<=Z.length):val (Z'.drop o)=val (Z.drop o)-d:=by
 have a:=pX (Z'.drop o) n (by rw[List.length_drop,h.len];omega);have b:=pX (Z.drop o) n (by rw[List.length_drop];omega);rw[List.drop_drop,h.post,h.win]at a;rw[List.drop_drop]at b;omega
theorem Win.all (h:Win Z Z' o n d)(hn:o+n<=Z.length):val Z'=val Z-10000^o*d:=by
 have a:=pX Z' o (by rw[h.len];omega);have b:=pX Z o (by omega);rw[h.pre,h.drop hn]at a;rw[a,b];grind
theorem Fb (Z:List Int)(i n:Nat)(V:Int)(hZ:yd Z)(hV:V<=10000^n)(hi:i+n+1<=Z.length)(h:val (Z.drop (i+1))<V):val ((Z.drop i).take (n+1))=val (Z.drop i)/\val (Z.drop i)<10000*V/\val ((Z.drop i).take (n+1))=lm Z i+10000*val (Z.drop (i+1)):=by
 (have c:val (Z.drop i)=lm Z i+10000*val (Z.drop (i+1)):=by rw[List.drop_eq_getElem_cons (show i<Z.length by omega),val];unfold lm;simp[show i<Z.length by omega]);have d:=JA hZ i;have a:=pX (Z.drop i) (n+1) (by rw[List.length_drop];omega);have g:=l4 (lW (mQ hZ i) (n+1));have j:=l4 (mQ (mQ hZ i) (n+1));have f:(0:Int)<10000^n:=Int.pow_pos (by omega)
 have b:val ((Z.drop i).drop (n+1))=0:=by
  by_cases e:val ((Z.drop i).drop (n+1))=0
  ·exact e
  ·exfalso;have:(10000:Int)^(n+1)*1<=10000^(n+1)*val ((Z.drop i).drop (n+1)):=Int.mul_le_mul_of_nonneg_left (by omega) (Int.le_of_lt (Int.pow_pos (by omega)));rw[Int.pow_succ]at this a;omega
 rw[b,Int.mul_zero,Int.add_zero]at a;exact⟨a.symm,by omega,by omega⟩
theorem tr (a b q r:Nat)(h:a=q*b+r)(hr:r<b):q=a/b/\r=a%b:=by
 (have c:0<b:=by omega);subst h;constructor
 ·rw[Nat.mul_comm,Nat.mul_add_div c,Nat.div_eq_of_lt hr];omega
 ·rw[Nat.mul_comm,Nat.mul_add_mod,Nat.mod_eq_of_lt hr]
open Go.Lib (decDigits)
def dv (l:List UInt8):Nat:=l.foldl (fun a c=>a*10+(c.toNat-48)) 0
theorem Iu (l:List UInt8)(a:Nat):l.foldl (fun a c=>a*10+(c.toNat-48)) a=a*10^l.length+dv l:=by
 induction l generalizing a with
 |nil=>simp[dv]
 |cons c l ih=>
  unfold dv;simp only[List.foldl_cons,List.length_cons,Nat.pow_succ];rw[ih,ih (0*10+(c.toNat-48))]
  grind
theorem rB (a b:List UInt8):dv (a++b)=dv a*10^b.length+dv b:=by
 have:=Iu b (dv a);unfold dv at this ⊢;rw[List.foldl_append];exact this
theorem rZ:dv [] =0:=rfl
theorem r5 (c:UInt8):dv [c]=c.toNat-48:=by simp[dv]
theorem px (a:List UInt8)(c:UInt8):dv (a++[c])=dv a*10+(c.toNat-48):=by rw[rB,r5];simp
def yf (c:UInt8):Bool:=decide (48<=c.toNat)&&decide (c.toNat<=57)
def zY (l:List UInt8):Bool:=!l.isEmpty&&l.all yf&&(l.length == 1||l.head? != some 48)
theorem l5 (c:UInt8):yf c=true↔48<=c.toNat/\c.toNat<=57:=by simp[yf]
theorem mU (h:n<10):decDigits n=[UInt8.ofNat (48+n)]:=by rw[decDigits,dif_pos h]
theorem nY (h:¬ n<10):decDigits n=decDigits (n/10)++[UInt8.ofNat (48+n%10)]:=by rw[decDigits,dif_neg h]
theorem mT (n:Nat)(h:n<10):(UInt8.ofNat (48+n)).toNat=48+n:=by
 rw[UInt8.toNat_ofNat'];omega
theorem AC (c:UInt8)(h:48<=c.toNat):UInt8.ofNat (48+(c.toNat-48))=c:=by
 apply UInt8.toNat_inj.1;have:=c.toNat_lt;rw[UInt8.toNat_ofNat'];omega
theorem qu (l:List UInt8)(h:l.all yf=true):dv l<10^l.length:=by
 induction l with
 |nil=>simp[dv]
 |cons c l ih=>rw[List.all_cons,Bool.and_eq_true,l5]at h;have:=ih h.2;have e:=rB [c] l;rw[List.singleton_append,r5]at e;rw[e,List.length_cons,Nat.pow_succ];have:(c.toNat-48)*10^l.length<=9*10^l.length:=Nat.mul_le_mul_right _ (by omega);omega
theorem Hs {P:List UInt8->Prop}(h0:P [])(hs:∀l c,P l->P (l++[c]))(l:List UInt8):P l:=by
 rw[<-List.reverse_reverse l]
 induction l.reverse with
 |nil=>exact h0
 |cons c l ih=>rw[List.reverse_cons];exact hs _ _ ih
theorem I2 (l:List UInt8)(c:UInt8)(hc:49<=c.toNat):1<=dv (c::l):=by
 have e:=rB [c] l;rw[List.singleton_append,r5]at e;rw[e];have:1*1<=(c.toNat-48)*10^l.length:=Nat.mul_le_mul (by omega) (Nat.one_le_pow _ _ (by omega));omega
theorem mE (l:List UInt8):zY l=true↔l≠[]/\l.all yf=true/\(l.length=1\/l.head?≠some 48):=by
 unfold zY
 cases l with
 |nil=>simp
 |cons c l=>simp[and_assoc]
theorem Cl (l:List UInt8)(h:zY l=true):decDigits (dv l)=l:=by
 induction l using Hs with
 |h0=>simp[zY]at h
 | hs l c ih=>
  obtain⟨_,e,b⟩:=(mE _).1 h;rw[List.all_append,Bool.and_eq_true]at e;(have a:yf c=true:=by simpa using e.2);rw[l5]at a;rw[px]
  cases l with
  |nil=>rw[rZ,Nat.zero_mul,Nat.zero_add,mU (by omega),AC c a.1];rfl
  | cons d l=>
   have j:d.toNat≠48:=by
    rcases b with b|b
    ·simp at b
    ·intro a;apply b;simp;exact UInt8.toNat_inj.1 a
   (have f:yf d=true:=by have:=e.1;rw[List.all_cons,Bool.and_eq_true]at this;exact this.1);rw[l5]at f;(have k:zY (d::l)=true:=by rw[mE];refine⟨by simp,e.1,.inr ?_⟩;intro a;apply j;simp at a;rw[a];rfl);have m:=I2 l d (by omega);rw[nY (by omega)];(have g:(dv (d::l)*10+(c.toNat-48))/10=dv (d::l):=by omega);(have i:(dv (d::l)*10+(c.toNat-48))%10=c.toNat-48:=by omega);rw[g,i,AC c a.1,ih k]
theorem oY (n:Nat):decDigits n≠[]/\(decDigits n).all yf=true/\dv (decDigits n)=n/\(n≠0->(decDigits n).head?≠some 48):=by
 induction n using Nat.strongRecOn with
 | ind n ih=>
  by_cases h:n<10
  ·rw[mU h];refine⟨by simp,?_,?_,?_⟩
   ·simp only[List.all_cons,List.all_nil,Bool.and_true,l5,mT n h];omega
   ·rw[r5,mT n h];omega
   ·intro i f;rw[List.head?_cons]at f;have:=congrArg UInt8.toNat (Option.some.inj f);rw[mT n h]at this;have e:(48:UInt8).toNat=48:=rfl;omega
  ·obtain⟨a,b,c,d⟩:=ih (n/10) (by omega);rw[nY h];refine⟨by simp,?_,?_,?_⟩
   ·rw[List.all_append,b];simp only[List.all_cons,List.all_nil,Bool.and_true,Bool.true_and,l5,mT (n%10) (by omega)];omega
   ·rw[px,c,mT _ (by omega)];omega
   ·intro _;have:=d (by omega)
    cases g:decDigits (n/10)with
    |nil=>exact absurd g a
    |cons e l=>rw[g]at this;simpa using this
theorem qt (n:Nat):dv (decDigits n)=n:=(oY n).2.2.1
theorem tj (n:Nat):zY (decDigits n)=true:=by
 obtain⟨a,b,c,d⟩:=oY n;rw[mE];refine⟨a,b,?_⟩;by_cases h:n=0
 ·left;subst h;rw[mU (by omega)];rfl
 ·right;exact d h
def pad4 (m:Nat):List UInt8:=[UInt8.ofNat (48+m/1000%10),UInt8.ofNat (48+m/100%10),UInt8.ofNat (48+m/10%10),UInt8.ofNat (48+m%10)]
theorem Ig (a m:Nat)(ha:1<=a)(hm:m<10000):decDigits (m+10000*a)=decDigits a++pad4 m:=by
 rw[nY (by omega),nY (n:=(m+10000*a)/10) (by omega),nY (n:=(m+10000*a)/10/10) (by omega),nY (n:=(m+10000*a)/10/10/10) (by omega)];(have b:(m+10000*a)/10/10/10/10=a:=by omega);(have c:(m+10000*a)/10/10/10%10=m/1000%10:=by omega);(have d:(m+10000*a)/10/10%10=m/100%10:=by omega);(have e:(m+10000*a)/10%10=m/10%10:=by omega);(have f:(m+10000*a)%10=m%10:=by omega);rw[b,c,d,e,f];simp[pad4]
theorem od (hk:1<=k)(h:n<10^k):(decDigits n).length<=k:=by
 induction k generalizing n with
 |zero=>omega
 | succ k ih=>
  by_cases c:n<10
  ·rw[mU c];simp
  ·rw[nY c,List.length_append,List.length_singleton]
   have b:1<=k:=by
    rcases Nat.eq_zero_or_pos k with a|a
    ·subst a;simp at h;omega
    ·exact a
   have:=@ih (n/10) b (by rw[Nat.pow_succ]at h;omega);omega
theorem EQ (l:List UInt8)(e k:Nat)(o:List Int)(hk:k<o.length)(he:e<=l.length)(h:(dv l:Int)=dv (l.take e)*10000^k+val (o.take k)):(dv l:Int)=dv (l.take (e-4))*10000^(k+1)+val ((o.set k (dv ((l.take e).drop (e-4)):Nat)).take (k+1)):=by
 rw[oN o k _ hk,Int.pow_succ]
 have b:l.take e=l.take (e-4)++(l.take e).drop (e-4):=by
  have:=(List.take_append_drop (e-4) (l.take e)).symm
  rwa[List.take_take,Nat.min_eq_left (by omega)]at this
 by_cases d:4<=e
 ·(have c:((l.take e).drop (e-4)).length=4:=by rw[List.length_drop,List.length_take];omega);(have a:dv (l.take e)=dv (l.take (e-4))*10000+dv ((l.take e).drop (e-4)):=by have:=rB (l.take (e-4)) ((l.take e).drop (e-4));rw[<-b,c]at this;exact this);rw[h,a,Int.natCast_add,Int.natCast_mul];generalize(10000:Int)^k=P at *
  grind
 ·(have a:e-4=0:=by omega);rw[h,a,List.take_zero,rZ,List.drop_zero];generalize(10000:Int)^k=P at *
  grind
def sg (m:Bool)(x:Nat):Int:=if m then -(x:Int)else x
def negB (q:Rat):Bool:=decide (q.num<0)
theorem mK (m:Bool)(x:Nat):(sg m x).natAbs=x:=by cases m<;>simp[sg]
theorem uF (m:Bool)(x y:Nat)(hy:y≠0):(mkRat (sg m x) y).num.natAbs=x/Nat.gcd x y/\(mkRat (sg m x) y).den=y/Nat.gcd x y/\negB (mkRat (sg m x) y)=(m&&!(x/Nat.gcd x y == 0)):=by
 have d:Nat.gcd x y∣x:=Nat.gcd_dvd_left x y;have b:0<Nat.gcd x y:=Nat.gcd_pos_of_pos_right x (by omega);have e:mkRat (sg m x) y=Rat.normalize (sg m x) y hy:=by unfold mkRat;rw[dif_neg hy]
 have c:(mkRat (sg m x) y).num=sg m (x/Nat.gcd x y):=by
  rw[e,Rat.normalize_eq];simp only[mK];obtain⟨k,a⟩:=d;rw[Nat.div_eq_of_eq_mul_right b a]
  cases m
  ·simp only[sg,Bool.false_eq_true,if_false];rw[<-Int.natCast_ediv,Nat.div_eq_of_eq_mul_right b a]
  ·simp only[sg,if_true];(have:((x:Int))=(k:Int)*(Nat.gcd x y:Int):=by have:=congrArg (Int.ofNat) a;simp only[Int.ofNat_eq_natCast]at this;rw[Nat.mul_comm,Int.natCast_mul]at this;exact this);rw[this,Int.neg_mul_eq_neg_mul];exact Int.mul_ediv_cancel _ (by omega)
 refine⟨by rw[c,mK],?_,?_⟩
 ·rw[e,Rat.normalize_eq];simp only[mK]
 ·unfold negB;rw[c];generalize x/Nat.gcd x y=t
  cases m
  ·simp[sg]
  ·simp only[sg,if_true,Bool.true_and];rw[Bool.eq_iff_iff];simp;omega
theorem mY (q:Rat):q.num=sg (negB q) q.num.natAbs:=by
 unfold sg negB;by_cases h:q.num<0<;>simp[h]<;>omega
theorem uG (q:Rat):mkRat (sg (negB q) q.num.natAbs) q.den=q:=by rw[<-mY];exact Rat.mkRat_self q
theorem qp (x y:Rat):x+y=mkRat (sg (negB x) (x.num.natAbs*y.den)+sg (negB y) (y.num.natAbs*x.den)) (x.den*y.den):=by
 have h:=Rat.mkRat_add_mkRat x.num y.num x.den_nz y.den_nz;rw[Rat.mkRat_self,Rat.mkRat_self]at h;rw[h];congr 1;(have e:∀(m:Bool) (a b:Nat),sg m (a*b)=sg m a*b:=by intro m a b;cases m<;>simp[sg,Int.neg_mul]);rw[e,e,<-mY,<-mY]
theorem IF (m:Bool)(a b:Nat):sg m a+sg m b=sg m (a+b):=by cases m<;>simp[sg];omega
theorem IM (m k:Bool)(a b:Nat)(h:m≠k)(hab:b<=a):sg m a+sg k b=sg m (a-b):=by
 cases m<;>cases k<;>simp_all [sg]<;>omega
theorem ID (m k:Bool)(a b:Nat)(h:m≠k)(hab:a<=b):sg m a+sg k b=sg k (b-a):=by
 cases m<;>cases k<;>simp_all [sg]<;>omega
theorem uE (x y:Rat):x*y=mkRat (sg (negB x != negB y) (x.num.natAbs*y.num.natAbs)) (x.den*y.den):=by
 have h:=Rat.mkRat_mul_mkRat x.num y.num x.den y.den;rw[Rat.mkRat_self,Rat.mkRat_self]at h;rw[h];congr 1;(have e:∀(m k:Bool) (a b:Nat),sg (m != k) (a*b)=sg m a*sg k b:=by intro m k a b;cases m<;>cases k<;>simp[sg,Int.neg_mul,Int.mul_neg]);rw[e,<-mY,<-mY]
theorem nA (q:Rat):1<=q.den:=Nat.pos_of_ne_zero q.den_nz
theorem rL (q:Rat):q.num.natAbs=0↔q=0:=by
 rw[Int.natAbs_eq_zero];exact Rat.num_eq_zero
theorem I6 (y:Rat)(hy:y≠0):y⁻¹ = mkRat (sg (negB y) y.den) y.num.natAbs:=by
 (have a:y.num.natAbs≠0:=fun h=>hy ((rL y).1 h));rw[Rat.inv_def];unfold sg negB;by_cases h:y.num<0
 ·simp only[h,decide_true,if_true];(have e:y.num = -((y.num.natAbs:Nat):Int):=by omega);rw[e,Rat.divInt_neg',Int.natAbs_neg,Int.natAbs_natCast];exact Rat.divInt_ofNat _ _
 ·simp only[h,decide_false,Bool.false_eq_true,if_false];(have e:y.num=((y.num.natAbs:Nat):Int):=by omega);rw[e,Int.natAbs_natCast];exact Rat.divInt_ofNat _ _
theorem uH (x y:Rat)(hy:y≠0):x/y=mkRat (sg (negB x != negB y) (x.num.natAbs*y.den)) (x.den*y.num.natAbs):=by
 rw[Rat.div_def,I6 y hy];have h:=Rat.mkRat_mul_mkRat x.num (sg (negB y) y.den) x.den y.num.natAbs;rw[Rat.mkRat_self]at h;rw[h];congr 1;(have e:∀(m k:Bool) (a b:Nat),sg (m != k) (a*b)=sg m a*sg k b:=by intro m k a b;cases m<;>cases k<;>simp[sg,Int.neg_mul,Int.mul_neg]);rw[e,<-mY]
def txt (q:Rat):List UInt8:=(if negB q then[45]else[])++decDigits q.num.natAbs++(if 1<q.den then 47::decDigits q.den else[])
def zO (l:List UInt8):Nat:=(l.takeWhile (fun c=>c != 47)).length
theorem vm (l:List UInt8):zO l<=l.length:=by
 unfold zO;exact(List.takeWhile_sublist _).length_le
def xO (x y:Nat):Bool:=decide (1<y)&&(Nat.gcd x y == 1)
def xj (neg:Bool)(x:Nat):Bool:=neg&&(x == 0)
def ym (neg:Bool)(t:List UInt8):Option Rat:=
  if zY (t.take (zO t))then
    if xj neg (dv (t.take (zO t)))then none
    else if zO t=t.length then some (mkRat (sg neg (dv (t.take (zO t)))) 1)
    else if zY (t.drop (zO t+1))then
      if xO (dv (t.take (zO t))) (dv (t.drop (zO t+1)))then some (mkRat (sg neg (dv (t.take (zO t)))) (dv (t.drop (zO t+1))))else none
    else none
  else none
def xR (l:List UInt8):Option Rat:=if l.head?=some 45 then ym true l.tail else ym false l
def xY (l:List UInt8):Option Rat:=if l.length<=300 then xR l else none
theorem nj (m:Bool)(x y:Nat)(hy:y≠0)(hg:Nat.gcd x y=1)(hz:xj m x=false):(mkRat (sg m x) y).num.natAbs=x/\(mkRat (sg m x) y).den=y/\negB (mkRat (sg m x) y)=m:=by
 obtain⟨a,b,c⟩:=uF m x y hy;rw[hg,Nat.div_one]at a b c;refine⟨a,b,?_⟩;rw[c];unfold xj at hz
 cases m
 ·rfl
 ·simpa using hz
variable{l:List UInt8}
theorem Dm (h:l.all yf=true):zO l=l.length:=by
 unfold zO
 have:l.takeWhile (fun c=>c != 47)=l:=by
  induction l with
  |nil=>rfl
  |cons c l ih=>rw[List.all_cons,Bool.and_eq_true,l5]at h;(have a:(c != 47)=true:=by rw[bne_iff_ne];intro e;rw[e]at h;have:(47:UInt8).toNat=47:=rfl;omega);rw[List.takeWhile_cons,if_pos a,ih h.2]
 rw[this]
theorem Dn {a b:List UInt8}(h:a.all yf=true):zO (a ++ 47::b)=a.length:=by
 unfold zO
 have:(a ++ 47::b).takeWhile (fun c=>c != 47)=a:=by
  induction a with
  |nil=>rfl
  |cons c l ih=>rw[List.all_cons,Bool.and_eq_true,l5]at h;(have d:(c != 47)=true:=by rw[bne_iff_ne];intro e;rw[e]at h;have:(47:UInt8).toNat=47:=rfl;omega);rw[List.cons_append,List.takeWhile_cons,if_pos d,ih h.2]
 rw[this]
theorem mM (h:zY l=true):l.all yf=true:=((mE l).1 h).2.1
theorem EZ (q:Rat):ym (negB q) (decDigits q.num.natAbs++(if 1<q.den then 47::decDigits q.den else[]))=some q:=by
 have a:=tj q.num.natAbs
 have d:xj (negB q) q.num.natAbs=false:=by
  unfold xj negB;by_cases h:q.num<0
  ·rw[decide_eq_true h,beq_eq_false_iff_ne.2 (by omega:q.num.natAbs≠0)];rfl
  ·rw[decide_eq_false h];rfl
 by_cases b:1<q.den
 ·rw[if_pos b];have hs:zO (decDigits q.num.natAbs ++ 47::decDigits q.den)=(decDigits q.num.natAbs).length:=Dn (mM a);unfold ym;rw[hs];have e:(decDigits q.num.natAbs ++ 47::decDigits q.den).take (decDigits q.num.natAbs).length=decDigits q.num.natAbs:=List.take_left;(have f:(decDigits q.num.natAbs ++ 47::decDigits q.den).drop ((decDigits q.num.natAbs).length+1)=decDigits q.den:=by rw[<-List.drop_drop,List.drop_left];rfl);(have i:xO q.num.natAbs q.den=true:=by unfold xO;have:=q.reduced;unfold Nat.Coprime at this;simp[b,this]);(have c:¬ (decDigits q.num.natAbs).length=(decDigits q.num.natAbs ++ 47::decDigits q.den).length:=by simp);rw[e,f,a,tj,qt,qt,d,i,if_neg c,uG];simp
 ·(have g:q.den=1:=by have:=nA q;omega);rw[if_neg b,List.append_nil];unfold ym;rw[Dm (mM a),List.take_length,a,qt,d];simp;rw[<-g,uG]
theorem wR (q:Rat):xR (txt q)=some q:=by
 have h:=EZ q;unfold xR txt
 cases d:negB q with
 |true=>rw[d]at h;simp only[if_true,List.singleton_append,List.cons_append,List.head?_cons,List.tail_cons];exact h
 | false=>
  rw[d]at h;simp only[Bool.false_eq_true,if_false,List.nil_append];rw[if_neg]
  ·exact h
  ·have f:=tj q.num.natAbs;have a:=mM f;have g:=((mE _).1 f).1
   cases e:decDigits q.num.natAbs with
   |nil=>exact absurd e g
   |cons c l=>rw[e,List.all_cons,Bool.and_eq_true,l5]at a;intro b;simp at b;rw[b]at a;have:(45:UInt8).toNat=45:=rfl;omega
theorem Ag (q:Rat)(h:(txt q).length<=300):xY (txt q)=some q:=by unfold xY;rw[if_pos h];exact wR q
end Go.Proofs.YtigokanoflkinaaGreatDoor.Por
namespace Go.Proofs.YtigokanoflkinaaGreatDoor
set_option linter.unusedSimpArgs false
set_option linter.unusedVariables false
open Por
open Go.Lib (decDigits)
theorem uA (n:Int):txt (n:Rat)=Go.Lib.itoa n:=by
 unfold txt Go.Lib.itoa negB;have a:=Rat.num_intCast n;have b:=Rat.den_intCast n;rw[a,b];by_cases h:n<0
 ·simp[h]
 ·simp only[h,decide_false,Bool.false_eq_true,if_false,List.nil_append,Nat.lt_irrefl,List.append_nil];congr 1;omega
def Dg (q:Rat)(k:Nat):Prop:=q.num.natAbs<10^k/\q.den<10^k
variable{q:Rat}{k:Nat}
theorem Dg.txt (h:Dg q k)(hk:1<=k):(txt q).length<=2*k+2:=by
 have c:=od hk h.1;have d:=od hk h.2;unfold Por.txt;by_cases b:negB q=true<;>by_cases a:1<q.den<;>simp[b,a]<;>omega
theorem r7 (n:Int)(d:Nat)(hd:d≠0):(mkRat n d).num.natAbs<=n.natAbs/\(mkRat n d).den<=d:=by
 (have e:mkRat n d=Rat.normalize n d hd:=by unfold mkRat;rw[dif_neg hd]);rw[e,Rat.normalize_eq];exact⟨Int.natAbs_ediv_le_natAbs _ _,Nat.div_le_self _ _⟩
variable{a b i:Nat}
theorem oI {j:Nat}(ha:a<10^i)(hb:b<10^j):a*b<10^(i+j):=by
 rw[Nat.pow_add];exact Nat.mul_lt_mul_of_lt_of_lt ha hb
theorem Dg.add {x y:Rat}(hx:Dg x a)(hy:Dg y b):Dg (x+y) (a+b+1):=by
 rw[qp];obtain⟨e,f⟩:=r7 (sg (negB x) (x.num.natAbs*y.den)+sg (negB y) (y.num.natAbs*x.den)) (x.den*y.den) (Nat.mul_ne_zero x.den_nz y.den_nz);have h:=oI hx.1 hy.2;have c:=oI hy.1 hx.2;have i:=oI hx.2 hy.2;have d:=Int.natAbs_add_le (sg (negB x) (x.num.natAbs*y.den)) (sg (negB y) (y.num.natAbs*x.den));rw[mK,mK]at d;rw[Nat.add_comm b a]at c;have g:10^(a+b+1)=10^(a+b)*10:=Nat.pow_succ _ _;exact⟨by omega,by omega⟩
theorem Dg.neg {x:Rat}(hx:Dg x a):Dg (-x) a:=by
 have b:(-x).num = -x.num:=rfl;have c:(-x).den=x.den:=rfl;unfold Dg;rw[b,c,Int.natAbs_neg];exact hx
theorem Dg.sub {x y:Rat}(hx:Dg x a)(hy:Dg y b):Dg (x-y) (a+b+1):=by rw[Rat.sub_eq_add_neg];exact hx.add hy.neg
theorem Dg.mul {x y:Rat}(hx:Dg x a)(hy:Dg y b):Dg (x*y) (a+b):=by
 rw[uE];obtain⟨c,d⟩:=r7 (sg (negB x != negB y) (x.num.natAbs*y.num.natAbs)) (x.den*y.den) (Nat.mul_ne_zero x.den_nz y.den_nz);rw[mK]at c;have e:=oI hx.1 hy.1;have f:=oI hx.2 hy.2;exact⟨by omega,by omega⟩
theorem Dg.div {x y:Rat}(hx:Dg x a)(hy:Dg y b)(h0:y≠0):Dg (x/y) (a+b):=by
 rw[uH x y h0];obtain⟨c,d⟩:=r7 (sg (negB x != negB y) (x.num.natAbs*y.den)) (x.den*y.num.natAbs) (Nat.mul_ne_zero x.den_nz (fun h=>h0 ((rL y).1 h)));rw[mK]at c;have e:=oI hx.1 hy.2;have f:=oI hx.2 hy.1;exact⟨by omega,by omega⟩
theorem Dg.int (n:Int)(h0:-9223372036854775808<=n)(h1:n<=9223372036854775807):Dg (n:Rat) 19:=by
 have a:(n:Rat).num=n:=Rat.num_intCast n;have b:(n:Rat).den=1:=Rat.den_intCast n;unfold Dg;rw[a,b];exact⟨by omega,by omega⟩
theorem Dg.ok (h:Dg q k)(hk:1<=k)(hk2:k<=149):xY (⟨(Por.txt q).toArray⟩:ByteArray).data.toList=some q:=by
 have:=h.txt hk;exact Ag q (by omega)
open Go.RowKit Por Go.Proofs.Tryz
open Value renaming int->kW,slice->kX,bool->kZ,agg->lA
open IntKind renaming i64->lD
open Obj renaming cells->lE
open Ending renaming returned->lF
open World renaming setCell->lG,cell?->lH
open Option renaming none->lI,some->lJ
open Bool renaming false->lL
open Go renaming World->lM,Value->lN
abbrev ea:=@Nat.le_refl
abbrev ec:=@if_neg
abbrev ed:=@if_pos
abbrev ee:=@decide_eq_false
abbrev eg:=@beq_eq_false_iff_ne
abbrev eh:=@Nat.le_trans
abbrev ei:=@decide_eq_true
abbrev ej:=@List.getD_eq_getElem?_getD
abbrev ek:=@Array.getElem?_eq_some_iff
abbrev el:=@List.setIfInBounds_toArray
abbrev em:=@World.size_alloc
abbrev en:=@List.getElem?_eq_getElem
abbrev ep:=@Nat.zero_le
abbrev es:=@List.set_cons_succ
abbrev eu:=@List.set_cons_zero
abbrev ev:=@Bool.false_eq_true
abbrev ew:=@List.take_of_length_le
abbrev ez:=@Nat.lt_of_lt_of_le
abbrev eA:=@List.getElem?_eq_some_iff
abbrev eB:=@Below.refl
abbrev eC:=@Nat.zero_add
abbrev eD:=@List.getElem?_map
abbrev eE:=@Array.getElem?_setIfInBounds_ne
abbrev eF:=@Go.IntWalk.i64_in
abbrev eG:=@bodyPost_ret
abbrev eH:=@List.getElem?_take
abbrev eI:=@Array.getElem?_toList
abbrev eJ:=@Bool.and_eq_true
abbrev eK:=@List.length_append
abbrev eL:=@decide_eq_false_iff_not
abbrev eM:=@List.getElem?_append_right
abbrev eN:=@decide_eq_true_eq
abbrev eO:=@Classical.byContradiction
abbrev eP:=@heap_setCell_same
abbrev eR:=@underlying22
abbrev eS:=@if_true
abbrev eT:=@Below.heap_setCell
abbrev eU:=@List.getElem?_append_left
abbrev eW:=@List.getElem?_eq_none
abbrev eX:=@Int.mul_le_mul_of_nonneg_left
abbrev eY:=@below_drewN
abbrev eZ:=@Array.getD_eq_getD_getElem?
abbrev hH:=@cell_of_row
abbrev hI:=@Nat.mul_le_mul_right
abbrev hJ:=@Nat.add_assoc
abbrev ia:=@Nat.add_zero
abbrev ic:=@Nat.mul_one
abbrev ie:=@List.all_eq_true
abbrev ig:=@if_false
abbrev ii:=@List.map_append
abbrev ij:=@List.getElem_mem
abbrev ik:=@Int.le_refl
abbrev il:=@Int.mul_nonneg
abbrev im:=@List.length_take
abbrev io:=@Option.some.injEq
abbrev ip:=@Nat.pow_le_pow_right
abbrev iq:=@List.length_eq_zero_iff
abbrev ir:=@Nat.le_of_lt
abbrev iu:=@List.mem_append
abbrev iv:=@List.length_map
abbrev iw:=@World.cell?_of_block
abbrev iy:=@World.ownsRow_nil
abbrev iz:=@underlying3
abbrev iA:=@Array.getElem?_setIfInBounds_self_of_lt
abbrev iB:=@Rat.mul_pos
abbrev iC:=@List.length_drop
abbrev iD:=@List.length_replicate
abbrev iE:=@Option.some.inj
abbrev iF:=@Nat.not_lt_zero
abbrev iG:=@decide_eq_true_iff
abbrev iH:=@Int.mul_le_mul_of_nonneg_right
abbrev iI:=@of_decide_eq_true
abbrev iJ:=@List.map_congr_left
abbrev iK:=@List.length_pos_iff
abbrev iL:=@List.getElem?_range
abbrev iM:=@info_parts
abbrev iN:=@Array.getElem?_eq_getElem
abbrev iO:=@List.take_succ_eq_append_getElem
abbrev iQ:=@Nat.pow_succ
abbrev iR:=@heap_setCell_other
abbrev iS:=@Nat.mul_le_mul
abbrev iT:=@Nat.div_le_self
abbrev iU:=@List.not_mem_nil
abbrev iV:=@Value.slice.injEq
abbrev iW:=@List.mem_range
abbrev iX:=@List.getElem?_set
abbrev iY:=@List.eq_nil_of_length_eq_zero
abbrev iZ:=@List.length_singleton
abbrev jg:=@frozen_of_row
abbrev jh:=@Int.mul_le_mul
abbrev jj:=@Nat.gcd_pos_of_pos_right
abbrev jk:=@Nat.mul_ne_zero
abbrev jm:=@Option.isSome_some
abbrev jn:=@List.mem_cons
abbrev jo:=@beq_iff_eq
abbrev jp:=@ByteArray.size_extract
abbrev jq:=@Rat.num_intCast
abbrev jr:=@List.length_set
abbrev js:=@List.drop_eq_getElem_cons
abbrev jt:=@List.take_length
abbrev ju:=@Option.isSome_none
abbrev jv:=@List.mem_singleton
abbrev jw:=@wpList_append_own
abbrev jy:=@List.range_succ
abbrev jz:=@Bool.eq_iff_iff
abbrev jA:=@List.flatMap_append
abbrev jB:=@List.mem_map
abbrev jC:=@Int.zero_mul
abbrev jD:=@Nat.lt_irrefl
abbrev jF:=@List.drop_zero
abbrev jG:=@Rat.den_intCast
abbrev jI:=@Nat.mul_comm
abbrev jJ:=@Nat.gcd_comm
abbrev jK:=@Int.mul_zero
abbrev jL:=@Int.mul_comm
abbrev jN:=@World.ownsRow.lt
abbrev jO:=@Option.bind_some
abbrev jP:=@List.drop_of_length_le
abbrev jQ:=@Nat.div_add_mod
variable{n:Nat}
theorem lR:n<=n:=Nat.le_refl n
abbrev Bl (w w':lM):Prop:=Below w.heap.size w w'
variable{w w':lM}{p:Addr}{v:Option lN}
theorem qs (h:Below n w w')(e:w.cell? p=v)(hp:p.block<n):w'.cell? p=v:=(h.cell hp).trans e
theorem jl (h:Below n w w')(e:b<w.heap.size):b<w'.heap.size:=ez e h.size
theorem qd (e:w.cell? p=v):w.drew.cell? p=v:=e
variable{o:Obj}
theorem ba (h:Below (w.alloc o).heap.size (w.alloc o) w'):Below w.heap.size w w':=((eB _ w).alloc lR o).trans (h.mono (by simp))
theorem bt {a b:lM}(h:Below n w a)(k:Below a.heap.size a b)(e:n=w.heap.size:=by rfl):Below n w b:=h.trans (k.mono (e ▸ h.size))
theorem qq (e:w.cell? p=v):w.drew.cell? p=v:=e
theorem eb (h:Below (w.alloc o).heap.size (w.alloc o) w'):Below w.heap.size w w':=((eB _ w).alloc lR o).trans (h.mono (by simp))
theorem et {a b:lM}(h:Below n w a)(k:Below a.heap.size a b)(e:n=w.heap.size:=by rfl):Below n w b:=h.trans (k.mono (e ▸ h.size))
theorem ef {α:Type}[BEq α][LawfulBEq α]{a b:α}(h:¬a=b):(a==b)=lL:=eg.2 h
theorem brw (w:lM):Below w.heap.size w w:=eB _ _
theorem brf:Below n w w:=eB n w
theorem hid {p:Prop}(h:p):Hid p:=h
def IntBlk (w:lM)(b:Nat):Prop:=∃arr fz,w.heap[b]?=lJ (lE arr 3 fz)
structure Row (w:lM)(ao:Option Addr)(n cap:Nat)(xs:List Int):Prop where
  len:xs.length=n
  le:n<=cap
  cm:cap<=maxLen
  head:0<n->∃b o,ao=lJ ⟨b,o,lI⟩/\b<w.heap.size
  ib:∀b o,ao=lJ ⟨b,o,lI⟩->0<n->IntBlk w b
  cell:∀b o,ao=lJ ⟨b,o,lI⟩->∀j,j<n->lH w ⟨b,o+j,lI⟩=lJ (kW lD (lm xs j))
theorem IntBlk.lt (h:IntBlk w b):b<w.heap.size:=by
 obtain⟨a,c,h⟩:=h;exact(ek.1 h).1
variable{ao:Option Addr}{cap:Nat}{xs:List Int}
theorem Row.iP (h:Row w ao n cap xs)(hb:Below w.heap.size w w'):Row w' ao n cap xs:=by
 refine⟨h.len,h.le,h.cm,fun hn=>?_,fun b o e hn=>?_,fun b o e j hj=>?_⟩
 ·obtain⟨b,o,e,a⟩:=h.head hn;exact⟨b,o,e,jl hb a⟩
 ·obtain⟨c,g,f⟩:=h.ib b o e hn;exact⟨c,g,(hb.block b (ek.1 f).1).trans f⟩
 ·obtain⟨i,k,d,a⟩:=h.head (by omega);rw[e]at d;cases d;exact(qs hb (h.cell b o e j hj) a)
theorem Row.nil (w:lM):Row w lI 0 0 []:=⟨rfl,lR,ep _,fun h=>by omega,fun b o e=>(by cases e),fun b o e=>(by cases e)⟩
theorem Row.take (h:Row w ao n cap xs)(m:Nat)(hm:m<=n):Row w ao m cap (xs.take m):=by
 refine⟨?_,eh hm h.le,h.cm,fun h0=>h.head (by omega),fun b o e h0=>h.ib b o e (by omega),fun b o e j hj=>?_⟩
 ·rw[im,h.len];omega
 ·rw[h.cell b o e j (by omega)];simp[lm,ej,eH,hj]
def Bx (w:lM)(b:Nat)(cs:Array lN)(T:TypeId):Prop:=w.heap[b]?=lJ (lE cs T (0,0))
variable{cs:Array lN}
theorem Bx.lt {T:TypeId}(h:Bx w b cs T):b<w.heap.size:=(ek.1 h).1
theorem Bx.cell {T:TypeId}(h:Bx w b cs T)(j:Nat)(v:lN)(hv:cs[j]?=lJ v):lH w ⟨b,j,lI⟩=lJ v:=(hH w b j _ _ _ h).trans hv
theorem Bx.frozen {T:TypeId}(h:Bx w b cs T)(j:Nat):w.frozen? ⟨b,j,lI⟩=lL:=jg w b j _ _ h
variable{x0 x1:lN}
theorem Bx.c2 {T:TypeId}(h:Bx w b cs T)(e:cs.toList.take 2=[x0,x1]):lH w ⟨b,0,lI⟩=lJ x0/\lH w ⟨b,1,lI⟩=lJ x1:=by
 have g:∀j,j<2->cs[j]?=[x0,x1][j]? :=fun j hj=>by rw[← e,eH,ed hj,eI]
 exact⟨h.cell 0 _ (g 0 (by decide)),h.cell 1 _ (g 1 (by decide))⟩
variable{x2:lN}
theorem Bx.c3 {T:TypeId}(h:Bx w b cs T)(e:cs.toList.take 3=[x0,x1,x2]):lH w ⟨b,0,lI⟩=lJ x0/\lH w ⟨b,1,lI⟩=lJ x1/\lH w ⟨b,2,lI⟩=lJ x2:=by
 have g:∀j,j<3->cs[j]?=[x0,x1,x2][j]? :=fun j hj=>by rw[← e,eH,ed hj,eI]
 exact⟨h.cell 0 _ (g 0 (by decide)),h.cell 1 _ (g 1 (by decide)),h.cell 2 _ (g 2 (by decide))⟩
variable{x3:lN}
theorem Bx.c4 {T:TypeId}(h:Bx w b cs T)(e:cs.toList.take 4=[x0,x1,x2,x3]):lH w ⟨b,0,lI⟩=lJ x0/\lH w ⟨b,1,lI⟩=lJ x1/\lH w ⟨b,2,lI⟩=lJ x2/\lH w ⟨b,3,lI⟩=lJ x3:=by
 have g:∀j,j<4->cs[j]?=[x0,x1,x2,x3][j]? :=fun j hj=>by rw[← e,eH,ed hj,eI]
 exact⟨h.cell 0 _ (g 0 (by decide)),h.cell 1 _ (g 1 (by decide)),h.cell 2 _ (g 2 (by decide)),h.cell 3 _ (g 3 (by decide))⟩
theorem Bx.q1 {T:TypeId}(h:Bx w b cs T)(e:cs.toList.take 1=[x0]):b<w.heap.size/\lH w ⟨b,0,lI⟩=lJ x0:=by
 have g:∀j,j<1->cs[j]?=[x0][j]? :=fun j hj=>by rw[← e,eH,ed hj,eI]
 exact⟨h.lt,h.cell 0 _ (g 0 (by decide))⟩
theorem Bx.q2 {T:TypeId}(h:Bx w b cs T)(e:cs.toList.take 2=[x0,x1]):b<w.heap.size/\lH w ⟨b,0,lI⟩=lJ x0/\lH w ⟨b,1,lI⟩=lJ x1:=by
 have g:∀j,j<2->cs[j]?=[x0,x1][j]? :=fun j hj=>by rw[← e,eH,ed hj,eI]
 exact⟨h.lt,h.cell 0 _ (g 0 (by decide)),h.cell 1 _ (g 1 (by decide))⟩
theorem Bx.q3 {T:TypeId}(h:Bx w b cs T)(e:cs.toList.take 3=[x0,x1,x2]):b<w.heap.size/\lH w ⟨b,0,lI⟩=lJ x0/\lH w ⟨b,1,lI⟩=lJ x1/\lH w ⟨b,2,lI⟩=lJ x2:=by
 have g:∀j,j<3->cs[j]?=[x0,x1,x2][j]? :=fun j hj=>by rw[← e,eH,ed hj,eI]
 exact⟨h.lt,h.cell 0 _ (g 0 (by decide)),h.cell 1 _ (g 1 (by decide)),h.cell 2 _ (g 2 (by decide))⟩
theorem Bx.q4 {T:TypeId}(h:Bx w b cs T)(e:cs.toList.take 4=[x0,x1,x2,x3]):b<w.heap.size/\lH w ⟨b,0,lI⟩=lJ x0/\lH w ⟨b,1,lI⟩=lJ x1/\lH w ⟨b,2,lI⟩=lJ x2/\lH w ⟨b,3,lI⟩=lJ x3:=by
 have g:∀j,j<4->cs[j]?=[x0,x1,x2,x3][j]? :=fun j hj=>by rw[← e,eH,ed hj,eI]
 exact⟨h.lt,h.cell 0 _ (g 0 (by decide)),h.cell 1 _ (g 1 (by decide)),h.cell 2 _ (g 2 (by decide)),h.cell 3 _ (g 3 (by decide))⟩
theorem Bx.q5 {T:TypeId}{x4:lN}(h:Bx w b cs T)(e:cs.toList.take 5=[x0,x1,x2,x3,x4]):b<w.heap.size/\lH w ⟨b,0,lI⟩=lJ x0/\lH w ⟨b,1,lI⟩=lJ x1/\lH w ⟨b,2,lI⟩=lJ x2/\lH w ⟨b,3,lI⟩=lJ x3/\lH w ⟨b,4,lI⟩=lJ x4:=by
 have g:∀j,j<5->cs[j]?=[x0,x1,x2,x3,x4][j]? :=fun j hj=>by rw[← e,eH,ed hj,eI]
 exact⟨h.lt,h.cell 0 _ (g 0 (by decide)),h.cell 1 _ (g 1 (by decide)),h.cell 2 _ (g 2 (by decide)),h.cell 3 _ (g 3 (by decide)),h.cell 4 _ (g 4 (by decide))⟩
theorem Bx.s {T:TypeId}{v:lN}(h:Bx w b cs T)(j:Nat)(e:cs[j]?=lJ v):b<w.heap.size/\lH w ⟨b,j,lI⟩=lJ v/\w.frozen? ⟨b,j,lI⟩=lL:=⟨h.lt,h.cell j v e,h.frozen j⟩
theorem Bx.w1 {T:TypeId}(h:Bx w b cs T)(e:cs.toList.take 1=[x0]):b<w.heap.size/\lH w ⟨b,0,lI⟩=lJ x0/\w.frozen? ⟨b,0,lI⟩=lL:=by
 have g:∀j,j<1->cs[j]?=[x0][j]? :=fun j hj=>by rw[← e,eH,ed hj,eI]
 exact⟨h.lt,h.cell 0 _ (g 0 (by decide)),h.frozen 0⟩
theorem Bx.w2 {T:TypeId}(h:Bx w b cs T)(e:cs.toList.take 2=[x0,x1]):b<w.heap.size/\lH w ⟨b,0,lI⟩=lJ x0/\w.frozen? ⟨b,0,lI⟩=lL/\lH w ⟨b,1,lI⟩=lJ x1/\w.frozen? ⟨b,1,lI⟩=lL:=by
 have g:∀j,j<2->cs[j]?=[x0,x1][j]? :=fun j hj=>by rw[← e,eH,ed hj,eI]
 exact⟨h.lt,h.cell 0 _ (g 0 (by decide)),h.frozen 0,h.cell 1 _ (g 1 (by decide)),h.frozen 1⟩
theorem Bx.w3 {T:TypeId}(h:Bx w b cs T)(e:cs.toList.take 3=[x0,x1,x2]):b<w.heap.size/\lH w ⟨b,0,lI⟩=lJ x0/\w.frozen? ⟨b,0,lI⟩=lL/\lH w ⟨b,1,lI⟩=lJ x1/\w.frozen? ⟨b,1,lI⟩=lL/\lH w ⟨b,2,lI⟩=lJ x2/\w.frozen? ⟨b,2,lI⟩=lL:=by
 have g:∀j,j<3->cs[j]?=[x0,x1,x2][j]? :=fun j hj=>by rw[← e,eH,ed hj,eI]
 exact⟨h.lt,h.cell 0 _ (g 0 (by decide)),h.frozen 0,h.cell 1 _ (g 1 (by decide)),h.frozen 1,h.cell 2 _ (g 2 (by decide)),h.frozen 2⟩
theorem Bx.w4 {T:TypeId}(h:Bx w b cs T)(e:cs.toList.take 4=[x0,x1,x2,x3]):b<w.heap.size/\lH w ⟨b,0,lI⟩=lJ x0/\w.frozen? ⟨b,0,lI⟩=lL/\lH w ⟨b,1,lI⟩=lJ x1/\w.frozen? ⟨b,1,lI⟩=lL/\lH w ⟨b,2,lI⟩=lJ x2/\w.frozen? ⟨b,2,lI⟩=lL/\lH w ⟨b,3,lI⟩=lJ x3/\w.frozen? ⟨b,3,lI⟩=lL:=by
 have g:∀j,j<4->cs[j]?=[x0,x1,x2,x3][j]? :=fun j hj=>by rw[← e,eH,ed hj,eI]
 exact⟨h.lt,h.cell 0 _ (g 0 (by decide)),h.frozen 0,h.cell 1 _ (g 1 (by decide)),h.frozen 1,h.cell 2 _ (g 2 (by decide)),h.frozen 2,h.cell 3 _ (g 3 (by decide)),h.frozen 3⟩
variable{B:Nat}
theorem Bx.iP {T:TypeId}(h:Bx w b cs T)(hb:Below B w w')(hB:b<B):Bx w' b cs T:=(hb.block b hB).trans h
theorem Bx.jx {T:TypeId}(h:Bx w b cs T)(a:Addr)(v:lN)(ha:a.block≠b):Bx (w.setCell a v) b cs T:=(iR w a b v (fun e=>ha e.symm)).trans h
theorem Row.jx (h:Row w ao n cap xs)(b i:Nat)(v:lN){T:TypeId}(hx:Bx w b cs T)(hT:T≠3):Row (lG w ⟨b,i,lI⟩ v) ao n cap xs:=by
 (have f:∀a o,ao=lJ ⟨a,o,lI⟩->0<n->a≠b:=by intro a o e c m;subst m;obtain⟨d,l,g⟩:=h.ib a o e c;unfold Bx at hx;rw[hx]at g;cases g;exact hT rfl);refine⟨h.len,h.le,h.cm,fun c=>?_,fun a o e c=>?_,fun a o e j hj=>?_⟩
 ·obtain⟨b,o,e,k⟩:=h.head c;exact⟨b,o,e,by simpa[World.setCell]using k⟩
 ·obtain⟨d,l,g⟩:=h.ib a o e c;exact⟨d,l,(eT w _ v a (f a o e c)).trans g⟩
 ·rw[<-h.cell a o e j hj];exact iw (eT w _ v a (f a o e (by omega)))
def Blk (w:lM)(g:Nat)(zs:List Int):Prop:=w.heap[g]?=lJ (lE (zs.map (Value.int lD)).toArray 3 (0,0))
variable{g:Nat}{zs:List Int}
theorem Blk.lt (h:Blk w g zs):g<w.heap.size:=by
 unfold Blk at h;exact(ek.1 h).1
theorem Blk.cell (h:Blk w g zs)(j:Nat)(hj:j<zs.length):lH w ⟨g,j,lI⟩=lJ (kW lD (lm zs j)):=by
 rw[hH w g j _ _ _ h];simp[lm,hj]
theorem Blk.frozen (h:Blk w g zs)(j:Nat):w.frozen? ⟨g,j,lI⟩=lL:=jg w g j _ _ h
theorem Blk.set (h:Blk w g zs)(j:Nat)(v:Int):Blk (lG w ⟨g,j,lI⟩ (kW lD v)) g (zs.set j v):=by
 unfold Blk;rw[eP w g j _ _ _ h];simp[List.map_set]
theorem Blk.iP (h:Blk w g zs)(hb:Below B w w')(hg:g<B):Blk w' g zs:=(hb.block g hg).trans h
theorem Blk.jx (h:Blk w g zs)(a:Addr)(v:lN)(ha:a.block≠g):Blk (w.setCell a v) g zs:=(iR w a g v (fun e=>ha e.symm)).trans h
theorem Blk.row (h:Blk w g zs)(o n cap:Nat)(hn:o+n<=zs.length)(hc:n<=cap)(hm:cap<=maxLen):Row w (lJ ⟨g,o,lI⟩) n cap ((zs.drop o).take n):=by
 refine⟨by simp;omega,hc,hm,fun _=>⟨_,_,rfl,h.lt⟩,fun b o' e _=>(by cases e;exact⟨_,_,h⟩),fun b o' e j hj=>?_⟩
 cases e
 rw[h.cell (o+j) (by omega)];simp[lm,eH,hj]
theorem Blk.row0 (h:Blk w g zs)(n cap:Nat)(hn:n=zs.length)(hc:n<=cap)(hm:cap<=maxLen):Row w (lJ ⟨g,0,lI⟩) n cap zs:=by
 have:=h.row 0 n cap (by omega) hc hm
 rwa[jF,ew (by omega)]at this
theorem Tryz.infoInt:(prog.info? 3).map (fun i=>(i.zero,i.size,i.bytes))=lJ (lJ (kW lD 0),1,8):=by kernel_rfl
theorem mm (w:lM){ops:Array Oper}{rest:List Oper}{o:Oper}{a:Act}{Q:Exit->Act->lM->Prop}(hg:o.guard=lI)(l c:Operand)(hop:o.op=Op.makeSlice 22 l c)(L C:Int)(n:Nat)(hl:a.eval l=kW lD L)(hc:a.eval c=kW lD C)(hL:L=(n:Int))(hC:C=(n:Int))(hn:n<=1000000)(hK:∀w',Blk w' w.heap.size (List.replicate n 0)->Below w.heap.size w w'->w.heap.size<w'.heap.size->wpList prog ops Q rest (a.put o.dst (kX (lJ ⟨w.heap.size,0,lI⟩) n n)) w'):wpList prog ops Q (o::rest) a w:=by
 obtain⟨i,u,m,p,q⟩:=iM Tryz.infoInt;refine wpList_make_full w hg l c 22 hop w.heap.size 3 i (kW lD 0) 1 eR u m p lD lD L C n hl hc hL hC (by rw[q];omega) (by unfold maxLen;omega) lR ?_;intro w' v h;have t:Bl w w':=brf.grown h lR (fun k e=>by cases e);rcases v.2 with⟨b,_⟩|⟨g,r,d,b,_,j,x,y,s,f⟩
 ·cases b
 ·simp only[iV,io,Addr.mk.injEq,and_true,true_and]at b;obtain⟨rfl,rfl⟩:=b;(have e:d=((List.replicate n (0:Int)).map (Value.int lD)).toArray:=by apply Array.toList_inj.1;rw[ic]at f s;rw[ew (by rw[Array.length_toList];omega)]at f;rw[f,show(Value.int lD 0).cells=#[kW lD 0]from rfl,toList_madeCells_one];simp);rw[e]at j;exact hK w' j t (Blk.lt j)
theorem i1 (w:lM)(cs:Array lN)(T:TypeId):Bx (w.alloc (lE cs T)) w.heap.size cs T:=heap_alloc_new w _
theorem i7 {T:TypeId}(h:Bx w b cs T)(o:Obj):Bx (w.alloc o) b cs T:=(Below.heap_alloc w o b h.lt).trans h
theorem boxes2 (w:lM)(a b:Array lN)(T U:TypeId):Bx ((w.alloc (lE a T)).alloc (lE b U)) w.heap.size a T/\Bx ((w.alloc (lE a T)).alloc (lE b U)) (w.heap.size+1) b U/\Below w.heap.size w ((w.alloc (lE a T)).alloc (lE b U)):=by
 (have c:(w.alloc (lE a T)).heap.size=w.heap.size+1:=by simp);refine⟨i7 (i1 _ _ _) _,?_,(brf.alloc lR _).alloc (by simp) _⟩;have:=i1 (w.alloc (lE a T)) b U;rwa[c]at this
theorem boxes3 (w:lM)(a b c:Array lN)(T U V:TypeId):Bx (((w.alloc (lE a T)).alloc (lE b U)).alloc (lE c V)) w.heap.size a T/\Bx (((w.alloc (lE a T)).alloc (lE b U)).alloc (lE c V)) (w.heap.size+1) b U/\Bx (((w.alloc (lE a T)).alloc (lE b U)).alloc (lE c V)) (w.heap.size+1+1) c V/\Below w.heap.size w (((w.alloc (lE a T)).alloc (lE b U)).alloc (lE c V)):=by
 obtain⟨e,f,g⟩:=boxes2 w a b T U;(have d:((w.alloc (lE a T)).alloc (lE b U)).heap.size=w.heap.size+1+1:=by simp);refine⟨i7 e _,i7 f _,?_,g.alloc (by rw[d];omega) _⟩;have:=i1 ((w.alloc (lE a T)).alloc (lE b U)) c V;rwa[d]at this
theorem pt (hr:Row w ao n cap xs)(hL:yd xs)(hn:n<=60000):Calls prog 151 #[kX ao n cap] w fun e w'=>∃m,m<=n/\xs.take m=zA (val xs).toNat/\e=lF (lA #[kX ao m cap])/\Below w.heap.size w w':=by
 have j:=hr.len;have l:=hr.le;have d:=hr.cm;unfold maxLen at d;go_enter func151,ntmps151;go_wp2
 go_loop[3] (fun v=>∃m:Nat,m<=n/\v=kW lD m/\(∀i,m<=i->i<xs.length->lm xs i=0)) (fun v=>(intOf v).toNat)
 case atStart=>exact⟨n,lR,rfl,fun i h1 h2=>by omega⟩
 case round=>
  obtain⟨m,s,rfl,g⟩:=hrel;by_cases k:m=0
  ·subst k;have E:=rU xs 0 hL (by omega) (fun i h1 h2=>g i h1 h2) (.inl rfl);have c:=E;go_wp2;refine eG (v:=lA #[kX ao 0 cap]) (by simp[results,results151,go_sem]) rfl ⟨0,by omega,c,rfl,?_⟩;exact(brf.alloc lR _)
  ·obtain⟨b,o,rfl,p⟩:=hr.head (by omega);have h:=hr.cell b o rfl (m-1) (by omega);obtain⟨q,rfl⟩:∃q,m=q+1:=⟨m-1,by omega⟩;simp only[Nat.add_sub_cancel]at h;by_cases a:lm xs q=0
   ·rw[a]at h;go_wp2
    exact⟨⟨q,by omega,rfl,fun i h1 h2=>by
     by_cases e:i=q
     ·rw[e];exact a
     ·exact g i (by omega) h2⟩,by simp[intOf]⟩
   ·(have r:(lm xs q == 0)=lL:=by simpa using a);have E:=rU xs (q+1) hL (by omega) (fun i h1 h2=>g i h1 h2) (.inr a);have c:=E;clear hr;go_wp2;refine eG (v:=lA #[kX (lJ ⟨b,o,lI⟩) (q+1) cap]) (by simp[results,results151,go_sem]) rfl ⟨q+1,by omega,c,rfl,?_⟩;exact(brf.alloc lR _)
def Num (w:lM)(v:lN)(m:Nat):Prop:=∃ao n cap,v=lA #[kX ao n cap]/\Row w ao n cap (zA m)
variable{m:Nat}
theorem Num.iP {v:lN}(h:Num w v m)(hb:Below w.heap.size w w'):Num w' v m:=by
 obtain⟨b,n,a,rfl,c⟩:=h;exact⟨b,n,a,rfl,c.iP hb⟩
theorem xx (hr:Row w ao n cap xs)(hn:n<=60000)(hi:i<=60000):Calls prog 152 #[lA #[kX ao n cap],kW lD i] w fun e w'=>e=lF (kW lD (lm xs i))/\Below w.heap.size w w':=by
 by_cases h:i<n
 ·obtain⟨b,o,rfl,a⟩:=hr.head (by omega);have c:=hr.cell b o rfl i h;go_enter func152,ntmps152;go_wp2;go_ret;exact⟨rfl,brf.alloc lR _⟩
 ·(have e:lm xs i=0:=by have:=hr.len;unfold lm;rw[ej,eW (by omega)];rfl);rw[e];go_enter func152,ntmps152;go_wp2;go_ret;exact⟨rfl,brf.alloc lR _⟩
def isZ (m:Nat):Bool:=m == 0
theorem ob (hr:Row w ao n cap (zA m))(hn:n<=60000):Calls prog 149 #[lA #[kX ao n cap]] w fun e w'=>e=lF (kZ (isZ m))/\Below w.heap.size w w':=by
 (have e:isZ m=((n:Int) == 0):=by have a:=hr.len;have b:=@jFE m;unfold isZ;rw[jz,jo,jo,<-b,<-iq,a];omega);rw[e];go_enter func149,ntmps149;go_wp2;go_ret;exact⟨rfl,brf.alloc lR _⟩
theorem mP:zA 1=[1]:=by rw[mj 1 (by omega),show 1/10000=0 from rfl,JD];rfl
theorem oV:Calls prog 110 #[] w fun e w'=>∃v,e=lF v/\Num w' v 1/\Below w.heap.size w w':=by
 go_enter func110,ntmps110;go_wp2;refine eG (v:=lA #[kX (lJ ⟨w.heap.size+1,0,lI⟩) 1 1]) (by simp[results,results110,go_sem]) rfl ⟨_,rfl,⟨_,_,_,rfl,?_⟩,(brf.alloc lR _).alloc (by simp) _⟩;rw[mP];refine⟨rfl,lR,by decide,fun _=>⟨_,_,rfl,by simp⟩,fun b o e _=>(by cases e;exact⟨_,_,(boxes2 w _ #[kW lD 1] _ 3).2.1⟩),fun b o e j hj=>?_⟩
 cases e
 (obtain rfl:j=0:=by omega);simp[lm]
def zQ (a b:Int):Int:=if a<b then -1 else if a=b then 0 else 1
variable{bo:Option Addr}{capa capb x y:Nat}
theorem mO (hr:Row w ao n capa (zA x))(hs:Row w bo m capb (zA y))(hn:n<=60000)(hm:m<=60000):Calls prog 105 #[lA #[kX ao n capa],lA #[kX bo m capb]] w fun e w'=>e=lF (kW lD (zQ x y))/\Below w.heap.size w w':=by
 have l:=hr.len;have r:=hs.len;have u:=JG x;have z:=JG y;rcases Nat.lt_trichotomy n m with h|h|h
 ·(have e:zQ x y = -1:=by have:=pM (qA x) (qA y) (oq y) (by omega);unfold zQ;rw[ed (by omega)]);rw[e];clear e hr hs l r u z;go_enter func105,ntmps105;go_wp2;go_ret;exact⟨rfl,(brf.alloc lR _).alloc (by simp) _⟩
 ·subst h;(have Y:∀b o,ao=lJ ⟨b,o,lI⟩->0<n->b<w.heap.size:=fun b o e h=>by obtain⟨P,S,c,F⟩:=hr.head h;rw[e]at c;cases c;exact F);(have X:∀b o,bo=lJ ⟨b,o,lI⟩->0<n->b<w.heap.size:=fun b o e h=>by obtain⟨P,S,c,F⟩:=hs.head h;rw[e]at c;cases c;exact F);go_enter func105,ntmps105;go_wp2
  go_loopw [5] (fun v wr=>∃k:Nat,k<=n /\ v=kW lD ((k:Int)-1) /\ (∀j,k<=j -> j<n -> lm (zA x) j=lm (zA y) j) /\
   Below (w.heap.size+2) ((w.alloc (lE #[kX ao n capa] 88)).alloc (lE #[kX bo n capb] 88)) wr) (fun v _=>(intOf v+1).toNat)
  case atStart=>exact⟨n,lR,rfl,fun j h1 h2=>by omega,eB _ _⟩
  case round=>
   obtain⟨k,Z,rfl,t,d⟩:=hrel;have hB:Bl w wr:=((brf.alloc lR _).alloc (by simp) _).trans (d.mono (by omega));have s:=hB;have T:lH wr ⟨w.heap.size,0,lI⟩=lJ (kX ao n capa):=qs d (by simp) (by simp);have U:lH wr ⟨w.heap.size+1,0,lI⟩=lJ (kX bo n capb):=qs d (by simp) (by simp);by_cases R:k=0
   ·subst R;(have e:zQ x y=0:=by have:=tM n l r (fun i hi=>t i (by omega) hi);(have:(x:Int)=y:=by rw[<-u,<-z,this]);unfold zQ;rw[ec (by omega),ed this]);clear hB;go_wp2;go_ret;exact⟨by rw[e];rfl,s⟩
   ·obtain⟨q,rfl⟩:∃q,k=q+1:=⟨k-1,by omega⟩;obtain⟨C,J,rfl,G⟩:=hr.head (by omega);obtain⟨D,K,rfl,H⟩:=hs.head (by omega);have V:=qs hB (hr.cell C J rfl q (by omega)) G;have W:=qs hB (hs.cell D K rfl q (by omega)) H;clear hB;(have Q:(0:Int)<=((q+1:Nat):Int)-1:=by omega);rcases Int.lt_trichotomy (lm (zA x) q) (lm (zA y) q)with I|f|E
    ·(have e:zQ x y = -1:=by have:=oS _ _ (qA x) (qA y) n l r q (by omega) (fun i h1 h2=>t i (by omega) h2) I;rw[u,z]at this;unfold zQ;rw[ed this]);have a:=e;clear e;go_wp2;go_quiet (fail);go_wp2;go_ret;exact⟨by rw[a];rfl,eY s _⟩
    ·(have g:¬ lm (zA x) q<lm (zA y) q:=by omega);(have N:¬ lm (zA y) q<lm (zA x) q:=by omega);have a:=f;clear f;go_wp2;go_quiet (fail);go_wp2;go_quiet (fail);go_wp2
     go_roundw
     case rel=>exact⟨q,by omega,by go_num,fun j h1 h2=>(by
      by_cases e:j=q
      ·rw[e];exact a
      ·exact t j (by omega) h2),eY d _⟩
     case measure=>simp[intOf]
    ·(have g:¬ lm (zA x) q<lm (zA y) q:=by omega);(have e:zQ x y=1:=by have:=oS _ _ (qA y) (qA x) n r l q (by omega) (fun i h1 h2=>(t i (by omega) h2).symm) E;rw[u,z]at this;unfold zQ;rw[ec (by omega),ec (by omega)]);have a:=e;clear e;go_wp2;go_quiet (fail);go_wp2;go_quiet (fail);go_wp2;go_ret;exact⟨by rw[a];rfl,by first|exact eY s _|exact eY (eY s _) _⟩
 ·(have e:zQ x y=1:=by have:=pM (qA y) (qA x) (oq x) (by omega);unfold zQ;rw[ec (by omega),ec (by omega)]);rw[e];clear e l r;go_enter func105,ntmps105;go_wp2;go_ret;exact⟨rfl,(brf.alloc lR _).alloc (by simp) _⟩
theorem IA (o:List Int)(n x y:Nat)(c:Int)(hlen:o.length=n+1)(hx:(zA x).length=n)(hy:(zA y).length<=n)(h:val (o.take n)+10000^n*c=val ((zA x).take n)+val ((zA y).take n)):(val (o.set n c)).toNat=x+y:=by
 have e:(o.set n c).take (n+1)=o.set n c:=ew (by simp;omega);rw[<-e,oN o n c (by omega),h,ew (by omega),ew (by omega),JG,JG];omega
theorem oL {z:Nat}(hr:Row w ao n cap xs)(hm:m<=n)(he:xs.take m=zA (val xs).toNat)(hz:(val xs).toNat=z)(hb:Below w.heap.size w w'):Row w' ao m cap (zA z):=by
 have:=(hr.take m hm).iP hb
 rwa[he,hz]at this
theorem Ci (hr:Row w ao n capa (zA x))(hs:Row w bo m capb (zA y))(hn:n<=50000)(hm:m<=n):Calls prog 103 #[lA #[kX ao n capa],lA #[kX bo m capb]] w fun e w'=>∃v,e=lF v/\Num w' v (x+y)/\Below w.heap.size w w':=by
 have l1:=hr.len;have l2:=hs.len;(have af:¬ (n:Int)<(m:Int):=by omega);go_enter func103,ntmps103;go_wp2_with (at_make;refine mm _ rfl _ _ rfl _ _ (n+1) rfl rfl (by omega) (by omega) (by omega) ?_);intro L z f ag;obtain⟨Q,R,S,T⟩:=boxes3 w #[kX ao n capa] #[kX bo m capb] #[kX lI 0 0] 88 88 88;have O:=Q.iP f (by omega);have X:=R.iP f (by omega);have Y:=S.iP f (by omega);have k1:=O.cell 0 _ rfl;have P:=T.trans (f.mono (by omega));go_wp2
 go_loopw [6,28] (fun vc vi wr=>∃(k:Nat) (c:Int) (d:List Int),k<=n /\ vi=kW lD k /\ vc=kW lD c /\ 0<=c /\ c<=1 /\ d.length=n+1 /\ yd d /\
  (val (d.take k)+10000^k*c=val ((zA x).take k)+val ((zA y).take k)) /\ Blk wr (w.heap.size+1+1+1) d /\ Below (w.heap.size+3) L wr) (fun _ vi _=>n-(intOf vi).toNat)
 case atStart=>exact⟨0,0,_,ep _,rfl,rfl,by omega,by omega,by simp,mv _,by simp[Hid,val],z,eB _ _⟩
 case round=>
  obtain⟨k,c,d,hk,rfl,rfl,H,ae,A,h,l,a,r⟩:=hrel;have q1:=(O.iP r (by omega)).cell 0 _ rfl;have q2:=(X.iP r (by omega)).cell 0 _ rfl;have M:=P.trans (r.mono (by omega));by_cases U:k<n
  ·obtain⟨D,K,rfl,I⟩:=hr.head (by omega);have d1:=qs M (hr.cell D K rfl k (by omega)) I;have J:=hs.iP M;have bx:=JA (qA x) k;(have E:=JA (qA y) k);obtain⟨aa,ab⟩:=bx;(obtain⟨ac,ad⟩:=E);have g:=a.lt;go_wp2_with (go_at_call 152;refine(xx J (by omega) (by omega)).mono ?_;rintro e V ⟨rfl,b⟩;have g1:=(a.iP b g).cell k (by omega);have g2:=(a.iP b g).frozen k;have q:=b)
   go_roundw
   (case rel=>refine⟨k+1,_,_,by omega,by go_num,rfl,by omega,by omega,by simpa using A,lO h k _ (by omega) (by omega),tN d (zA x) (zA y) k c _ (by omega) rfl l,(a.iP q g).set k _,?_⟩;exact(r.trans (q.mono (by omega))).setCell (by show w.heap.size+3<=w.heap.size+1+1+1;omega) _);case measure=>simp[intOf];omega
  ·(obtain rfl:k=n:=by omega);have g1:=a.cell k (by omega);have g2:=a.frozen k;have t:=IA d k x y c A l1 (by omega) l;have F:=a.set k c;have i:=Blk.row0 F (k+1) (k+1) (by simp;omega) lR (by unfold maxLen;omega);have G:=lO h k c H (by omega);have g:=a.lt;go_wp2_with fail;refine(pt i G (by omega)).mono ?_;rintro e V ⟨j,hj,u,rfl,b⟩;have s:=(r.setCell (by show w.heap.size+3<=w.heap.size+1+1+1;omega) _).trans (b.mono (by simp;omega));have Z:=Y.iP s (by omega);obtain⟨_,z1,z2⟩:=Z.w1 rfl;have C:=oL i hj u t b;go_wp2;refine eG (v:=lA #[kX (lJ ⟨w.heap.size+1+1+1,0,lI⟩) j (k+1)]) (by simp[results,results103,go_sem,z1]) rfl ⟨_,rfl,⟨_,_,_,rfl,C.jx _ _ _ Z (by decide)⟩,?_⟩;exact(P.trans (s.mono (by omega))).setCell (by simp;omega) _
theorem GC (hr:Row w ao n capa (zA x))(hs:Row w bo m capb (zA y))(hn:n<=50000)(hm:m<=50000):Calls prog 103 #[lA #[kX ao n capa],lA #[kX bo m capb]] w fun e w'=>∃v,e=lF v/\Num w' v (x+y)/\Below w.heap.size w w':=by
 by_cases h:m<=n
 ·exact Ci hr hs hn h
 ·(have u:(n:Int)<(m:Int):=by omega);obtain⟨p,q,l,d⟩:=boxes3 w #[kX ao n capa] #[kX bo m capb] #[kX lI 0 0] 88 88 88;have i:=hr.iP d;have j:=hs.iP d;go_enter func103,ntmps103;go_wp2_with fail;refine(Ci j i hm (by omega)).mono ?_;rintro e z ⟨v,rfl,⟨s,r,c,rfl,a⟩,b⟩;have Z:=l.iP b l.lt;obtain⟨_,t,A⟩:=Z.w1 rfl;go_wp2;refine eG (v:=lA #[kX s r c]) (by simp[results,results103,go_sem,t]) rfl ⟨_,rfl,⟨_,_,_,rfl,?_⟩,?_⟩
  ·rw[Nat.add_comm x y];exact a.jx _ _ _ Z (by decide)
  ·exact(d.trans (b.mono (by simp;omega))).setCell (by simp;omega) _
theorem BI (o:List Int)(n x y:Nat)(b:Int)(hL:yd o)(hlen:o.length=n)(hx:(zA x).length=n)(hy:(zA y).length<=n)(hb:0<=b)(hxy:y<=x)(h:val (o.take n)-10000^n*b=val ((zA x).take n)-val ((zA y).take n)):(val o).toNat=x-y:=by
 rw[ew (by omega),ew (by omega),ew (by omega),JG,JG]at h;have a:=mZ hL;rw[hlen]at a;have d:=l4 hL
 have c:b=0:=by
  by_cases e:b=0
  ·exact e
  ·have:(10000:Int)^n*1<=10000^n*b:=eX (by omega) (by omega);omega
 subst c;omega
theorem BJ (x y:Nat)(h:x<=y):zQ x y<=0:=by unfold zQ;split<;>(try split)<;>omega
theorem BA (x y:Nat)(h:y<x):zQ x y=1:=by unfold zQ;rw[ec (by omega),ec (by omega)]
theorem qk (x y:Int):-1<=zQ x y/\zQ x y<=1:=by unfold zQ;split<;>(try split)<;>omega
theorem sub_le (ao bo:Option Addr)(n capa m capb:Nat)(x y:Nat)(w:lM)(hr:Row w ao n capa (zA x))(hs:Row w bo m capb (zA y))(hn:n<=50000)(hm:m<=50000)(hxy:x<=y):Calls prog 106 #[lA #[kX ao n capa],lA #[kX bo m capb]] w fun e w'=>∃v,e=lF v/\Num w' v (x-y)/\Below w.heap.size w w':=by
 obtain⟨j,k,h,b⟩:=boxes3 w #[kX ao n capa] #[kX bo m capb] #[kX lI 0 0] 88 88 88;have d:=hr.iP b;have f:=hs.iP b;have o:=BJ x y hxy;go_enter func106,ntmps106;go_wp2_with fail;refine(mO d f (by omega) (by omega)).mono ?_;rintro e p ⟨rfl,a⟩;have Z:=h.iP a h.lt;obtain⟨_,l,q⟩:=Z.w1 rfl;go_wp2;refine eG (v:=lA #[kX lI 0 0]) (by simp[results,results106,go_sem,l]) rfl ⟨_,rfl,⟨_,_,_,rfl,?_⟩,?_⟩
 ·rw[Nat.sub_eq_zero_of_le hxy];exact Row.nil _
 ·exact(b.trans (a.mono (by simp;omega))).setCell (by simp;omega) _
theorem Jc (hr:Row w ao n capa (zA x))(hs:Row w bo m capb (zA y))(hn:n<=50000)(hm:m<=50000)(hxy:y<x):Calls prog 106 #[lA #[kX ao n capa],lA #[kX bo m capb]] w fun e w'=>∃v,e=lF v/\Num w' v (x-y)/\Below w.heap.size w w':=by
 have l1:=hr.len;have l2:=hs.len;(have ah:m<=n:=by rw[<-l1,<-l2];exact jAH (by omega));obtain⟨c1,c2,c3,J⟩:=boxes3 w #[kX ao n capa] #[kX bo m capb] #[kX lI 0 0] 88 88 88;have S:=hr.iP J;have U:=hs.iP J;have z:=c1;have A:=c2;have B:=c3;have hc:=BA x y hxy;clear c1 c2 c3;go_enter func106,ntmps106;go_wp2_with fail;refine(mO S U (by omega) (by omega)).mono ?_;rintro e w2 ⟨rfl,f⟩;have H:=f.size;simp only[em]at H;have I:=z.iP f z.lt;have N:=A.iP f A.lt;have O:=B.iP f B.lt;have y1:=I.cell 0 _ rfl;have t:=J.trans (f.mono (by simp;omega));clear f z A B;go_wp2_with (at_make;refine mm _ rfl _ _ rfl _ _ n rfl rfl (by omega) (by omega) (by omega) ?_);intro X r d V;have z:=I.iP d I.lt;have A:=N.iP d N.lt;have B:=O.iP d O.lt;have k1:=z.cell 0 _ rfl;have s:=t.trans (d.mono (by omega));obtain⟨G,hG⟩:∃G,G=w2.heap.size:=⟨_,rfl⟩;rw[<-hG]at r d V H ⊢;clear d hG I N O y1 t;go_wp2
 go_loopw [6,22] (fun vc vi wr=>∃(k:Nat) (c:Int) (b:List Int),k<=n /\ vi=kW lD k /\ vc=kW lD c /\ 0<=c /\ c<=1 /\ b.length=n /\ yd b /\
  (val (b.take k)-10000^k*c=val ((zA x).take k)-val ((zA y).take k)) /\ Blk wr G b /\ Below G X wr) (fun _ vi _=>n-(intOf vi).toNat)
 case atStart=>exact⟨0,0,_,ep _,rfl,rfl,by omega,by omega,by simp,mv _,by simp[Hid,val],r,eB _ _⟩
 case round=>
  obtain⟨k,c,b,hk,rfl,rfl,Q,ag,F,g,l,a,K⟩:=hrel;have q2:=(A.iP K (by omega)).cell 0 _ rfl;have Y:=s.trans (K.mono (by omega));have q:=a.lt;by_cases aa:k<n
  ·obtain⟨P,W,rfl,R⟩:=hr.head (by omega);have d1:=qs Y (hr.cell P W rfl k (by omega)) R;have T:=hs.iP Y;obtain⟨ac,ad⟩:=JA (qA x) k;obtain⟨ae,af⟩:=JA (qA y) k;by_cases ab:lm (zA x) k-lm (zA y) k-c<0
   all_goals
    go_wp2_with (go_at_call 152;refine(xx T (by omega) (by omega)).mono ?_;rintro e w3 ⟨rfl,h⟩;have g1:=(a.iP h q).cell k (by omega);have g2:=(a.iP h q).frozen k;have u:=(h);clear h)
    go_roundw
    case rel=>
     refine⟨k+1,_,_,by omega,by go_num,rfl,by omega,by omega,by simpa using F,lO g k _ (by omega) (by omega),Bh b (zA x) (zA y) k c _ _ (by omega) (by omega) l,(a.iP u q).set k _,?_⟩
     exact(K.trans (u.mono (by omega))).setCell lR _
    case measure=>simp[intOf];omega
  ·(obtain rfl:k=n:=by omega);have D:=BI b k x y c g F l1 (by omega) Q (by omega) l;have i:=Blk.row0 a k k (by omega) lR (by unfold maxLen;omega);go_wp2_with fail;refine(pt i g (by omega)).mono ?_;rintro e w4 ⟨j,hj,E,rfl,o⟩;have C:=K.trans (o.mono (by omega));have Z:=B.iP C (by omega);obtain⟨_,z1,z2⟩:=Z.w1 rfl;have M:=oL i hj E D o;clear o E;go_wp2;refine eG (v:=lA #[kX (lJ ⟨G,0,lI⟩) j k]) (by simp[results,results106,go_sem,z1]) rfl ⟨_,rfl,⟨_,_,_,rfl,M.jx _ _ _ Z (by decide)⟩,?_⟩;exact(s.trans (C.mono (by omega))).setCell (by simp;omega) _
theorem BU (hr:Row w ao n capa (zA x))(hs:Row w bo m capb (zA y))(hn:n<=50000)(hm:m<=50000):Calls prog 106 #[lA #[kX ao n capa],lA #[kX bo m capb]] w fun e w'=>∃v,e=lF v/\Num w' v (x-y)/\Below w.heap.size w w':=by
 by_cases h:x<=y
 ·exact sub_le ao bo n capa m capb x y w hr hs hn hm h
 ·exact Jc hr hs hn hm (by omega)
theorem mL (xs:List Int)(k t:Nat)(v:Int)(h:t≠k):lm (xs.set k v) t=lm xs t:=by
 unfold lm;simp[iX,Ne.symm h]
theorem ot (n t:Nat):lm (List.replicate n 0) t=0:=by
 unfold lm;rw[ej];by_cases h:t<n
 ·simp[h]
 ·rw[eW (by simp;omega)];rfl
theorem qC (n:Nat):val (List.replicate n 0)=0:=by
 induction n with
 |zero=>rfl
 |succ n ih=>simp[List.replicate_succ,val,ih]
theorem IQ (o A:List Int)(i m:Nat)(Y c:Int)(hk:i+m<o.length)(h0:lm o (i+m)=0)(h:val o+10000^(i+m)*c=val (A.take i)*Y+10000^i*(lm A i*Y)):val (o.set (i+m) c)=val (A.take (i+1))*Y:=by
 rw[rT o _ _ hk,h0,mp];generalize(10000:Int)^(i+m)=P at *;generalize(10000:Int)^i=R at *
 grind
theorem nh (hr:Row w ao n capa (zA x))(hs:Row w bo m capb (zA y))(hnm:n+m<=60000):Calls prog 102 #[lA #[kX ao n capa],lA #[kX bo m capb]] w fun e w'=>∃v,e=lF v/\Num w' v (x*y)/\Below w.heap.size w w':=by
 have l1:=hr.len;have l2:=hs.len;obtain⟨c1,c2,c3,c5⟩:=boxes3 w #[kX ao n capa] #[kX bo m capb] #[kX lI 0 0] 88 88 88;go_enter func102,ntmps102;go_wp2_with (at_make;refine mm _ rfl _ _ rfl _ _ (n+m) rfl rfl (by omega) (by omega) (by omega) ?_);intro M B g U;have Y1:=c1.iP g (by omega);have Y2:=c2.iP g (by omega);have Y3:=c3.iP g (by omega);have k1:=Y1.cell 0 _ rfl;have z:=c5.trans (g.mono (by omega));have D:=B;obtain⟨G,hG⟩:∃G,G=w.heap.size+1+1+1:=⟨_,rfl⟩;(have ai:w.heap.size+1+1+1<=G:=by omega);rw[<-hG]at B g U D ⊢;clear g B hG c1 c2 c3;go_wp2
 go_loopw [23] (fun vi wr=>∃(k:Nat) (f:List Int),k<=n /\ vi=kW lD k /\ f.length=n+m /\ yd f /\
  (val f=val ((zA x).take k)*(y:Int)) /\ (∀t,k+m<=t -> lm f t=0) /\ Blk wr G f /\ Below G M wr) (fun vi _=>n-(intOf vi).toNat)
 case atStart=>exact⟨0,_,ep _,rfl,by simp,mv _,by simp[Hid,val,qC],fun t _=>ot _ t,D,eB _ _⟩
 case round=>
  obtain⟨k,f,hk,rfl,T,q,u,C,h,L⟩:=hrel;have q2:=(Y2.iP L (by omega)).cell 0 _ rfl;have HB:=z.trans (L.mono (by omega));have ah:=h.lt;by_cases ab:k<n
  ·obtain⟨P,V,rfl,R⟩:=hr.head (by omega);have d1:=qs HB (hr.cell P V rfl k (by omega)) R;obtain⟨af,ag⟩:=JA (qA x) k;go_wp2
   go_loopw [8,31] (fun vc vj wq=>∃(j:Nat) (c:Int) (o:List Int),j<=m /\ vj=kW lD j /\ vc=kW lD c /\ 0<=c /\ c<10000 /\ o.length=n+m /\ yd o /\
    (val o+10000^(k+j)*c=val ((zA x).take k)*(y:Int)+10000^k*(lm (zA x) k*val ((zA y).take j))) /\ (∀t,k+m<=t -> lm o t=0) /\ Blk wq G o /\ Below G M wq) (fun _ vj _=>m-(intOf vj).toNat)
   case atStart=>exact⟨0,0,f,ep _,rfl,rfl,by omega,by omega,T,q,by simp[Hid,val,u],C,h,L⟩
   case round=>
    obtain⟨j,c,o,hj,rfl,rfl,F,H,r,b,i,d,a,l⟩:=hrel;have N:=z.trans (l.mono (by omega));have aa:=a.lt;by_cases ac:j<m
    ·obtain⟨Q,W,rfl,S⟩:=hs.head (by omega);have d2:=qs N (hs.cell Q W rfl j (by omega)) S;have g1:=a.cell (k+j) (by omega);have g2:=a.frozen (k+j);obtain⟨p1,p2,p3,p4⟩:=Ai (lm o (k+j)) (lm (zA x) k) (lm (zA y) j) c (JA b _) (JA (qA x) _) (JA (qA y) _) ⟨F,H⟩;obtain⟨ad,ae⟩:=JA b (k+j);clear d1 q2;go_wp2
     go_roundw
     (case rel=>exact⟨j+1,_,_,by omega,by go_num,rfl,by omega,by omega,by simpa using r,lO b (k+j) _ (by omega) (by omega),tL o (zA y) k j (lm (zA x) k) c _ _ (by omega) rfl i,fun t ht=>(mL o (k+j) t _ (by omega)).trans (d t ht),a.set (k+j) _,l.setCell lR _⟩);case measure=>simp[intOf];omega
    ·(obtain rfl:j=m:=by omega);have q3:=(Y2.iP l (by omega)).cell 0 _ rfl;have g1:=a.cell (k+j) (by omega);have g2:=a.frozen (k+j);(have K:val ((zA y).take j)=(y:Int):=by rw[ew (by omega),JG]);have hE:=IQ o (zA x) k j y c (by omega) (d _ lR) (by rw[i,K]);clear K d1 q2;go_wp2
     go_roundw
     (case rel=>exact⟨k+1,_,by omega,by go_num,by simpa using r,lO b (k+j) c F H,hE,fun t ht=>(mL o (k+j) t _ (by omega)).trans (d t (by omega)),a.set (k+j) _,l.setCell lR _⟩);case measure=>simp[intOf];omega
  ·(obtain rfl:k=n:=by omega);(have I:(val f).toNat=x*y:=by rw[u,ew (by omega),JG];(have:(x:Int)*(y:Int)=((x*y:Nat):Int):=by simp);omega);have s:=Blk.row0 h (k+m) (k+m) (by omega) lR (by unfold maxLen;omega);go_wp2_with fail;refine(pt s q (by omega)).mono ?_;rintro e w4 ⟨j,hj,J,rfl,A⟩;have E:=L.trans (A.mono (by omega));have Z:=Y3.iP E (by omega);obtain⟨_,z1,z2⟩:=Z.w1 rfl;have O:=oL s hj J I A;clear A J;go_wp2;refine eG (v:=lA #[kX (lJ ⟨G,0,lI⟩) j (k+m)]) (by simp[results,results102,go_sem,z1]) rfl ⟨_,rfl,⟨_,_,_,rfl,O.jx _ _ _ Z (by decide)⟩,?_⟩;exact(z.trans (E.mono (by omega))).setCell (by simp;omega) _
end Go.Proofs.YtigokanoflkinaaGreatDoor
