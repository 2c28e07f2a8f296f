/- RefMid, RefTxt, WExF, NPos, NPV, joined. -/
import Derived.Test.YtigokanoflkinaaGreatDoorZC
set_option maxHeartbeats 8000000
set_option maxRecDepth 20000
namespace Go.Proofs.YtigokanoflkinaaGreatDoor
set_option linter.unusedSimpArgs false
set_option linter.unusedVariables false
open Go.RowKit Por Go.Proofs.Tryz
open Value renaming int->kW,slice->kX,bool->kZ,tuple->lB,string->lC,agg->lA
open IntKind renaming i64->lD
open Obj renaming cells->lE
open Ending renaming returned->lF
open World renaming setCell->lG,cell?->lH
open Option renaming none->lI,some->lJ
open Bool renaming true->lK,false->lL
open Go renaming World->lM,Value->lN
variable{w:lM}{ao:Option Addr}{n cap:Nat}{xs:List Int}
theorem Row.setInt (h:Row w ao n cap xs)(b i:Nat)(v:lN)(hne:∀a,ao=lJ a->a.block≠b):Row (lG w ⟨b,i,lI⟩ v) ao n cap xs:=by
 refine⟨h.len,h.le,h.cm,fun hn=>?_,fun c o e hn=>?_,fun c o e j hj=>?_⟩
 ·obtain⟨c,o,e,f⟩:=h.head hn;exact⟨c,o,e,by simpa[World.setCell]using f⟩
 ·obtain⟨d,g,l⟩:=h.ib c o e hn;exact⟨d,g,(iR w ⟨b,i,lI⟩ c v (fun e2=>hne _ e e2)).trans l⟩
 ·have k:=h.cell c o e j hj;rw[<-k];exact iw (eT w _ v c (hne _ e))
theorem ux (w:lM) (z:Int):Own w.heap.size (w.alloc (lE #[kW lD z] 3)) (kX (lJ ⟨w.heap.size,0,lI⟩) 1 1) [z]:=
  ⟨rfl,.inr ⟨w.heap.size,1,_,rfl,lR,heap_alloc_new w _,lR,by decide,rfl,rfl⟩⟩
theorem AL (A o:List Int)(q r y R Q r2:Nat)(hA:q<A.length)(ho:q<o.length)(hR:(R:Int)=lm A q+10000*r)(h:val (A.drop (q+1))=y*val (o.drop (q+1))+r)(hQ:R=y*Q+r2):val (A.drop q)=y*val ((o.set q Q).drop q)+r2:=by
 rw[pZ A q hA,Bd o q _ ho,val,val,h];(have e:(R:Int)=y*Q+r2:=by exact_mod_cast hQ);rw[e]at hR;generalize val (o.drop (q+1))=V
 grind
theorem Ad (A o:List Int)(q r y R:Nat)(hA:q<A.length)(ho:q<o.length)(hR:(R:Int)=lm A q+10000*r)(h:val (A.drop (q+1))=y*val (o.drop (q+1))+r)(hz:lm o q=0):val (A.drop q)=y*val (o.drop q)+R:=by
 rw[pZ A q hA,pZ o q ho,val,val,h,hz];generalize val (o.drop (q+1))=V
 grind
theorem Hw {x:Int}(h0:0<=x)(h1:x<10000)(h:yd xs):yd (x::xs):=by
 intro z a;rcases jn.1 a with rfl|a
 ·exact⟨h0,h1⟩
 ·exact h z a
variable{bo:Option Addr}{capa m capb x y:Nat}
theorem oj (hr:Row w ao n capa (zA x))(hs:Row w bo m capb (zA y))(hn:n<=10000)(hm:m<=10000)(hy:y≠0):Calls prog 88 #[kX ao n capa,kX bo m capb] w fun e w'=>∃u v,e=lF (lB #[u,v])/\Sli w.heap.size w' u (x/y)/\Sli w.heap.size w' v (x%y)/\Below w.heap.size w w':=by
 have l1:=hr.len;have l2:=hs.len;go_enter func88,ntmps88;go_wp2_with (at_make;refine mm _ rfl _ _ rfl _ _ n rfl rfl (by omega) (by omega) (by omega) ?_);intro w1 aW aR bl;go_wp2
 go_loopw [7,8] (fun vr vi wr=>∃(k r:Nat) (c:List Int) (ro:Option Addr) (rn rc:Nat),k<=n /\ rn<=m /\ vi=kW lD ((k:Int)-1) /\ vr=kX ro rn rc /\ Hid (Row wr ro rn rc (zA r)) /\ Hid (Fr (w.heap.size+1) ro rc) /\ Hid (r<y) /\ c.length=n /\ Hid (yd c) /\ Hid (∀i,i<k -> lm c i=0) /\
  Hid (val ((zA x).drop k)=y*val (c.drop k)+r) /\ Hid (Blk wr w.heap.size c) /\ Hid (Bl w wr)) (fun _ vi _=>(intOf vi+1).toNat)
 case atStart=>exact⟨n,0,_,lI,0,0,lR,ep _,rfl,rfl,Row.nil _,⟨fun _=>rfl,fun a h=>by cases h⟩,by have:=hy;show _<_;omega,by simp,mv _,fun i _=>ot _ i,by show _=_;rw[jP (by omega),jP (by simp)];simp[val],aW,aR⟩
 case round=>
  obtain⟨k,r,c,ro,rn,rc,hk,bk,rfl,rfl,aB,aC,a0,aA,L,hz,ax,ac,hb⟩:=hrel;have aT:=ac.lt;by_cases h0:k=0
  ·subst h0
   have K:Hid ((val c).toNat=x/y/\r=x%y):=by
    have h:=ax.out;rw[jF,jF,JG]at h;have hv:=l4 L;refine tr x y _ r ?_ a0;obtain⟨V,hV⟩:∃V:Nat,val c=V:=⟨(val c).toNat,by omega⟩;rw[hV]at h ⊢;rw[Int.toNat_natCast,jI]
    exact_mod_cast h
   have aD:=Blk.row0 ac n n (by omega) lR (by unfold maxLen;omega);go_wp2_with fail;refine(ny aD L (by omega)).mono ?_;rintro e w4 ⟨j,hj,S,rfl,rfl⟩;have M:=hid (nk aD hj S K.1);clear S;go_wp2;go_ret2;exact⟨_,_,rfl,⟨_,_,_,rfl,M,Fr.kt _ _ _⟩,⟨_,_,_,rfl,by rw[<-K.out.2];exact aB,aC.mono (by omega)⟩,hb⟩
  ·obtain⟨q,rfl⟩:∃q,k=q+1:=⟨k-1,by omega⟩;obtain⟨ba,oa,rfl,bb⟩:=hr.head (by omega);have d1:=qs hb (hr.cell ba oa rfl q (by omega)) bb;obtain⟨a5,a6⟩:=JA (qA x) q;(have bj:(0:Int)<=((q+1:Nat):Int)-1:=by omega);obtain⟨R,hR⟩:∃R:Nat,(R:Int)=lm (zA x) q+10000*r:=⟨(lm (zA x) q+10000*r).toNat,by omega⟩;have aN:=aB.len;(have az:R<10000*y:=by have:=a0.out;show _<_;omega);(have a2:(val (lm (zA x) q::zA r)).toNat=R:=by show _=_;rw[val,JG];omega);have aQ:=Hw a5 a6 (qA r);skip
   cases ro with
   | none=>
    have bf:=aC.1 rfl
    have aZ:rn=0:=by
     rcases Nat.eq_zero_or_pos rn with h|h
     ·exact h
     ·obtain⟨b,o,e,_⟩:=aB.head h;cases e
    subst bf aZ;have aY:=iq.1 aN;obtain⟨po,pc,pe,ap,an⟩:=(ux wr (lm (zA x) q)).row
    cases pe
    (have s:Row (wr.alloc (lE #[kW lD (lm (zA x) q)] 3)) (lJ ⟨wr.heap.size,0,lI⟩) (0+1) 1 (lm (zA x) q::zA r):=by rw[aY];exact ap);clear ap;have Y:Hid (Bl wr (wr.alloc (lE #[kW lD (lm (zA x) q)] 3))):=brf.alloc lR _;clear aY;go_wp2_with (at_builtin;refine CJ _ rfl _ _ rfl wr.heap.size _ [lm (zA x) q] rfl rfl (ux wr _) ?_);generalize wr.alloc (lE #[kW lD (lm (zA x) q)] 3)=w2 at *;have z:=hid s;clear s;have W:=hid (hb.trans (Y.mono (by omega)));have E:=hid (ac.iP Y aT);refine(ny z aQ (by omega)).mono ?_;rintro e w3 ⟨j,hj,S,rfl,rfl⟩;have M:=hid (nk z hj S a2);have aq:=hid (hs.iP W);have a8:=M.len;(have a9:j<=m+1:=by omega);clear S z Y;go_wp2_with fail;refine(nt M aq (by omega) (by omega)).mono ?_;rintro e w4 ⟨rfl,A⟩;have X:=hid (et W A);have f:=hid (E.iP A E.lt);have Z:=hid (M.iP A);have T:=hid (aq.iP A);obtain⟨c0,c1⟩:=qk (R:Int) (y:Int);(have I:R<y->zQ (R:Int) (y:Int) = -1:=fun h=>by unfold zQ;rw[ed (by omega)]);(have H:y<=R->0<=zQ (R:Int) (y:Int):=fun h=>by unfold zQ;rw[ec (by omega)];split<;>omega);generalize zQ (R:Int) (y:Int)=C at *;clear A;by_cases l:R<y
    ·have hc:=I l;subst hc;have HV:=hid (Ad (zA x) c q r y R (by omega) (by omega) hR ax (hz q (by omega)));have ah:=hid l;(have al:j<=m:=by have:=@jAH R y (by omega);omega);clear l I H;go_wp2
     go_roundw
     (case rel=>exact⟨q,R,c,(lJ ⟨wr.heap.size,0,lI⟩),j,1,by omega,al,by go_num,rfl,Z,an.mono (by omega),ah,aA,L,fun i hi=>hz i (by omega),HV,f,X⟩);case measure=>simp[intOf]
    ·have hc:=H (by omega);obtain⟨Q,hQ⟩:∃Q:Nat,Q=R/y:=⟨_,rfl⟩;have HQ:=hid hQ;(have a7:Q<10000:=by rw[hQ];exact Nat.div_lt_of_lt_mul (by have:=az;rw[jI];exact this));(have K:Hid (R=y*Q+R%y):=by show _=_;rw[hQ];exact(jQ R y).symm);have HV:=hid (AL (zA x) c q r y R Q (R%y) (by omega) (by omega) hR ax K);(have aM:Hid (y*Q<=R):=by have:=K.out;show _<=_;omega);(have aw:Hid (R-y*Q=R%y):=by have:=K.out;show _=_;omega);have am:Hid (R%y<y):=Nat.mod_lt _ (by have:=hy;omega);have be:(zA Q).length<=1:=lP (by omega);clear l I H hQ;go_wp2_with fail;refine(wd Z T (by omega) (by omega) az Q HQ).mono ?_;rintro e w5 ⟨rfl,B⟩;have ae:=hid (et X B);have F:=hid (f.iP B f.lt);have aG:=hid (Z.iP B);have ar:=hid (T.iP B);clear B;go_wp2_with fail;refine(JN (by omega)).mono ?_;rintro e w6 ⟨v,rfl,⟨co,p,ai,rfl,J,_⟩,D⟩;have aJ:=hid J;have bc:=J.len;have af:=hid (et ae D);have G:=hid (F.iP D F.lt);have aH:=hid (aG.iP D);have au:=hid (ar.iP D);clear D J;go_wp2_with fail;refine(JK au aJ (by omega) (by omega)).mono ?_;rintro e w7 ⟨v,rfl,⟨eo,u,aj,rfl,ab,_⟩,N⟩;have aK:=hid ab;have bi:=ab.len;have a1:=JE y Q;have ag:=hid (et af N);have g:=hid (G.iP N G.lt);have aI:=hid (aH.iP N);clear N ab;go_wp2_with fail;refine(ou aI aK (by omega) (by omega) aM).mono ?_;rintro e w8 ⟨v,rfl,⟨so,t,ak,rfl,O,U⟩,aa⟩;rw[aw.out]at O;have aL:=hid O;have bg:=O.len;have bh:=@jAH (R%y) y (ir am);have aF:=hid (et ag aa);have d:=hid (g.iP aa g.lt);clear aa O;have g1:=d.cell q (by omega);have g2:=d.frozen q;have aV:=d.lt;have aU:=g.lt;(have bd:(q:Int)<(n:Int):=by omega);go_wp2
     go_roundw
     (case rel=>exact⟨q,R%y,_,so,t,ak,by omega,by omega,by go_num,rfl,aL.setInt _ _ _ (fun a e=>by have:=U.2 a e;omega),U.mono (by omega),am,by simpa using aA,lO L q _ (by omega) (by omega),fun i hi=>(mL c q i _ (by omega)).trans (hz i (by omega)),HV,d.set q _,aF.setCell lR _⟩);case measure=>simp[intOf]
   | some ad=>
    have aO:∀j,j<rn->(wr.alloc (lE #[kW lD (lm (zA x) q)] 3)).cell? (ad.add j)=lJ (kW lD (lm (zA r) j)):=by
     intro j hj;have aE:=aB.iP ((eB _ wr).alloc lR (lE #[kW lD (lm (zA x) q)] 3));obtain⟨b,o,e,_⟩:=aE.head (by omega)
     cases e
     have:=aE.cell b o rfl j hj;rcases Nat.eq_zero_or_pos j with h|h
     ·subst h;simpa[Addr.add]using this
     ·simp only[Addr.add,Nat.ne_of_gt h,ig];exact this
    go_wp2_with (at_builtin;refine su _ rfl _ _ rfl wr.heap.size _ [lm (zA x) q] ad rn rc (zA r) rfl rfl (ux wr _) aN aO (by show 1+rn<=_;omega) (by simp) ?_);intro v2 w2 hO aP;have Y:Hid (Bl wr w2):=((eB _ wr).alloc lR _).trans aP;clear aP aO;(have aS:(lm (zA x) q::zA r).length=rn+1:=by rw[List.length_cons,aN]);obtain⟨po,pc,aX,s,an⟩:=hO.row;rw[aS]at aX s;subst aX;clear aS hO;go_wp2_with fail;have z:=hid s;clear s;have W:=hid (hb.trans (Y.mono (by omega)));have E:=hid (ac.iP Y aT);refine(ny z aQ (by omega)).mono ?_;rintro e w3 ⟨j,hj,S,rfl,rfl⟩;have M:=hid (nk z hj S a2);have aq:=hid (hs.iP W);have a8:=M.len;(have a9:j<=m+1:=by omega);clear S z Y;go_wp2_with fail;refine(nt M aq (by omega) (by omega)).mono ?_;rintro e w4 ⟨rfl,A⟩;have X:=hid (et W A);have f:=hid (E.iP A E.lt);have Z:=hid (M.iP A);have T:=hid (aq.iP A);obtain⟨c0,c1⟩:=qk (R:Int) (y:Int);(have I:R<y->zQ (R:Int) (y:Int) = -1:=fun h=>by unfold zQ;rw[ed (by omega)]);(have H:y<=R->0<=zQ (R:Int) (y:Int):=fun h=>by unfold zQ;rw[ec (by omega)];split<;>omega);generalize zQ (R:Int) (y:Int)=C at *;clear A;by_cases l:R<y
    ·have hc:=I l;subst hc;have HV:=hid (Ad (zA x) c q r y R (by omega) (by omega) hR ax (hz q (by omega)));have ah:=hid l;(have al:j<=m:=by have:=@jAH R y (by omega);omega);clear l I H;go_wp2
     go_roundw
     (case rel=>exact⟨q,R,c,po,j,pc,by omega,al,by go_num,rfl,Z,an.mono (by omega),ah,aA,L,fun i hi=>hz i (by omega),HV,f,X⟩);case measure=>simp[intOf]
    ·have hc:=H (by omega);obtain⟨Q,hQ⟩:∃Q:Nat,Q=R/y:=⟨_,rfl⟩;have HQ:=hid hQ;(have a7:Q<10000:=by rw[hQ];exact Nat.div_lt_of_lt_mul (by have:=az;rw[jI];exact this));(have K:Hid (R=y*Q+R%y):=by show _=_;rw[hQ];exact(jQ R y).symm);have HV:=hid (AL (zA x) c q r y R Q (R%y) (by omega) (by omega) hR ax K);(have aM:Hid (y*Q<=R):=by have:=K.out;show _<=_;omega);(have aw:Hid (R-y*Q=R%y):=by have:=K.out;show _=_;omega);have am:Hid (R%y<y):=Nat.mod_lt _ (by have:=hy;omega);have be:(zA Q).length<=1:=lP (by omega);clear l I H hQ;go_wp2_with fail;refine(wd Z T (by omega) (by omega) az Q HQ).mono ?_;rintro e w5 ⟨rfl,B⟩;have ae:=hid (et X B);have F:=hid (f.iP B f.lt);have aG:=hid (Z.iP B);have ar:=hid (T.iP B);clear B;go_wp2_with fail;refine(JN (by omega)).mono ?_;rintro e w6 ⟨v,rfl,⟨co,p,ai,rfl,J,_⟩,D⟩;have aJ:=hid J;have bc:=J.len;have af:=hid (et ae D);have G:=hid (F.iP D F.lt);have aH:=hid (aG.iP D);have au:=hid (ar.iP D);clear D J;go_wp2_with fail;refine(JK au aJ (by omega) (by omega)).mono ?_;rintro e w7 ⟨v,rfl,⟨eo,u,aj,rfl,ab,_⟩,N⟩;have aK:=hid ab;have bi:=ab.len;have a1:=JE y Q;have ag:=hid (et af N);have g:=hid (G.iP N G.lt);have aI:=hid (aH.iP N);clear N ab;go_wp2_with fail;refine(ou aI aK (by omega) (by omega) aM).mono ?_;rintro e w8 ⟨v,rfl,⟨so,t,ak,rfl,O,U⟩,aa⟩;rw[aw.out]at O;have aL:=hid O;have bg:=O.len;have bh:=@jAH (R%y) y (ir am);have aF:=hid (et ag aa);have d:=hid (g.iP aa g.lt);clear aa O;have g1:=d.cell q (by omega);have g2:=d.frozen q;have aV:=d.lt;have aU:=g.lt;(have bd:(q:Int)<(n:Int):=by omega);go_wp2
     go_roundw
     (case rel=>exact⟨q,R%y,_,so,t,ak,by omega,by omega,by go_num,rfl,aL.setInt _ _ _ (fun a e=>by have:=U.2 a e;omega),U.mono (by omega),am,by simpa using aA,lO L q _ (by omega) (by omega),fun i hi=>(mL c q i _ (by omega)).trans (hz i (by omega)),HV,d.set q _,aF.setCell lR _⟩);case measure=>simp[intOf]
theorem pk (h:evB x=lK):x%2=0:=by unfold evB at h;simpa using h
theorem oW (h:evB x=lL):x%2=1:=by unfold evB at h;simp at h;omega
theorem Ha (a b t G:Nat)(ha:a%2=0)(hb:b%2=0)(h:Nat.gcd a b*t=G):Nat.gcd (a/2) (b/2)*(t+t)=G:=by
 (have c:a=2*(a/2):=by omega);(have d:b=2*(b/2):=by omega);rw[c,d,Nat.gcd_mul_left]at h;rw[<-h,Nat.mul_assoc,jI 2,Nat.mul_assoc,Nat.mul_two]
theorem rR (a b:Nat)(ha:a%2=0)(hb:b%2=1):Nat.gcd (a/2) b=Nat.gcd a b:=by
 (have c:a=2*(a/2):=by omega);have d:Nat.Coprime 2 b:=by unfold Nat.Coprime;rw[Nat.gcd_rec,hb];rfl
 conv=>rhs;rw[c]
 exact(Nat.Coprime.gcd_mul_left_cancel (a/2) d).symm
theorem Jo (a b t G:Nat)(hb:b≠0)(h:Nat.gcd a b*t=G):t<=G:=by
 have:0<Nat.gcd a b:=jj a (by omega);rw[<-h];exact Nat.le_mul_of_pos_left t this
theorem qw (hr:Row w ao n capa (zA x))(hs:Row w bo m capb (zA y))(hn:n<=10000)(hm:m<=10000)(hx:x≠0)(hy:y≠0):Calls prog 87 #[kX ao n capa,kX bo m capb] w fun e w'=>∃ v,e = lF v/\Sli w.heap.size w' v (Nat.gcd x y)/\Below w.heap.size w w':=by
 have l1:=hr.len;have l2:=hs.len;obtain⟨G,hG⟩:∃G,G=Nat.gcd x y:=⟨_,rfl⟩;(have bA:G<=x:=by rw[hG];exact Nat.gcd_le_left y (by omega));rw[<-hG];have HG:=hG.symm;go_enter func87,ntmps87;go_wp2_with fail;refine(JN (x:=1) (by omega)).mono ?_;rintro e0 w0 ⟨v0,rfl,bs,z⟩;have bv:=hr.iP z;have bu:=hs.iP z;have bt:=z;go_wp2
 go_loopg[0,1,5] x (fun g va vb vt wr=>∃(ao bo tO:Option Addr) (n capa m capb p o a b t:Nat),g=a/\(a≠0)/\(b≠0)/\(a<=x)/\(b<=y)/\va=kX ao n capa/\vb=kX bo m capb/\vt=kX tO p o/\(Nat.gcd a b*t=G)/\Row wr ao n capa (zA a)/\Row wr bo m capb (zA b)/\Row wr tO p o (zA t)/\Bl w wr)
 case atStart=>obtain⟨tO,p,o,rfl,bD,_⟩:=bs;exact⟨ao,bo,tO,n,capa,m,capb,p,o,x,y,1,rfl,hx,hy,lR,lR,rfl,rfl,rfl,by show _=_;rw[ic];exact HG,bv,bu,bD,bt⟩
 case round=>
  obtain⟨ao,bo,tO,n,capa,m,capb,p,o,a,b,t,T,az,z,B,D,rfl,rfl,rfl,j,r,q,E,hB⟩:=hrel;have L:=r.len;have U:=q.len;have b3:=E.len;have aE:=@jAH a x B;have aD:=@jAH b y D;have b4:=@jAH t x (eh (Jo a b t G z j) bA);have N:=T
  cases c:evB a with
  | false=>
   have f:=c;(have k:¬ (a%2=0/\b%2=0):=by have:=oW c;show¬ _;omega);go_wp2_with fail;refine(my r (by omega)).mono ?_;rintro e1 w1 ⟨rfl,rfl⟩;rw[f];go_wp2
   go_loopg[0,1] (a+b) (fun g va vb wr=>∃(ao bo:Option Addr) (n capa m capb a b:Nat),g=a+b/\(b≠0)/\(a<=x)/\(b<=y)/\va=kX ao n capa/\vb=kX bo m capb/\(Nat.gcd a b*t=G)/\¬ (a%2=0/\b%2=0)/\Row wr ao n capa (zA a)/\Row wr bo m capb (zA b)/\Row wr tO p o (zA t)/\Bl w wr)
   case atStart=>exact⟨ao,bo,n,capa,m,capb,a,b,rfl,z,B,D,rfl,rfl,j,k,r,q,E,hB⟩
   case round=>
    obtain⟨ao,bo,n,capa,m,capb,a,b,T,z,B,D,rfl,rfl,j,k,r,q,E,hB⟩:=hrel;have L:=r.len;have U:=q.len;have aE:=@jAH a x B;have aD:=@jAH b y D;have N:=T;by_cases hz:a=0
    ·(have a9:n=0:=by rw[<-L,hz];rfl);(have HE:b*t=G:=by have:=j;rw[hz,Nat.gcd_zero_left]at this;exact this);subst a9;go_wp2_with fail;refine(JK q E (by omega) (by omega)).mono ?_;rintro e1 w1 ⟨v,rfl,ab,bm⟩;have bc:=et hB bm;rw[HE]at ab;have aQ:=ab;go_wp2;go_ret;obtain⟨ro,rn,rc,rfl,bb,a8⟩:=aQ;exact⟨_,rfl,⟨ro,rn,rc,rfl,bb,a8.mono hB.size⟩,bc⟩
    ·(have ba:(0:Int)<(n:Int):=by have h1:=ml hz;have h2:=iK.2 h1;omega);(have ay:0<n:=by omega);have HZ:=hz;go_wp2
     go_loopg[0] a (fun g va wr=>∃(ao:Option Addr) (n capa d:Nat),g=d/\(d≠0)/\(d<=a)/\va=kX ao n capa/\(Nat.gcd d b*t=G)/\¬ (d%2=0/\b%2=0)/\Row wr ao n capa (zA d)/\Row wr bo m capb (zA b)/\Row wr tO p o (zA t)/\Bl w wr)
     case atStart=>exact⟨ao,n,capa,a,rfl,HZ,lR,rfl,j,k,r,q,E,hB⟩
     case round=>
      obtain⟨ao,n,capa,d,aw,P,F,rfl,j,k,r,q,E,hB⟩:=hrel;have L:=r.len;have bC:=@jAH d a F;have aO:=aw
      cases c:evB d with
      | true=>
       have A:=pk c;have f:=c;go_wp2_with fail;refine(my r (by omega)).mono ?_;rintro e2 w2 ⟨rfl,rfl⟩;rw[f];go_wp2_with fail;refine(oX r (by omega)).mono ?_;rintro e3 w3 ⟨v,rfl,⟨X,W,V,rfl,l,_⟩,aA⟩;have bi:=q.iP aA;have bj:=E.iP aA;have bd:=et hB aA;have u:=l;go_wp2;go_roundg (d/2);case measure=>rw[aO];have:=P;omega
       case rel=>
        refine⟨X,W,V,d/2,rfl,?_,?_,rfl,?_,?_,u,bi,bj,bd⟩
        ·have:=P;have:=A;show _≠_;omega
        ·have:=F;show _<=_;omega
        ·show _=_;rw[rR d b A (by have:=k;have:=A;omega)];exact j
        ·have h1:=k;have h2:=A;show¬ _;omega
      | false=>
       have Q:=oW c;have f:=c;go_wp2_with fail;refine(my r (by omega)).mono ?_;rintro e4 w4 ⟨rfl,rfl⟩;rw[f];go_wp2
       go_loopg[1] b (fun g vb wr=>∃(bo:Option Addr) (m capb i:Nat),g=i/\(i≠0)/\(i<=b)/\vb=kX bo m capb/\(Nat.gcd d i*t=G)/\Row wr ao n capa (zA d)/\Row wr bo m capb (zA i)/\Row wr tO p o (zA t)/\Bl w wr)
       case atStart=>exact⟨bo,m,capb,b,rfl,z,lR,rfl,j,r,q,E,hB⟩
       case round=>
        obtain⟨bo,m,capb,i,ax,s,H,rfl,j,r,q,E,hB⟩:=hrel;have U:=q.len;have bB:=@jAH i b H;have aP:=ax
        cases c:evB i with
        | true=>
         have S:=pk c;have f:=c;go_wp2_with fail;refine(my q (by omega)).mono ?_;rintro e5 w5 ⟨rfl,rfl⟩;rw[f];go_wp2_with fail;refine(oX q (by omega)).mono ?_;rintro e6 w6 ⟨v,rfl,⟨X,W,V,rfl,l,_⟩,aB⟩;have bg:=r.iP aB;have bk:=E.iP aB;have be:=et hB aB;have u:=l;go_wp2;go_roundg (i/2);case measure=>rw[aP];have:=s;omega
         case rel=>
          refine⟨X,W,V,i/2,rfl,?_,?_,rfl,?_,bg,u,bk,be⟩
          ·have:=s;have:=S;show _≠_;omega
          ·have:=H;show _<=_;omega
          ·show _=_;rw[jJ,rR i d S Q,jJ];exact j
        | false=>
         have ar:=oW c;have f:=c;go_wp2_with fail;refine(my q (by omega)).mono ?_;rintro e7 w7 ⟨rfl,rfl⟩;rw[f];go_wp2_with fail;refine(nt r q (by omega) (by omega)).mono ?_;rintro e8 w8 ⟨rfl,au⟩;have am:=r.iP au;have an:=q.iP au;have aF:=E.iP au;have ac:=et hB au;obtain⟨c0,c1⟩:=qk (d:Int) (i:Int);(have K:d<i->zQ (d:Int) (i:Int) = -1:=fun h=>by unfold zQ;rw[ed (by omega)]);(have I:i<=d->0<=zQ (d:Int) (i:Int):=fun h=>by unfold zQ;rw[ec (by omega)];split<;>omega);generalize zQ (d:Int) (i:Int)=C at *;by_cases J:d<i
         ·have hc:=K J;subst hc;have O:=J;go_wp2_with fail;refine(ou an am (by omega) (by omega) (ir O)).mono ?_;rintro e9 w9 ⟨v,rfl,⟨X,W,V,rfl,l,_⟩,aC⟩;have bh:=am.iP aC;have bl:=aF.iP aC;have bf:=et ac aC;have u:=l;go_wp2;go_roundg (d+(i-d));case measure=>rw[N];have:=O;have:=HZ;have:=H;omega
          case rel=>
           refine⟨ao,X,n,capa,W,V,d,i-d,rfl,?_,?_,?_,rfl,rfl,?_,?_,bh,u,bl,bf⟩
           ·have:=O;show _≠_;omega
           ·exact eh F B
           ·have h1:=H;have h2:=D;show _<=_;omega
           ·show _=_;rw[Nat.gcd_sub_self_right (ir O)];exact j
           ·have:=Q;show¬ _;omega
         ·have hc:=I (by omega);have Y:=Nat.le_of_not_lt J;go_wp2_with fail;refine(ou am an (by omega) (by omega) Y).mono ?_;rintro bO bE ⟨v,rfl,⟨X,W,V,rfl,l,_⟩,ad⟩;have aT:=an.iP ad;have a0:=aF.iP ad;have aH:=et ac ad;have u:=l;go_wp2;go_roundg ((d-i)+i);case measure=>rw[N];have:=Y;have:=z;have:=F;omega
          case rel=>
           refine⟨X,bo,W,V,m,capb,d-i,i,rfl,s,?_,?_,rfl,rfl,?_,?_,u,aT,a0,aH⟩
           ·have h1:=F;have h2:=B;show _<=_;omega
           ·exact eh H D
           ·show _=_;rw[jJ,Nat.gcd_sub_self_right Y,jJ];exact j
           ·have:=ar;show¬ _;omega
  | true=>
   have f:=c;have a7:=pk c;go_wp2_with fail;refine(my r (by omega)).mono ?_;rintro e1 w1 ⟨rfl,rfl⟩;rw[f]
   cases c:evB b with
   | false=>
    have f:=c;(have k:¬ (a%2=0/\b%2=0):=by have:=oW c;show¬ _;omega);go_wp2_with fail;refine(my q (by omega)).mono ?_;rintro e1 w1 ⟨rfl,rfl⟩;rw[f];go_wp2
    go_loopg[0,1] (a+b) (fun g va vb wr=>∃(ao bo:Option Addr) (n capa m capb a b:Nat),g=a+b/\(b≠0)/\(a<=x)/\(b<=y)/\va=kX ao n capa/\vb=kX bo m capb/\(Nat.gcd a b*t=G)/\¬ (a%2=0/\b%2=0)/\Row wr ao n capa (zA a)/\Row wr bo m capb (zA b)/\Row wr tO p o (zA t)/\Bl w wr)
    case atStart=>exact⟨ao,bo,n,capa,m,capb,a,b,rfl,z,B,D,rfl,rfl,j,k,r,q,E,hB⟩
    case round=>
     obtain⟨ao,bo,n,capa,m,capb,a,b,T,z,B,D,rfl,rfl,j,k,r,q,E,hB⟩:=hrel;have L:=r.len;have U:=q.len;have aE:=@jAH a x B;have aD:=@jAH b y D;have N:=T;by_cases hz:a=0
     ·(have a9:n=0:=by rw[<-L,hz];rfl);(have HE:b*t=G:=by have:=j;rw[hz,Nat.gcd_zero_left]at this;exact this);subst a9;go_wp2_with fail;refine(JK q E (by omega) (by omega)).mono ?_;rintro bP bF ⟨v,rfl,ab,aG⟩;have aI:=et hB aG;rw[HE]at ab;have aQ:=ab;go_wp2;go_ret;obtain⟨ro,rn,rc,rfl,bb,a8⟩:=aQ;exact⟨_,rfl,⟨ro,rn,rc,rfl,bb,a8.mono hB.size⟩,aI⟩
     ·(have ba:(0:Int)<(n:Int):=by have h1:=ml hz;have h2:=iK.2 h1;omega);(have ay:0<n:=by omega);have HZ:=hz;go_wp2
      go_loopg[0] a (fun g va wr=>∃(ao:Option Addr) (n capa d:Nat),g=d/\(d≠0)/\(d<=a)/\va=kX ao n capa/\(Nat.gcd d b*t=G)/\¬ (d%2=0/\b%2=0)/\Row wr ao n capa (zA d)/\Row wr bo m capb (zA b)/\Row wr tO p o (zA t)/\Bl w wr)
      case atStart=>exact⟨ao,n,capa,a,rfl,HZ,lR,rfl,j,k,r,q,E,hB⟩
      case round=>
       obtain⟨ao,n,capa,d,aw,P,F,rfl,j,k,r,q,E,hB⟩:=hrel;have L:=r.len;have bC:=@jAH d a F;have aO:=aw
       cases c:evB d with
       | true=>
        have A:=pk c;have f:=c;go_wp2_with fail;refine(my r (by omega)).mono ?_;rintro bQ b5 ⟨rfl,rfl⟩;rw[f];go_wp2_with fail;refine(oX r (by omega)).mono ?_;rintro bR bG ⟨v,rfl,⟨X,W,V,rfl,l,_⟩,ae⟩;have aU:=q.iP ae;have a1:=E.iP ae;have aJ:=et hB ae;have u:=l;go_wp2;go_roundg (d/2);case measure=>rw[aO];have:=P;omega
        case rel=>
         refine⟨X,W,V,d/2,rfl,?_,?_,rfl,?_,?_,u,aU,a1,aJ⟩
         ·have:=P;have:=A;show _≠_;omega
         ·have:=F;show _<=_;omega
         ·show _=_;rw[rR d b A (by have:=k;have:=A;omega)];exact j
         ·have h1:=k;have h2:=A;show¬ _;omega
       | false=>
        have Q:=oW c;have f:=c;go_wp2_with fail;refine(my r (by omega)).mono ?_;rintro bS b6 ⟨rfl,rfl⟩;rw[f];go_wp2
        go_loopg[1] b (fun g vb wr=>∃(bo:Option Addr) (m capb i:Nat),g=i/\(i≠0)/\(i<=b)/\vb=kX bo m capb/\(Nat.gcd d i*t=G)/\Row wr ao n capa (zA d)/\Row wr bo m capb (zA i)/\Row wr tO p o (zA t)/\Bl w wr)
        case atStart=>exact⟨bo,m,capb,b,rfl,z,lR,rfl,j,r,q,E,hB⟩
        case round=>
         obtain⟨bo,m,capb,i,ax,s,H,rfl,j,r,q,E,hB⟩:=hrel;have U:=q.len;have bB:=@jAH i b H;have aP:=ax
         cases c:evB i with
         | true=>
          have S:=pk c;have f:=c;go_wp2_with fail;refine(my q (by omega)).mono ?_;rintro bT b7 ⟨rfl,rfl⟩;rw[f];go_wp2_with fail;refine(oX q (by omega)).mono ?_;rintro bU bH ⟨v,rfl,⟨X,W,V,rfl,l,_⟩,af⟩;have aR:=r.iP af;have a3:=E.iP af;have aK:=et hB af;have u:=l;go_wp2;go_roundg (i/2);case measure=>rw[aP];have:=s;omega
          case rel=>
           refine⟨X,W,V,i/2,rfl,?_,?_,rfl,?_,aR,u,a3,aK⟩
           ·have:=s;have:=S;show _≠_;omega
           ·have:=H;show _<=_;omega
           ·show _=_;rw[jJ,rR i d S Q,jJ];exact j
         | false=>
          have ar:=oW c;have f:=c;go_wp2_with fail;refine(my q (by omega)).mono ?_;rintro bV b8 ⟨rfl,rfl⟩;rw[f];go_wp2_with fail;refine(nt r q (by omega) (by omega)).mono ?_;rintro bW bI ⟨rfl,R⟩;have Z:=r.iP R;have aa:=q.iP R;have ap:=E.iP R;have M:=et hB R;obtain⟨c0,c1⟩:=qk (d:Int) (i:Int);(have K:d<i->zQ (d:Int) (i:Int) = -1:=fun h=>by unfold zQ;rw[ed (by omega)]);(have I:i<=d->0<=zQ (d:Int) (i:Int):=fun h=>by unfold zQ;rw[ec (by omega)];split<;>omega);generalize zQ (d:Int) (i:Int)=C at *;by_cases J:d<i
          ·have hc:=K J;subst hc;have O:=J;go_wp2_with fail;refine(ou aa Z (by omega) (by omega) (ir O)).mono ?_;rintro bX bJ ⟨v,rfl,⟨X,W,V,rfl,l,_⟩,ag⟩;have aS:=Z.iP ag;have a4:=ap.iP ag;have aL:=et M ag;have u:=l;go_wp2;go_roundg (d+(i-d));case measure=>rw[N];have:=O;have:=HZ;have:=H;omega
           case rel=>
            refine⟨ao,X,n,capa,W,V,d,i-d,rfl,?_,?_,?_,rfl,rfl,?_,?_,aS,u,a4,aL⟩
            ·have:=O;show _≠_;omega
            ·exact eh F B
            ·have h1:=H;have h2:=D;show _<=_;omega
            ·show _=_;rw[Nat.gcd_sub_self_right (ir O)];exact j
            ·have:=Q;show¬ _;omega
          ·have hc:=I (by omega);have Y:=Nat.le_of_not_lt J;go_wp2_with fail;refine(ou Z aa (by omega) (by omega) Y).mono ?_;rintro bY bK ⟨v,rfl,⟨X,W,V,rfl,l,_⟩,s⟩;have aV:=aa.iP s;have a5:=ap.iP s;have aM:=et M s;clear s;have u:=l;go_wp2;go_roundg ((d-i)+i);case measure=>rw[N];have:=Y;have:=z;have:=F;omega
           case rel=>
            refine⟨X,bo,W,V,m,capb,d-i,i,rfl,s,?_,?_,rfl,rfl,?_,?_,u,aV,a5,aM⟩
            ·have h1:=F;have h2:=B;show _<=_;omega
            ·exact eh H D
            ·show _=_;rw[jJ,Nat.gcd_sub_self_right Y,jJ];exact j
            ·have:=ar;show¬ _;omega
   | true=>
    have f:=c;have bp:=pk c;go_wp2_with fail;refine(my q (by omega)).mono ?_;rintro e1 w1 ⟨rfl,rfl⟩;rw[f];go_wp2_with fail;refine(oX r (by omega)).mono ?_;rintro bZ bL ⟨v,rfl,⟨X,W,V,rfl,l,_⟩,ah⟩;have aW:=q.iP ah;have a6:=E.iP ah;have ak:=et hB ah;have u:=l;go_wp2_with fail;refine(oX aW (by omega)).mono ?_;rintro b0 bM ⟨v,rfl,⟨so,sn,sc,rfl,bq,_⟩,ai⟩;have aX:=u.iP ai;have aq:=a6.iP ai;have al:=et ak ai;go_wp2_with fail;refine(Ah aq aq (by omega) (by omega)).mono ?_;rintro b1 bN ⟨v,rfl,⟨uo,un,uc,rfl,br,_⟩,aj⟩;have aY:=aX.iP aj;have aZ:=bq.iP aj;have aN:=et al aj;go_wp2;go_roundg (a/2);case measure=>rw[N];have:=az;omega
    case rel=>
     refine⟨X,so,uo,W,V,sn,sc,un,uc,a/2,b/2,t+t,rfl,?_,?_,?_,?_,rfl,rfl,rfl,Ha a b t G a7 bp j,aY,aZ,br,aN⟩
     ·have:=az;have:=a7;show _≠_;omega
     ·have:=z;have:=bp;show _≠_;omega
     ·have:=B;show _<=_;omega
     ·have:=D;show _<=_;omega
variable{s:ByteArray}
theorem sq (hs:s.size<=100000):Calls prog 219 #[lC s] w fun e w'=>e=lF (kW lD (zO s.data.toList:Nat))/\w'=w:=by
 (have f:s.data.toList.length=s.size:=by simp);go_enter func219,ntmps219;go_wp2
 go_loop[3] (fun i=>∃k:Nat,k<=s.size/\i=kW lD k/\Hid ((s.data.toList.take k).all (fun c=>c != 47)=lK)) (fun i=>s.size-(intOf i).toNat)
 case atStart=>exact⟨0,ep _,rfl,rfl⟩
 case round=>
  obtain⟨k,l,rfl,b⟩:=hrel;by_cases d:k<s.size
  ·have h:=hid (ox s k d);by_cases a:s[k].toNat=47
   ·have j:((s[k].toNat:Int) == 47)=lK:=by rw[jo];omega
    have E:Hid (zO s.data.toList=k):=qF (by omega) b (.inr (by
     rw[en (by omega)]
     congr 1
     apply UInt8.toNat_inj.1
     exact a))
    go_wp2;go_ret;exact⟨by rw[E.out];rfl,rfl⟩
   ·(have j:((s[k].toNat:Int) == 47)=lL:=by rw[eg];omega);(have g:(s.data.toList.take (k+1)).all (fun c=>c != 47)=lK:=by show _=_;rw[h.out,List.all_append,b.out];(have:(s[k] != 47)=lK:=by rw[bne_iff_ne];intro e;apply a;rw[e];rfl);simp[this]);go_wp2;exact⟨⟨k+1,by omega,by go_num,g⟩,by simp[intOf];omega⟩
  ·(obtain rfl:k=s.size:=by omega);have E:=hid (qF (by omega) b (.inl f.symm));go_wp2;go_ret;exact⟨by rw[E.out];rfl,rfl⟩
theorem oJ (hs:s.size<=100000):Calls prog 220 #[lC s] w fun e w'=>e=lF (kZ (zY s.data.toList))/\w'=w:=by
 go_enter func220,ntmps220;go_wp2
 go_loop[3] (fun i=>∃k:Nat,k<=s.size/\i=kW lD k/\Hid ((s.data.toList.take k).all yf=lK)) (fun i=>s.size-(intOf i).toNat)
 case atStart=>exact⟨0,ep _,rfl,rfl⟩
 case round=>
  obtain⟨k,D,rfl,t⟩:=hrel;by_cases m:k<s.size
  ·have o:=ox s k m;have v:=hid o;clear o
   have a:¬ (48<=s[k].toNat/\s[k].toNat<=57)->Hid (zY s.data.toList=lL):=by
    intro A;show _=_
    cases C:zY s.data.toList with
    |false=>rfl
    | true=>
     exfalso;have b:=((mE _).1 C).2.1
     have p:=ie.1 b s[k] (by
      have:=ij (l:=s.data.toList) (n:=k) (by simpa using m)
      exact this)
     exact A ((l5 _).1 p)
   rcases Nat.lt_or_ge s[k].toNat 48 with d|d
   ·have E:=a (by omega);(have z:decide ((s[k].toNat:Int)<48)=lK:=by simp;omega);clear a;go_wp2;go_ret;exact⟨by rw[E.out];rfl,rfl⟩
   ·(have z:decide ((s[k].toNat:Int)<48)=lL:=by simp;omega);rcases Nat.lt_or_ge 57 s[k].toNat with j|j
    ·have E:=a (by omega);(have hB:decide (57<(s[k].toNat:Int))=lK:=by simp;omega);clear a;go_wp2;go_ret;exact⟨by rw[E.out];rfl,rfl⟩
    ·(have hB:decide (57<(s[k].toNat:Int))=lL:=by simp;omega);(have u:Hid ((s.data.toList.take (k+1)).all yf=lK):=by show _=_;rw[v.out,List.all_append,t.out];simp[yf,d,j]);clear a;go_wp2;exact⟨⟨k+1,by omega,by go_num,u.out⟩,by simp[intOf];omega⟩
  ·obtain rfl:k=s.size:=by omega
   have g:Hid (s.data.toList.all yf=lK):=by
    have:=t.out
    rwa[ew (by simp)]at this
   by_cases x:s.size=0
   ·(have E:Hid (zY s.data.toList=lL):=by have:s.data.toList=[]:=iY (by simpa using x);show _=_;rw[this];rfl);(have q:decide ((0:Int)<(s.size:Int))=lL:=by rw[eL];omega);go_wp2;go_ret;exact⟨by rw[E.out];rfl,rfl⟩
   ·(have B:0<s.size:=by omega);(have q:decide ((0:Int)<(s.size:Int))=lK:=by rw[iG];omega);have r:s.data.toList.head? = lJ s[0]:=by rw[List.head?_eq_getElem?,en (by simpa using B)];rfl
    have E:Hid (zY s.data.toList=((s[0].toNat:Int) != 48||(s.size:Int) == 1)):=by
     show _=_;rw[jz,mE,r];(have p:s.data.toList.length=s.size:=by simp);have b:s.data.toList≠[]:=by intro d;rw[d,List.length_nil]at p;omega
     have y:(lJ s[0]≠lJ (48:UInt8))↔(s[0].toNat:Int)≠48:=by
      constructor
      ·intro h d;apply h;congr 1;apply UInt8.toNat_inj.1;have e:(48:UInt8).toNat=48:=rfl;omega
      ·intro h d;apply h;have:=iE d;rw[this];rfl
     rw[p,y];simp only[g.out,b,ne_eq,not_false_eq_true,true_and,Bool.or_eq_true,jo,bne_iff_ne];omega
    by_cases b:(s[0].toNat:Int)=48
    ·(have c:((s[0].toNat:Int) != 48)=lL:=by simpa using b);(have f:((s[0].toNat:Int) == 48)=lK:=by simpa using b);clear b r;go_wp2;go_ret;exact⟨by rw[E.out,c];rfl,rfl⟩
    ·(have c:((s[0].toNat:Int) != 48)=lK:=by simpa using b);(have f:((s[0].toNat:Int) == 48)=lL:=by simpa using b);clear b r;go_wp2;go_ret;exact⟨by rw[E.out,c];rfl,rfl⟩
structure Heard (l:List UInt8)(o:List Int)(c:Nat):Prop where
  lim:yd o
  zero:∀j,j<c/4->lm o j=0
  part:lm o (c/4)%((10^(c%4):Nat):Int)=0
  val:val o=(dv (l.take (l.length-c))*10^c:Nat)
theorem pow4 (j:Nat)(h:j<4):(10:Nat)^j=1/\j=0\/(10:Nat)^j=10/\j=1\/(10:Nat)^j=100/\j=2\/(10:Nat)^j=1000/\j=3:=by
 match j,h with
 |0,_=>simp
 |1,_=>simp
 |2,_=>simp
 |3,_=>simp
variable{l:List UInt8}{o:List Int}{c:Nat}
theorem Heard.lt (h:Heard l o (c+1)):0<=lm o (c/4)/\lm o (c/4)+9*((10^(c%4):Nat):Int)<10000/\lm o (c/4)%(10*((10^(c%4):Nat):Int))=0:=by
 obtain⟨i,j⟩:=JA h.lim (c/4);rcases Nat.lt_or_ge (c%4) 3 with f|f
 ·(have b:(c+1)/4=c/4:=by omega);(have d:(c+1)%4=c%4+1:=by omega);have a:=h.part;rw[b,d]at a;rcases pow4 (c%4) (by omega)with⟨p,q⟩|⟨p,q⟩|⟨p,q⟩|⟨p,q⟩
  ·rw[q]at a;rw[p];simp at a ⊢;omega
  ·rw[q]at a;rw[p];simp at a ⊢;omega
  ·rw[q]at a;rw[p];simp at a ⊢;omega
  ·omega
 ·have g:=h.zero (c/4) (by omega);(have e:c%4=3:=by omega);rw[g,e];decide
theorem Heard.step {d:Nat}(h:Heard l o (c+1))(hc:c+1<=l.length)(ho:c/4<o.length)(hd:d<=9)(hl:(l[l.length-(c+1)]'(by omega)).toNat-48=d):Heard l (o.set (c/4) (lm o (c/4)+(d:Int)*((10^(c%4):Nat):Int))) c:=by
 obtain⟨n,r,a⟩:=h.lt;(have s:0<=(d:Int)*((10^(c%4):Nat):Int)/\(d:Int)*((10^(c%4):Nat):Int)<=9*((10^(c%4):Nat):Int):=by have b:(0:Int)<=((10^(c%4):Nat):Int):=Int.natCast_nonneg _;exact⟨il (by omega) b,iH (by omega) b⟩);refine⟨lO h.lim _ _ (by omega) (by omega),fun j hj=>?_,?_,?_⟩
 ·rw[mL _ _ _ _ (by omega)];exact h.zero j (by omega)
 ·(have e:lm (o.set (c/4) (lm o (c/4)+(d:Int)*((10^(c%4):Nat):Int))) (c/4)=lm o (c/4)+(d:Int)*((10^(c%4):Nat):Int):=by unfold lm;simp[ho]);rw[e,Int.add_mul_emod_self_right];rcases pow4 (c%4) (by omega)with⟨p,q⟩|⟨p,q⟩|⟨p,q⟩|⟨p,q⟩<;>rw[p]at a ⊢ <;> simp at a ⊢ <;> omega
 ·rw[rT o _ _ ho,h.val];(have f:l.length-c=(l.length-(c+1))+1:=by omega);(have g:l.take (l.length-c)=l.take (l.length-(c+1))++[l[l.length-(c+1)]'(by omega)]:=by rw[f,iO (by omega)]);rw[g,px,hl];have i:(10000:Int)^(c/4)*((10^(c%4):Nat):Int)=((10^c:Nat):Int):=by(have:(10:Nat)^c=10000^(c/4)*10^(c%4):=by conv=>lhs;rw[<-jQ c 4,Nat.pow_add,Nat.pow_mul]);rw[this];simp
  have k:(10000:Int)^(c/4)*(lm o (c/4)+(d:Int)*((10^(c%4):Nat):Int)-lm o (c/4))=d*((10^c:Nat):Int):=by
   (have m:lm o (c/4)+(d:Int)*((10^(c%4):Nat):Int)-lm o (c/4)=(d:Int)*((10^(c%4):Nat):Int):=by omega);rw[m,<-i];generalize((10^(c%4):Nat):Int)=R;generalize(10000:Int)^(c/4)=P
   grind
  rw[k,iQ];generalize(10:Nat)^c=P;generalize dv (l.take (l.length-(c+1)))=D;simp only[Int.natCast_mul,Int.natCast_add]
  grind
theorem Es (l:List UInt8)(n:Nat):Heard l (List.replicate n 0) l.length:=by
 refine⟨mv _,fun j _=>ot _ _,by rw[ot];simp,?_⟩;rw[qC,Nat.sub_self];simp[rZ]
theorem oK (hs:s.size<=10000)(hd:s.data.toList.all yf=lK):Calls prog 221 #[lC s] w fun e w'=>∃v,e=lF v/\Sli w.heap.size w' v (dv s.data.toList)/\Below w.heap.size w w':=by
 have N:=hid hd;(have x:s.data.toList.length=s.size:=by simp);have b:=hid x;clear hd x;go_enter func221,ntmps221;go_wp2_with (at_make;refine mm _ rfl _ _ rfl _ _ (s.size/4+1) rfl rfl (by omega) (by omega) (by omega) ?_);intro w1 u m ab;have z:=hid (m);have A:=hid (u);clear m u;go_wp2
 go_loopw [4] (fun vi wr=>∃(k:Nat) (o:List Int),k<=s.size/\vi=kW lD k/\o.length=s.size/4+1/\Hid (Heard s.data.toList o (s.size-k))/\Hid (Blk wr w.heap.size o)/\Hid (Below w.heap.size w wr)) (fun vi _=>s.size-(intOf vi).toNat)
 case atStart=>exact⟨0,_,ep _,rfl,by simp,by show Heard _ _ _;have:=Es s.data.toList (s.size/4+1);rw[b.out]at this;exact this,A.out,z.out⟩
 case round=>
  obtain⟨k,o,hk,rfl,I,C,a,K⟩:=hrel;by_cases H:k<s.size
  ·obtain⟨c,L⟩:∃c:Nat,s.size=k+c+1:=⟨s.size-k-1,by omega⟩;(have T:(s.size:Int)-1-(k:Int)=(c:Int):=by omega);(have F:48<=s[k].toNat/\s[k].toNat<=57:=by have:=ie.1 N.out s[k] (ij (l:=s.data.toList) (n:=k) (by simpa using H));exact(l5 _).1 this);obtain⟨U,m⟩:=F;obtain⟨d,G⟩:∃d:Nat,s[k].toNat=d+48:=⟨s[k].toNat-48,by omega⟩;(have q:d<=9:=by omega);have i:=hid L;clear L;go_wp2
   go_loopw [6,7] (fun vv vj wq=>∃(j V:Nat),j<=c%4/\V<=9000/\Hid (V=d*10^j)/\vj=kW lD j/\vv=kW lD V/\wq=wr) (fun _ vj _=>c%4-(intOf vj).toNat)
   case atStart=>exact⟨0,d,ep _,by omega,by show _=_;simp,rfl,rfl,rfl⟩
   case round=>
    obtain⟨j,V,M,S,J,rfl,rfl,rfl⟩:=hrel;by_cases X:j<c%4
    ·(have p:Hid (10*V=d*10^(j+1)):=by show _=_;rw[J.out,iQ];generalize 10^j=P;grind);(have D:10*V<=9000:=by rw[p.out];have h1:d*10^(j+1)<=9*10^(j+1):=hI _ q;have h2:(10:Nat)^(j+1)<=10^3:=ip (by omega) (by omega);omega);(have Y:(j:Int)<(c:Int)%4:=by omega);go_wp2
     go_roundw
     (case rel=>exact⟨j+1,10*V,by omega,D,p.out,by go_num,by go_num,by first|exact trivial|exact rfl⟩);case measure=>simp[intOf];omega
    ·(obtain rfl:j=c % 4:=by omega);(have W:c / 4<s.size / 4+1:=by have:=i.out;omega);have f:Heard s.data.toList o (c+1):=by have:=C.out;rw[show s.size - k=c+1 by have:=i.out;omega] at this;exact this
     have y:=hid (f.step (d:=d) (by have:=i.out;have:=b.out;omega) (by omega) q (by
      have e:s.data.toList.length-(c+1)=k:=by have:=i.out;have:=b.out;omega
      have O:s.data.toList[s.data.toList.length-(c+1)]'(by have:=i.out;have:=b.out;omega)=s[k]:=by simp only[e];rfl
      rw[O,G];omega))
     obtain⟨g3,Q,R⟩:=f.lt;have g1:=a.out.cell (c/4) (by omega);have g2:=a.out.frozen (c/4);(have E:Hid ((d:Int)*((10^(c%4):Nat):Int)=(V:Int)):=by show _=_;rw[J.out];simp);have aa:lm o (c/4)<10000:=(JA f.lim _).2;(have Z:¬ ((c%4:Nat):Int)<(c:Int)%4:=by omega);rw[E.out]at y;clear f Q R;go_wp2
     go_roundw
     (case rel=>exact⟨k+1,_,by omega,by go_num,by simpa using I,by show Heard _ _ _;rw[show s.size-(k+1)=c by have:=i.out;omega];exact y.out,a.out.set _ _,K.out.setCell lR _⟩);case measure=>simp[intOf];have:=i.out;omega
  ·(obtain rfl:k=s.size:=by omega);(have r:Hid ((val o).toNat=dv s.data.toList):=by have h:=C.out.val;rw[Nat.sub_self,Nat.pow_zero,ic,Nat.sub_zero,ew lR]at h;show _=_;omega);have g:=hid (Blk.row0 a.out (s.size/4+1) (s.size/4+1) (by omega) lR (by unfold maxLen;omega));go_wp2_with fail;refine(ny g.out C.out.lim (by omega)).mono ?_;rintro e w4 ⟨j,M,t,rfl,rfl⟩;have B:=hid (nk g.out M t r.out);clear t;go_wp2;go_ret;exact⟨_,rfl,⟨_,_,_,rfl,B.out,Fr.kt _ _ _⟩,K.out⟩
open Go.Lib (decDigits)
def OwnB (base:Nat)(w:lM)(v:lN)(l:List UInt8):Prop:=w.ownsRow base 5 1 v l.length (l.map fun c=>Value.int .u8 c.toNat)
theorem OwnB.nil (base:Nat)(w:lM):OwnB base w (kX lI 0 0) []:=⟨rfl,.inl ⟨rfl,rfl⟩⟩
variable{base:Nat}{v:lN}
theorem OwnB.iP {w':lM}(h:OwnB base w v l)(hb:Below w.heap.size w w'):OwnB base w' v l:=by
 obtain⟨d,h⟩:=h;refine⟨d,?_⟩;rcases h with h|⟨g,a,b,e,f,c,i⟩
 ·exact .inl h
 ·exact .inr ⟨g,a,b,e,f,(hb.block g (ek.1 c).1).trans c,i⟩
theorem OwnB.kE (h:OwnB base w v l):∃ao cap,v=kX ao l.length cap:=by
 rcases h.2 with⟨rfl,b⟩|⟨g,cap,a,rfl,_⟩
 ·exact⟨lI,0,by rw[b]⟩
 ·exact⟨_,_,rfl⟩
theorem vk (w:lM){ops:Array Oper}{rest:List Oper}{o:Oper}{a:Act}{Q:Exit->Act->lM->Prop}(hgd:o.guard=lI)(s x:Operand)(hop:o.op=Op.call {callee:=Callee.builtin Builtin.append,args:=#[s,x],argTypes:=#[152,152]})(base:Nat)(v:lN)(l:List UInt8)(c:UInt8)(ad:Addr)(hs:a.eval s=v)(hx:a.eval x=kX (lJ ad) 1 1)(hown:OwnB base w v l)(hc:w.cell? ad=lJ (kW .u8 c.toNat))(hle:l.length<=1000000)(hb:base<=w.heap.size)(h:∀v' w',OwnB base w' v' (l++[c])->Below base w w'->wpList prog ops Q rest (a.put o.dst v') w'):wpList prog ops Q (o::rest) a w:=by
 obtain⟨i,z,f,m,n⟩:=iM Tryz.infoByte
 have e:∀k,v.ownBlock=lJ k->base<=k:=by
  intro k p;rcases hown.2 with⟨rfl,_⟩|⟨g,r,t,rfl,d,_⟩
  ·cases p
  ·cases p;exact d
 refine jw w hgd s x _ hop base 5 i (kW .u8 0) 1 1 underlying152 z f m n rfl (by decide) v l.length _ hs hown ad 1 1 [kW .u8 c.toNat] hx rfl ?_ ?_ (by unfold maxLen;omega) (by omega) hb ?_
 ·intro j u b
  match j,b with
  |0,b=>simp at b;subst b;simpa[Addr.add]using hc
 ·intro u q;simp at q;subst q;rfl
 ·intro v' w' d y _;refine h v' w' ?_ ((eB base w).grown y hb e);unfold OwnB;rw[eK,ii];exact d
def tl (y:Nat):List UInt8:=if y=0 then[]else decDigits y
theorem IK (y d:Nat)(hd:d<=9)(h:y≠0\/d≠0):tl y++[UInt8.ofNat (48+d)]=tl (10*y+d):=by
 unfold tl;by_cases a:y=0
 ·subst a;rw[ed rfl,ec (by omega),List.nil_append,mU (by omega)];congr 2;omega
 ·rw[ec a,ec (by omega),nY (n:=10*y+d) (by omega),show(10*y+d)/10=y by omega,show(10*y+d)%10=d by omega]
theorem Ce (x j:Nat):lm (zA x) j=((x/10000^j%10000:Nat):Int):=by
 induction j generalizing x with
 |zero=>rw[BD];simp
 |succ j ih=>
  by_cases h:x=0
  ·subst h;rw[Bz _ _ (by simp[JD])];simp
  ·rw[mj x h];have e:lm (((x%10000:Nat):Int)::zA (x/10000)) (j+1)=lm (zA (x/10000)) j:=rfl;rw[e,ih,Nat.div_div_eq_div_mul,iQ,jI 10000]
theorem Jm (x i:Nat):x/10^i%10=x/10000^(i/4)%10000/10^(i%4)%10:=by
 (have e:(10:Nat)^i=10000^(i/4)*10^(i%4):=by conv=>lhs;rw[<-jQ i 4,Nat.pow_add,Nat.pow_mul]);rw[e,<-Nat.div_div_eq_div_mul];generalize x/10000^(i/4)=y;rcases pow4 (i%4) (by omega)with⟨p,q⟩|⟨p,q⟩|⟨p,q⟩|⟨p,q⟩<;>rw[p]<;>omega
theorem GY (x i:Nat):x/10^i=10*(x/10^(i+1))+x/10^i%10:=by
 rw[iQ,<-Nat.div_div_eq_div_mul];omega
theorem FE (hr:Row w ao n cap (zA x))(hn:n<=50000)(hx:x≠0):Calls prog 89 #[kX ao n cap] w fun e w'=>e=lF (lC ⟨(decDigits x).toArray⟩)/\Below w.heap.size w w':=by
 have l1:=hr.len;(have ag:0<n:=by have I:=ml hx;have A:=iK.2 I;omega);(have af:((n:Int) == 0)=lL:=by rw[eg];omega);have W:=hid hx;clear hx;go_enter func89,ntmps89;go_wp2
 go_loopw [3,4] (fun vt vi wr=>∃(k:Nat) (l:List UInt8),k<=4*n/\vi=kW lD ((k:Int)-1)/\Hid (l=tl (x/10^k))/\l.length+k<=4*n/\Hid (OwnB w.heap.size wr vt l)/\Hid (Bl w wr)) (fun _ vi _=>(intOf vi+1).toNat)
 case atStart=>refine⟨4*n,[],lR,by go_num,?_,by simp,OwnB.nil _ _,eB _ _⟩;have I:=m6 x;rw[l1]at I;(have A:(10:Nat)^(4*n)=10000^n:=by rw[Nat.pow_mul]);show[]=tl _;rw[A,Nat.div_eq_of_lt I];rfl
 case round=>
  obtain⟨k,l,hk,rfl,N,ae,E,s⟩:=hrel;have C:=s.size;by_cases k0:k=0
  ·subst k0;(have z:l=decDigits x:=by rw[N.out,Nat.pow_zero,Nat.div_one];unfold tl;rw[ec W.out]);(have O:0<l.length:=by rw[z];exact iK.2 (oY x).1);have H:=vC (wE E rfl O);rw[z]at H;clear z;go_wp2;go_ret;exact⟨rfl,s⟩
  ·obtain⟨i,rfl⟩:∃i,k=i+1:=⟨k-1,by omega⟩;obtain⟨b,o,rfl,P⟩:=hr.head (by omega);have X:=qs s (hr.cell b o rfl (i/4) (by omega)) P;obtain⟨v,y,L⟩:∃v:Nat,lm (zA x) (i/4)=v/\v<10000:=⟨_,Ce x (i/4),Nat.mod_lt _ (by omega)⟩;(have J:Hid (v=x/10000^(i/4)%10000):=by have:=Ce x (i/4);rw[y]at this;show _=_;exact_mod_cast this);rw[y]at X;(have Z:(0:Int)<=((i+1:Nat):Int)-1:=by omega);(have aa:(i:Int)/4<(n:Int):=by omega);obtain⟨vo,vc,rfl⟩:=E.kE;clear y;rw[show((i+1:Nat):Int)-1=(i:Int) by omega];go_wp2
   go_loopw [5,6] (fun vv vj wq=>∃(j V:Nat),j<=i%4/\V<10000/\Hid (V=v/10^j)/\vj=kW lD j/\vv=kW lD V/\wq=wr) (fun _ vj _=>i%4-(intOf vj).toNat)
   case atStart=>exact⟨0,v,ep _,L,by show _=_;simp,rfl,rfl,rfl⟩
   case round=>
    obtain⟨j,V,hj,Y,T,rfl,rfl,rfl⟩:=hrel;by_cases ab:j<i%4
    ·(have K:V/10=v/10^(j+1):=by show _=_;rw[T.out,Nat.div_div_eq_div_mul,iQ]);(have ac:(j:Int)<(i:Int)%4:=by omega);go_wp2
     go_roundw
     (case rel=>exact⟨j+1,V/10,by omega,by omega,K,by go_num,by go_num,by first|exact trivial|exact rfl⟩);case measure=>simp[intOf];omega
    ·(obtain rfl:j=i % 4:=by omega);(have ad:¬ ((i % 4:Nat):Int)<(i:Int) % 4:=by omega);(have M:Hid (V % 10=x / 10 ^ i % 10):=by show _=_;rw[T.out,J.out];exact (Jm x i).symm);(have G:Hid (x / 10 ^ i=10*(x / 10 ^ (i+1))+V % 10):=by show _=_;rw[M.out];exact GY x i);obtain ⟨c,U,F⟩:∃ c:UInt8,c=UInt8.ofNat (48+V % 10)/\((c.toNat:Nat):Int)=48+(V:Int) % 10:=⟨_,rfl,by rw[mT _ (by omega)];omega⟩;(have g:(wr.alloc (lE #[kW .u8 (48+(V:Int) % 10)] 5)).cell? ⟨wr.heap.size,0,lI⟩=lJ (kW .u8 (c.toNat:Nat)):=by rw[F];exact (i1 wr _ _).cell 0 _ rfl);have a:x / 10 ^ (i+1)≠0\/V % 10≠0->l++[c]=tl (x / 10 ^ i):=by intro h;rw[N.out,U,G.out];exact IK _ _ (by omega) h
     have q:l.length=0↔x/10^(i+1)=0:=by
      rw[N.out];unfold tl;by_cases h:x/10^(i+1)=0
      ·rw[ed h];simp[h]
      ·rw[ec h];have:=iK.2 (oY (x/10^(i+1))).1;constructor
       ·intro A;omega
       ·intro A;exact absurd A h
     clear U F;by_cases m:l.length=0
     ·by_cases r:V%10=0
      ·(have D:Hid (l=tl (x/10^i)):=by show _=_;rw[G.out,q.1 m,r,iq.1 m];rfl);(have S:decide ((0:Int)<(l.length:Int))=lL:=by rw[eL];omega);(have hB:decide ((0:Int)<(V:Int)%10)=lL:=by rw[eL];omega);(have B:decide (0<l.length)=lL:=by rw[eL];omega);have d:=hid E;clear q a m r;go_wp2
       go_roundw
       (case rel=>exact⟨i,l,by omega,by go_num,D,by omega,d,s⟩);case measure=>simp[intOf]
      ·have D:=hid (a (.inr r));(have S:decide ((0:Int)<(l.length:Int))=lL:=by rw[eL];omega);(have B:decide (0<l.length)=lL:=by rw[eL];omega);(have hB:decide ((0:Int)<(V:Int)%10)=lK:=by rw[iG];omega);clear q a m r;go_wp2_with (at_builtin;refine vk _ rfl _ _ rfl w.heap.size _ l c ⟨wr.heap.size,0,lI⟩ rfl rfl (E.iP (brf.alloc lR _)) g (by omega) (eh C (by simp)) ?_);intro v' w' d f;have u:=hid d;have t:=hid ((s.alloc s.size _).trans f);clear d f;go_wp2
       go_roundw
       (case rel=>exact⟨i,_,by omega,by go_num,D,by simp;omega,u,t⟩);case measure=>simp[intOf]
     ·have D:=hid (a (.inl (fun h=>m (q.2 h))));(have S:decide ((0:Int)<(l.length:Int))=lK:=by rw[iG];omega);(have B:decide (0<l.length)=lK:=by rw[iG];omega);clear q a;go_wp2_with (at_builtin;refine vk _ rfl _ _ rfl w.heap.size _ l c ⟨wr.heap.size,0,lI⟩ rfl rfl (E.iP (brf.alloc lR _)) g (by omega) (eh C (by simp)) ?_);intro v' w' d f;have u:=hid d;have t:=hid ((s.alloc s.size _).trans f);clear d f;go_wp2
      go_roundw
      (case rel=>exact⟨i,_,by omega,by go_num,D,by simp;omega,u,t⟩);case measure=>simp[intOf]
theorem EA:Calls prog 89 #[kX ao 0 cap] w fun e w'=>e=lF (lC ⟨(decDigits 0).toArray⟩)/\Below w.heap.size w w':=by
 have e:decDigits 0=[48]:=mU (by omega);rw[e];go_enter func89,ntmps89;go_wp2;go_ret;exact⟨rfl,eB _ _⟩
theorem pK (hr:Row w ao n cap (zA x))(hn:n<=50000):Calls prog 89 #[kX ao n cap] w fun e w'=>e=lF (lC ⟨(decDigits x).toArray⟩)/\Below w.heap.size w w':=by
 by_cases a:x=0
 ·subst a;have:=hr.len;obtain rfl:n=0:=this.symm;exact EA
 ·exact FE hr hn a
theorem sC (m:Bool)(p q:Nat)(hp:p≠0)(hq:q≠0):txt (mkRat (sg m p) q)=(if m then[45]else[])++decDigits (p/Nat.gcd p q)++(if q/Nat.gcd p q=1 then[]else 47::decDigits (q/Nat.gcd p q)):=by
 obtain⟨c,d,f⟩:=uF m p q hq;have b:0<Nat.gcd p q:=jj p (by omega);(have a:p/Nat.gcd p q≠0:=by have:=Nat.div_pos (Nat.le_of_dvd (by omega) (Nat.gcd_dvd_left p q)) b;omega);have g:=Nat.div_pos (Nat.le_of_dvd (by omega) (Nat.gcd_dvd_right p q)) b;unfold txt;rw[c,d,f];(have e:(m&&!(p/Nat.gcd p q == 0))=m:=by rw[show(p/Nat.gcd p q == 0)=lL from eg.2 a];simp);rw[e];congr 1;by_cases h:q/Nat.gcd p q=1
 ·rw[ed h,ec (by omega)]
 ·rw[ec h,ed (by omega)]
theorem FZ (m:Bool)(q:Nat):txt (mkRat (sg m 0) q)=[48]:=by
 (have e:mkRat (sg m 0) q=0:=by(have:sg m 0=0:=by cases m<;>rfl);rw[this];exact Rat.zero_mkRat q);rw[e];have a:negB (0:Rat)=lL:=rfl;unfold txt;rw[a];show[]++decDigits 0++[]=_;rw[mU (by omega)];rfl
variable{z:Nat}
theorem u5 (h:z=1):(zA z).length=1/\lm (zA z) 0=1:=by subst h;rw[mP];exact⟨rfl,rfl⟩
theorem Cz (h:z≠1)(hl:(zA z).length=1):lm (zA z) 0≠1:=by
 intro d;apply h;have b:=JG z
 have c:zA z=[lm (zA z) 0]:=by
  match hz:zA z,hl with
  |[a],_=>rfl
 rw[c,d]at b;simp[val]at b;omega
variable{k p q:Nat}
theorem E7 {m:Bool}(h1:Row w ao n capa (zA p))(h2:Row w bo k capb (zA q))(b1:n<=8000)(b2:k<=8000)(hn:n=0):Calls prog 40 #[lA #[kZ m,kX ao n capa,kX bo k capb]] w fun e w'=>e=lF (lC ⟨#[48]⟩)/\Below w.heap.size w w':=by
 subst hn;have a:=(eB _ w).alloc lR (lE #[kZ m,kX ao 0 capa,kX bo k capb] 83);have f:=h1.len;have g:=h2.len;go_enter func40,ntmps40;go_wp2;go_ret;exact⟨rfl,a⟩
theorem CV (h1:Row w ao n capa (zA p))(h2:Row w bo k capb (zA q))(b1:n<=8000)(b2:k<=8000)(hp:Hid (p≠0))(hq:Hid (q≠0))(hone:Hid (q/Nat.gcd p q=1)):Calls prog 40 #[lA #[kZ lL,kX ao n capa,kX bo k capb]] w fun e w'=>e=lF (lC ⟨(txt (mkRat (sg lL p) q)).toArray⟩)/\Below w.heap.size w w':=by
 (have S:Nat.gcd p q≠0:=by have:=jj p (show 0<q by have:=hq.out;omega);show _≠_;omega);(have an:((n:Int) == 0)=lL:=by rw[eg];have h1:=ml hp;have h2:=iK.2 h1;have:=‹Row w ao n capa (zA p)›.len;omega);have R:=i1 w #[kZ lL,kX ao n capa,kX bo k capb] 83;have g:=(eB _ w).alloc lR (lE #[kZ lL,kX ao n capa,kX bo k capb] 83);have v:=h1.iP g;have y:=h2.iP g;have ag:=h1.len;have ah:=h2.len;clear h2;go_enter func40,ntmps40;go_wp2_with fail;refine(qw v y (by omega) (by omega) hp hq).mono ?_;rintro e0 w0 ⟨v0,rfl,⟨go,X,gc,rfl,G,_⟩,r⟩;have a:=R.ji r;have x:=v.iP r;have M:=y.iP r;have s:=et g r;obtain⟨o,i,j,l⟩:=a.q3 rfl;have U:=G.len;(have ai:X<=8000:=by rw[<-U];exact eh (jAH (Nat.gcd_le_left q (by have:=hp.out;omega))) (by omega));clear r;go_wp2_with fail;refine(oj x G (by omega) (by omega) S).mono ?_;rintro e1 w1 ⟨u1,v1,rfl,⟨po,pn,pc,rfl,H,_⟩,⟨ar,aq,ap,rfl,Z,_⟩,m⟩;have b:=a.ji m;have z:=M.iP m;have B:=G.iP m;have t:=et s m;clear o i j l;obtain⟨o,i,j,l⟩:=b.q3 rfl;have E:=H.len;(have aj:pn<=8000:=by rw[<-E];exact eh (jAH (iT _ _)) (by omega));clear m Z;go_wp2_with fail;refine(oj z B (by omega) (by omega) S).mono ?_;rintro e2 w2 ⟨u2,v2,rfl,⟨qo,qn,qc,rfl,I,_⟩,⟨ax,aw,au,rfl,aa,_⟩,f⟩;have c:=b.ji f;have C:=H.iP f;have u:=et t f;clear o i j l;obtain⟨o,i,j,l⟩:=c.q3 rfl;have F:=I.len;(have ak:qn<=8000:=by rw[<-F];exact eh (jAH (iT _ _)) (by omega));clear f aa;have al:(decDigits (p/Nat.gcd p q)).length<=200000:=eh (mN _ pn E) (by omega);have am:(decDigits (q/Nat.gcd p q)).length<=200000:=eh (mN _ qn F) (by omega);go_wp2_with fail;refine(pK C (by omega)).mono ?_;rintro e3 w3 ⟨rfl,d⟩;have h:=c.ji d;have D:=I.iP d;have J:=et u d;clear o i j l;obtain⟨o,i,j,l⟩:=h.q3 rfl;clear d;have T:=u5 hone;(have Y:qn=1:=by omega);subst Y;obtain⟨qb,W,rfl,af⟩:=D.head (by omega);have V:=D.cell qb W rfl 0 (by omega);rw[T.2]at V;rw[ia]at V;clear T;go_wp2;go_ret;refine⟨?_,J⟩;show Ending.returned (lC _)=_;congr 2;apply pL;rw[sC _ p q hp.out hq.out];simp[hone.out,ByteArray.data_append]
theorem CL (h1:Row w ao n capa (zA p))(h2:Row w bo k capb (zA q))(b1:n<=8000)(b2:k<=8000)(hp:Hid (p≠0))(hq:Hid (q≠0))(hone:Hid ((zA (q/Nat.gcd p q)).length≠1)):Calls prog 40 #[lA #[kZ lL,kX ao n capa,kX bo k capb]] w fun e w'=>e=lF (lC ⟨(txt (mkRat (sg lL p) q)).toArray⟩)/\Below w.heap.size w w':=by
 (have aa:Nat.gcd p q≠0:=by have:=jj p (show 0<q by have:=hq.out;omega);show _≠_;omega);(have ar:((n:Int) == 0)=lL:=by rw[eg];have h1:=ml hp;have h2:=iK.2 h1;have:=‹Row w ao n capa (zA p)›.len;omega);(have HO:Hid (¬ q/Nat.gcd p q=1):=fun h=>hone (by rw[h,mP];rfl));have Z:=i1 w #[kZ lL,kX ao n capa,kX bo k capb] 83;have r:=(eB _ w).alloc lR (lE #[kZ lL,kX ao n capa,kX bo k capb] 83);have A:=h1.iP r;have C:=h2.iP r;have aj:=h1.len;have ak:=h2.len;clear h2;go_enter func40,ntmps40;go_wp2_with fail;refine(qw A C (by omega) (by omega) hp hq).mono ?_;rintro e0 w0 ⟨v0,rfl,⟨go,gn,gc,rfl,K,_⟩,u⟩;have a:=Z.ji u;have B:=A.iP u;have R:=C.iP u;have v:=et r u;obtain⟨m,f,g,i⟩:=a.q3 rfl;have ab:=K.len;(have al:gn<=8000:=by rw[<-ab];exact eh (jAH (Nat.gcd_le_left q (by have:=hp.out;omega))) (by omega));clear u;go_wp2_with fail;refine(oj B K (by omega) (by omega) aa).mono ?_;rintro e1 w1 ⟨u1,v1,rfl,⟨po,pn,pc,rfl,L,_⟩,⟨ay,ax,aw,rfl,ac,_⟩,t⟩;have b:=a.ji t;have D:=R.iP t;have F:=K.iP t;have x:=et v t;clear m f g i;obtain⟨m,f,g,i⟩:=b.q3 rfl;have I:=L.len;(have am:pn<=8000:=by rw[<-I];exact eh (jAH (iT _ _)) (by omega));clear t ac;go_wp2_with fail;refine(oj D F (by omega) (by omega) aa).mono ?_;rintro e2 w2 ⟨u2,v2,rfl,⟨qo,qn,qc,rfl,M,_⟩,⟨aB,aA,az,rfl,ad,_⟩,o⟩;have c:=b.ji o;have G:=L.iP o;have y:=et x o;clear m f g i;obtain⟨m,f,g,i⟩:=c.q3 rfl;have J:=M.len;(have an:qn<=8000:=by rw[<-J];exact eh (jAH (iT _ _)) (by omega));clear o ad;have ap:(decDigits (p/Nat.gcd p q)).length<=200000:=eh (mN _ pn I) (by omega);have aq:(decDigits (q/Nat.gcd p q)).length<=200000:=eh (mN _ qn J) (by omega);go_wp2_with fail;refine(pK G (by omega)).mono ?_;rintro e3 w3 ⟨rfl,j⟩;have d:=c.ji j;have H:=M.iP j;have z:=et y j;clear m f g i;obtain⟨m,f,g,i⟩:=d.q3 rfl;clear j;(have au:((qn:Int) == 1)=lL:=by rw[eg];have:=hone.out;omega);go_wp2_with fail;refine(pK H (by omega)).mono ?_;rintro e4 w4 ⟨rfl,l⟩;have s:=d.ji l;have N:=et z l;clear m f g i;obtain⟨m,f,g,i⟩:=s.q3 rfl;clear l;go_wp2;go_ret;refine⟨?_,N⟩;show Ending.returned (lC _)=_;congr 2;apply pL;rw[sC _ p q hp.out hq.out];simp[HO.out,ByteArray.data_append]
theorem CG (h1:Row w ao n capa (zA p))(h2:Row w bo k capb (zA q))(b1:n<=8000)(b2:k<=8000)(hp:Hid (p≠0))(hq:Hid (q≠0))(hone:Hid (q/Nat.gcd p q≠1))(hlen:Hid ((zA (q/Nat.gcd p q)).length=1)):Calls prog 40 #[lA #[kZ lL,kX ao n capa,kX bo k capb]] w fun e w'=>e=lF (lC ⟨(txt (mkRat (sg lL p) q)).toArray⟩)/\Below w.heap.size w w':=by
 (have aa:Nat.gcd p q≠0:=by have:=jj p (show 0<q by have:=hq.out;omega);show _≠_;omega);(have ay:((n:Int) == 0)=lL:=by rw[eg];have h1:=ml hp;have h2:=iK.2 h1;have:=‹Row w ao n capa (zA p)›.len;omega);have HO:Hid (¬ q/Nat.gcd p q=1):=hone;have Z:=i1 w #[kZ lL,kX ao n capa,kX bo k capb] 83;have o:=(eB _ w).alloc lR (lE #[kZ lL,kX ao n capa,kX bo k capb] 83);have A:=h1.iP o;have C:=h2.iP o;have an:=h1.len;have ap:=h2.len;clear h2;go_enter func40,ntmps40;go_wp2_with fail;refine(qw A C (by omega) (by omega) hp hq).mono ?_;rintro e0 w0 ⟨v0,rfl,⟨go,gn,gc,rfl,K,_⟩,u⟩;have a:=Z.ji u;have B:=A.iP u;have R:=C.iP u;have v:=et o u;obtain⟨l,f,g,h⟩:=a.q3 rfl;have ab:=K.len;(have aq:gn<=8000:=by rw[<-ab];exact eh (jAH (Nat.gcd_le_left q (by have:=hp.out;omega))) (by omega));clear u;go_wp2_with fail;refine(oj B K (by omega) (by omega) aa).mono ?_;rintro e1 w1 ⟨u1,v1,rfl,⟨po,pn,pc,rfl,L,_⟩,⟨aC,aB,aA,rfl,ae,_⟩,t⟩;have b:=a.ji t;have D:=R.iP t;have F:=K.iP t;have x:=et v t;clear l f g h;obtain⟨l,f,g,h⟩:=b.q3 rfl;have I:=L.len;(have ar:pn<=8000:=by rw[<-I];exact eh (jAH (iT _ _)) (by omega));clear t ae;go_wp2_with fail;refine(oj D F (by omega) (by omega) aa).mono ?_;rintro e2 w2 ⟨u2,v2,rfl,⟨qo,qn,qc,rfl,M,_⟩,⟨aF,aE,aD,rfl,af,_⟩,m⟩;have c:=b.ji m;have G:=L.iP m;have y:=et x m;clear l f g h;obtain⟨l,f,g,h⟩:=c.q3 rfl;have J:=M.len;(have au:qn<=8000:=by rw[<-J];exact eh (jAH (iT _ _)) (by omega));clear m af;have aw:(decDigits (p/Nat.gcd p q)).length<=200000:=eh (mN _ pn I) (by omega);have ax:(decDigits (q/Nat.gcd p q)).length<=200000:=eh (mN _ qn J) (by omega);go_wp2_with fail;refine(pK G (by omega)).mono ?_;rintro e3 w3 ⟨rfl,i⟩;have d:=c.ji i;have r:=M.iP i;have z:=et y i;clear l f g h;obtain⟨l,f,g,h⟩:=d.q3 rfl;clear i;(have ad:qn=1:=by have:=hlen.out;omega);have H:=Cz hone (by omega);subst ad;obtain⟨qb,ac,rfl,am⟩:=r.head (by omega);have ag:=r.cell qb ac rfl 0 (by omega);rw[ia]at ag;have az:=ef H;clear H;go_wp2_with fail;refine(pK r (by omega)).mono ?_;rintro e4 w4 ⟨rfl,j⟩;have s:=d.ji j;have N:=et z j;clear l f g h;obtain⟨l,f,g,h⟩:=s.q3 rfl;clear j;go_wp2;go_ret;refine⟨?_,N⟩;show Ending.returned (lC _)=_;congr 2;apply pL;rw[sC _ p q hp.out hq.out];simp[HO.out,ByteArray.data_append]
theorem Cv (h1:Row w ao n capa (zA p))(h2:Row w bo k capb (zA q))(b1:n<=8000)(b2:k<=8000)(hq:q≠0):Calls prog 40 #[lA #[kZ lL,kX ao n capa,kX bo k capb]] w fun e w'=>e=lF (lC ⟨(txt (mkRat (sg lL p) q)).toArray⟩)/\Below w.heap.size w w':=by
 by_cases a:p=0
 ·(have c:n=0:=by rw[<-h1.len,a];rfl);rw[a,FZ];exact E7 h1 h2 b1 b2 c
 ·by_cases h:q/Nat.gcd p q=1
  ·exact CV h1 h2 b1 b2 a hq h
  ·by_cases b:(zA (q/Nat.gcd p q)).length=1
   ·exact CG h1 h2 b1 b2 a hq h b
   ·exact CL h1 h2 b1 b2 a hq b
def PNv (w:lM)(v:lN)(m:Bool)(p q:Nat):Prop:=∃ao n capa bo k capb,v=lA #[kZ m,kX ao n capa,kX bo k capb]/\Row w ao n capa (zA p)/\Row w bo k capb (zA q)
variable{b:Nat}{x0 x1 x2:lN}
theorem Bx.set1 {T:TypeId}(h:Bx w b #[x0,x1,x2] T)(u:lN):Bx (lG w ⟨b,1,lI⟩ u) b #[x0,u,x2] T:=by
 unfold Bx;rw[eP w b 1 _ _ u h];rfl
theorem Bx.set2 {T:TypeId}(h:Bx w b #[x0,x1,x2] T)(u:lN):Bx (lG w ⟨b,2,lI⟩ u) b #[x0,x1,u] T:=by
 unfold Bx;rw[eP w b 2 _ _ u h];rfl
theorem bytes49:(⟨#[49]⟩:ByteArray).data.toList=[49]:=rfl
theorem dv49:dv [49] =1:=by decide
theorem whole49:zY [49] =lK:=by decide
variable{t:ByteArray}{K:Nat}
theorem Dp (hK:zO t.data.toList=K)(hts:t.size<=300)(hKt:K<=t.size)(h0:0<t.size)(hm:((t[0].toNat:Int) == 45)=lL)(heq:((K:Int) == (t.size:Int))=lK)(hnl:¬ K<t.size)(hw:Hid (zY (t.data.toList.take K)=lK))(X:Nat)(hX:Hid (dv (t.data.toList.take K)=X))(hX0:Hid (X=0))(h48:t.toList=[48])(h48b:(t.toList == [48])=lK):Calls prog 204 #[lC t] w fun e w'=>∃v,e=lF (lB #[v,kZ lK])/\PNv w' v lL X 1/\Below w.heap.size w w':=by
 obtain⟨c1,c2,c5⟩:=boxes2 w #[kZ lL,kX lI 0 0,kX lI 0 0] #[kZ lL,kX lI 0 0,kX lI 0 0] 83 83;(have ac:((t.size:Int) == 0)=lL:=by rw[eg];omega);(have ad:(t.size:Int)<=300:=by omega);have V:=pI t K;(have ae:(t.extract 0 K).size<=300:=by rw[jp];omega);go_enter func204,ntmps204;go_wp2_with fail;refine(sq (by omega)).mono ?_;rintro e wz ⟨rfl,rfl⟩;rw[hK];generalize(w.alloc (lE #[kZ lL,kX lI 0 0,kX lI 0 0] 83)).alloc (lE #[kZ lL,kX lI 0 0,kX lI 0 0] 83)=V0 at c1 c2 c5 ⊢;obtain⟨A,o,C,q,D,r,E⟩:=c1.w3 rfl;obtain⟨B,s,F,u,G,x,H⟩:=c2.w3 rfl;go_wp2_with fail;refine(oJ (by omega)).mono ?_;rintro e1 af ⟨rfl,rfl⟩;rw[V,hw];go_wp2_with fail;refine(oJ (by decide)).mono ?_;rintro e2 ag ⟨rfl,rfl⟩;rw[bytes49,whole49];go_wp2_with fail;refine(oK (by omega) (by rw[V];exact mM hw)).mono ?_;rintro e0 w0 ⟨v0,rfl,⟨n,O,pc,rfl,z,_⟩,y⟩;have f:=c1.ji y;have c:=c2.ji y;have Q:=et c5 y;clear A o C q D r E B s F u G x H;obtain⟨A,o,C,q,D,r,E⟩:=f.w3 rfl;obtain⟨B,s,F,u,G,x,H⟩:=c.w3 rfl;rw[V,hX]at z;have W:=z.len;(have ab:O<=300:=by have h6:=m7 hw;rw[hX]at h6;have h7:(t.data.toList.take K).length<=K:=List.length_take_le _ _;omega);clear y;go_wp2_with fail;obtain⟨V1,P⟩:∃V1,V1=lG w0 ⟨w.heap.size+1,1,lI⟩ (kX n O pc):=⟨_,rfl⟩;rw[<-P];have k:=f.jx ⟨w.heap.size+1,1,lI⟩ (kX n O pc) (by show w.heap.size+1≠_;omega);have l:=c.set1 (kX n O pc);have j:=z.jx (w.heap.size+1) 1 (kX n O pc) c (by decide);have h:=Q.setCell (p:=⟨w.heap.size+1,1,lI⟩) (by show w.heap.size<=w.heap.size+1;omega) (kX n O pc);rw[<-P]at k l j h;clear P;refine(oK (by decide) (by rw[bytes49];exact mM whole49)).mono ?_;rintro e1 w1 ⟨v1,rfl,⟨L,J,I,rfl,N,_⟩,m⟩;have g:=k.ji m;have d:=l.ji m;have T:=j.iP m;have R:=et h m;clear A o C q D r E B s F u G x H;obtain⟨A,o,C,q,D,r,E⟩:=g.w3 rfl;obtain⟨B,s,F,u,G,x,H⟩:=d.w3 rfl;rw[bytes49,dv49]at N;clear m;(have aa:O=0:=by rw[<-W,hX0];rfl);subst aa;go_wp2;have Y:=g.jx ⟨w.heap.size+1,2,lI⟩ (kX L J I) (by show w.heap.size+1≠_;omega);have Z:=(Y.jM (kZ lL) (kX n 0 pc) (kX L J I));obtain⟨z0,z1,z2⟩:=Z.c3 rfl;unfold zy at z0 z1 z2;have BB:=(j8 (R.setCell (p:=⟨w.heap.size+1,2,lI⟩) (by show w.heap.size<=w.heap.size+1;omega) (kX L J I)) lR (kZ lL) (kX n 0 pc) (kX L J I));refine eG (v:=lB #[lA #[kZ lL,kX n 0 pc,kX L J I],kZ lK]) (by simp[results,results204,go_sem,z0,z1,z2]) rfl ⟨_,rfl,⟨n,0,pc,L,J,I,rfl,?_,?_⟩,BB⟩
 ·exact((T.jx _ _ _ d (by decide)).jM Y (by decide) (kZ lL) (kX n 0 pc) (kX L J I))
 ·exact((N.jx _ _ _ d (by decide)).jM Y (by decide) (kZ lL) (kX n 0 pc) (kX L J I))
theorem Dw (hK:zO t.data.toList=K)(hts:t.size<=300)(hKt:K<=t.size)(h0:0<t.size)(hm:((t[0].toNat:Int) == 45)=lL)(heq:((K:Int) == (t.size:Int))=lK)(hnl:¬ K<t.size)(hw:Hid (zY (t.data.toList.take K)=lK))(X:Nat)(hX:Hid (dv (t.data.toList.take K)=X))(hX0:Hid (X≠0)):Calls prog 204 #[lC t] w fun e w'=>∃v,e=lF (lB #[v,kZ lK])/\PNv w' v lL X 1/\Below w.heap.size w w':=by
 obtain⟨c1,c2,c5⟩:=boxes2 w #[kZ lL,kX lI 0 0,kX lI 0 0] #[kZ lL,kX lI 0 0,kX lI 0 0] 83 83;(have ac:((t.size:Int) == 0)=lL:=by rw[eg];omega);(have ae:(t.size:Int)<=300:=by omega);have V:=pI t K;(have af:(t.extract 0 K).size<=300:=by rw[jp];omega);go_enter func204,ntmps204;go_wp2_with fail;refine(sq (by omega)).mono ?_;rintro e wz ⟨rfl,rfl⟩;rw[hK];generalize(w.alloc (lE #[kZ lL,kX lI 0 0,kX lI 0 0] 83)).alloc (lE #[kZ lL,kX lI 0 0,kX lI 0 0] 83)=Y at c1 c2 c5 ⊢;obtain⟨B,q,D,r,E,s,F⟩:=c1.w3 rfl;obtain⟨C,u,G,x,H,y,I⟩:=c2.w3 rfl;go_wp2_with fail;refine(oJ (by omega)).mono ?_;rintro e1 ag ⟨rfl,rfl⟩;rw[V,hw];go_wp2_with fail;refine(oJ (by decide)).mono ?_;rintro e2 ah ⟨rfl,rfl⟩;rw[bytes49,whole49];go_wp2_with fail;refine(oK (by omega) (by rw[V];exact mM hw)).mono ?_;rintro e0 w0 ⟨v0,rfl,⟨o,i,pc,rfl,A,_⟩,z⟩;have f:=c1.ji z;have c:=c2.ji z;have Q:=et c5 z;clear B q D r E s F C u G x H y I;obtain⟨B,q,D,r,E,s,F⟩:=f.w3 rfl;obtain⟨C,u,G,x,H,y,I⟩:=c.w3 rfl;rw[V,hX]at A;have aa:=A.len;(have ab:i<=300:=by have h6:=m7 hw;rw[hX]at h6;have h7:(t.data.toList.take K).length<=K:=List.length_take_le _ _;omega);clear z;go_wp2_with fail;obtain⟨V1,P⟩:∃V1,V1=lG w0 ⟨w.heap.size+1,1,lI⟩ (kX o i pc):=⟨_,rfl⟩;rw[<-P];have l:=f.jx ⟨w.heap.size+1,1,lI⟩ (kX o i pc) (by show w.heap.size+1≠_;omega);have m:=c.set1 (kX o i pc);have k:=A.jx (w.heap.size+1) 1 (kX o i pc) c (by decide);have h:=Q.setCell (p:=⟨w.heap.size+1,1,lI⟩) (by show w.heap.size<=w.heap.size+1;omega) (kX o i pc);rw[<-P]at l m k h;clear P;refine(oK (by decide) (by rw[bytes49];exact mM whole49)).mono ?_;rintro e1 w1 ⟨v1,rfl,⟨M,L,J,rfl,O,_⟩,n⟩;have g:=l.ji n;have d:=m.ji n;have T:=k.iP n;have R:=et h n;clear B q D r E s F C u G x H y I;obtain⟨B,q,D,r,E,s,F⟩:=g.w3 rfl;obtain⟨C,u,G,x,H,y,I⟩:=d.w3 rfl;rw[bytes49,dv49]at O;clear n;(have ad:((i:Int) == 0)=lL:=by rw[eg];have h2:=iK.2 (ml hX0);omega);go_wp2;have W:=g.jx ⟨w.heap.size+1,2,lI⟩ (kX M L J) (by show w.heap.size+1≠_;omega);have Z:=(W.jM (kZ lL) (kX o i pc) (kX M L J));obtain⟨z0,z1,z2⟩:=Z.c3 rfl;unfold zy at z0 z1 z2;have BB:=(j8 (R.setCell (p:=⟨w.heap.size+1,2,lI⟩) (by show w.heap.size<=w.heap.size+1;omega) (kX M L J)) lR (kZ lL) (kX o i pc) (kX M L J));refine eG (v:=lB #[lA #[kZ lL,kX o i pc,kX M L J],kZ lK]) (by simp[results,results204,go_sem,z0,z1,z2]) rfl ⟨_,rfl,⟨o,i,pc,M,L,J,rfl,?_,?_⟩,BB⟩
 ·exact((T.jx _ _ _ d (by decide)).jM W (by decide) (kZ lL) (kX o i pc) (kX M L J))
 ·exact((O.jx _ _ _ d (by decide)).jM W (by decide) (kZ lL) (kX o i pc) (kX M L J))
theorem CQ (hK:zO t.data.toList=K)(hts:t.size<=300)(hKt:K<=t.size)(h0:0<t.size)(hm:((t[0].toNat:Int) == 45)=lL)(hne2:((K:Int) == (t.size:Int))=lL)(hlt:K<t.size)(hw:Hid (zY (t.data.toList.take K)=lK))(X:Nat)(hX:Hid (dv (t.data.toList.take K)=X))(hv:Hid (zY (t.data.toList.drop (K+1))=lK))(Y:Nat)(hY:Hid (dv (t.data.toList.drop (K+1))=Y))(hd0:¬ (t.extract (K+1) t.size).toList=[48])(hd0b:((t.extract (K+1) t.size).toList == [48])=lL)(hd1:¬ (t.extract (K+1) t.size).toList=[49])(hd1b:((t.extract (K+1) t.size).toList == [49])=lL)(hX0:Hid (X≠0))(hY0:Hid (Y≠0))(hone:Hid (Nat.gcd X Y=1)):Calls prog 204 #[lC t] w fun e w'=>∃v,e=lF (lB #[v,kZ lK])/\PNv w' v lL X Y/\Below w.heap.size w w':=by
 obtain⟨c1,c2,c5⟩:=boxes2 w #[kZ lL,kX lI 0 0,kX lI 0 0] #[kZ lL,kX lI 0 0,kX lI 0 0] 83 83;(have aE:((t.size:Int) == 0)=lL:=by rw[eg];omega);(have aG:(t.size:Int)<=300:=by omega);have aq:=pI t K;(have aH:(t.extract 0 K).size<=300:=by rw[jp];omega);have ao:=sr t (K+1);(have aC:(t.extract (K+1) t.size).size<=300:=by rw[jp];omega);go_enter func204,ntmps204;go_wp2_with fail;refine(sq (by omega)).mono ?_;rintro e wz ⟨rfl,rfl⟩;rw[hK];generalize(w.alloc (lE #[kZ lL,kX lI 0 0,kX lI 0 0] 83)).alloc (lE #[kZ lL,kX lI 0 0,kX lI 0 0] 83)=V0 at c1 c2 c5 ⊢;obtain⟨B,r,F,s,G,u,H⟩:=c1.w3 rfl;obtain⟨C,x,I,y,J,z,L⟩:=c2.w3 rfl;go_wp2_with fail;refine(oJ (by omega)).mono ?_;rintro e1 aI ⟨rfl,rfl⟩;rw[aq,hw];go_wp2_with fail;refine(oJ (by omega)).mono ?_;rintro e2 aJ ⟨rfl,rfl⟩;rw[ao,hv];go_wp2_with fail;refine(oK (by omega) (by rw[aq];exact mM hw)).mono ?_;rintro e0 w0 ⟨v0,rfl,⟨M,o,pc,rfl,V,_⟩,U⟩;have f:=c1.ji U;have d:=c2.ji U;have ae:=et c5 U;clear B r F s G u H C x I y J z L;obtain⟨B,r,F,s,G,u,H⟩:=f.w3 rfl;obtain⟨C,x,I,y,J,z,L⟩:=d.w3 rfl;rw[aq,hX]at V;have ay:=V.len;(have aA:o<=300:=by have h6:=m7 hw;rw[hX]at h6;have h7:(t.data.toList.take K).length<=K:=List.length_take_le _ _;omega);clear U;go_wp2_with fail;obtain⟨V1,T⟩:∃V1,V1=lG w0 ⟨w.heap.size+1,1,lI⟩ (kX M o pc):=⟨_,rfl⟩;rw[<-T];have P:=f.jx ⟨w.heap.size+1,1,lI⟩ (kX M o pc) (by show w.heap.size+1≠_;omega);have Q:=d.set1 (kX M o pc);have O:=V.jx (w.heap.size+1) 1 (kX M o pc) d (by decide);have i:=ae.setCell (p:=⟨w.heap.size+1,1,lI⟩) (by show w.heap.size<=w.heap.size+1;omega) (kX M o pc);rw[<-T]at P Q O i;clear T;refine(oK (by omega) (by rw[ao];exact mM hv)).mono ?_;rintro e1 w1 ⟨v1,rfl,⟨E,q,D,rfl,W,_⟩,S⟩;have g:=P.ji S;have a:=Q.ji S;have ai:=O.iP S;have af:=et i S;clear B r F s G u H C x I y J z L;obtain⟨B,r,F,s,G,u,H⟩:=g.w3 rfl;obtain⟨C,x,I,y,J,z,L⟩:=a.w3 rfl;rw[ao,hY]at W;have az:=W.len;(have aB:q<=300:=by have h6:=m7 hv;rw[hY,iC]at h6;have h7:t.data.toList.length=t.size:=(by simp);omega);clear S;(have aF:((o:Int) == 0)=lL:=by rw[eg];have h2:=iK.2 (ml hX0);omega);go_wp2_with fail;obtain⟨V2,T⟩:∃V2,V2=lG w1 ⟨w.heap.size+1,2,lI⟩ (kX E q D):=⟨_,rfl⟩;rw[<-T];have n:=g.jx ⟨w.heap.size+1,2,lI⟩ (kX E q D) (by show w.heap.size+1≠_;omega);have R:=a.set2 (kX E q D);have l:=ai.jx (w.heap.size+1) 2 (kX E q D) a (by decide);have m:=W.jx (w.heap.size+1) 2 (kX E q D) a (by decide);have j:=af.setCell (p:=⟨w.heap.size+1,2,lI⟩) (by show w.heap.size<=w.heap.size+1;omega) (kX E q D);rw[<-T]at n R l m j;clear T;refine(qw l m (by omega) (by omega) hX0 hY0).mono ?_;rintro e2 w2 ⟨v2,rfl,⟨go,gn,gc,rfl,ad,ar⟩,A⟩;have h:=n.ji A;have k:=R.ji A;have aj:=l.iP A;have al:=m.iP A;have ag:=et j A;clear B r F s G u H C x I y J z L;obtain⟨B,r,F,s,G,u,H⟩:=h.w3 rfl;obtain⟨C,x,I,y,J,z,L⟩:=k.w3 rfl;have ax:=ad.len;clear A;have ap:=u5 hone;(have au:gn=1:=by omega);subst au;obtain⟨gb,an,rfl,aw⟩:=ad.head (by omega);(have aD:w.heap.size≠gb:=by have h8:=n.lt;have h9:V2.heap.size<=gb:=ar.2 _ rfl;omega);have am:=ad.cell gb an rfl 0 (by omega);rw[ap.2]at am;rw[ia]at am;clear ap;go_wp2_with fail;go_region;go_wp2;have Z:=(h.jM (kZ lL) (kX M o pc) (kX E q D)).drew;obtain⟨z0,z1,z2⟩:=Z.c3 rfl;unfold zy at z0 z1 z2;have BB:=(j8 ag lR (kZ lL) (kX M o pc) (kX E q D)).drew;refine eG (v:=lB #[lA #[kZ lL,kX M o pc,kX E q D],kZ lK]) (by simp[results,results204,go_sem,z0,z1,z2]) rfl ⟨_,rfl,⟨M,o,pc,E,q,D,rfl,?_,?_⟩,BB⟩
 ·exact(aj.jM h (by decide) (kZ lL) (kX M o pc) (kX E q D)).drew
 ·exact(al.jM h (by decide) (kZ lL) (kX M o pc) (kX E q D)).drew
def flZ (q:Rat):Int:=q.num/(q.den:Int)
def flQ (q:Rat):Rat:=(flZ q:Rat)
theorem uR (q:Rat):(flQ q).num=flZ q:=jq _
theorem ui (q:Rat):(flQ q).den=1:=jG _
theorem r9 (q:Rat)(h:negB q=lL):negB (flQ q)=lL/\(flQ q).num.natAbs=q.num.natAbs/q.den:=by
 (have a:0<=q.num:=by unfold negB at h;rw[eL]at h;omega);have b:=nA q;(have e:flZ q=((q.num.natAbs/q.den:Nat):Int):=by unfold flZ;rw[Int.natCast_ediv];congr 1;omega);unfold negB;rw[uR,e];generalize q.num.natAbs/q.den=t;refine⟨?_,Int.natAbs_natCast _⟩;rw[eL];omega
theorem GF (q:Rat)(h:negB q=lK)(hr:q.num.natAbs%q.den=0):negB (flQ q)=lK/\(flQ q).num.natAbs=q.num.natAbs/q.den:=by
 (have f:q.num<0:=by unfold negB at h;rw[iG]at h;exact h);have g:=nA q;(have b:q.num.natAbs=q.den*(q.num.natAbs/q.den):=by have:=jQ q.num.natAbs q.den;omega);have e:flZ q = -((q.num.natAbs/q.den:Nat):Int):=by unfold flZ;(have c:q.num = -((q.num.natAbs/q.den:Nat):Int)*(q.den:Int):=by(have:((q.num.natAbs:Nat):Int)=(q.den:Int)*((q.num.natAbs/q.den:Nat):Int):=by exact_mod_cast b);rw[Int.neg_mul,jL,<-this];omega);generalize(q.num.natAbs/q.den:Nat)=t at c;rw[c];exact Int.mul_ediv_cancel _ (by omega)
 have d:0<q.num.natAbs/q.den:=by
  rcases Nat.eq_zero_or_pos (q.num.natAbs/q.den)with a|a
  ·rw[a,Nat.mul_zero]at b;omega
  ·exact a
 unfold negB;rw[uR,e];generalize q.num.natAbs/q.den=t at d;refine⟨?_,by omega⟩;rw[iG];omega
theorem Gv (q:Rat)(h:negB q=lK)(hr:q.num.natAbs%q.den≠0):negB (flQ q)=lK/\(flQ q).num.natAbs=q.num.natAbs/q.den+1:=by
 (have g:q.num<0:=by unfold negB at h;rw[iG]at h;exact h);have i:=nA q;have c:=Nat.mod_lt q.num.natAbs (show q.den > 0 by omega);have b:=jQ q.num.natAbs q.den;(have e:flZ q = -((q.num.natAbs/q.den+1:Nat):Int):=by unfold flZ;(have a:((q.num.natAbs:Nat):Int)=(q.den:Int)*((q.num.natAbs/q.den:Nat):Int)+((q.num.natAbs%q.den:Nat):Int):=by exact_mod_cast b.symm);generalize((q.num.natAbs/q.den:Nat))=t at a;generalize((q.num.natAbs%q.den:Nat))=s at a c hr;(have f:q.num=(((q.den-s:Nat)):Int) + -((t+1:Nat):Int)*(q.den:Int):=by(have d:((t+1:Nat):Int)*(q.den:Int)=(q.den:Int)*(t:Int)+(q.den:Int):=by rw[Int.natCast_add,Int.add_mul,jL];simp);rw[Int.neg_mul,d];omega);rw[f,Int.add_mul_ediv_right _ _ (by omega)];rw[Int.ediv_eq_zero_of_lt (by omega) (by omega)];omega);unfold negB;rw[uR,e];generalize q.num.natAbs/q.den=t;refine⟨?_,by omega⟩;rw[iG];omega
theorem Row.set1 (h:Row w ao n cap xs){T:TypeId}(hx:Bx w b #[x0] T)(hT:T≠3)(u:lN):Row (lG w ⟨b,0,lI⟩ u) ao n cap xs:=by
 exact h.jx b 0 u hx hT
theorem Ek {x:Rat}(h1:Row w ao n capa (zA x.num.natAbs))(h2:Row w bo m capb (zA x.den))(b1:n<=10000)(b2:m<=10000)(hn:negB x=lL):Calls prog 216 #[lA #[kZ lL,kX ao n capa,kX bo m capb]] w fun e w'=>∃v,e=lF v/\Frac w' v (flQ x)/\Below w.heap.size w w':=by
 have hf:=r9 x hn;clear hn;obtain⟨c1,c2,c5⟩:=boxes2 w #[kZ lL,kX ao n capa,kX bo m capb] #[kZ lL,kX lI 0 0,kX lI 0 0] 90 90;have U:=h1.iP c5;have aU:=h1.len;have V:=h2.iP c5;have aV:=h2.len;clear h1 h2;go_enter func216,ntmps216;go_wp2_with fail;refine(sx U V (by omega) (by omega)).mono ?_;rintro e0 w0 ⟨v0,rfl,⟨s,q,r,rfl,Y⟩,p⟩;have g:=c1.ji p;have b:=c2.ji p;have ah:=U.iP p;have ak:=V.iP p;have O:=et c5 p;obtain⟨I,C,D,E⟩:=g.q3 rfl;obtain⟨J,F,K,G,L,H,M⟩:=b.w3 rfl;have aG:=Y.len;(have aX:q<=10000:=by rw[<-aG];exact eh (jAH (iT _ _)) (by omega));clear p;have aB:=i1 w0 #[kX s q r] 88;have S:=ah.alloc (lE #[kX s q r] 88);have T:=ak.alloc (lE #[kX s q r] 88);go_wp2_with fail;refine(u4 S T (by omega) (by omega)).mono ?_;rintro e1 w1 ⟨v1,rfl,⟨B,z,A,rfl,aa⟩,j⟩;have A0:=eb j;have h:=g.ji A0;have c:=b.ji A0;have u:=aB.ji j;have ap:=Y.iP A0;have P:=et O A0;clear I C D E J F K G L H M;obtain⟨I,C,D,E⟩:=h.q3 rfl;obtain⟨J,F,K,G,L,H,M⟩:=c.w3 rfl;obtain⟨aI,aE⟩:=u.q1 rfl;have aH:=aa.len;(have aY:z<=10000:=by rw[<-aH];exact eh (jAH (Nat.mod_le _ _)) (by omega));clear j aa;have aD:=i1 w1 #[kX B z A] 88;go_wp2_with fail;refine(oV).mono ?_;rintro e2 w2 ⟨v2,rfl,⟨l,f,k,rfl,ab⟩,d⟩;have A1:=eb d;have i:=h.ji A1;have a:=c.ji A1;have o:=u.ji A1;have y:=aD.ji d;have X:=ap.iP A1;have t:=et P A1;clear I C D E J F K G L H M aI aE;obtain⟨I,C,D,E⟩:=i.q3 rfl;obtain⟨J,F,K,G,L,H,M⟩:=a.w3 rfl;obtain⟨aI,aE,a1⟩:=o.w1 rfl;obtain⟨a0,aZ⟩:=y.q1 rfl;have aF:f=1:=ab.len.symm.trans (by rw[mP];rfl);(have aW:f<=1:=by omega);clear d aF;go_wp2;have Z:=i7 (a.jM (kZ lL) (kX s q r) (kX l f k)) (lE #[kX l f k] 88);obtain⟨z0,z1,z2⟩:=Z.c3 rfl;unfold zy at z0 z1 z2;have BB:=j8 t (by omega:w.heap.size<=w.heap.size+1) (kZ lL) (kX s q r) (kX l f k);refine eG (v:=lA #[kZ lL,kX s q r,kX l f k]) (by simp[results,results216,go_sem,z0,z1,z2]) rfl ⟨_,rfl,⟨s,q,r,l,f,k,by rw[hf.1],?_,?_⟩,BB.alloc BB.size _⟩
 ·rw[hf.2];exact(X.jM a (by decide) _ _ _).alloc _
 ·rw[ui];exact(ab.jM a (by decide) _ _ _).alloc _
theorem Ct (q:Rat):(flQ q).num.natAbs<=q.num.natAbs/\(flQ q).den<=q.den:=by
 refine⟨?_,by rw[ui];exact nA q⟩
 cases a:negB q
 ·rw[(r9 q a).2];exact iT _ _
 ·by_cases b:q.num.natAbs%q.den=0
  ·rw[(GF q a b).2];exact iT _ _
  ·rw[(Gv q a b).2];have c:=jQ q.num.natAbs q.den;have d:q.num.natAbs/q.den<=q.den*(q.num.natAbs/q.den):=Nat.le_mul_of_pos_left _ (nA q);omega
theorem Sm.floor {x:Rat}{a:Nat}(hx:Sm x a):Sm (flQ x) a:=⟨eh (jAH (Ct x).1) hx.1,eh (jAH (Ct x).2) hx.2⟩
theorem Ju {x:Rat}(h:flZ x=(n:Int)):negB x=lL:=by
 unfold negB;rw[eL];intro b;(have a:0<(x.den:Int):=by have:=x.den_nz;omega);unfold flZ at h;have:=Int.ediv_neg_of_neg_of_pos b a;omega
theorem Jt {q:Rat}(hs:s.size<=300)(hq:Hid (xR s.data.toList=lJ q))(hnb:Hid (negB q=lL)):Calls prog 226 #[lC s] w fun e w'=>∃v,e=lF (lB #[v,kZ lK])/\Frac w' v q/\Below w.heap.size w w':=by
 have f:=i1 w #[kZ lL,kX lI 0 0,kX lI 0 0] 90;have b:=(eB _ w).alloc lR (lE #[kZ lL,kX lI 0 0,kX lI 0 0] 90);go_enter func226,ntmps226;go_wp2_with fail;obtain⟨p,r,t⟩:=uV hq hnb;refine(Cu hs p (r p) t).mono ?_;rintro J F o;obtain⟨v,rfl,⟨k,j,i,n,m,l,rfl,g,h⟩,c⟩:=o;have a:=f.ji c;have d:=et b c;obtain⟨E,B,G,C,H,D,I⟩:=a.w3 rfl;go_wp2;have Z:=a.jM (kZ (negB q)) (kX k j i) (kX n m l);obtain⟨u,x,y⟩:=Z.c3 rfl;unfold zy at u x y;have BB:=j8 d lR (kZ (negB q)) (kX k j i) (kX n m l);refine eG (v:=lB #[lA #[kZ (negB q),kX k j i,kX n m l],kZ lK]) (by simp[results,results226,go_sem,u,x,y]) rfl ⟨_,rfl,⟨k,j,i,n,m,l,rfl,?_,?_⟩,BB⟩
 ·exact(g.jM a (by decide) _ _ _)
 ·exact(h.jM a (by decide) _ _ _)
theorem Jv {q:Rat}(hq:Hid (xY s.data.toList=lJ q))(hnb:Hid (negB q=lL)):Calls prog 215 #[lC s] w fun e w'=>∃v,e=lF (lB #[v,kW lD 0])/\Frac w' v q/\Below w.heap.size w w':=by
 have l:=i1 w #[kZ lL,kX lI 0 0,kX lI 0 0] 90;have j:=(eB _ w).alloc lR (lE #[kZ lL,kX lI 0 0,kX lI 0 0] 90);go_enter func215,ntmps215;go_wp2_with fail;refine(Jt (rN hq).1 (rN hq).2 hnb).mono ?_;rintro I o ⟨v,rfl,⟨f,d,c,i,h,g,rfl,m,n⟩,k⟩;have a:=l.ji k;have b:=et j k;obtain⟨E,B,F,C,G,D,H⟩:=a.w3 rfl;go_wp2;have Z:=i7 (a.jM (kZ (negB q)) (kX f d c) (kX i h g)) (lE #[kZ (negB q),kX f d c,kX i h g] 90);obtain⟨u,x,y⟩:=Z.c3 rfl;unfold zy at u x y;have BB:=j8 b lR (kZ (negB q)) (kX f d c) (kX i h g);refine eG (v:=lB #[lA #[kZ (negB q),kX f d c,kX i h g],kW lD 0]) (by simp[results,results215,go_sem,u,x,y]) rfl ⟨_,rfl,⟨f,d,c,i,h,g,rfl,?_,?_⟩,BB.alloc BB.size _⟩
 ·exact(m.jM a (by decide) _ _ _).alloc _
 ·exact(n.jM a (by decide) _ _ _).alloc _
variable{a:ByteArray}
theorem Jp {x:Rat}(hx:Hid (xY a.data.toList=lJ x))(hnb:Hid (negB x=lL))(ht:Tab w):Calls prog 197 #[lC a] w fun e w'=>e=lF (lB #[lC ⟨(txt (flQ x)).toArray⟩,kW lD 0])/\Below w.heap.size w w':=by
 have U:=wL hx.out;have q:=hid ht;clear ht;go_enter func197,ntmps197;go_wp2_with fail;refine(Jv hx hnb).mono ?_;rintro e0 w0 ⟨v,rfl,⟨B,n,b,C,m,c,rfl,I,J⟩,F⟩;rw[hnb.out];(have b1:n<=300:=by have:=I.len;have:=U.1;omega);(have b2:m<=300:=by have:=J.len;have:=U.2;omega);have k:=hid F;have L:=hid (q.out.iP F);have O:=hid I;have P:=hid J;have SX:=hid U;clear F I J q U;have Q:=hid (i1 w0 #[kZ lL,kX B n b,kX C m c] 90);have s:=hid (O.out.alloc (lE #[kZ lL,kX B n b,kX C m c] 90));have t:=hid (P.out.alloc (lE #[kZ lL,kX B n b,kX C m c] 90));have N:=hid (L.out.iP (brf.alloc lR (lE #[kZ lL,kX B n b,kX C m c] 90)));go_wp2_with fail;refine(Ek s.out t.out (by omega) (by omega) hnb.out).mono ?_;rintro e2 w2 ⟨v2,rfl,⟨E,u,D,H,y,G,rfl,S,T⟩,i⟩;have g:=hid (Q.out.ji i);have A0:=eb i;have l:Hid (Below w.heap.size w w2):=et k.out A0;have M:=hid (N.out.iP i);obtain⟨aa,X,Y,Z⟩:=g.out.q3 rfl;have z:=hid S;have A:=hid T;clear i S T;clear aa X Y Z;have R:=hid (i1 w2 #[kZ (negB (flQ x)),kX E u D,kX H y G] 90);have d:=hid (z.out.alloc (lE #[kZ (negB (flQ x)),kX E u D,kX H y G] 90));have f:=hid (A.out.alloc (lE #[kZ (negB (flQ x)),kX E u D,kX H y G] 90));have r:=hid (M.out.iP (brf.alloc lR (lE #[kZ (negB (flQ x)),kX E u D,kX H y G] 90)));have SQ:=hid SX.out.floor;(have bg:u<=30000:=by have h5:=d.out.len;have:=SQ.out.1;omega);(have bh:y<=30000:=by have h5:=f.out.len;have:=SQ.out.2;omega);go_wp2_with fail;refine(uW d.out f.out bg bh r.out (r9 x hnb.out).1).mono ?_;rintro e3 w3 ⟨rfl,j⟩;have h:=hid (R.out.ji j);have A1:=eb j;have K:Hid (Below w.heap.size w w3):=et l.out A1;obtain⟨ah,ae,af,ag⟩:=h.out.q3 rfl;clear j;go_wp2;go_ret2;exact⟨rfl,K.out⟩
def PReadEnd (w w':lM)(e:Ending)(o:Option Rat):Prop:=
  match o with
  |none=>∃nb na nn nc oa on oc,e=lF (lB #[lA #[kZ nb,kX na nn nc,kX oa on oc],kZ lL])/\Below w.heap.size w w'
  |some q=>∃v,e=lF (lB #[v,kZ lK])/\PNv w' v (negB q) q.num.natAbs q.den/\Below w.heap.size w w'
theorem vp (h:zY l=lK)(hd:dv l=0):l=[48]:=by
 have:=Cl l h;rw[hd,mU (by omega)]at this;exact this.symm
theorem Ds (h:zY l=lK)(hd:dv l=1):l=[49]:=by
 have:=Cl l h;rw[hd,mU (by omega)]at this;exact this.symm
theorem beqT {a b:List UInt8}(h:a=b):(a == b)=lK:=jo.2 h
theorem beqF {a b:List UInt8}(h:¬ a=b):(a == b)=lL:=eg.2 h
theorem Ec (Y:Nat):xO 0 Y=lL:=by
 unfold xO;rw[Nat.gcd_zero_left];by_cases h:Y=1
 ·subst h;rfl
 ·rw[eg.2 h,Bool.and_false]
theorem A5 {X Y:Nat}(h:Y<=1):xO X Y=lL:=by unfold xO;rw[ee (by omega)];rfl
theorem Jr {q:Rat}(hts:t.size<=300)(h0:0<t.size)(hm:((t[0].toNat:Int) == 45)=lL)(hq:ym lL t.data.toList=lJ q):Calls prog 204 #[lC t] w fun e w'=>PReadEnd w w' e (lJ q):=by
 obtain⟨K,s⟩:∃K,zO t.data.toList=K:=⟨_,rfl⟩;have B:t.data.toList.length=t.size:=(by simp);(have d:K<=t.size:=by have:=vm t.data.toList;omega);unfold ym at hq;rw[s]at hq
 cases f:zY (t.data.toList.take K)with
 |false=>rw[f]at hq;cases hq
 | true=>
  rw[f,ed rfl]at hq;generalize l:dv (t.data.toList.take K)=X at hq;by_cases C:K=t.size
  ·(have o:((K:Int) == (t.size:Int))=lK:=by rw[jo];omega);by_cases g:X=0
   ·rw[ec (by simp[xj]),ed (by omega)]at hq;(injection hq with hq);rw[<-hq];(have k:t.toList=[48]:=by rw[ByteArray.toList_eq];rw[C,<-B,jt]at f l;exact vp f (by omega));have a:=nj lL X 1 (by omega) (Nat.gcd_one_right X) rfl;refine(Dp s hts d h0 hm o (by omega) f X l g k (beqT k)).mono ?_;rintro e w' ⟨v,rfl,b,m⟩;exact⟨v,rfl,by rw[a.1,a.2.1,a.2.2];exact b,m⟩
   ·(have c:xj lL X=lL:=by unfold xj;rw[eg.2 g,Bool.and_false]);rw[ec (by rw[c];simp),ed (by omega)]at hq;(injection hq with hq);rw[<-hq];have a:=nj lL X 1 (by omega) (Nat.gcd_one_right X) c;refine(Dw s hts d h0 hm o (by omega) f X l g).mono ?_;rintro e w' ⟨v,rfl,b,m⟩;exact⟨v,rfl,by rw[a.1,a.2.1,a.2.2];exact b,m⟩
  ·(have p:((K:Int) == (t.size:Int))=lL:=by rw[eg];omega);(have A:K<t.size:=by omega);rw[ec (show ¬ K=t.data.toList.length by omega)] at hq
   cases b:zY (t.data.toList.drop (K+1))with
   |false=>rw[b]at hq;simp at hq
   | true=>
    rw[b,ed rfl]at hq;generalize u:dv (t.data.toList.drop (K+1))=Y at hq;(have n:(t.extract (K+1) t.size).toList=t.data.toList.drop (K+1):=by rw[ByteArray.toList_eq];exact sr t (K+1));by_cases g:X=0
    ·rw[g,Ec]at hq;simp at hq
    ·(have c:xj lL X=lL:=by unfold xj;rw[eg.2 g,Bool.and_false]);rw[ec (by rw[c];simp)] at hq;by_cases y:t.data.toList.drop (K+1) = [48]
     ·(have D:Y=0:=by rw[<-u,y];rfl);rw[ec (by rw[A5 (by omega)];simp)]at hq;cases hq
     ·(have i:¬ (t.extract (K+1) t.size).toList = [48]:=by rw[n];exact y);by_cases z:t.data.toList.drop (K+1) = [49]
      ·(have D:Y=1:=by rw[<-u,z];rfl);rw[ec (by rw[A5 (by omega)];simp)]at hq;cases hq
      ·(have j:¬ (t.extract (K+1) t.size).toList=[49]:=by rw[n];exact z);(have r:Y≠0:=fun h=>y (vp b (by omega)));(have E:Y≠1:=fun h=>z (Ds b (by omega)));by_cases x:Nat.gcd X Y=1
       ·rw[ed (by unfold xO;rw[ei (by omega),x];rfl)]at hq;(injection hq with hq);rw[<-hq];have a:=nj lL X Y r x c;refine(CQ s hts d h0 hm p A f X l b Y u i (beqF i) j (beqF j) g r x).mono ?_;rintro e w' ⟨v,rfl,b,m⟩;exact⟨v,rfl,by rw[a.1,a.2.1,a.2.2];exact b,m⟩
       ·rw[ec (by unfold xO;rw[eg.2 x,Bool.and_false];simp)]at hq;cases hq
theorem Js {x:Rat}(hx:Hid (xY a.data.toList=lJ x))(hnb:Hid (negB x=lL)):Calls prog 186 #[lC a] w fun e w'=>e=lF (lB #[lC ⟨(txt (flQ x)).toArray⟩,kW lD 0])/\Below w.heap.size w w':=by
 have I:=hid (wL hx.out);go_enter func186,ntmps186;go_wp2_with fail;obtain⟨L,U,V⟩:=uV (rN hx.out).2 hnb.out;refine(Jr (rN hx.out).1 L (U L) V).mono ?_;clear L U V;rintro e0 M ⟨v,rfl,⟨y,n,c,z,m,d,rfl,s,t⟩,E⟩;rw[hnb.out];(have b1:n<=300:=by have:=s.len;have:=I.out.1;omega);(have b2:m<=300:=by have:=t.len;have:=I.out.2;omega);have h:=hid E;have A:=hid s;have B:=hid t;clear E s t;have D:=hid (i1 M #[kZ lL,kX y n c,kX z m d] 83);have j:=hid (A.out.alloc (lE #[kZ lL,kX y n c,kX z m d] 83));have k:=hid (B.out.alloc (lE #[kZ lL,kX y n c,kX z m d] 83));go_wp2_with fail;refine(oj j.out k.out (by omega) (by omega) x.den_nz).mono ?_;rintro e1 X ⟨u1,v1,rfl,⟨qo,W,qc,rfl,r,_⟩,⟨ro,rn,rc,rfl,F,_⟩,g⟩;have b:=hid (D.out.ji g);have A0:=eb g;have f:Hid (Below w.heap.size w X):=et h.out A0;obtain⟨ac,Z,ad,aa,ae,ab,af⟩:=b.out.w3 rfl;have C:=hid r;have S:=F.len;(have R:W<=300:=by rw[<-r.len];exact eh (jAH (iT _ _)) I.out.1);clear g r F;go_wp2_with fail;have Y:=b.out.drew.cell 0 _ rfl;go_region_held3 (fun w'=>lH w' ⟨M.heap.size,0,lI⟩=lJ (kZ lL)) (first|exact K|exact J|exact Y) (first|(go_at_call 40;refine(Cv (p:=x.num.natAbs/x.den) (q:=1) (C.out.drew.iP o.out) H.out (by omega) (by omega) (by omega)).mono ?_;rintro e9 w9 ⟨rfl,q⟩;have K:=(l.out.ji q).cell 0 _ rfl;have G:=hid q;clear q)|(go_at_call 35;refine(JN (x:=1) (by omega)).mono ?_;rintro e8 w8 ⟨v8,rfl,⟨oo,T,oc,rfl,u,_⟩,p⟩;have l:=hid (b.out.drew.ji p);have J:=l.out.cell 0 _ rfl;have Q:T<=300:=(by rw[<-u.len,mP];decide);have H:=hid u;have o:=hid p;clear p u));go_wp2;go_ret2;refine⟨?_,(f.out.drew.trans (o.out.mono f.out.size)).trans (G.out.mono (eh f.out.size o.out.size))⟩;have P:=r9 x hnb.out;have e:=uG (flQ x);rw[P.1,P.2,ui]at e;rw[<-e];rfl
end Go.Proofs.YtigokanoflkinaaGreatDoor
