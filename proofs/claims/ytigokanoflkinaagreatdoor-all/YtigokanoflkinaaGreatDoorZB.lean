/- WPrs, WPsP, WEx, FBW, joined. -/
import Derived.Test.YtigokanoflkinaaGreatDoorWRat
import Derived.Test.YtigokanoflkinaaGreatDoorMMath
import Derived.Laws.AppendOwnNone
set_option maxHeartbeats 2000000
set_option maxRecDepth 20000
namespace Go.Proofs.YtigokanoflkinaaGreatDoor
set_option linter.unusedSimpArgs false
set_option linter.unusedVariables false
open Go.RowKit Por Go.Proofs.Tryz
open Value renaming int->kW,slice->kX,bool->kZ,agg->lA,tuple->lB,string->lC
open IntKind renaming i64->lD
open Obj renaming cells->lE
open Ending renaming returned->lF
open World renaming cell?->lH,setCell->lG
open Option renaming none->lI,some->lJ
open Bool renaming true->lK,false->lL
open Go renaming World->lM,Value->lN
variable{l:List UInt8}{k:Nat}
theorem qF (hk:k<=l.length)(h1:(l.take k).all (fun c=>c != 47)=lK)(h2:k=l.length\/l[k]?=lJ 47):zO l=k:=by
 unfold zO
 have:l.takeWhile (fun c=>c != 47)=l.take k:=by
  induction l generalizing k with
  |nil=>simp
  | cons c l ih=>
   cases k with
   |zero=>
    rcases h2 with h2|h2
    ·simp at h2
    ·simp at h2;subst h2;rfl
   |succ k=>rw[List.take_succ_cons,List.all_cons,eJ]at h1;rw[List.takeWhile_cons,ed h1.1,List.take_succ_cons,ih (by simpa using hk) h1.2 (by simpa using h2)]
 rw[this,im];omega
variable{s:ByteArray}{w:lM}
theorem uX (hs:s.size<=100000):Calls prog 147 #[lC s] w fun e w'=>e=lF (kW lD (zO s.data.toList:Nat))/\w'=w:=by
 (have f:s.data.toList.length=s.size:=by simp);go_enter func147,ntmps147;go_wp2
 go_loop[3] (fun i=>∃k:Nat,k<=s.size/\i=kW lD k/\Hid ((s.data.toList.take k).all (fun c=>c != 47)=lK)) (fun i=>s.size-(intOf i).toNat)
 case atStart=>exact⟨0,ep _,rfl,rfl⟩
 case round=>
  obtain⟨k,l,rfl,b⟩:=hrel;by_cases d:k<s.size
  ·have h:=hid (ox s k d);by_cases a:s[k].toNat=47
   ·have j:((s[k].toNat:Int) == 47)=lK:=by rw[jo];omega
    have E:Hid (zO s.data.toList=k):=qF (by omega) b (.inr (by
     rw[en (by omega)]
     congr 1
     apply UInt8.toNat_inj.1
     exact a))
    go_wp2;go_ret;exact⟨by rw[E.out];rfl,rfl⟩
   ·(have j:((s[k].toNat:Int) == 47)=lL:=by rw[eg];omega);(have g:(s.data.toList.take (k+1)).all (fun c=>c != 47)=lK:=by show _=_;rw[h.out,List.all_append,b.out];(have:(s[k] != 47)=lK:=by rw[bne_iff_ne];intro e;apply a;rw[e];rfl);simp[this]);go_wp2;exact⟨⟨k+1,by omega,by go_num,g⟩,by simp[intOf];omega⟩
  ·(obtain rfl:k=s.size:=by omega);have E:=hid (qF (by omega) b (.inl f.symm));go_wp2;go_ret;exact⟨by rw[E.out];rfl,rfl⟩
variable{ao bo:Option Addr}{n capa m capb:Nat}
theorem Ja {x y:Nat}(h1:Row w ao n capa (zA x))(h2:Row w bo m capb (zA y))(b1:n<=30000)(b2:m<=30000)(hy:y<=1):Calls prog 150 #[lA #[kX ao n capa],lA #[kX bo m capb]] w fun e w'=>e=lF (kZ (xO x y))/\Below w.heap.size w w':=by
 obtain⟨C,Y,Z⟩:∃C:Int,C<=0/\(zQ (y:Int) ((1:Nat):Int)=C):=⟨_,by unfold zQ;split<;>(try split)<;>omega,rfl⟩;(have he:xO x y=lL:=by show _=_;unfold xO;rw[ee (by omega)];rfl);clear hy;obtain⟨T,U,N⟩:=boxes2 w #[kX ao n capa] #[kX bo m capb] 88 88;have A:=h2.iP N;have V:=h1.len;have W:=h2.len;clear h1 h2;go_enter func150,ntmps150;go_wp2_with fail;refine(oV).mono ?_;rintro e0 P ⟨v0,rfl,⟨h,f,g,rfl,s⟩,b⟩;have c:=T.ji b;have d:=U.ji b;have B:=A.iP b;have j:=et N b;obtain⟨M,J⟩:=c.q1 rfl;obtain⟨ltB,K⟩:=d.q1 rfl;have L:f=1:=s.len.symm.trans (by rw[mP];rfl);(have O:f<=1:=by omega);clear b L;have I:=i1 P #[kX h f g] 88;have l:=B.alloc (lE #[kX h f g] 88);have o:=s.alloc (lE #[kX h f g] 88);go_wp2_with fail;refine(mO l o (by omega) (by omega)).mono ?_;rintro e1 w1 ⟨rfl,a⟩;have A0:=eb a;have p:=c.ji A0;have q:=d.ji A0;have r:=I.ji a;have t:=et j A0;clear M J ltB K;obtain⟨M,J⟩:=p.q1 rfl;obtain⟨ltB,K⟩:=q.q1 rfl;obtain⟨aa,X⟩:=r.q1 rfl;rw[Z];clear a;go_wp2;go_ret;exact⟨by rw[he];rfl,t⟩
theorem Iz {x y:Nat}(h1:Row w ao n capa (zA x))(h2:Row w bo m capb (zA y))(b1:n<=30000)(b2:m<=30000)(hy:1<y):Calls prog 150 #[lA #[kX ao n capa],lA #[kX bo m capb]] w fun e w'=>e=lF (kZ (xO x y))/\Below w.heap.size w w':=by
 (have hc:zQ (y:Int) ((1:Nat):Int)=1:=by show _=_;unfold zQ;rw[ec (by omega),ec (by omega)]);obtain⟨D,hd⟩:∃D:Int,(zQ (Nat.gcd x y:Int) ((1:Nat):Int)=D):=⟨_,rfl⟩;(have ax:0<y:=by omega);(have he:xO x y=(D == 0):=by show _=_;unfold xO;rw[ei hy,<-hd,Bool.true_and];have hp:=jj x ax;rw[jz,jo,jo];unfold zQ;split<;>(try split)<;>omega);clear hy;obtain⟨c1,c2,c5⟩:=boxes2 w #[kX ao n capa] #[kX bo m capb] 88 88;have aa:=h1.iP c5;have ad:=h2.iP c5;have aE:=h1.len;have aF:=h2.len;clear h1 h2;go_enter func150,ntmps150;go_wp2_with fail;refine(oV).mono ?_;rintro e0 w0 ⟨v0,rfl,⟨A,j,z,rfl,U⟩,g⟩;have k:=c1.ji g;have p:=c2.ji g;have ab:=aa.iP g;have ae:=ad.iP g;have F:=et c5 g;obtain⟨h,d⟩:=k.q1 rfl;obtain⟨ltB,f⟩:=p.q1 rfl;have ay:j=1:=U.len.symm.trans (by rw[mP];rfl);(have az:j<=1:=by omega);clear g ay;have au:=i1 w0 #[kX A j z] 88;have K:=ae.alloc (lE #[kX A j z] 88);have M:=U.alloc (lE #[kX A j z] 88);go_wp2_with fail;refine(mO K M (by omega) (by omega)).mono ?_;rintro e1 w1 ⟨rfl,b⟩;have A0:=eb b;have l:=k.ji A0;have q:=p.ji A0;have s:=au.ji b;have O:=ab.iP A0;have P:=K.iP b;have ai:=M.iP b;have G:=et F A0;clear h d ltB f;obtain⟨h,d⟩:=l.q1 rfl;obtain⟨ltB,f⟩:=q.q1 rfl;obtain⟨C,B⟩:=s.q1 rfl;rw[hc];clear b;go_wp2_with fail;refine(B7 O P (by omega) (by omega)).mono ?_;rintro e2 w2 ⟨v2,rfl,⟨v,i,u,rfl,V⟩,c⟩;have o:=l.ji c;have r:=q.ji c;have t:=s.ji c;have aj:=ai.iP c;have H:=et G c;clear h d ltB f C B;obtain⟨h,d⟩:=o.q1 rfl;obtain⟨ltB,f⟩:=r.q1 rfl;obtain⟨C,B⟩:=t.q1 rfl;(have aG:i<=30000:=by have h5:=V.len;have h6:=@jAH (Nat.gcd x y) y (Nat.gcd_le_right x ax);omega);clear c;have ar:=i1 w2 #[kX v i u] 88;have N:=aj.alloc (lE #[kX v i u] 88);have L:=V.alloc (lE #[kX v i u] 88);go_wp2_with fail;refine(mO L N (by omega) (by omega)).mono ?_;rintro e3 w3 ⟨rfl,a⟩;have A1:=eb a;have Q:=o.ji A1;have R:=r.ji A1;have T:=t.ji A1;have S:=ar.ji a;have W:=et H A1;clear h d ltB f C B;obtain⟨h,d⟩:=Q.q1 rfl;obtain⟨ltB,f⟩:=R.q1 rfl;obtain⟨C,B⟩:=T.q1 rfl;obtain⟨aI,aH⟩:=S.q1 rfl;rw[hd];clear a;go_wp2;go_ret;exact⟨by rw[he];rfl,W⟩
theorem Cy {x y:Nat}(h1:Row w ao n capa (zA x))(h2:Row w bo m capb (zA y))(b1:n<=30000)(b2:m<=30000):Calls prog 150 #[lA #[kX ao n capa],lA #[kX bo m capb]] w fun e w'=>e=lF (kZ (xO x y))/\Below w.heap.size w w':=by
 by_cases a:y<=1
 ·exact Ja h1 h2 b1 b2 a
 ·exact Iz h1 h2 b1 b2 (by omega)
theorem pI (s:ByteArray)(k:Nat):(s.extract 0 k).data.toList=s.data.toList.take k:=by
 rw[Go.Lib.extract_data,jF,Nat.sub_zero]
theorem sr (s:ByteArray)(k:Nat):(s.extract k s.size).data.toList=s.data.toList.drop k:=by
 rw[Go.Lib.extract_data,ew (by simp)]
def ParseEnd (w w':lM)(e:Ending)(o:Option Rat):Prop:=
  match o with
  |none=>e=lF (lB #[lA #[kZ lL,kX lI 0 0,kX lI 0 0],kZ lL])/\Below w.heap.size w w'
  |some q=>∃v,e=lF (lB #[v,kZ lK])/\Frac w' v q/\Below w.heap.size w w'
theorem m7 (h:zY l=lK):(zA (dv l)).length<=l.length:=by
 refine lP (ez (qu l (mM h)) ?_);exact Nat.pow_le_pow_left (by omega) _
variable{t:ByteArray}{K:Nat}
theorem Dq (hK:zO t.data.toList=K)(hts:t.size<=300)(hKt:K<=t.size)(h0:0<t.size)(hm:((t[0].toNat:Int) == 45)=lL)(X:Nat)(hw:Hid (zY (t.data.toList.take K)=lK))(hX:Hid (dv (t.data.toList.take K)=X))(hne:((K:Int) == (t.size:Int))=lL)(hlt:K<t.size)(Y:Nat)(hv:Hid (zY (t.data.toList.drop (K+1))=lK))(hY:Hid (dv (t.data.toList.drop (K+1))=Y))(hl:Hid (xO X Y=lK))(q:Rat)(hq:Hid (q.num.natAbs=X/\q.den=Y/\negB q=lL)):Calls prog 96 #[lC t] w fun e w'=>∃v,e=lF (lB #[v,kZ lK])/\Frac w' v q/\Below w.heap.size w w':=by
 have ae:=sr t (K+1);(have ak:(t.extract (K+1) t.size).size<=300:=by rw[jp];omega);have b:=i1 w #[kZ lL,kX lI 0 0,kX lI 0 0] 90;have B:=(eB _ w).alloc lR (lE #[kZ lL,kX lI 0 0,kX lI 0 0] 90);have af:=pI t K;(have al:(t.extract 0 K).size<=300:=by rw[jp];omega);go_enter func96,ntmps96;go_wp2_with fail;refine(uX (by omega)).mono ?_;rintro e wz ⟨rfl,rfl⟩;rw[hK];obtain⟨j,g,k,h,l,i,m⟩:=b.w3 rfl;go_wp2_with fail;refine(sk (by omega) (by rw[af];exact hw)).mono ?_;rintro e0 w0 ⟨v0,rfl,⟨A,u,z,rfl,x⟩,L⟩;have c:=b.ji L;have C:=et B L;clear j g k h l i m;obtain⟨j,g,k,h,l,i,m⟩:=c.w3 rfl;rw[af,hX]at x;(have ah:u<=300:=by have h5:=x.len;have h6:=m7 hw;rw[hX]at h6;have h7:(t.data.toList.take K).length<=K:=List.length_take_le _ _;omega);clear L;have aa:=i1 w0 #[kX A u z] 88;go_wp2_with fail;refine(sk (by omega) (by rw[ae];exact hv)).mono ?_;rintro e1 w1 ⟨v1,rfl,⟨s,n,r,rfl,y⟩,p⟩;have A0:=eb p;have d:=c.ji A0;have o:=aa.ji p;have R:=x.iP A0;have D:=et C A0;clear j g k h l i m;obtain⟨j,g,k,h,l,i,m⟩:=d.w3 rfl;obtain⟨ag,ad⟩:=o.q1 rfl;rw[ae,hY]at y;(have ai:n<=300:=by have h5:=y.len;have h6:=m7 hv;rw[hY,iC]at h6;have h7:t.data.toList.length=t.size:=(by simp);omega);clear p;have ac:=i1 w1 #[kX s n r] 88;have G:=R.alloc (lE #[kX s n r] 88);have H:=y.alloc (lE #[kX s n r] 88);go_wp2_with fail;refine(Cy G H (by omega) (by omega)).mono ?_;rintro e2 w2 ⟨rfl,f⟩;have A1:=eb f;have a:=d.ji A1;have I:=o.ji A1;have J:=ac.ji f;have S:=G.iP f;have U:=H.iP f;have M:=et D A1;clear j g k h l i m ag ad;obtain⟨j,g,k,h,l,i,m⟩:=a.w3 rfl;obtain⟨ag,ad⟩:=I.q1 rfl;obtain⟨am,aj⟩:=J.q1 rfl;rw[hl];clear f;go_wp2;have Z:=a.jM (kZ lL) (kX A u z) (kX s n r);obtain⟨z0,z1,z2⟩:=Z.c3 rfl;unfold zy at z0 z1 z2;refine eG (v:=lB #[lA #[kZ lL,kX A u z,kX s n r],kZ lK]) (by simp[results,results96,go_sem,z0,z1,z2]) rfl ⟨_,rfl,⟨A,u,z,s,n,r,?_,?_,?_⟩,j8 M lR _ _ _⟩
 ·rw[hq.2.2]
 ·rw[hq.1];exact S.jM a (by decide) _ _ _
 ·rw[hq.2.1];exact U.jM a (by decide) _ _ _
theorem Dv (hK:zO t.data.toList=K)(hts:t.size<=300)(hKt:K<=t.size)(h0:0<t.size)(hm:((t[0].toNat:Int) == 45)=lL)(X:Nat)(hw:Hid (zY (t.data.toList.take K)=lK))(hX:Hid (dv (t.data.toList.take K)=X))(heq:((K:Int) == (t.size:Int))=lK)(q:Rat)(hq:Hid (q.num.natAbs=X/\q.den=1/\negB q=lL)):Calls prog 96 #[lC t] w fun e w'=>∃v,e=lF (lB #[v,kZ lK])/\Frac w' v q/\Below w.heap.size w w':=by
 have c:=hid (i1 w #[kZ lL,kX lI 0 0,kX lI 0 0] 90);have l:=hid ((eB _ w).alloc lR (lE #[kZ lL,kX lI 0 0,kX lI 0 0] 90));have S:=hid hK;clear hK;have A:=pI t K;have r:=hid A;clear A;(have Y:(t.extract 0 K).size<=300:=by rw[jp];omega);go_enter func96,ntmps96;go_wp2_with fail;refine(uX (by omega)).mono ?_;rintro e wz ⟨rfl,rfl⟩;rw[S.out];obtain⟨B,u,D,x,E,y,F⟩:=c.w3 rfl;go_wp2_with fail;refine(sk (by omega) (by rw[r.out];exact hw)).mono ?_;rintro e0 C ⟨v0,rfl,⟨j,h,i,rfl,k⟩,p⟩;have b:=hid (c.ji p);have m:=hid (et l p);clear B u D x E y F;obtain⟨B,u,D,x,E,y,F⟩:=b.w3 rfl;rw[r.out,hX.out]at k;have s:=hid k;(have O:h<=300:=by have h5:=k.len;have U:=m7 hw;rw[hX.out]at U;have h7:(t.data.toList.take K).length<=K:=List.length_take_le _ _;omega);clear p k;have a:=hid (i7 b (lE #[kX j h i] 88));have g:=hid (i1 C #[kX j h i] 88);have n:=hid (s.alloc (lE #[kX j h i] 88));have f:=hid (m.alloc m.size (lE #[kX j h i] 88));have W:=b.lt;go_wp2_with fail;obtain⟨V,M⟩:∃V,V=(C.alloc (lE #[kX j h i] 88)):=⟨_,rfl⟩;rw[<-M]at a g n f ⊢;have T:=g.cell 0 _ rfl;obtain⟨_,r0,f0,r1,f1,r2,f2⟩:=a.w3 rfl;clear M;go_region_held3 (fun w'=>lH w' ⟨C.heap.size,0,lI⟩=lJ (kX j h i)) (first|exact N|exact T|exact(oU (by omega)).trans N) (first|(go_at_call 110;refine(oV).mono ?_;rintro e w4 ⟨v,rfl,⟨L,J,I,rfl,z⟩,d⟩;have N:=(g.drew.ji d).cell 0 _ rfl;have m0:=(a.drew.ji d).cell 0 _ rfl;have m1:=(a.drew.ji d).cell 1 _ rfl;have m2:=(a.drew.ji d).cell 2 _ rfl;have j0:=(a.drew.ji d).frozen 0;have j1:=(a.drew.ji d).frozen 1;have j2:=(a.drew.ji d).frozen 2;have o:=hid d;have G:=hid z;clear d z));go_wp2;have H:=a.drew.ji o;have Z:=H.jM (kZ lL) (kX j h i) (kX L J I);obtain⟨P,Q,R⟩:=Z.c3 rfl;unfold zy at P Q R;refine eG (v:=lB #[lA #[kZ lL,kX j h i,kX L J I],kZ lK]) (by simp[results,results96,go_sem,P,Q,R]) rfl ⟨_,rfl,⟨j,h,i,L,J,I,?_,?_,?_⟩,j8 (f.drew.trans (o.mono f.size)) lR _ _ _⟩
 ·rw[hq.out.2.2]
 ·rw[hq.out.1];exact(n.drew.iP o).jM H (by decide) _ _ _
 ·rw[hq.out.2.1];exact G.jM H (by decide) _ _ _
variable{q:Rat}
theorem Jq {m:Bool}(h:ym m l=lJ q):negB q=m:=by
 unfold ym at h;split at h
 ·split at h
  ·cases h
  ·rename_i c;(have a:xj m (dv (l.take (zO l)))=lL:=by simpa using c);split at h
   ·injection h with h;rw[<-h];exact(nj m _ 1 (by omega) (Nat.gcd_one_right _) a).2.2
   ·split at h
    ·split at h
     ·rename_i b;unfold xO at b;simp only[eJ,eN,jo]at b;injection h with h;rw[<-h];exact(nj m _ _ (by omega) b.2 a).2.2
     ·cases h
    ·cases h
 ·cases h
theorem uV (hq:xR s.data.toList=lJ q)(hn:negB q=lL):0<s.size/\(∀h:0<s.size,((s[0].toNat:Int) == 45)=lL)/\ym lL s.data.toList=lJ q:=by
 unfold xR at hq;split at hq
 ·have:=Jq hq;rw[hn]at this;cases this
 ·rename_i b
  have a:0<s.size:=by
   by_cases h:s.size=0
   ·have e:s.data.toList=[]:=iY (by simpa using h);rw[e]at hq;simp[ym,zY,zO]at hq
   ·omega
  refine⟨a,fun _=>?_,hq⟩;rw[eg];intro c;apply b;rw[List.head?_eq_getElem?,en (by simpa using a)];(have e:s[0]=45:=by apply UInt8.toNat_inj.1;have e:(45:UInt8).toNat=45:=rfl;omega);exact congrArg lJ e
theorem Jw {n:Int}(h:0<=n):negB (n:Rat)=lL:=by
 unfold negB;rw[jq];exact ee (by omega)
theorem Cu (hts:t.size<=300)(h0:0<t.size)(hm:((t[0].toNat:Int) == 45)=lL)(hq:ym lL t.data.toList=lJ q):Calls prog 96 #[lC t] w fun e w'=>ParseEnd w w' e (lJ q):=by
 obtain⟨K,f⟩:∃K,zO t.data.toList=K:=⟨_,rfl⟩;(have b:K<=t.size:=by have:=vm t.data.toList;have e:t.data.toList.length=t.size:=(by simp);omega);have n:t.data.toList.length=t.size:=(by simp);unfold ym at hq;rw[f]at hq
 cases d:zY (t.data.toList.take K)with
 |false=>rw[d]at hq;cases hq
 | true=>
  rw[d,ed rfl]at hq;generalize g:dv (t.data.toList.take K)=X at hq;have a:xj lL X=lL:=rfl;rw[ec (by rw[a];simp)]at hq;by_cases l:K=t.data.toList.length
  ·rw[ed l]at hq;(injection hq with hq);rw[<-hq];exact Dv f hts b h0 hm X d g (by rw[jo];omega) _ (nj lL X 1 (by omega) (Nat.gcd_one_right X) a)
  ·rw[ec l]at hq;(have h:K<t.size:=by omega);have i:((K:Int) == (t.size:Int))=lL:=by rw[eg];omega
   cases j:zY (t.data.toList.drop (K+1))with
   |false=>rw[j]at hq;cases hq
   |true=>
    rw[j,ed rfl]at hq;generalize k:dv (t.data.toList.drop (K+1))=Y at hq
    cases c:xO X Y with
    |false=>rw[c]at hq;cases hq
    |true=>rw[c,ed rfl]at hq;(injection hq with hq);rw[<-hq];(have m:1<Y/\Nat.gcd X Y=1:=by unfold xO at c;simpa using c);exact Dq f hts b h0 hm X d g i h Y j k c _ (nj lL X Y (by omega) m.2 a)
def Sm (q:Rat)(L:Nat):Prop:=(zA q.num.natAbs).length<=L/\(zA q.den).length<=L
theorem vO {neg:Bool}{t:List UInt8}(h:ym neg t=lJ q)(ht:t.length<=300):Sm q 300:=by
 unfold ym at h
 cases f:zY (t.take (zO t))with
 |false=>rw[f,ec (by simp)]at h;cases h
 | true=>
  rw[f,ed rfl]at h;have l:=m7 f;have k:(t.take (zO t)).length<=t.length:=List.length_take_le' _ _
  cases b:xj neg (dv (t.take (zO t)))with
  |true=>rw[b,ed rfl]at h;cases h
  | false=>
   rw[b,ec (by simp)]at h;by_cases g:zO t=t.length
   ·rw[ed g]at h
    cases h
    obtain⟨c,d,_⟩:=nj neg (dv (t.take (zO t))) 1 (by omega) (Nat.gcd_one_right _) b;refine⟨by rw[c];omega,by rw[d,mP];decide⟩
   ·rw[ec g]at h
    cases e:zY (t.drop (zO t+1))with
    |false=>rw[e,ec (by simp)]at h;cases h
    | true=>
     rw[e,ed rfl]at h;have i:=m7 e;rw[iC]at i
     cases a:xO (dv (t.take (zO t))) (dv (t.drop (zO t+1)))with
     |false=>rw[a,ec (by simp)]at h;cases h
     |true=>
      rw[a,ed rfl]at h
      cases h
      (have j:1<dv (t.drop (zO t+1))/\Nat.gcd (dv (t.take (zO t))) (dv (t.drop (zO t+1)))=1:=by unfold xO at a;simpa using a);obtain⟨c,d,_⟩:=nj neg _ _ (by omega) j.2 b;refine⟨by rw[c];omega,by rw[d];omega⟩
theorem wL (h:xY l=lJ q):Sm q 300:=by
 unfold xY at h;by_cases a:l.length<=300
 ·rw[ed a]at h;unfold xR at h;by_cases b:l.head?=lJ 45
  ·rw[ed b]at h;exact vO h (by rw[List.length_tail];omega)
  ·rw[ec b]at h;exact vO h a
 ·rw[ec a]at h;cases h
theorem rN (h:xY s.data.toList=lJ q):s.size<=300/\xR s.data.toList=lJ q:=by
 unfold xY at h;have e:s.data.toList.length=s.size:=(by simp);by_cases a:s.data.toList.length<=300
 ·rw[ed a]at h;exact⟨by omega,h⟩
 ·rw[ec a]at h;cases h
theorem Ew {n:Int}(h0:0<=n)(h1:n<=9223372036854775807)(w:lM)(ht:Tab w)(hs:Hid ((⟨(Go.Lib.itoa n).toArray⟩:ByteArray).size<=300))(hq:Hid (xR (⟨(Go.Lib.itoa n).toArray⟩:ByteArray).data.toList=lJ (n:Rat))):Calls prog 46 #[kW lD n] w fun e w'=>∃v,e=lF v/\Frac w' v (n:Rat)/\Below w.heap.size w w':=by
 have Q:=ht.iP ((eB _ w).alloc lR (lE #[kZ lL,kX lI 0 0,kX lI 0 0] 90));have p:=i1 w #[kZ lL,kX lI 0 0,kX lI 0 0] 90;have k:=(eB _ w).alloc lR (lE #[kZ lL,kX lI 0 0,kX lI 0 0] 90);go_enter func46,ntmps46;go_wp2_with fail;refine(Bb (by omega) h1 _ Q).mono ?_;rintro T S ⟨rfl,m⟩;have b:=p.ji m;have l:=et k m;obtain⟨z,r,A,t,B,u,C⟩:=b.w3 rfl;go_wp2_with fail;obtain⟨E,J,K⟩:=uV (s:=⟨(Go.Lib.itoa n).toArray⟩) (q:=(n:Rat)) (by have R:=hq.out;simpa using R) (Jw h0);refine(Cu hs E (J E) K).mono ?_;rintro U F D;obtain⟨v,rfl,⟨g,f,d,j,i,h,rfl,x,y⟩,o⟩:=D;have a:=b.ji o;have c:=et l o;obtain⟨z,r,A,t,B,u,C⟩:=a.w3 rfl;go_wp2;have Z:=i7 (a.jM (kZ (negB (n:Rat))) (kX g f d) (kX j i h)) (lE #[kZ (negB (n:Rat)),kX g f d,kX j i h] 90);obtain⟨L,M,N⟩:=Z.c3 rfl;unfold zy at L M N;have BB:=j8 c lR (kZ (negB (n:Rat))) (kX g f d) (kX j i h);refine eG (v:=lA #[kZ (negB (n:Rat)),kX g f d,kX j i h]) (by simp[results,results46,go_sem,L,M,N]) rfl ⟨_,rfl,⟨g,f,d,j,i,h,rfl,?_,?_⟩,BB.alloc BB.size _⟩
 ·exact(x.jM a (by decide) _ _ _).alloc _
 ·exact(y.jM a (by decide) _ _ _).alloc _
theorem mx {n:Int}(h0:0<=n)(h1:n<=9223372036854775807)(w:lM)(ht:Tab w):Calls prog 46 #[kW lD n] w fun e w'=>∃v,e=lF v/\Frac w' v (n:Rat)/\Below w.heap.size w w':=by
 have a:=(Dg.int n (by omega) h1).txt (by decide);rw[uA]at a;refine Ew h0 h1 w ht ?_ ?_
 ·show(Go.Lib.itoa n).toArray.size<=300;rw[List.size_toArray];omega
 ·show xR (Go.Lib.itoa n).toArray.toList=lJ (n:Rat);rw[List.toList_toArray,<-uA];exact wR _
theorem tO (n:Int)(d:Nat)(hd:d≠0):(zA (mkRat n d).num.natAbs).length<=(zA n.natAbs).length/\(zA (mkRat n d).den).length<=(zA d).length:=by
 (have e:mkRat n d=Rat.normalize n d hd:=by unfold mkRat;rw[dif_neg hd]);rw[e,Rat.normalize_eq];constructor
 ·apply jAH;show(n/((n.natAbs.gcd d:Nat):Int)).natAbs<=n.natAbs;exact Int.natAbs_ediv_le_natAbs _ _
 ·apply jAH;exact iT _ _
variable{a b:Nat}
theorem Sm.mono (h:Sm q a)(hab:a<=b):Sm q b:=⟨eh h.1 hab,eh h.2 hab⟩
variable{x y:Rat}
theorem Sm.add (hx:Sm x a)(hy:Sm y b):Sm (x+y) (a+b+1):=by
 rw[qp];obtain⟨g,h⟩:=tO (sg (negB x) (x.num.natAbs*y.den)+sg (negB y) (y.num.natAbs*x.den)) (x.den*y.den) (jk x.den_nz y.den_nz);have i:=JE x.num.natAbs y.den;have j:=JE y.num.natAbs x.den;have k:=JE x.den y.den
 have l:(zA (sg (negB x) (x.num.natAbs*y.den)+sg (negB y) (y.num.natAbs*x.den)).natAbs).length<=(zA (x.num.natAbs*y.den+y.num.natAbs*x.den)).length:=by
  apply jAH;have:=Int.natAbs_add_le (sg (negB x) (x.num.natAbs*y.den)) (sg (negB y) (y.num.natAbs*x.den))
  rwa[mK,mK]at this
 have m:=uy (x.num.natAbs*y.den) (y.num.natAbs*x.den);obtain⟨c,d⟩:=hx;obtain⟨e,f⟩:=hy;exact⟨by omega,by omega⟩
theorem Sm.neg (hx:Sm x a):Sm (-x) a:=by
 have b:(-x).num = -x.num:=rfl;have c:(-x).den=x.den:=rfl;unfold Sm;rw[b,c,Int.natAbs_neg];exact hx
theorem Sm.sub (hx:Sm x a)(hy:Sm y b):Sm (x-y) (a+b+1):=by rw[Rat.sub_eq_add_neg];exact hx.add hy.neg
theorem Sm.mul (hx:Sm x a)(hy:Sm y b):Sm (x*y) (a+b):=by
 rw[uE];obtain⟨c,h⟩:=tO (sg (negB x != negB y) (x.num.natAbs*y.num.natAbs)) (x.den*y.den) (jk x.den_nz y.den_nz);rw[mK]at c;have i:=JE x.num.natAbs y.num.natAbs;have j:=JE x.den y.den;obtain⟨d,e⟩:=hx;obtain⟨f,g⟩:=hy;exact⟨by omega,by omega⟩
theorem Sm.div (hx:Sm x a)(hy:Sm y b)(h0:y≠0):Sm (x/y) (a+b):=by
 rw[uH x y h0];obtain⟨c,i⟩:=tO (sg (negB x != negB y) (x.num.natAbs*y.den)) (x.den*y.num.natAbs) (jk x.den_nz (fun h=>h0 ((rL y).1 h)));rw[mK]at c;have j:=JE x.num.natAbs y.den;have k:=JE x.den y.num.natAbs;obtain⟨d,e⟩:=hx;obtain⟨f,g⟩:=hy;exact⟨by omega,by omega⟩
structure Arr (w:lM)(k:Nat)(ao:Option Addr)(n cap:Nat)(vs:List lN):Prop where
  len:vs.length=n
  le:n<=cap
  cm:cap<=maxLen
  head:0<n->∃b o,ao=lJ ⟨b,o,lI⟩/\b<w.heap.size
  cell:∀b o,ao=lJ ⟨b,o,lI⟩->∀i v,vs[i]?=lJ v->∀j u,v.cells[j]?=lJ u->lH w ⟨b,o+(i*k+j),lI⟩=lJ u
variable{w':lM}{vs:List lN}
theorem Arr.iP {cap:Nat}(h:Arr w k ao n cap vs)(hb:Below w.heap.size w w'):Arr w' k ao n cap vs:=by
 refine⟨h.len,h.le,h.cm,fun hn=>?_,fun b o e i v hv j u hu=>?_⟩
 ·obtain⟨b,o,e,a⟩:=h.head hn;exact⟨b,o,e,jl hb a⟩
 ·have g:=(eA.1 hv).1;have d:=h.len;obtain⟨f,l,c,a⟩:=h.head (by omega);rw[e]at c;cases c;exact(qs hb (h.cell b o e i v hv j u hu) a)
theorem Arr.nil (w:lM)(k:Nat):Arr w k lI 0 0 []:=⟨rfl,lR,ep _,fun h=>by omega,fun b o e=>(by cases e)⟩
def zi (xs:List Int):List lN:=xs.map (Value.int lD)
variable{i:Nat}
theorem pq (xs:List Int)(h:i<xs.length):(zi xs)[i]?=lJ (kW lD (lm xs i)):=by
 unfold zi lm;rw[eD,en h,ej,en h];rfl
theorem j9 (xs:List Int):(zi xs).length=xs.length:=by simp[zi]
variable{xs:List Int}{o:Nat}
theorem Arr.int {cap:Nat}(h:Arr w 1 ao n cap (zi xs))(e:ao=lJ ⟨b,o,lI⟩)(hi:i<n):lH w ⟨b,o+i,lI⟩=lJ (kW lD (lm xs i)):=by
 have a:=h.len;rw[j9]at a;have:=h.cell b o e i _ (pq xs (by omega)) 0 (kW lD (lm xs i)) rfl
 simpa using this
structure Usr where
  dem:List Int
  wt:Int
  cap:Int
def UsrV (w:lM)(v:lN)(u:Usr):Prop:=∃ao n cap,v=lA #[kX ao n cap,kW lD u.wt,kW lD u.cap]/\Arr w 1 ao n cap (zi u.dem)
variable{v:lN}{u:Usr}
theorem UsrV.iP (h:UsrV w v u)(hb:Below w.heap.size w w'):UsrV w' v u:=by
 obtain⟨b,n,a,e,h⟩:=h;exact⟨b,n,a,e,h.iP hb⟩
def ug (us:List Usr)(i:Nat):Usr:=us.getD i ⟨[],0,0⟩
def Users (w:lM)(ao:Option Addr)(n cap:Nat)(us:List Usr):Prop:=us.length=n/\∃vs,Arr w 3 ao n cap vs/\∀i v,vs[i]?=lJ v->UsrV w v (ug us i)
variable{us:List Usr}
theorem Users.iP {cap:Nat}(h:Users w ao n cap us)(hb:Below w.heap.size w w'):Users w' ao n cap us:=by
 obtain⟨a,d,b,c⟩:=h;exact⟨a,d,b.iP hb,fun i v hv=>(c i v hv).iP hb⟩
theorem Users.get {cap:Nat}(h:Users w ao n cap us)(hi:i<n):∃b o da dn dc,ao=lJ ⟨b,o,lI⟩/\b<w.heap.size/\lH w ⟨b,o+i*3,lI⟩=lJ (kX da dn dc)/\lH w ⟨b,o+i*3+1,lI⟩=lJ (kW lD (ug us i).wt)/\lH w ⟨b,o+i*3+2,lI⟩=lJ (kW lD (ug us i).cap)/\Arr w 1 da dn dc (zi (ug us i).dem):=by
 obtain⟨l,g,a,j⟩:=h;have m:=a.len;obtain⟨b,o,e,f⟩:=a.head (by omega);have c:g[i]?=lJ g[i]:=en (by omega);obtain⟨da,dn,dc,d,k⟩:=j i _ c;refine⟨b,o,da,dn,dc,e,f,?_,?_,?_,k⟩
 ·have:=a.cell b o e i _ c 0 (kX da dn dc) (by rw[d];rfl)
  simpa using this
 ·have:=a.cell b o e i _ c 1 (kW lD (ug us i).wt) (by rw[d];rfl)
  rwa[<-hJ]at this
 ·have:=a.cell b o e i _ c 2 (kW lD (ug us i).cap) (by rw[d];rfl)
  rwa[<-hJ]at this
def yG (x:Int):Bool:=decide (0<=x/\x<=10000)
def yw (xs:List Int):Bool:=xs.all yG
def xL (xs:List Int):Bool:=decide (1<=xs.length/\xs.length<=4)&&yw xs
def xS (xs:List Int):Bool:=xs.any (fun x=>decide (0<x))
def yY (k:Nat)(u:Usr):Bool:=decide (u.dem.length=k)&&decide (1<=u.wt/\u.wt<=100/\0<=u.cap/\u.cap<=1000)&&yw u.dem&&xS u.dem
def zr (pool:List Int)(us:List Usr):Int:=if xL pool=lL then 3 else if 6<us.length then 4 else if us.all (yY pool.length)=lL then 4 else 0
theorem pN {α:Type}(p:α->Bool)(xs:List α)(h:i<xs.length):(xs.take (i+1)).all p=((xs.take i).all p&&p xs[i]):=by
 rw[iO h,List.all_append];simp
theorem vz {α:Type}(p:α->Bool)(xs:List α)(h:i<xs.length):(xs.take (i+1)).any p=((xs.take i).any p||p xs[i]):=by
 rw[iO h,List.any_append];simp
theorem qm (xs:List Int)(h:i<xs.length):xs[i]=lm xs i:=by
 unfold lm;rw[ej,en h];rfl
theorem uQ (us:List Usr)(h:i<us.length):us[i]=ug us i:=by
 unfold ug;rw[ej,en h];rfl
theorem nK {α:Type}(p:α->Bool)(xs:List α)(h:i<xs.length)(hp:p xs[i]=lL):xs.all p=lL:=by
 rw[List.all_eq_false];exact⟨xs[i],ij h,by simp[hp]⟩
theorem DQ {α:Type}(p:α->Bool)(xs:List α)(h:i<xs.length)(hp:p xs[i]=lK):xs.any p=lK:=by
 rw[List.any_eq_true];exact⟨xs[i],ij h,hp⟩
def uptB (m x:Int):Bool:=decide (0<=x/\x<=m)
def xE (lo hi k:Int):Bool:=decide (lo<=k/\k<=hi)
variable{lo hi:Int}
theorem oA {k:Int}(h:lo<=k/\k<=hi):xE lo hi k=lK:=ei h
theorem nC {k:Int}(h:¬ (lo<=k/\k<=hi)):xE lo hi k=lL:=ee h
def uptsB (m:Int)(xs:List Int):Bool:=xs.all (uptB m)
theorem wU (xs:List Int):uptsB 10000 xs=yw xs:=rfl
theorem sN {cap:Nat}{m:Int}(hr:Arr w 1 ao n cap (zi xs)):Calls prog 91 #[kX ao n cap,kW lD m] w fun e w'=>e=lF (kZ (uptsB m xs))/\w'=w:=by
 have d:=hr.len;rw[j9]at d;have r:=hr.le;have g:=hr.cm;unfold maxLen at g;go_enter func91,ntmps91;go_wp2
 go_loop[9] (fun i=>∃k:Nat,k<=n/\i=kW lD k/\Hid ((xs.take k).all (uptB m)=lK)) (fun i=>n-(intOf i).toNat)
 case atStart=>exact⟨0,ep _,rfl,rfl⟩
 case round=>
  obtain⟨k,v,rfl,p⟩:=hrel;by_cases h:k<n
  ·obtain⟨b,o,rfl,u⟩:=hr.head (by omega);have q:=hr.int rfl h;have j:=hid (pN (uptB m) xs (i:=k) (by omega));have a:=hid (qm xs (i:=k) (by omega));generalize hx:lm xs k=x at q;have f:=hid hx;clear hx;by_cases s:x<0
   ·have E:uptsB m xs=lL:=nK (uptB m) xs (i:=k) (by omega) (by rw[a.out,f.out];unfold uptB;rw[eL];omega);have c:=hid E;clear E;go_wp2;go_ret;exact⟨by rw[c.out];rfl,rfl⟩
   ·by_cases t:m<x
    ·have E:uptsB m xs=lL:=nK (uptB m) xs (i:=k) (by omega) (by rw[a.out,f.out];unfold uptB;rw[eL];omega);have c:=hid E;clear E;go_wp2;go_ret;exact⟨by rw[c.out];rfl,rfl⟩
    ·(have E:uptB m x=lK:=by unfold uptB;rw[eN];omega);have c:=hid E;clear E;go_wp2;exact⟨⟨k+1,by omega,by go_num,by rw[Hid,j.out,p.out,a.out,f.out,c.out];rfl⟩,by simp[intOf];omega⟩
  ·obtain rfl:k=n:=by omega
   have E:uptsB m xs=lK:=by
    have:=p.out
    rwa[ew (by omega)]at this
   have c:=hid E;clear E;go_wp2;go_ret;exact⟨by rw[c.out];rfl,rfl⟩
theorem C9 {cap:Nat}(hr:Arr w 1 ao n cap (zi u.dem)):Calls prog 94 #[lA #[kX ao n cap,kW lD u.wt,kW lD u.cap]] w fun e w'=>e=lF (kZ (xS u.dem))/\Below w.heap.size w w':=by
 have d:=hr.len;rw[j9]at d;have s:=hr.le;have f:=hr.cm;unfold maxLen at f;have hB:=(eB _ w).alloc lR (lE #[kX ao n cap,kW lD u.wt,kW lD u.cap] 56);have l:=hr.iP hB;clear hr;go_enter func94,ntmps94;go_wp2
 go_loop[8] (fun i=>∃k:Nat,k<=n/\i=kW lD k/\Hid ((u.dem.take k).any (fun x=>decide (0<x))=lL)) (fun i=>n-(intOf i).toNat)
 case atStart=>exact⟨0,ep _,rfl,rfl⟩
 case round=>
  obtain⟨k,v,rfl,q⟩:=hrel;by_cases g:k<n
  ·obtain⟨b,o,rfl,t⟩:=l.head (by omega);have r:=l.int rfl g;have h:=hid (vz (fun x=>decide (0<x)) u.dem (i:=k) (by omega));have a:=hid (qm u.dem (i:=k) (by omega));generalize hx:lm u.dem k=x at r;have m:=hid hx;clear hx;by_cases p:0<x
   ·have E:xS u.dem=lK:=DQ _ u.dem (i:=k) (by omega) (by rw[a.out,m.out];exact ei p);have c:=hid E;clear E;go_wp2;go_ret;exact⟨by rw[c.out];rfl,hB⟩
   ·have E:=ee p;have c:=hid E;clear E;go_wp2;exact⟨⟨k+1,by omega,by go_num,by rw[Hid,h.out,q.out,a.out,m.out,c.out];rfl⟩,by simp[intOf];omega⟩
  ·obtain rfl:k=n:=by omega
   have E:xS u.dem=lL:=by
    have:=q.out
    rwa[ew (by omega)]at this
   have c:=hid E;clear E;go_wp2;go_ret;exact⟨by rw[c.out];rfl,hB⟩
theorem wA {k:Int}:Calls prog 58 #[kW lD k] w fun e w'=>e=lF (kZ (xE 1 4 k))/\w'=w:=by
 by_cases a:1<=k
 ·by_cases b:k<=4
  ·have E:=hid (oA (lo:=1) (hi:=4) (k:=k) ⟨a,b⟩);go_enter func58,ntmps58;go_wp2;go_ret;exact⟨by rw[E.out];rfl,rfl⟩
  ·have E:=hid (nC (lo:=1) (hi:=4) (k:=k) (by omega));go_enter func58,ntmps58;go_wp2;go_ret;exact⟨by rw[E.out];rfl,rfl⟩
 ·have E:=hid (nC (lo:=1) (hi:=4) (k:=k) (by omega));go_enter func58,ntmps58;go_wp2;go_ret;exact⟨by rw[E.out];rfl,rfl⟩
theorem qH {k:Int}:Calls prog 92 #[kW lD k] w fun e w'=>e=lF (kZ (xE 1 100 k))/\w'=w:=by
 by_cases a:1<=k
 ·by_cases b:k<=100
  ·have E:=hid (oA (lo:=1) (hi:=100) (k:=k) ⟨a,b⟩);go_enter func92,ntmps92;go_wp2;go_ret;exact⟨by rw[E.out];rfl,rfl⟩
  ·have E:=hid (nC (lo:=1) (hi:=100) (k:=k) (by omega));go_enter func92,ntmps92;go_wp2;go_ret;exact⟨by rw[E.out];rfl,rfl⟩
 ·have E:=hid (nC (lo:=1) (hi:=100) (k:=k) (by omega));go_enter func92,ntmps92;go_wp2;go_ret;exact⟨by rw[E.out];rfl,rfl⟩
theorem tq {k:Int}:Calls prog 93 #[kW lD k] w fun e w'=>e=lF (kZ (xE 0 1000 k))/\w'=w:=by
 by_cases a:0<=k
 ·by_cases b:k<=1000
  ·have E:=hid (oA (lo:=0) (hi:=1000) (k:=k) ⟨a,b⟩);go_enter func93,ntmps93;go_wp2;go_ret;exact⟨by rw[E.out];rfl,rfl⟩
  ·have E:=hid (nC (lo:=0) (hi:=1000) (k:=k) (by omega));go_enter func93,ntmps93;go_wp2;go_ret;exact⟨by rw[E.out];rfl,rfl⟩
 ·have E:=hid (nC (lo:=0) (hi:=1000) (k:=k) (by omega));go_enter func93,ntmps93;go_wp2;go_ret;exact⟨by rw[E.out];rfl,rfl⟩
theorem sT (h:xs.length<1\/4<xs.length):xL xs=lL:=by
 unfold xL;have:decide (1<=xs.length/\xs.length<=4)=lL:=ee (by omega);rw[this];rfl
theorem z8 (h:1<=xs.length)(h2:xs.length<=4):xL xs=yw xs:=by
 unfold xL;have:decide (1<=xs.length/\xs.length<=4)=lK:=ei ⟨h,h2⟩;rw[this];rfl
theorem EY {cap:Nat}(hr:Arr w 1 ao n cap (zi xs)):Calls prog 43 #[kX ao n cap] w fun e w'=>e=lF (kZ (xL xs))/\w'=w:=by
 have a:=hr.len;rw[j9]at a;have d:=hr.le;have b:=hr.cm;unfold maxLen at b;go_enter func43,ntmps43;go_wp2_with fail;refine(wA).mono ?_;rintro e f ⟨rfl,rfl⟩;by_cases h:1<=(n:Int)/\(n:Int)<=4
 ·rw[oA h];have E:=z8 (xs:=xs) (by omega) (by omega);go_wp2_with fail;refine(sN hr).mono ?_;rintro e g ⟨rfl,rfl⟩;go_wp2;go_ret;exact⟨by rw[E,wU];rfl,rfl⟩
 ·rw[nC h];have E:=sT (xs:=xs) (by omega);go_wp2;go_ret;exact⟨by rw[E];rfl,rfl⟩
theorem rX (k:Nat)(u:Usr)(a b c d:Bool)(h1:decide (u.dem.length=k)=a)(h2:decide (1<=u.wt/\u.wt<=100/\0<=u.cap/\u.cap<=1000)=b)(h3:yw u.dem=c)(h4:xS u.dem=d):yY k u=(a&&b&&c&&d):=by
 unfold yY;rw[h1,h2,h3,h4]
theorem wu {cap:Nat}(hr:Arr w 1 ao n cap (zi u.dem))(hk:k<=maxLen):Calls prog 44 #[lA #[kX ao n cap,kW lD u.wt,kW lD u.cap],kW lD k] w fun e w'=>e=lF (kZ (yY k u))/\Below w.heap.size w w':=by
 have a:=hr.len;rw[j9]at a;have q:=hr.le;have j:=hr.cm;unfold maxLen at j hk;have hB:=(eB _ w).alloc lR (lE #[kX ao n cap,kW lD u.wt,kW lD u.cap] 56);have l:=hr.iP hB;by_cases m:n=k
 ·subst m;by_cases c:1<=u.wt/\u.wt<=100
  ·by_cases g:0<=u.cap/\u.cap<=1000
   ·have E:=rX n u lK lK _ _ (by rw[a];exact ei rfl) (ei ⟨c.1,c.2,g.1,g.2⟩) rfl rfl;go_enter func44,ntmps44;go_wp2_with fail;refine(qH).mono ?_;rintro e f ⟨rfl,rfl⟩;rw[oA c];go_wp2_with fail;refine(tq).mono ?_;rintro e f ⟨rfl,rfl⟩;rw[oA g];go_wp2_with fail;refine(sN l).mono ?_;rintro e f ⟨rfl,rfl⟩;rw[wU]
    cases o:yw u.dem with
    |false=>have h:=o;go_wp2;go_ret;exact⟨by rw[E,h];rfl,hB⟩
    |true=>have h:=o;go_wp2_with fail;refine(C9 l).mono ?_;rintro e r ⟨rfl,d⟩;have i:=et hB d;go_wp2;go_ret;exact⟨by rw[E,h];rfl,i⟩
   ·have E:=rX n u lK lL _ _ (by rw[a];exact ei rfl) (ee (by omega)) rfl rfl;go_enter func44,ntmps44;go_wp2_with fail;refine(qH).mono ?_;rintro e f ⟨rfl,rfl⟩;rw[oA c];go_wp2_with fail;refine(tq).mono ?_;rintro e f ⟨rfl,rfl⟩;rw[nC g];go_wp2;go_ret;exact⟨by rw[E];rfl,hB⟩
  ·have E:=rX n u lK lL _ _ (by rw[a];exact ei rfl) (ee (by omega)) rfl rfl;go_enter func44,ntmps44;go_wp2_with fail;refine(qH).mono ?_;rintro e f ⟨rfl,rfl⟩;rw[nC c];go_wp2;go_ret;exact⟨by rw[E];rfl,hB⟩
 ·(have p:((n:Int) == (k:Int))=lL:=by rw[eg];omega);have E:=rX k u lL _ _ _ (by rw[a];exact ee m) rfl rfl rfl;go_enter func44,ntmps44;go_wp2;go_ret;exact⟨by rw[E];rfl,hB⟩
def Frs (w:lM)(ao:Option Addr)(n cap:Nat)(f:Nat->Rat):Prop:=∃vs,Arr w 3 ao n cap vs/\∀i v,vs[i]?=lJ v->Frac w v (f i)
variable{f:Nat->Rat}
theorem Frs.iP {cap:Nat}(h:Frs w ao n cap f)(hb:Below w.heap.size w w'):Frs w' ao n cap f:=by
 obtain⟨c,a,b⟩:=h;exact⟨c,a.iP hb,fun i v hv=>(b i v hv).iP hb⟩
theorem Frs.congr {cap:Nat}{g:Nat->Rat}(h:Frs w ao n cap f)(e:∀i,i<n->f i=g i):Frs w ao n cap g:=by
 obtain⟨c,a,b⟩:=h;refine⟨c,a,fun i v hv=>?_⟩;have:=(eA.1 hv).1;rw[<-e i (by have:=a.len;omega)];exact b i v hv
theorem Frs.le {cap:Nat}(h:Frs w ao n cap f):n<=maxLen:=by
 obtain⟨c,a,b⟩:=h;exact eh a.le a.cm
theorem Frs.get {cap:Nat}(h:Frs w ao n cap f)(hi:i<n):∃b o uo un uc yo yn yc,ao=lJ ⟨b,o,lI⟩/\b<w.heap.size/\lH w ⟨b,o+i*3,lI⟩=lJ (kZ (negB (f i)))/\lH w ⟨b,o+i*3+1,lI⟩=lJ (kX uo un uc)/\lH w ⟨b,o+i*3+2,lI⟩=lJ (kX yo yn yc)/\Row w uo un uc (zA (f i).num.natAbs)/\Row w yo yn yc (zA (f i).den):=by
 obtain⟨l,a,m⟩:=h;have p:=a.len;obtain⟨b,o,e,g⟩:=a.head (by omega);have c:l[i]?=lJ l[i]:=en (by omega);obtain⟨uo,un,uc,yo,yn,yc,d,j,k⟩:=m i _ c;refine⟨b,o,uo,un,uc,yo,yn,yc,e,g,?_,?_,?_,j,k⟩
 ·have:=a.cell b o e i _ c 0 (kZ (negB (f i))) (by rw[d];rfl)
  simpa using this
 ·have:=a.cell b o e i _ c 1 (kX uo un uc) (by rw[d];rfl)
  rwa[<-hJ]at this
 ·have:=a.cell b o e i _ c 2 (kX yo yn yc) (by rw[d];rfl)
  rwa[<-hJ]at this
def FB (w:lM)(g n k:Nat)(f:Nat->Rat):Prop:=∃arr,w.heap[g]?=lJ (lE arr 90 (0,0))/\arr.size=n*3/\∀i,i<k->∃uo un uc yo yn yc,arr[i*3]?=lJ (kZ (negB (f i)))/\arr[i*3+1]?=lJ (kX uo un uc)/\arr[i*3+2]?=lJ (kX yo yn yc)/\Row w uo un uc (zA (f i).num.natAbs)/\Row w yo yn yc (zA (f i).den)
variable{g:Nat}
theorem FB.lt (h:FB w g n k f):g<w.heap.size:=by
 obtain⟨a,b,_⟩:=h;exact(ek.1 b).1
theorem FB.iP (h:FB w g n k f)(hb:Below w.heap.size w w'):FB w' g n k f:=by
 obtain⟨a,b,j,l⟩:=h;refine⟨a,(hb.block g (ek.1 b).1).trans b,j,fun i hi=>?_⟩;obtain⟨r,q,p,u,t,s,c,d,e,m,o⟩:=l i hi;exact⟨r,q,p,u,t,s,c,d,e,m.iP hb,o.iP hb⟩
theorem FB.congr {f':Nat->Rat}(h:FB w g n k f)(e:∀i,i<k->f i=f' i):FB w g n k f':=by
 obtain⟨a,b,c,d⟩:=h;exact⟨a,b,c,fun i hi=>by rw[<-e i hi];exact d i hi⟩
theorem FB.frs (h:FB w g n n f)(hn:n<=maxLen):Frs w (lJ ⟨g,0,lI⟩) n n f:=by
 obtain⟨d,t,H,x⟩:=h;(have r:∀i,i<n->∃a b c:lN,d[i*3]?=lJ a/\d[i*3+1]?=lJ b/\d[i*3+2]?=lJ c/\Frac w (lA #[a,b,c]) (f i):=fun i k=>by obtain⟨D,C,B,G,F,E,m,p,q,z,A⟩:=x i k;exact⟨_,_,_,m,p,q,D,C,B,G,F,E,rfl,z,A⟩);refine⟨(List.range n).map (fun i=>lA #[d.getD (i*3) (kZ lL),d.getD (i*3+1) (kZ lL),d.getD (i*3+2) (kZ lL)]),⟨by simp,lR,hn,fun _=>⟨g,0,rfl,(ek.1 t).1⟩,?_⟩,?_⟩
 ·intro b o e i v l j u s
  cases e
  (have k:i<n:=by simpa using(eA.1 l).1);obtain⟨a,b,c,m,p,q,_⟩:=r i k;rw[eD,iL k]at l
  cases l
  rw[eC,hH w g _ _ _ _ t]
  match j with
  |0=>rw[ia,m,<-s];simp[Value.cells,m,eZ]
  |1=>rw[p,<-s];simp[Value.cells,p,eZ]
  |2=>rw[q,<-s];simp[Value.cells,q,eZ]
  |j+3=>simp[Value.cells]at s
 ·intro i v l;(have k:i<n:=by simpa using(eA.1 l).1);obtain⟨a,b,c,m,p,q,y⟩:=r i k;rw[eD,iL k]at l
  cases l
  simp only[eZ,m,p,q,Option.getD_some];exact y
def yr (w:lM)(g o:Nat)(u0 u1 u2:lN):lM:=((lG w ⟨g,o,lI⟩ u0).setCell ⟨g,o+1,lI⟩ u1).setCell ⟨g,o+2,lI⟩ u2
variable{arr:Array lN}
theorem Row.kK {cap:Nat}(h:Row w ao n cap xs)(b i:Nat)(v:lN){T:TypeId}{fz:Nat×Nat}(hx:w.heap[b]?=lJ (lE arr T fz))(hT:T≠3):Row (lG w ⟨b,i,lI⟩ v) ao n cap xs:=by
 (have d:∀a o,ao=lJ ⟨a,o,lI⟩->0<n->a≠b:=by intro a o e c k;subst k;obtain⟨arr,fz,f⟩:=h.ib a o e c;rw[hx]at f;cases f;exact hT rfl);refine⟨h.len,h.le,h.cm,fun c=>?_,fun a o e c=>?_,fun a o e j hj=>?_⟩
 ·obtain⟨b,o,e,g⟩:=h.head c;exact⟨b,o,e,by simpa[World.setCell]using g⟩
 ·obtain⟨arr,fz,f⟩:=h.ib a o e c;exact⟨arr,fz,(eT w _ v a (d a o e c)).trans f⟩
 ·rw[<-h.cell a o e j hj];exact iw (eT w _ v a (d a o e (by omega)))
variable{u0 u1 u2:lN}
theorem rz {T:TypeId}(h:w.heap[g]?=lJ (lE arr T (0,0))):(yr w g o u0 u1 u2).heap[g]?=lJ (lE (((arr.set! o u0).set! (o+1) u1).set! (o+2) u2) T (0,0)):=by
 unfold yr;have a:=eP w g o _ _ u0 h;have b:=eP _ g (o+1) _ _ u1 a;exact eP _ g (o+2) _ _ u2 b
theorem Row.kF {cap:Nat}(h:Row w ao n cap xs){T:TypeId}(hx:w.heap[g]?=lJ (lE arr T (0,0)))(hT:T≠3):Row (yr w g o u0 u1 u2) ao n cap xs:=by
 have a:=eP w g o _ _ u0 hx;have b:=eP _ g (o+1) _ _ u1 a;exact((h.kK g o u0 hx hT).kK g (o+1) u1 a hT).kK g (o+2) u2 b hT
theorem np {B:Nat}{a:lM}(h:Below B a w)(hb:B<=g)(u0 u1 u2:lN):Below B a (yr w g o u0 u1 u2):=((h.setCell hb u0).setCell hb u1).setCell hb u2
theorem Bx.jH {cs:Array lN} {T:TypeId} (h:Bx w b cs T) (u0 u1 u2:lN) (hne:g≠b):Bx (yr w g o u0 u1 u2) b cs T:=
  ((Bx.jx h ⟨g,o,lI⟩ u0 hne).jx ⟨g,o+1,lI⟩ u1 hne).jx ⟨g,o+2,lI⟩ u2 hne
def upd (f:Nat->Rat)(i:Nat)(q:Rat):Nat->Rat:=fun j=>if j=i then q else f j
theorem nW (f:Nat->Rat)(i:Nat)(q:Rat):upd f i q i=q:=ed rfl
variable{j:Nat}
theorem nS (f:Nat->Rat)(q:Rat)(h:j≠i):upd f i q j=f j:=ec h
theorem GX (hs:arr.size=n*3)(hi:i<n)(u0 u1 u2:lN):(((arr.set! (i*3) u0).set! (i*3+1) u1).set! (i*3+2) u2)[i*3]?=lJ u0/\(((arr.set! (i*3) u0).set! (i*3+1) u1).set! (i*3+2) u2)[i*3+1]?=lJ u1/\(((arr.set! (i*3) u0).set! (i*3+1) u1).set! (i*3+2) u2)[i*3+2]?=lJ u2/\∀j,(j<i*3\/i*3+2<j)->(((arr.set! (i*3) u0).set! (i*3+1) u1).set! (i*3+2) u2)[j]?=arr[j]?:=by
 (have a:i*3<arr.size:=by omega);(have b:i*3+1<arr.size:=by omega);(have c:i*3+2<arr.size:=by omega);simp only[Array.set!_eq_setIfInBounds];refine⟨?_,?_,?_,?_⟩
 ·rw[eE (by omega),eE (by omega),iA a]
 ·rw[eE (by omega),iA (by simpa using b)]
 ·rw[iA (by simpa using c)]
 ·intro j d;rw[eE (by omega),eE (by omega),eE (by omega)]
theorem FB.put (h:FB w g n k f)(hi:i<n)(hk:i<=k)(q:Rat){uo yo:Option Addr}{un uc yn yc:Nat}(r1:Row w uo un uc (zA q.num.natAbs))(r2:Row w yo yn yc (zA q.den)):FB (yr w g (i*3) (kZ (negB q)) (kX uo un uc) (kX yo yn yc)) g n (if i=k then k+1 else k) (upd f i q):=by
 obtain⟨arr,a,d,z⟩:=h;obtain⟨v,x,y,b⟩:=GX (arr:=arr) d hi (kZ (negB q)) (kX uo un uc) (kX yo yn yc);refine⟨_,rz a,by simp[d],fun j hj=>?_⟩;by_cases e:j=i
 ·subst e;rw[nW];exact⟨uo,un,uc,yo,yn,yc,v,x,y,r1.kF a (by decide),r2.kF a (by decide)⟩
 ·rw[nS _ _ e];(have c:j<k:=by split at hj<;>omega);obtain⟨o,m,l,r,bn,p,s,t,u,A,B⟩:=z j c;refine⟨o,m,l,r,bn,p,?_,?_,?_,A.kF a (by decide),B.kF a (by decide)⟩
  ·rw[b _ (by omega)];exact s
  ·rw[b _ (by omega)];exact t
  ·rw[b _ (by omega)];exact u
theorem FB.cells (h:FB w g n k f)(hi:i<k):∃uo un uc yo yn yc,lH w ⟨g,i*3,lI⟩=lJ (kZ (negB (f i)))/\lH w ⟨g,i*3+1,lI⟩=lJ (kX uo un uc)/\lH w ⟨g,i*3+2,lI⟩=lJ (kX yo yn yc)/\Row w uo un uc (zA (f i).num.natAbs)/\Row w yo yn yc (zA (f i).den):=by
 obtain⟨b,a,o,j⟩:=h;obtain⟨uo,un,uc,yo,yn,yc,c,d,e,l,m⟩:=j i hi;exact⟨uo,un,uc,yo,yn,yc,(hH w g _ _ _ _ a).trans c,(hH w g _ _ _ _ a).trans d,(hH w g _ _ _ _ a).trans e,l,m⟩
theorem FB.frozen (h:FB w g n k f)(j:Nat):w.frozen? ⟨g,j,lI⟩=lL:=by
 obtain⟨a,b,_⟩:=h;exact jg w g j _ _ b
theorem FB.has (h:FB w g n k f)(hj:j<n*3):∃x,lH w ⟨g,j,lI⟩=lJ x:=by
 obtain⟨a,b,c,_⟩:=h;exact⟨a[j]'(by omega),(hH w g j _ _ _ b).trans (iN (by omega))⟩
theorem FB.jx (h:FB w g n k f){T:TypeId}{fz:Nat×Nat}(hx:w.heap[b]?=lJ (lE arr T fz))(hT:T≠3)(hne:b≠g):FB (lG w ⟨b,i,lI⟩ v) g n k f:=by
 obtain⟨a,m,o,p⟩:=h;refine⟨a,(iR w ⟨b,i,lI⟩ g v (fun e=>hne e.symm)).trans m,o,fun j hj=>?_⟩;obtain⟨u,t,s,z,y,x,c,d,l,q,r⟩:=p j hj;exact⟨u,t,s,z,y,x,c,d,l,q.kK b i v hx hT,r.kK b i v hx hT⟩
theorem FB.jH (h:FB w g n k f){T:TypeId}(hx:w.heap[b]?=lJ (lE arr T (0,0)))(hT:T≠3)(hne:b≠g):FB (yr w b o u0 u1 u2) g n k f:=by
 have a:=eP w b o _ _ u0 hx;have c:=eP _ b (o+1) _ _ u1 a;exact((h.jx hx hT hne).jx a hT hne).jx c hT hne
theorem Tryz.infoFra:(prog.info? 90).map (fun i=>(i.zero,i.size,i.bytes))=lJ (lJ (lA #[kZ lL,kX lI 0 0,kX lI 0 0]),3,56):=by kernel_rfl
variable{ops:Array Oper}{rest:List Oper}{Q:Exit->Act->lM->Prop}
theorem sA (w:lM){o:Oper}{a:Act}(hg:o.guard=lI)(l c:Operand)(hop:o.op=Op.makeSlice 86 l c)(L C:Int)(n:Nat)(hl:a.eval l=kW lD L)(hc:a.eval c=kW lD C)(hL:L=(n:Int))(hC:C=(n:Int))(hn:n<=1000000)(hK:∀w',(∀f,FB w' w.heap.size n 0 f)->Below w.heap.size w w'->w.heap.size<w'.heap.size->wpList prog ops Q rest (a.put o.dst (kX (lJ ⟨w.heap.size,0,lI⟩) n n)) w'):wpList prog ops Q (o::rest) a w:=by
 obtain⟨i,r,j,m,p⟩:=iM Tryz.infoFra;refine wpList_make_full w hg l c 86 hop w.heap.size 90 i (lA #[kZ lL,kX lI 0 0,kX lI 0 0]) 3 underlying86 r j m lD lD L C n hl hc hL hC (by rw[p];omega) (by unfold maxLen;omega) lR ?_;intro w' v h;have u:Bl w w':=brf.grown h lR (fun k e=>by cases e);rcases v.2 with⟨b,_⟩|⟨g,s,d,b,_,q,x,y,t,z⟩
 ·cases b
 ·simp only[iV,io,Addr.mk.injEq,and_true,true_and]at b;obtain⟨rfl,rfl⟩:=b;exact hK w' (fun f=>⟨d,q,t,fun i r=>by omega⟩) u (ek.1 q).1
def FO (base:Nat)(w:lM)(v:lN)(l:List Rat):Prop:=∃xs,w.ownsRow base 90 3 v l.length xs/\∀i,i<l.length->∃uo un uc yo yn yc,xs[i*3]?=lJ (kZ (negB (rq l i)))/\xs[i*3+1]?=lJ (kX uo un uc)/\xs[i*3+2]?=lJ (kX yo yn yc)/\Row w uo un uc (zA (rq l i).num.natAbs)/\Row w yo yn yc (zA (rq l i).den)
theorem FO.nil (base:Nat)(w:lM):FO base w (kX lI 0 0) []:=⟨[],iy _ _ _ _,fun i hi=>by simp at hi⟩
variable{base:Nat}
theorem FO.iP {l:List Rat}(h:FO base w v l)(hb:Below w.heap.size w w'):FO base w' v l:=by
 obtain⟨t,⟨k,h⟩,c⟩:=h;refine⟨t,⟨k,?_⟩,fun i hi=>?_⟩
 ·rcases h with h|⟨g,a,b,m,c,d,n⟩
  ·exact .inl h
  ·exact .inr ⟨g,a,b,m,c,(hb.block g (ek.1 d).1).trans d,n⟩
 ·obtain⟨s,r,q,y,x,u,e,f,j,o,p⟩:=c i hi;exact⟨s,r,q,y,x,u,e,f,j,o.iP hb,p.iP hb⟩
theorem FO.frs {l:List Rat}(h:FO base w v l):∃ao cap,v=kX ao l.length cap/\Frs w ao l.length cap (rq l):=by
 obtain⟨G,⟨H,h⟩,q⟩:=h;rcases h with⟨rfl,h⟩|⟨g,cap,a,rfl,J,r,D,E,I,F⟩
 ·obtain rfl:l=[]:=iq.1 h;exact⟨lI,0,rfl,[],Arr.nil _ _,fun i v c=>by simp at c⟩
 ·refine⟨_,_,rfl,?_⟩;(have d:∀j,j<l.length*3->a[j]?=G[j]?:=fun j hj=>by rw[<-F,<-eI,eH,ed hj]);refine⟨(List.range l.length).map (fun i=>lA #[a.getD (i*3) (kZ lL),a.getD (i*3+1) (kZ lL),a.getD (i*3+2) (kZ lL)]),⟨by simp,D,E,fun _=>⟨g,0,rfl,(ek.1 r).1⟩,?_⟩,?_⟩
  ·intro b o e i v c j u p
   cases e
   (have n:i<l.length:=by simpa using(eA.1 c).1);obtain⟨z,y,x,C,B,A,f,k,m,s,t⟩:=q i n;rw[<-d _ (by omega)]at f k m;rw[eD,iL n]at c
   cases c
   rw[eC,hH w g _ _ _ _ r]
   match j with
   |0=>rw[ia,f,<-p];simp[Value.cells,f,eZ]
   |1=>rw[k,<-p];simp[Value.cells,k,eZ]
   |2=>rw[m,<-p];simp[Value.cells,m,eZ]
   |j+3=>simp[Value.cells]at p
  ·intro i v c;(have n:i<l.length:=by simpa using(eA.1 c).1);obtain⟨z,y,x,C,B,A,f,k,m,s,t⟩:=q i n;rw[<-d _ (by omega)]at f k m;rw[eD,iL n]at c
   cases c
   simp only[eZ,f,k,m,Option.getD_some];exact⟨z,y,x,C,B,A,rfl,s,t⟩
theorem sv (w:lM){o:Oper}{a:Act}(hgd:o.guard=lI)(s x:Operand)(hop:o.op=Op.call {callee:=Callee.builtin Builtin.append,args:=#[s,x],argTypes:=#[86,86]})(base:Nat)(v:lN)(l:List Rat)(ad:Addr)(c:Nat)(q:Rat)(uo:Option Addr)(un uc:Nat)(yo:Option Addr)(yn yc:Nat)(hs:a.eval s=v)(hx:a.eval x=kX (lJ ad) 1 c)(hown:FO base w v l)(h0:w.cell? (ad.add 0)=lJ (kZ (negB q)))(h1:w.cell? (ad.add 1)=lJ (kX uo un uc))(h2:w.cell? (ad.add 2)=lJ (kX yo yn yc))(r1:Row w uo un uc (zA q.num.natAbs))(r2:Row w yo yn yc (zA q.den))(hle:l.length<=100000)(hb:base<=w.heap.size)(h:∀v' w',FO base w' v' (l++[q])->Below base w w'->wpList prog ops Q rest (a.put o.dst v') w'):wpList prog ops Q (o::rest) a w:=by
 obtain⟨i,H,K,L,M⟩:=iM Tryz.infoFra;obtain⟨D,E,hC⟩:=hown
 have I:∀k,v.ownBlock=lJ k->base<=k:=by
  intro k O;rcases E.2 with⟨rfl,_⟩|⟨g,f,F,rfl,h2,_⟩
  ·cases O
  ·cases O;exact h2
 refine jw w hgd s x _ hop base 90 i (lA #[kZ lL,kX lI 0 0,kX lI 0 0]) 3 56 underlying86 H K L M rfl (by decide) v l.length _ hs E ad 1 c [kZ (negB q),kX uo un uc,kX yo yn yc] hx (by simp) ?_ ?_ (by unfold maxLen;omega) (by omega) hb ?_
 ·intro j u y
  match j with
  |0=>rw[h0];simpa using y
  |1=>rw[h1];simpa using y
  |2=>rw[h2];simpa using y
  |j+3=>simp at y
 ·intro u P;simp at P;rcases P with rfl|rfl|rfl<;>rfl
 ·intro v' w' Y G _
  have d:∀t n f D,Row w t n f D->Row w' t n f D:=by
   intro t n f ys p
   have C:∀b o,t=lJ ⟨b,o,lI⟩->0<n->b<w.heap.size/\w'.heap[b]?=w.heap[b]?:=by
    intro b o e z;obtain⟨A,N,B⟩:=p.ib b o e z;have m:=(ek.1 B).1;refine⟨m,G.block b m (fun hc=>?_)⟩;rcases E.2 with⟨rfl,_⟩|⟨g,f,F,rfl,_,Z,_⟩
    ·cases hc
    ·cases hc;rw[Z]at B;cases B
   refine⟨p.len,p.le,p.cm,fun z=>?_,fun b o e z=>?_,fun b o e j y=>?_⟩
   ·obtain⟨b,o,e,m⟩:=p.head z;exact⟨b,o,e,ez m G.size⟩
   ·obtain⟨A,N,B⟩:=p.ib b o e z;exact⟨A,N,(C b o e z).2.trans B⟩
   ·rw[<-p.cell b o e j y];exact iw (C b o e (by omega)).2
  have r:D.length=l.length*3:=E.1;refine h v' w' ⟨D++[kZ (negB q),kX uo un uc,kX yo yn yc],by rw[eK];exact Y,fun i H=>?_⟩ ((eB base w).grown G hb I);rw[eK,iZ]at H;by_cases e:i<l.length
  ·(have J:rq (l++[q]) i=rq l i:=by unfold rq;rw[ej,ej,eU e]);obtain⟨t,S,R,U,bn,T,V,W,X,s1,s2⟩:=hC i e;rw[J];exact⟨t,S,R,U,bn,T,by rw[eU (by omega)];exact V,by rw[eU (by omega)];exact W,by rw[eU (by omega)];exact X,d _ _ _ _ s1,d _ _ _ _ s2⟩
  ·(obtain rfl:i=l.length:=by omega);(have J:rq (l++[q]) l.length=q:=by unfold rq;rw[ej,eM lR];simp);rw[J];refine⟨uo,un,uc,yo,yn,yc,?_,?_,?_,d _ _ _ _ r1,d _ _ _ _ r2⟩
   ·rw[eM (by omega),r];simp
   ·rw[eM (by omega),r];simp
   ·rw[eM (by omega),r];simp
theorem Arr.alloc {cap:Nat}(h:Arr w k ao n cap vs)(o:Obj):Arr (w.alloc o) k ao n cap vs:=h.iP (brf.alloc lR o)
theorem Users.alloc {cap:Nat}(h:Users w ao n cap us)(o:Obj):Users (w.alloc o) ao n cap us:=h.iP (brf.alloc lR o)
theorem Frs.alloc {cap:Nat}(h:Frs w ao n cap f)(o:Obj):Frs (w.alloc o) ao n cap f:=h.iP (brf.alloc lR o)
theorem FB.alloc (h:FB w g n k f)(o:Obj):FB (w.alloc o) g n k f:=h.iP (brf.alloc lR o)
theorem FO.alloc {l:List Rat}(h:FO base w v l)(o:Obj):FO base (w.alloc o) v l:=h.iP (brf.alloc lR o)
theorem Arr.drew {cap:Nat}(h:Arr w k ao n cap vs):Arr w.drew k ao n cap vs:=h.iP brf.drew
theorem Users.drew {cap:Nat}(h:Users w ao n cap us):Users w.drew ao n cap us:=h.iP brf.drew
theorem Frs.drew {cap:Nat}(h:Frs w ao n cap f):Frs w.drew ao n cap f:=h.iP brf.drew
theorem FB.drew (h:FB w g n k f):FB w.drew g n k f:=h.iP brf.drew
theorem FO.drew {l:List Rat}(h:FO base w v l):FO base w.drew v l:=h.iP brf.drew
theorem Tab.drew (h:Tab w):Tab w.drew:=h.iP brf.drew
theorem Tab.of (h:Tab w)(hb:Below w.heap.size w w'):Tab w':=h.iP hb
variable{L:Nat}
theorem Row.sm1 {cap:Nat}(h:Row w ao n cap (zA q.num.natAbs))(hq:Sm q L):n<=L:=by rw[<-h.len];exact hq.1
theorem Row.sm2 {cap:Nat}(h:Row w ao n cap (zA q.den))(hq:Sm q L):n<=L:=by rw[<-h.len];exact hq.2
theorem Cf:xJ x y<0↔x<y:=by
 unfold xJ;split
 ·rename_i h;simp[h]
 ·rename_i h;split<;>simp[h]
theorem Cb:0<xJ x y↔y<x:=by
 unfold xJ;split
 ·rename_i h;simp;grind
 ·rename_i h;split
  ·rename_i e;simp;grind
  ·rename_i e;simp;grind
theorem pF:xJ x y=0↔x=y:=by
 unfold xJ;split
 ·rename_i h;simp;grind
 ·rename_i h;split
  ·rename_i e;simp[e]
  ·rename_i e;simp[e]
theorem Sm.int {n:Int}(h0:-100000000000000000000<n)(h1:n<100000000000000000000):Sm (n:Rat) 5:=by
 have a:(n:Rat).num=n:=jq n;have b:(n:Rat).den=1:=jG n;unfold Sm;rw[a,b];exact⟨lP (by omega),lP (by omega)⟩
theorem Sm.amt {n:Int}(h:yG n=lK):Sm (n:Rat) 2:=by
 have a:(n:Rat).num=n:=jq n;have b:(n:Rat).den=1:=jG n;unfold yG at h;rw[eN]at h;unfold Sm;rw[a,b];exact⟨lP (by omega),lP (by omega)⟩
theorem Fw {po:Option Addr}{pn pc:Nat}{pool:List Int}{cap:Nat}(hp:Arr w 1 po pn pc (zi pool))(hu:Users w ao n cap us):Calls prog 23 #[kX po pn pc,kX ao n cap] w fun e w'=>e=lF (kW lD (zr pool us))/\Below w.heap.size w w':=by
 have d:=hp.len;rw[j9]at d;have m:=eh hp.le hp.cm;have I:=hu.1;(have u:n<=maxLen:=by obtain⟨_,S,p,_⟩:=hu;exact eh p.le p.cm);have F:=m;unfold maxLen at m u;go_enter func23,ntmps23;go_wp2_with fail;refine(EY hp).mono ?_;rintro O f ⟨rfl,rfl⟩
 cases j:xL pool with
 |false=>(have E:zr pool us=3:=by unfold zr;rw[ed j]);have c:=hid E;go_wp2;go_ret;exact⟨by rw[c.out];rfl,eB _ _⟩
 | true=>
  by_cases p:6<n
  ·(have E:zr pool us=4:=by unfold zr;rw[ec (by rw[j];simp),ed (by omega)]);have c:=hid E;(have q:(6:Int)<n:=by omega);go_wp2;go_ret;exact⟨by rw[c.out];rfl,eB _ _⟩
  ·(have q:¬ (6:Int)<n:=by omega);go_wp2
   go_loopw [15] (fun i wr=>∃k:Nat,k<=n/\i=kW lD k/\Hid ((us.take k).all (yY pn)=lK)/\Hid (Bl f wr)) (fun i _=>n-(intOf i).toNat)
   case atStart=>exact⟨0,ep _,rfl,rfl,eB _ _⟩
   case round=>
    obtain⟨k,R,rfl,B,hB⟩:=hrel;by_cases s:k<n
    ·obtain⟨b,o,v,y,x,rfl,Q,L,M,N,A⟩:=(hu.iP hB).get s;have t:=hid (pN (yY pn) us (i:=k) (by omega));have a:=hid (uQ us (i:=k) (by omega));have r:=(eB _ wr).alloc lR (lE #[kX v y x,kW lD (ug us k).wt,kW lD (ug us k).cap] 56);have D:=A.iP r;have g:=et hB r;go_wp2_with fail;refine(wu D F).mono ?_;rintro P J ⟨rfl,l⟩;have h:=et g l
     cases z:yY pn (ug us k)with
     |false=>(have E:zr pool us=4:=by unfold zr;rw[ec (by rw[j];simp),ec (by omega),ed (nK _ us (i:=k) (by omega) (by rw[a.out,d];exact z))]);have c:=hid E;go_wp2;go_ret;exact⟨by rw[c.out];rfl,h⟩
     |true=>
      have C:=hid z;go_wp2
      go_roundw
      (case rel=>exact⟨k+1,by omega,by go_num,by rw[Hid,t.out,B.out,a.out,C.out];rfl,h⟩);case measure=>simp[intOf];omega
    ·(obtain rfl:k=n:=by omega);(have E:zr pool us=0:=by have:=B.out;rw[ew (by omega)]at this;unfold zr;rw[ec (by rw[j];simp),ec (by omega),ec (by rw[d,this];simp)]);have c:=hid E;go_wp2;go_ret;exact⟨by rw[c.out];rfl,hB⟩
def Good (us:List Usr)(k:Nat):Prop:=∀i,i<us.length->yY k (ug us i)=lK
theorem Good.cap (h:Good us k)(hi:i<us.length):0<=(ug us i).cap/\(ug us i).cap<=1000:=by
 have:=h i hi;unfold yY at this;simp only[eJ,eN]at this;exact⟨this.1.1.2.2.2.1,this.1.1.2.2.2.2⟩
theorem Good.wt (h:Good us k)(hi:i<us.length):1<=(ug us i).wt/\(ug us i).wt<=100:=by
 have:=h i hi;unfold yY at this;simp only[eJ,eN]at this;exact⟨this.1.1.2.1,this.1.1.2.2.1⟩
theorem Good.len (h:Good us k)(hi:i<us.length):(ug us i).dem.length=k:=by
 have:=h i hi;unfold yY at this;simp only[eJ,eN]at this;exact this.1.1.1
theorem uP (h:yw xs=lK)(r:Nat):yG (lm xs r)=lK:=by
 unfold lm;rw[ej];by_cases a:r<xs.length
 ·rw[en a];unfold yw at h;rw[ie]at h;exact h _ (ij a)
 ·rw[eW (by omega)];decide
theorem JH {x:Int}(h:yG x=lK):0<=x/\x<=10000:=by unfold yG at h;simpa using h
theorem Good.dem (h:Good us k)(hi:i<us.length)(r:Nat):yG (lm (ug us i).dem r)=lK:=by
 have:=h i hi;unfold yY at this;simp only[eJ]at this;exact uP this.1.2 r
theorem Good.some (h:Good us k)(hi:i<us.length):∃r,r<k/\0<lm (ug us i).dem r:=by
 have a:=h i hi;have f:=h.len hi;unfold yY at a;simp only[eJ]at a;have b:=a.2;unfold xS at b;rw[List.any_eq_true]at b;obtain⟨x,e,c⟩:=b;obtain⟨r,d,rfl⟩:=List.getElem_of_mem e;refine⟨r,by omega,?_⟩;rw[<-qm _ d];simpa using c
end Go.Proofs.YtigokanoflkinaaGreatDoor
