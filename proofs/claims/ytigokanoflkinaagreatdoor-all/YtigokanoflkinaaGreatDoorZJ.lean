/- FlRT, FlUV, joined. -/
import Derived.Test.YtigokanoflkinaaGreatDoorFlOQ
import Derived.Test.YtigokanoflkinaaGreatDoorZK
set_option maxHeartbeats 8000000
set_option maxRecDepth 20000
namespace Go.Proofs.YtigokanoflkinaaGreatDoor
set_option linter.unusedSimpArgs false
set_option linter.unusedVariables false
open Go.RowKit Por Go.Proofs.Tryz
open Value renaming int->kW,slice->kX,pointer->kY,bool->kZ,agg->lA,string->lC
open IntKind renaming i64->lD
open Obj renaming cells->lE
open Ending renaming returned->lF
open World renaming setCell->lG,cell?->lH
open Option renaming none->lI,some->lJ
open Bool renaming true->lK,false->lL
open Go renaming World->lM,Value->lN
structure FGo (c:FC)(s:FM):Prop where
  kx:FGood c s
  top:∀u,u<6->s.ky u+40*lack c s<=1000000000000000000
variable{c:FC}{s:FM}
theorem FGo.fill {t:FM}(h:FGo c s)(hf:zw c s=lJ t):FGo c t:=by
 refine⟨h.kx.fill hf,fun v hv=>?_⟩;obtain⟨u,m,f⟩:=mW hf;have b:=f.lack;have d:=h.top v hv;(have a:t.ky=s.ky:=by rw[f.eq];rfl);rw[a];omega
theorem FGo.goal {t:FM}(ho:FOk c)(h:FGo c s)(hg:zW c s=lJ t):FGo c t:=by
 obtain⟨u,m,l,g⟩:=mV h.kx.inv hg;refine⟨⟨g.inv ho h.kx.inv,fun v hv=>?_,fun v hv=>?_⟩,fun v hv=>?_⟩
 ·rw[g.runs v,g.kV v];have:=h.kx.tot v hv;omega
 ·rw[g.ky v];have:=h.kx.ky v hv;have:=lU v l;omega
 ·rw[g.ky v,g.lack];have a:=g.cl.on v hv;have b:=h.kx.on hv g.hm;have d:=h.top v hv;omega
variable{u:Nat}
theorem G6 (hu:u<6)(hlt:runs s u<c.goal u):1<=lack c s:=by
 have a:=l8 (f:=fun u=>max 0 (c.goal u-runs s u)) (n:=6) (fun j _=>by show(0:Int)<=max 0 _;omega) hu;unfold lack;change max 0 (c.goal u-runs s u)<=_ at a;omega
variable{base B b:Nat}{w w':lM}{v:lN}{l:List Int}
theorem Li.only (h:Li base w v l)(hb:b<base)(ho:Only B b w w')(hB:w.heap.size<=B):Li base w' v l:=by
 refine⟨h.1,?_⟩;rcases h.2 with d|⟨g,a,c,d,f,e,i⟩
 ·exact .inl d
 ·have j:=(ek.1 e).1;exact .inr ⟨g,a,c,d,f,(ho.block g (by omega) (by omega)).trans e,i⟩
theorem xr (m:Nat):∀(l:List Nat) (s:FM) (j:Nat),zI s m (l++[j])=wayF (zI s m l) j m:=by
 intro l
 induction l with
 |nil=>intro s j;rfl
 |cons a l ih=>intro s j;simp only[List.cons_append,zI];exact ih _ j
variable{i m:Nat}
theorem As {l:List Nat}(h:i<l.length):zI s m (l.take (i+1))=wayF (zI s m (l.take i)) l[i] m:=by
 rw[iO h,xr]
theorem GS (j:Nat)(l:List Nat)(i:Nat):zh j (l.take i)<=zh j l:=by
 unfold zh;have:=(List.take_sublist i l).count_le j;omega
theorem Por.Cleared.rng {l:List Nat}(h:FGo c s)(hc:Cleared c s u m l)(hu:u<6)(hm:m<8)(hlt:runs s u<c.goal u)(i:Nat){j:Nat}(hj:j<6):(0<=(zI s m (l.take i)).kV j/\(zI s m (l.take i)).kV j<=1000)/\(0<=(zI s m (l.take i)).on j m/\(zI s m (l.take i)).on j m<=1000)/\(0<=(zI s m (l.take i)).ky j/\(zI s m (l.take i)).ky j<=1000000000000000000):=by
 rw[oO,lY,AQ,ed rfl];have a:=hc.on j hj;have b:=h.kx.on hj hm;have d:=GS j l i;have e:=lU j (l.take i);have f:=h.kx.kV hj;have g:=h.kx.ky j hj;have k:=h.top j hj;have n:=G6 hu hlt;omega
variable{sb:Nat}{F:Flt}{P G:Nat->Int}
theorem Gr (hs:Bx w sb (zq b P G) 165)(hf:FL w b F)(hz:FStat F P)(hg:FGo (zC F P G) F.m)(hu:u<6)(hlt:runs F.m u<G u):Calls prog 198 #[kY (lJ ⟨sb,0,lI⟩),kW lD u] w fun e w'=>e=lF (kZ (yJ (zC F P G) F.m u).isSome)/\FL w' b (withM F ((yJ (zC F P G) F.m u).getD F.m))/\Only w.heap.size b w w':=by
 have lb:=hf.lt;obtain⟨aq,ao⟩:=hs.q1 rfl;(have az:(u:Int)<6:=by omega);have z:=hf.cUd hu;have d0:=z 0 (by omega);have d1:=z 1 (by omega);have d2:=z 2 (by omega);have d3:=z 3 (by omega);have L:=hz.sz hg.kx;clear z;have q:=brw w;go_enter func198,ntmps198;go_wp2_with fail;refine(ww b F F.m P G u _ hf L.sm).mono ?_;rintro e5 w5 ⟨rfl,N⟩;clear d0 d1 d2 d3 ao;have a:=q.trans (N.mono (q.size));clear q;clear N;have y:=@jCt (zC F P G) F.m u;obtain⟨⟨tn,tf⟩,ht⟩:∃t,Por.tight (zC F P G) F.m u=t:=⟨_,rfl⟩;rw[ht]at y ⊢;simp only at y ⊢;skip
 cases tf with
 |true=>(have E:(yJ (zC F P G) F.m u)=lJ (yK F.m u tn):=by unfold yJ;rw[ht];rfl);obtain⟨Z,_⟩:=y rfl;have aj:=hg.kx.kV hu;have ah:=hg.kx.on hu Z;clear y;go_wp2_with fail;refine(tV b F F.m u tn _ (hf.iP a) hu Z (by have:=aj;omega) (by have:=ah;omega)).mono ?_;rintro e6 w6 ⟨rfl,R,X⟩;have af:=(Only.jE b a).trans (X.mono a.size);clear X;go_wp2;go_ret;exact⟨by rw[E];rfl,by rw[E];exact R,af⟩
 | false=>
  clear y;go_wp2_with fail;refine(CF (hs.iP a aq) (hf.iP a) L hg.kx hu).mono ?_;rintro e6 w6 ⟨v6,rfl,V,O⟩;have k:=V.mono a.size;have d:=a.trans (O.mono (a.size));clear a;clear O V;have r:=(choose_spec (zC F P G) F.m u 8).1;obtain⟨⟨A,l,xf⟩,hx⟩:∃x,zG (zC F P G) F.m u 8=x:=⟨_,rfl⟩;rw[hx]at r k ⊢;simp only at r k ⊢;skip
  cases xf with
  |false=>(have E:(yJ (zC F P G) F.m u)=lI:=by unfold yJ;rw[ht];simp only[ev,ig];rw[hx];rfl);clear r k;go_wp2;go_ret;exact⟨by rw[E];rfl,by rw[E];exact hf.iP d,Only.jE b d⟩
  | true=>
   (have E:(yJ (zC F P G) F.m u)=lJ (yK (zI F.m A l) u A):=by unfold yJ;rw[ht];simp only[ev,ig];rw[hx];rfl);obtain⟨p,_,Q⟩:=r rfl;(have aA:(A:Int)<8:=by omega);have s:=sV hg.kx.inv p Q;clear Q r;(have W:l.length<=240:=by have h1:=um l (fun j hj=>(s.mem j hj).1);have h2:=mD (f:=fun j=>zh j l) (n:=6) (B:=40) (fun j hj=>by show zh j l<=40;have h3:=s.on j hj;have h4:=hg.kx.on hj p;omega);rw[h1]at h2;omega);obtain⟨so,sc,ab,c⟩:=k.row;simp only[iv]at ab;subst ab;clear c;go_wp2
   go_loopg[44] l.length (fun gg ix wr=>∃i:Nat,gg=l.length-i/\i<=l.length/\ix=kW lD i/\FL wr b (withM F (zI F.m A (l.take i)))/\Li w.heap.size wr (kX so l.length sc) (zV l)/\Only w.heap.size b w wr)
   case atStart=>exact⟨0,rfl,ep _,rfl,hf.iP d,k,Only.jE b d⟩
   case round=>
    clear k d;obtain⟨i,aw,hi,rfl,XF,XL,M⟩:=hrel;by_cases H:i<l.length
    ·(have ar:(i:Int)<(l.length:Int):=by omega);(have au:(i:Int)<=1000:=by have:=W;omega);obtain⟨j,I⟩:∃j,l[i]=j:=⟨_,rfl⟩;(have U:j<6:=by rw[<-I];exact(s.mem _ (ij H)).1);(have ax:(j:Int)<6:=by omega);obtain⟨aC,aB,aa,c⟩:=XL.row;simp only[iv,iV]at aa c;obtain⟨rfl,_,rfl⟩:=aa;obtain⟨g,o,C,ap⟩:=c.head (by omega);have cg:=c.cell g o C i (by first|omega|(simp;omega));rw[uk _ H,I]at cg;clear c;rw[C];go_wp2_with fail;rw[<-C];clear cg ap C;have h:=s.rng hg hu p hlt i U;refine(Ez b F (zI F.m A (l.take i)) j A _ XF U p h.1 h.2.1 h.2.2).mono ?_;rintro e8 w8 ⟨rfl,S,J⟩;(have al:FL w8 b (withM F (zI F.m A (l.take (i+1)))):=by rw[As H,I];exact S);have am:=XL.only lb J lR;have an:=M.trans (J.mono M.size);clear S J XF XL M;go_wp2;go_roundg (l.length-(i+1));exact⟨i+1,rfl,by omega,by go_num,al,am,an⟩;omega
    ·(obtain rfl:i=l.length:=by omega);(have ak:FL wr b (withM F (zI F.m A l)):=by rw[jt]at XF;exact XF);have h:=s.rng hg hu p hlt l.length hu;rw[jt]at h;(have ay:¬ ((l.length:Int)<(l.length:Int)):=by omega);go_wp2_with fail;refine(tV b F (zI F.m A l) u A _ ak hu p h.1 h.2.1).mono ?_;rintro e9 w9 ⟨rfl,T,Y⟩;have ag:=M.trans (Y.mono M.size);clear Y;go_wp2;go_ret;exact⟨by rw[E];rfl,by rw[E];exact T,ag⟩
theorem wb (b:Nat) (F:Flt) (u:Nat) (w:lM) (hf:FL w b F) (hu:u<6) (ho:∀m,m<8->0<=F.m.on u m/\F.m.on u m<=1000000) :
    Calls prog 169 #[kY (lJ ⟨b,43+u*22,lI⟩)] w fun e w'=>e=lF (kW lD (runs F.m u))/\Below w.heap.size w w':=
  (qP b (43+u*22) (F.m.on u) w hf.lt (fun m hm=>(hf.cOn hu hm).1) ho).mono (fun e w' h=>⟨h.1,by rw[h.2];exact eB _ _⟩)
variable{n:Nat}
theorem t7 (h:c.goal i<=runs s i):xW c s i (n+1)=xW c s (i+1) n:=by simp only[xW];rw[ei h];rfl
theorem BH (h:¬ c.goal i<=runs s i)(hp:yJ c s i=lI):xW c s i (n+1)=xW c s (i+1) n:=by simp only[xW];rw[ee h,hp];rfl
theorem AJ {t:FM}(h:¬ c.goal i<=runs s i)(hp:yJ c s i=lJ t):xW c s i (n+1)=lJ t:=by simp only[xW];rw[ee h,hp];rfl
theorem Dl (hs:Bx w sb (zq b P G) 165)(hf:FL w b F)(hz:FStat F P)(hg:FGo (zC F P G) F.m):Calls prog 182 #[kY (lJ ⟨sb,0,lI⟩)] w fun e w'=>e=lF (kZ (zW (zC F P G) F.m).isSome)/\FL w' b (withM F ((zW (zC F P G) F.m).getD F.m))/\Only w.heap.size b w w':=by
 have lb:=hf.lt;have Z:=hs.lt;go_enter func182,ntmps182;go_wp2
 go_loopg[4] 6 (fun gg ix wr=>∃i:Nat,gg=6-i/\i<=6/\ix=kW lD i/\((zW (zC F P G) F.m)=xW (zC F P G) F.m i (6-i))/\FL wr b F/\Bx wr sb (zq b P G) 165/\Only w.heap.size b w wr)
 case atStart=>exact⟨0,rfl,by omega,rfl,rfl,hf,hs,Only.refl _ _ _⟩
 case round=>
  obtain⟨i,X,hi,rfl,C,v,y,D⟩:=hrel;by_cases n:i<6
  ·(have Y:(i:Int)<6:=by omega);(go_upto_region 4 with fail);have q:=brw wr;have M:=y.cell 0 _ rfl;have L:=y.cell (5+i) _ (sP _ _ _ n);have B:=y.lt;have Q:=v.lt;have J:=fun U (h:Bl wr U)=>(⟨qs h M B,qs h L B⟩:_/\_);(have S:∀ U,Bl wr U->Calls prog 169 #[kY (lJ ⟨b,43+i*22,lI⟩)] U (fun e w'=>e = lF (kW lD (runs F.m i))/\Bl wr w'):=fun U hU=>(wb b F i U (v.iP hU) n (fun m hm=>by have:=hg.kx.on n hm;omega)).mono (fun e w' ⟨h1,h3⟩=>⟨h1,hU.trans (h3.mono hU.size)⟩));have O:=qd M;have N:=qd L;go_region_held3 (fun w'=>lH w' ⟨sb,0,lI⟩=lJ (kY (lJ ⟨b,0,lI⟩))/\lH w' ⟨sb,5+i,lI⟩=lJ (kW lD (G i))) (first | exact J _ brf.drew | exact J _ d) (first | (go_at_call 169;refine (S _ ?hU).mono ?_;(case hU=>exact brf.drew);rintro T o ⟨rfl,d⟩));clear J S O N;have a:=q.trans (d.mono (q.size));clear q;clear d;clear M L B Q;have j:=v.iP a;have g:=y.ji a;have k:=D.trans ((Only.jE b a).mono D.size);clear v y D a;by_cases l:G i<=runs F.m i
   ·(have c:(zW (zC F P G) F.m)=xW (zC F P G) F.m (i+1) (6-(i+1)):=by rw[C,show 6-i=(6-(i+1))+1 by omega];exact t7 l);have A:=l;go_wp2;go_roundg (6-(i+1));exact⟨i+1,rfl,by omega,by go_num,c,j,g,k⟩;omega
   ·have r:=l;have A:=l;go_wp2_with fail;refine(Gr g j hz hg n (by have:=r;omega)).mono ?_;rintro e8 w8 ⟨rfl,z,s⟩;have K:=g.onlyF j (by decide) s g.lt;have x:=k.trans (s.mono k.size);clear s g j k
    cases u:yJ (zC F P G) F.m i with
    |none=>(have c:(zW (zC F P G) F.m)=xW (zC F P G) F.m (i+1) (6-(i+1)):=by rw[C,show 6-i=(6-(i+1))+1 by omega];exact BH (by have W:=r;show¬ G i<=runs F.m i;omega) u);rw[u]at z;simp only[ju,Option.getD_none]at z ⊢;clear u;go_wp2;go_roundg (6-(i+1));exact⟨i+1,rfl,by omega,by go_num,c,z,K,x⟩;omega
    |some t=>(have c:(zW (zC F P G) F.m)=lJ t:=by rw[C,show 6-i=(6-(i+1))+1 by omega];exact AJ (by have W:=r;show¬ G i<=runs F.m i;omega) u);rw[u]at z;simp only[jm,Option.getD_some]at z ⊢;clear u;go_wp2;go_ret;exact⟨by rw[c];rfl,by rw[c];exact z,x⟩
  ·(obtain rfl:i=6:=by omega);have c:=C;go_wp2;go_ret;exact⟨by rw[c];rfl,by rw[c];exact v,D⟩
theorem FStat.with (h:FStat F P)(s:FM):FStat (withM F s) P:=⟨h.ms,h.ud,h.uw,h.kq⟩
theorem DX (sb b:Nat) (F:Flt) (s:FM) (P G:Nat->Int) (w:lM) (hs:Bx w sb (zq b P G) 165) (hf:FL w b (withM F s)) (hz:FStat F P) (hg:FGo (zC F P G) s) :
    Calls prog 182 #[kY (lJ ⟨sb,0,lI⟩)] w fun e w'=>e=lF (kZ (zW (zC F P G) s).isSome)/\FL w' b (withM F ((zW (zC F P G) s).getD s))/\Only w.heap.size b w w':=Dl (sb:=sb) (b:=b) (F:=withM F s) (P:=P) (G:=G) (w:=w) hs hf (hz.with s) hg
theorem Da (hs:Bx w sb (zq b P G) 165)(hf:FL w b F)(hz:FStat F P)(hg:FGo (zC F P G) F.m)(ho:FOk (zC F P G)):Calls prog 164 #[kY (lJ ⟨sb,0,lI⟩)] w fun e w'=>e=lF (kZ (zW (zC F P G) F.m).isSome)/\∃z,FL w' b (withM F z)/\Iter (zW (zC F P G)) F.m z/\FGo (zC F P G) z/\Only w.heap.size b w w':=by
 have N:=hf.lt;have H:=hs.lt;go_enter func164,ntmps164;go_wp2
 go_loopg[3] (lack (zC F P G) F.m).toNat (fun gg s3 wr=>∃(s:FM) (a:Bool),gg=(lack (zC F P G) s).toNat/\s3=kZ a/\((zW (zC F P G) F.m).isSome=(a||(zW (zC F P G) s).isSome))/\(∀z,Iter (zW (zC F P G)) s z->Iter (zW (zC F P G)) F.m z)/\FGo (zC F P G) s/\FL wr b (withM F s)/\Bx wr sb (zq b P G) 165/\Only w.heap.size b w wr)
 case atStart=>exact⟨F.m,lL,rfl,rfl,rfl,fun z h=>h,hg,hf,hs,Only.refl _ _ _⟩
 case round=>
  obtain⟨s,a,E,rfl,g,A,k,v,l,x⟩:=hrel;go_wp2_with fail;refine(DX sb b F s P G _ l v hz k).mono ?_;rintro J I ⟨rfl,j,f⟩;have y:=l.onlyF v (by decide) f l.lt;have i:=x.trans (f.mono x.size)
  cases d:zW (zC F P G) s with
  |none=>rw[d]at j g;simp only[ju,Option.getD_none,Bool.or_false]at j g ⊢;have p:=A s (.done d);go_wp2;go_ret;exact⟨by rw[g];rfl,s,j,p,k,i⟩
  |some t=>rw[d]at j g;simp only[jm,Option.getD_some,Bool.or_true]at j g ⊢;(have p:∀z,Iter (zW (zC F P G)) t z->Iter (zW (zC F P G)) F.m z:=fun z h=>A z (.step d h));have o:=k.goal ho d;(have q:(lack (zC F P G) t).toNat<gk:=by obtain⟨Q,O,M,D⟩:=mV k.kx.inv d;have K:=D.lack;have L:=pS (zC F P G) t;omega);go_wp2;go_roundg (lack (zC F P G) t).toNat;(case measure=>exact q);case rel=>exact⟨t,lK,rfl,rfl,by rw[g];rfl,p,o,j,y,i⟩
def zu (a:Nat->Int)(k:Nat):List Int:=(List.range k).map a
theorem GK (a:Nat->Int)(k:Nat):zu a (k+1)=zu a k++[a k]:=by unfold zu;rw[jy,ii];rfl
theorem JB (a:Nat->Int)(k:Nat):(zu a k).length=k:=by unfold zu;simp
variable{k:Nat}
theorem nZ (a:Nat->Int){r:Nat}(h:r<k):(zu a k)[r]?=lJ (a r):=by unfold zu;rw[eD,iL h];rfl
def yk (F:Flt)(u:Nat):Int:=if F.uc u<F.m.kV u+runs F.m u then F.uc u else F.m.kV u+runs F.m u
theorem tW {a:Nat->Int}(hk:k<=4):Calls prog 180 #[lA (av a),kW lD k] w fun e w'=>∃v,e=lF v/\Li w.heap.size w' v (zu a k)/\Below w.heap.size w w':=by
 have c:=brw w;go_enter func180,ntmps180;(go_upto_region 2 with fail);have b:=i1 w #[kW lD (a 0),kW lD (a 1),kW lD (a 2),kW lD (a 3)] 106;have d:=c.alloc c.size (lE #[kW lD (a 0),kW lD (a 1),kW lD (a 2),kW lD (a 3)] 106);have D:=c.size;generalize w.alloc (lE #[kW lD (a 0),kW lD (a 1),kW lD (a 2),kW lD (a 3)] 106)=V at b d ⊢;obtain⟨C,E,F,G,H⟩:=b.q4 rfl;go_wp2
 go_loopg[5,9] 4 (fun gg s5 ix wr=>∃(i:Nat) (g:lN),gg=4-i/\i<=4/\ix=kW lD i/\g=s5/\Li w.heap.size wr g (zu a (min i k))/\Bl w wr)
 case atStart=>exact⟨0,kX lI 0 0,rfl,by omega,rfl,rfl,by rw[Nat.zero_min];exact Li.nil _ _,d⟩
 case round=>
  obtain⟨i,g,y,I,rfl,rfl,o,h⟩:=hrel;by_cases r:i<4
  ·(have z:(i:Int)<4:=by omega);have s:=vB a r;by_cases A:i<k
   ·(have n:(i:Int)<(k:Int):=by omega);rw[show min i k=i by omega]at o;have B:=h.size;go_wp2_with (at_builtin;refine sy _ rfl _ _ rfl w.heap.size _ (zu a i) ⟨wr.heap.size,0,lI⟩ 1 (a i) rfl rfl (o.alloc _) ((i1 wr #[kW lD (a i)] 3).cell 0 _ rfl) (by rw[JB];omega) (by simp only[em];omega) ?_);intro u x m q l;have p:=(h.alloc h.size _).trans (l.mono lR);(have f:Li w.heap.size x u (zu a (min (i+1) k)):=by rw[show min (i+1) k=i+1 by omega,GK];exact m);go_wp2;go_roundg (4-(i+1));exact⟨i+1,u,rfl,by omega,by go_num,rfl,f,p⟩;omega
   ·(have n:¬ (i:Int)<(k:Int):=by omega);(have f:Li w.heap.size wr g (zu a (min (i+1) k)):=by have j:=o;rw[show min i k=min (i+1) k by omega]at j;exact j);go_wp2;go_roundg (4-(i+1));exact⟨i+1,g,rfl,by omega,by go_num,rfl,f,h⟩;omega
  ·(obtain rfl:i=4:=by omega);(have f:Li w.heap.size wr g (zu a k):=by have j:=o;rw[show min 4 k=k by omega]at j;exact j);go_wp2;go_ret;exact⟨g,rfl,f,h⟩
theorem Fh (hf:FL w b F)(hk:F.k<=4)(hw:0<=F.m.kV u/\F.m.kV u<=1000000)(ho:∀m,m<8->0<=F.m.on u m/\F.m.on u m<=1000000):Calls prog 179 #[kY (lJ ⟨b,0,lI⟩),lA (zH F u)] w fun e w'=>∃v,e=lF (lA #[v,kW lD (F.uw u),kW lD (yk F u)])/\Li w.heap.size w' v (zu (F.ud u) F.k)/\Below w.heap.size w w':=by
 have lb:=hf.lt;have A:=brw w;have L:=i1 w (zH F u) 112;have B:=A.alloc A.size (lE (zH F u) 112);have al:=A.size;clear A;have E:=i7 L (lE #[kX lI 0 0,kW lD 0,kW lD 0] 56);have D:=i1 (w.alloc (lE (zH F u) 112)) #[kX lI 0 0,kW lD 0,kW lD 0] 56;have C:=B.alloc B.size (lE #[kX lI 0 0,kW lD 0,kW lD 0] 56);have ak:=B.size;clear L B;simp only[em]at D;go_enter func179,ntmps179;(go_upto_region 1 with fail);generalize(w.alloc (lE (zH F u) 112)).alloc (lE #[kX lI 0 0,kW lD 0,kW lD 0] 56)=V at E D C ⊢;obtain⟨f,ac⟩:∃f,f=w.heap.size:=⟨_,rfl⟩;obtain⟨r,aa⟩:∃r,r=w.heap.size+1:=⟨_,rfl⟩;(have hU:Bx V f (zH F u) 112:=by rw[ac];exact E);(have hR:Bx V r #[kX lI 0 0,kW lD 0,kW lD 0] 56:=by rw[aa];exact D);rw[<-aa,<-ac];(have ai:f≠r:=by omega);(have ah:b≠r:=by omega);(have aj:w.heap.size<=r:=by omega);clear ac aa E D;go_wp2_with fail;refine(Aw hU.lt (hU.cell 7 _ rfl) (fun m hm=>by rw[show 0+8+m=8+m by omega];exact hU.cell (8+m) _ (p9 F u hm)) hw ho).mono ?_;rintro e1 g ⟨rfl,J⟩;have d:=hU.ji J;have c:=hR.ji J;have o:=et C J;clear hU hR C;clear J;rw[show Por.sumI (F.m.on u) 8=runs F.m u from rfl];generalize ab:F.m.kV u+runs F.m u=K;have c6:=d.cell 6 _ rfl;have s:=d.lt;by_cases ag:F.uc u<K
 ·have P:=o.size;(have HM:yk F u=(F.uc u):=by unfold yk;rw[ab];exact ed ag);(go_upto_region 4 with fail);clear c6 s;have s:=d.lt;have c1:=d.cell 1 _ rfl;have c2:=d.cell 2 _ rfl;have c3:=d.cell 3 _ rfl;have c4:=d.cell 4 _ rfl;have c5:=d.cell 5 _ rfl;have H:=jl o lb;(have ck:lH g ⟨b,0,lI⟩=lJ (kW lD F.k):=by obtain⟨M,h1,h2⟩:=hf.iP o;rw[h1.cell (by omega),h2.k]);have I:=fun U (h:Bl g U)=>(⟨qs h c5 s,qs h c1 s,qs h c2 s,qs h c3 s,qs h c4 s,qs h ck H⟩:_/\_/\_/\_/\_/\_);obtain⟨X,R,S,T,W,Y⟩:=I _ (brw g).drew;go_region_held3 (fun w'=>lH w' ⟨f,5,lI⟩=lJ (kW lD (F.uw u))/\lH w' ⟨f,1,lI⟩=lJ (kW lD (F.ud u 0))/\lH w' ⟨f,2,lI⟩=lJ (kW lD (F.ud u 1))/\lH w' ⟨f,3,lI⟩=lJ (kW lD (F.ud u 2))/\lH w' ⟨f,4,lI⟩=lJ (kW lD (F.ud u 3))/\lH w' ⟨b,0,lI⟩=lJ (kW lD F.k)) (first|exact I _ brf.drew|exact I _ a|(simp only[oM ai,oM ah];exact I _ a)) (first|(go_at_call 180;refine(tW hk).mono ?_;rintro Z i ⟨v7,rfl,z,q⟩;have a:=(brw g).drew.trans (q.mono ((brw g).drew).size);clear q;obtain⟨n,l,G⟩:=z.kE;rw[JB]at G;subst G;have k0:=(c.ji a).cell 0 _ rfl;have z0:=(c.ji a).frozen 0;have k1:=(c.ji a).cell 1 _ rfl;have z1:=(c.ji a).frozen 1;have k2:=(c.ji a).cell 2 _ rfl;have z2:=(c.ji a).frozen 2;have ad:=(c.ji a).lt));clear I X R S T W Y;have Q:=d.ji a;have j:=c.ji a;have x:=et o a;clear d c o;clear k0 k1 k2 z0 z1 z2 ad;have y:Bx (((lG i ⟨r,0,lI⟩ (kX n F.k l)).setCell ⟨r,1,lI⟩ (kW lD (F.uw u))).setCell ⟨r,2,lI⟩ (kW lD (F.uc u))) r #[kX n F.k l,kW lD (F.uw u),kW lD (F.uc u)] 56:=j.jM (kX n F.k l) (kW lD (F.uw u)) (kW lD (F.uc u));have N:Bl w (((lG i ⟨r,0,lI⟩ (kX n F.k l)).setCell ⟨r,1,lI⟩ (kW lD (F.uw u))).setCell ⟨r,2,lI⟩ (kW lD (F.uc u))):=j8 x aj (kX n F.k l) (kW lD (F.uw u)) (kW lD (F.uc u));have O:Li w.heap.size (((lG i ⟨r,0,lI⟩ (kX n F.k l)).setCell ⟨r,1,lI⟩ (kW lD (F.uw u))).setCell ⟨r,2,lI⟩ (kW lD (F.uc u))) (kX n F.k l) (zu (F.ud u) F.k):=(((z.mono (by have h9:=P;first|exact h9|simpa using h9)).set j (by decide) 0 _).set (j6 j 0 _) (by decide) 1 _).set (j6 (j6 j 0 _) 1 _) (by decide) 2 _;clear z;go_wp2;obtain⟨y0,y1,y2⟩:=y.c3 rfl;refine eG (v:=lA #[kX n F.k l,kW lD (F.uw u),kW lD (F.uc u)]) (by simp[results,results179,go_sem,y0,y1,y2]) rfl ⟨kX n F.k l,by rw[HM],O,N⟩
 ·have P:=o.size;(have HM:yk F u=K:=by unfold yk;rw[ab];exact ec ag);(go_upto_region 4 with fail);clear c6 s;have s:=d.lt;have c1:=d.cell 1 _ rfl;have c2:=d.cell 2 _ rfl;have c3:=d.cell 3 _ rfl;have c4:=d.cell 4 _ rfl;have c5:=d.cell 5 _ rfl;have H:=jl o lb;(have ck:lH g ⟨b,0,lI⟩=lJ (kW lD F.k):=by obtain⟨M,h1,h2⟩:=hf.iP o;rw[h1.cell (by omega),h2.k]);have I:=fun U (h:Bl g U)=>(⟨qs h c5 s,qs h c1 s,qs h c2 s,qs h c3 s,qs h c4 s,qs h ck H⟩:_/\_/\_/\_/\_/\_);obtain⟨X,R,S,T,W,Y⟩:=I _ (brw g).drew;go_region_held3 (fun w'=>lH w' ⟨f,5,lI⟩=lJ (kW lD (F.uw u))/\lH w' ⟨f,1,lI⟩=lJ (kW lD (F.ud u 0))/\lH w' ⟨f,2,lI⟩=lJ (kW lD (F.ud u 1))/\lH w' ⟨f,3,lI⟩=lJ (kW lD (F.ud u 2))/\lH w' ⟨f,4,lI⟩=lJ (kW lD (F.ud u 3))/\lH w' ⟨b,0,lI⟩=lJ (kW lD F.k)) (first|exact I _ brf.drew|exact I _ a|(simp only[oM ai,oM ah];exact I _ a)) (first|(go_at_call 180;refine(tW hk).mono ?_;rintro Z i ⟨v7,rfl,z,q⟩;have a:=(brw g).drew.trans (q.mono ((brw g).drew).size);clear q;obtain⟨n,l,G⟩:=z.kE;rw[JB]at G;subst G;have k0:=(c.ji a).cell 0 _ rfl;have z0:=(c.ji a).frozen 0;have k1:=(c.ji a).cell 1 _ rfl;have z1:=(c.ji a).frozen 1;have k2:=(c.ji a).cell 2 _ rfl;have z2:=(c.ji a).frozen 2;have ad:=(c.ji a).lt));clear I X R S T W Y;have Q:=d.ji a;have j:=c.ji a;have x:Below (w.heap.size) w i:=et o a;clear d c o;clear k0 k1 k2 z0 z1 z2 ad;have y:Bx (((lG i ⟨r,0,lI⟩ (kX n F.k l)).setCell ⟨r,1,lI⟩ (kW lD (F.uw u))).setCell ⟨r,2,lI⟩ (kW lD K)) r #[kX n F.k l,kW lD (F.uw u),kW lD K] 56:=j.jM (kX n F.k l) (kW lD (F.uw u)) (kW lD K);have N:Bl w (((lG i ⟨r,0,lI⟩ (kX n F.k l)).setCell ⟨r,1,lI⟩ (kW lD (F.uw u))).setCell ⟨r,2,lI⟩ (kW lD K)):=j8 x aj (kX n F.k l) (kW lD (F.uw u)) (kW lD K);have O:Li w.heap.size (((lG i ⟨r,0,lI⟩ (kX n F.k l)).setCell ⟨r,1,lI⟩ (kW lD (F.uw u))).setCell ⟨r,2,lI⟩ (kW lD K)) (kX n F.k l) (zu (F.ud u) F.k):=(((z.mono (by have h9:=P;first|exact h9|simpa using h9)).set j (by decide) 0 _).set (j6 j 0 _) (by decide) 1 _).set (j6 (j6 j 0 _) 1 _) (by decide) 2 _;clear z;go_wp2;obtain⟨y0,y1,y2⟩:=y.c3 rfl;refine eG (v:=lA #[kX n F.k l,kW lD (F.uw u),kW lD K]) (by simp[results,results179,go_sem,y0,y1,y2]) rfl ⟨kX n F.k l,by rw[HM],O,N⟩
theorem Dk {P:Program}(w:lM)(base:Nat)(t ty e:TypeId)(i:TypeInfo)(z:lN)(size bytes:Nat)(ht:P.underlying t=lJ (.slice e))(hi:P.info? e=lJ i)(hz:i.zero=lJ z)(hsize:i.size=size)(hby:i.bytes=bytes)(hsz:0<size)(v:lN)(n:Nat)(xs:List lN)(hown:w.ownsRow base e size v n xs)(a:Addr)(m c:Nat)(news:List lN)(hl:news.length=m*size)(hnews:∀j u,news[j]?=lJ u->w.cell? (a.add j)=lJ u)(h1:∀u∈news,u.oneCell'=lK)(h63:n+m<=maxLen)(hbytes:(n+m)*bytes<=140737488355328)(hm:0<m)(v':lN)(w':lM)(hr:(Builtin.append_ #[t,t] ty #[v,kX (lJ a) m c]).run P w=.ok v' w'):v'.ownBlock=v.ownBlock\/v'.ownBlock=lJ w.heap.size:=by
 subst hsize;subst hby;(have o:n+m<=9223372036854775807:=by simp only[maxLen]at h63;omega);rcases hown.2 with⟨rfl,rfl⟩|⟨g,f,k,rfl,s,y,A,x,p,q⟩
 ·have d:=run_append_nil (P:=P) w t ty e i z ht hi hz a m c news hl hnews (by omega) (by omega) (by have r:=hbytes;simp only[eC]at r;omega);rw[hr]at d;cases d;exact .inr rfl
 ·by_cases b:n+m<=f
  ·(have l:n*i.size+news.length<=k.size:=by rw[hl,p,<-Nat.add_mul];exact hI _ b);have d:=run_append_room (P:=P) w t ty e i ht hi g n f k y a m c news hl hnews h1 b l;rw[hr]at d;cases d;exact .inl rfl
  ·have h:=hown.cells (g:=g) rfl;have d:=run_append_grow (P:=P) w t ty e i z ht hi hz ⟨g,0,lI⟩ n f xs hown.1 h a m c news hl hnews (by omega) (by omega) (growslice_fits (by omega) hbytes);rw[hr]at d;cases d;exact .inr rfl
variable{o:Oper}{ops:Array Oper}{rest:List Oper}{a:Act}{Q:Exit->Act->lM->Prop}
theorem qz {P:Program} (w:lM) (hgd:o.guard=lI) (s x:Operand) (t:TypeId)
 (ho:o.op=.call {callee:=.builtin .append,args:=#[s,x],argTypes:=#[t,t]})
 (base:Nat) (e:TypeId) (i:TypeInfo) (z:lN) (size bytes:Nat) (ht:P.underlying t=lJ (.slice e)) (hi:P.info? e=lJ i) (hz:i.zero=lJ z)
 (hsize:i.size=size) (hby:i.bytes=bytes) (hzs:z.cells.size=size) (hsz:0<size)
 (v:lN) (n:Nat) (xs:List lN) (hs:a.eval s=v) (hown:w.ownsRow base e size v n xs)
 (ad:Addr) (m c:Nat) (news:List lN) (hx:a.eval x=kX (lJ ad) m c) (hl:news.length=m*size) (hnews:∀j u,news[j]?=lJ u->w.cell? (ad.add j)=lJ u) (h1:∀u∈news,u.oneCell'=lK)
 (h63:n+m<=maxLen) (hbytes:(n+m)*bytes<=140737488355328) (hbase:base<=w.heap.size) (hm:0<m)
 (h:∀ v' w',w'.ownsRow base e size v' (n+m) (xs++news)->w.grownBy w' v.ownBlock->(v'.ownBlock=v.ownBlock\/v'.ownBlock=lJ w.heap.size)->wpList P ops Q rest (a.put o.dst v') w'):wpList P ops Q (o :: rest) a w:=
  wpList_plain hgd fun K hK=>by
    obtain⟨v',w',hr,h2,h3,h4⟩:=run_append_own (P:=P) w base t o.type e i z size bytes ht hi hz hsize hby hzs hsz v n xs hown ad m c news hl hnews h1 h63 hbytes hbase
    have h5:=Dk (P:=P) w base t o.type e i z size bytes ht hi hz hsize hby hsz v n xs hown ad m c news hl hnews h1 h63 hbytes hm v' w' hr
    unfold Oper.wp execOp
    simp only[ho,resolve,invoke,builtin,Sem.run_bind,Sem.run_pure,Result.andThen_ok,List.map_toArray,List.map_cons,List.map_nil,hs,hx,hr]
    exact hK _ _ (h v' w' h2 h3 h5)
variable{row:Option Nat}
theorem tk (h:w.grownBy w' row)(hb:base<=w.heap.size)(hr:∀k,row=lJ k->base<=k):Below base w w':=(eB base w).grown h hb hr
theorem CD (w:lM)(hgd:o.guard=lI)(s x:Operand)(hop:o.op=Op.call {callee:=Callee.builtin Builtin.append,args:=#[s,x],argTypes:=#[22,22]})(base:Nat)(v:lN)(l:List Int)(ad:Addr)(c:Nat)(u:Int)(hs:a.eval s=v)(hx:a.eval x=kX (lJ ad) 1 c)(hown:Li base w v l)(h0:w.cell? (ad.add 0)=lJ (kW lD u))(hle:l.length+1<=1000000)(hb:base<=w.heap.size)(h:∀v' w',Li base w' v' (l++[u])->w.grownBy w' v.ownBlock->(v'.ownBlock=v.ownBlock\/v'.ownBlock=lJ w.heap.size)->wpList prog ops Q rest (a.put o.dst v') w'):wpList prog ops Q (o::rest) a w:=by
 obtain⟨i,p,b,d,e⟩:=iM Tryz.infoInt;refine qz w hgd s x _ hop base 3 i (kW lD 0) 1 8 eR p b d e rfl (by decide) v l.length _ hs hown ad 1 c [kW lD u] hx (by simp) ?_ ?_ (by unfold maxLen;omega) (by omega) hb (by omega) ?_
 ·intro j z f
  match j with
  |0=>rw[h0];simpa using f
  |j+1=>simp at f
 ·intro z g;simp at g;subst g;rfl
 ·intro v' w' k m n;refine h v' w' ?_ m n;unfold Li;rw[eK,ii];exact k
theorem Li.kept (h:Li base w v l) (hg:w.grownBy w' row) (hne:∀k,v.ownBlock=lJ k->row≠lJ k):Li base w' v l:=
  World.ownsRow.kept h hg (by
    cases e:v.ownBlock with
    |none=>exact .inl rfl
    |some k=>exact .inr (fun h5=>hne k e h5.symm))
theorem Li.lt (h:Li base w v l)(hk:v.ownBlock=lJ k):base<=k/\k<w.heap.size:=jN h k hk
theorem Li.arr (h:Li base w v l):∃ao cap,v=kX ao l.length cap/\Arr w 1 ao l.length cap (zi l):=by
 obtain⟨r,h⟩:=h;rcases h with⟨rfl,h⟩|⟨g,cap,a,rfl,t,d,n,p,s,q⟩
 ·obtain rfl:l=[]:=iq.1 h;exact⟨lI,0,rfl,Arr.nil _ _⟩
 ·refine⟨_,_,rfl,⟨by simp[zi],n,p,fun _=>⟨g,0,rfl,(ek.1 d).1⟩,?_⟩⟩;intro b o e i v c j u k
  cases e
  (have f:i<l.length:=by simpa[zi]using(eA.1 c).1);unfold zi at c;rw[eD,en f]at c
  cases c
  match j with
  |0=>rw[eC,hH w g _ _ _ _ d];(have m:a.toList[i*1+0]?=(a.toList.take (l.length*1))[i*1+0]?:=by rw[eH,ed (by omega)]);rw[<-eI,m,q,eD,ic,ia,en f];exact k
  |j+1=>simp[Value.cells]at k
def ucl (ps:List (lN×Usr)):List lN:=ps.flatMap (fun p=>[p.1,kW lD p.2.wt,kW lD p.2.cap])
theorem BO:∀(ps:List (lN×Usr)){i:Nat}(h:i<ps.length) ,(ucl ps)[i*3]?=lJ ps[i].1/\(ucl ps)[i*3+1]?=lJ (kW lD ps[i].2.wt)/\(ucl ps)[i*3+2]?=lJ (kW lD ps[i].2.cap):=by
 intro ps
 induction ps with
 |nil=>intro i h;simp at h
 | cons p ps ih=>
  intro i h;have e:ucl (p::ps)=[p.1,kW lD p.2.wt,kW lD p.2.cap]++ucl ps:=rfl;rw[e]
  match i with
  |0=>exact⟨rfl,rfl,rfl⟩
  |i+1=>
   obtain⟨a,b,c⟩:=ih (i:=i) (by simpa using h);refine⟨?_,?_,?_⟩
   ·rw[eM (by simp;omega),show(i+1)*3 - [p.1,Value.int lD p.2.wt,kW lD p.2.cap].length=i*3 by simp;omega];exact a
   ·rw[eM (by simp;omega),show(i+1)*3+1 - [p.1,Value.int lD p.2.wt,kW lD p.2.cap].length=i*3+1 by simp;omega];exact b
   ·rw[eM (by simp;omega),show(i+1)*3+2 - [p.1,Value.int lD p.2.wt,kW lD p.2.cap].length=i*3+2 by simp;omega];exact c
theorem Tryz.infoUsrF:(prog.info? 56).map (fun i=>(i.zero,i.size,i.bytes))=lJ (lJ (lA #[kX lI 0 0,kW lD 0,kW lD 0]),3,40):=by kernel_rfl
def UOw (base:Nat)(w:lM)(v:lN)(ps:List (lN×Usr)):Prop:=w.ownsRow base 56 3 v ps.length (ucl ps)/\∀p,p∈ps->Li base w p.1 p.2.dem
theorem UOw.nil (base:Nat)(w:lM):UOw base w (kX lI 0 0) []:=⟨iy _ _ _ _,fun p hp=>by cases hp⟩
theorem UOw.iP {ps:List (lN×Usr)}(h:UOw base w v ps)(hb:Below w.heap.size w w'):UOw base w' v ps:=⟨JO h.1 hb,fun p hp=>(h.2 p hp).iP hb⟩
theorem UOw.kr {ps:List (lN×Usr)}(h:UOw base w v ps):∃ao cap,v=kX ao ps.length cap/\Users w ao ps.length cap (ps.map (·.2)):=by
 obtain⟨⟨E,z⟩,A⟩:=h;rcases z with⟨rfl,h⟩|⟨g,cap,m,rfl,G,k,B,C,F,D⟩
 ·obtain rfl:ps=[]:=iq.1 h;exact⟨lI,0,rfl,rfl,[],Arr.nil _ _,fun i v a=>by simp at a⟩
 ·refine⟨_,_,rfl,by simp,ps.map (fun p=>lA #[p.1,kW lD p.2.wt,kW lD p.2.cap]),⟨by simp,B,C,fun _=>⟨g,0,rfl,(ek.1 k).1⟩,?_⟩,?_⟩
  ·intro b o e i v a j u f
   cases e
   (have d:i<ps.length:=by simpa using(eA.1 a).1);rw[eD,en d]at a
   cases a
   obtain⟨t,x,y⟩:=BO ps d;have c:∀q,q<ps.length*3->lH w ⟨g,0+q,lI⟩=(ucl ps)[q]?:=fun q hq=>by rw[eC,hH w g q _ _ _ k,<-eI,<-D,eH,ed hq]
   match j with
   |0=>rw[c _ (by omega)];rw[ia,t];exact f
   |1=>rw[c _ (by omega)];rw[x];exact f
   |2=>rw[c _ (by omega)];rw[y];exact f
   |j+3=>simp[Value.cells]at f
  ·intro i v a;(have d:i<ps.length:=by simpa using(eA.1 a).1);rw[eD,en d]at a
   cases a
   obtain⟨ao,l,n,r⟩:=(A _ (ij d)).arr;(have s:ug (ps.map (·.2)) i=ps[i].2:=by unfold ug;rw[ej,eD,en d];rfl);rw[s];refine⟨ao,_,l,?_,r⟩;show Value.agg #[ps[i].1,kW lD ps[i].2.wt,kW lD ps[i].2.cap]=_;rw[n]
theorem CE (w:lM)(hgd:o.guard=lI)(s x:Operand)(hop:o.op=Op.call {callee:=Callee.builtin Builtin.append,args:=#[s,x],argTypes:=#[23,23]})(base:Nat)(v:lN)(ps:List (lN×Usr))(ad:Addr)(c:Nat)(p:lN×Usr)(hs:a.eval s=v)(hx:a.eval x=kX (lJ ad) 1 c)(hown:UOw base w v ps)(hp:Li base w p.1 p.2.dem)(h0:w.cell? (ad.add 0)=lJ p.1)(h1:w.cell? (ad.add 1)=lJ (kW lD p.2.wt))(h2:w.cell? (ad.add 2)=lJ (kW lD p.2.cap))(hle:ps.length+1<=1000000)(hb:base<=w.heap.size)(h:∀v' w',UOw base w' v' (ps++[p])->Touch 56 base w w'->Below base w w'->wpList prog ops Q rest (a.put o.dst v') w'):wpList prog ops Q (o::rest) a w:=by
 obtain⟨i,A,m,n,r⟩:=iM Tryz.infoUsrF;(have d:p.1.oneCell'=lK:=by obtain⟨B,cap,e⟩:=hp.kE;rw[e];rfl);refine jw w hgd s x _ hop base 56 i (lA #[kX lI 0 0,kW lD 0,kW lD 0]) 3 40 underlying23 A m n r rfl (by decide) v ps.length _ hs hown.1 ad 1 c [p.1,kW lD p.2.wt,kW lD p.2.cap] hx (by simp) ?_ ?_ (by unfold maxLen;omega) (by omega) hb ?_
 ·intro j u f
  match j with
  |0=>rw[h0];simpa using f
  |1=>rw[h1];simpa using f
  |2=>rw[h2];simpa using f
  |j+3=>simp at f
 ·intro u y;simp at y;rcases y with rfl|rfl|rfl
  ·exact d
  ·rfl
  ·rfl
 ·intro v' w' z t _;have l:=Touch.of_append hown.1 t;have g:=tk t hb (fun k hk=>(jN hown.1 k hk).1);refine h v' w' ⟨?_,?_⟩ l g
  ·(have e:ucl (ps++[p])=ucl ps++[p.1,kW lD p.2.wt,kW lD p.2.cap]:=by unfold ucl;rw[jA];rfl);rw[e,eK];exact z
  ·intro q b;rw[iu]at b;rcases b with b|b
   ·exact(hown.2 q b).kC l (by decide)
   ·simp at b;subst b;exact hp.kC l (by decide)
theorem Tab.only (h:Tab w)(hf:FL w b F)(ho:Only B b w w')(hB:w.heap.size<=B):Tab w':=by
 obtain⟨M,h1,h2⟩:=hf;unfold Tab Go.Lib.TabIs World.var? at *
 cases hg:prog.globalNamed "internal/strconv.uint64pow10" with
 |none=>simp[hg]at h
 | some g=>
  simp only[hg,jO]at h ⊢
  have hlt:g<w.heap.size:=by
   rcases Nat.lt_or_ge g w.heap.size with h'|h'
   ·exact h'
   ·rw[Array.getElem?_eq_none h']at h;simp at h
  (have hne:g≠b:=by rintro rfl;unfold FBk at h1;rw[h1]at h;simp only[jO,io]at h;have h5:=congrArg (fun a:Array lN=>a[0]?) h;simp only[Array.getElem?_ofFn]at h5;rw[dif_pos (by omega)]at h5;have h6:=h2.k;rw[h6]at h5;simp[Go.Lib.pow10Tab]at h5);rw[ho.block g (by omega) hne];exact h
open Go.Lib (decDigits)
def zp (t:Nat->Bool):Nat->Nat
  |0=>0
  |u+1=>zp t u+if t u then 1 else 0
def nsF (t:Nat->Bool):Nat->List Nat
  |0=>[]
  |u+1=>nsF t u++if t u then[u]else[]
theorem mA (t:Nat->Bool)(n:Nat):(nsF t n).length=zp t n:=by
 induction n with
 |zero=>rfl
 |succ n ih=>simp only[nsF,zp,eK,ih];cases t n<;>rfl
variable{t:Nat->Bool}
theorem oG (h:t n=lK):nsF t (n+1)=nsF t n++[n]:=by simp only[nsF];rw[h];rfl
theorem pH (h:t n=lL):nsF t (n+1)=nsF t n:=by simp only[nsF];rw[h];simp
theorem Gx {v:Nat}(h:u<=v):zp t u<=zp t v:=by
 induction v with
 |zero=>(obtain rfl:u=0:=by omega);exact lR
 |succ v ih=>
  by_cases e:u=v+1
  ·subst e;exact lR
  ·have:=ih (by omega);simp only[zp];omega
theorem ns {v:Nat}(h:u<v)(ht:t u=lK):zp t u<zp t v:=by
 have a:=Gx (t:=t) (u:=u+1) (v:=v) (by omega);simp only[zp]at a;rw[ht]at a;simp at a;omega
theorem GJ {v:Nat}(hu:t u=lK)(hv:t v=lK)(h:zp t u=zp t v):u=v:=by
 rcases Nat.lt_trichotomy u v with a|a|a
 ·have:=ns a hu;omega
 ·exact a
 ·have:=ns a hv;omega
theorem Cn (ht:t u=lK):∀n,u<n->(nsF t n)[zp t u]?=lJ u:=by
 intro n
 induction n with
 |zero=>intro h;omega
 |succ n ih=>
  intro h;by_cases e:u=n
  ·subst e;rw[oG ht,eM (by rw[mA];exact lR),mA];simp
  ·have a:=ih (by omega);(have b:zp t u<(nsF t n).length:=by rw[mA];exact ns (by omega) ht);simp only[nsF];rw[eU b];exact a
theorem qj:∀n {u:Nat},u∈nsF t n->u<n/\t u=lK:=by
 intro n
 induction n with
 |zero=>intro u h;cases h
 | succ n ih=>
  intro u h
  cases a:t n with
  |false=>rw[pH a]at h;have:=ih h;exact⟨by omega,this.2⟩
  |true=>
   rw[oG a,iu]at h;rcases h with h|h
   ·have:=ih h;exact⟨by omega,this.2⟩
   ·simp at h;subst h;exact⟨by omega,a⟩
theorem Ie (h:i<(nsF t n).length):zp t (nsF t n)[i]=i:=by
 obtain⟨e,f⟩:=qj n (ij h);have c:=Cn f n e;have k:=(eA.1 c).1
 have g:∀n,(nsF t n).Nodup:=by
  intro n
  induction n with
  |zero=>exact List.nodup_nil
  |succ n ih=>
   cases d:t n with
   |false=>rw[pH d];exact ih
   |true=>rw[oG d,List.nodup_append];refine⟨ih,by simp,fun a ha b hb=>?_⟩;have:=(qj n ha).1;simp at hb;subst hb;omega
 have j:=(eA.1 c).2;exact(List.getElem_inj (g n)).1 j
def askU (F:Flt)(u:Nat):Usr:=⟨zu (F.ud u) F.k,F.uw u,yk F u⟩
def xi (F:Flt):List Usr:=(nsF F.ut 6).map (askU F)
theorem pA (F:Flt):(xi F).length=zp F.ut 6:=by unfold xi;rw[iv,mA]
theorem Cc (hu:u<6)(ht:F.ut u=lK):ug (xi F) (zp F.ut u)=askU F u:=by
 unfold ug xi;rw[ej,eD,Cn ht 6 hu];rfl
noncomputable def yU (F:Flt)(P:Nat->Int)(u:Nat):Rat:=(yB (zu P F.k) (xi F)).ts (zp F.ut u)
noncomputable def dUp (F:Flt)(P:Nat->Int)(i u:Nat):ByteArray:=if u<6/\F.ut u=lK/\zp F.ut u<i then⟨(txt (yU F P u)).toArray⟩else F.due u
noncomputable def gUp (F:Flt)(P:Nat->Int)(i u:Nat):Int:=if u<6/\F.ut u=lK/\zp F.ut u<i then flZ (yU F P u)else 0
noncomputable def xU (F:Flt)(P:Nat->Int)(u:Nat):ByteArray:=if u<6/\F.ut u=lK then⟨(txt (yU F P u)).toArray⟩else F.due u
noncomputable def zm (F:Flt)(P:Nat->Int)(u:Nat):Int:=if u<6/\F.ut u=lK then flZ (yU F P u)else 0
def yR (f:Nat->ByteArray)(i:Nat)(x:ByteArray):Nat->ByteArray:=fun j=>if j=i then x else f j
theorem AG (F:Flt)(P:Nat->Int):dUp F P 0=F.due:=by
 funext u;unfold dUp;rw[ec (by omega)]
theorem AM (F:Flt)(P:Nat->Int):gUp F P 0=fun _=>0:=by
 funext u;unfold gUp;rw[ec (by omega)]
theorem Cg {v:Nat}(hv:F.ut v=lK)(e:v≠u)(hu:F.ut u=lK):zp F.ut v<zp F.ut u+1↔zp F.ut v<zp F.ut u:=by
 constructor
 ·intro h;(have:zp F.ut v≠zp F.ut u:=fun h2=>e (GJ hv hu h2));omega
 ·intro h;omega
theorem AZ (hu:u<6)(ht:F.ut u=lK):yR (dUp F P (zp F.ut u)) u ⟨(txt (yU F P u)).toArray⟩=dUp F P (zp F.ut u+1):=by
 funext v;unfold yR dUp;by_cases e:v=u
 ·subst e;rw[ed rfl,ed ⟨hu,ht,by omega⟩]
 ·rw[ec e];by_cases h:v<6/\F.ut v=lK
  ·have:=Cg h.2 e ht;by_cases a:zp F.ut v<zp F.ut u
   ·rw[ed ⟨h.1,h.2,a⟩,ed ⟨h.1,h.2,by omega⟩]
   ·rw[ec (by omega),ec (by omega)]
  ·rw[ec (fun h3=>h ⟨h3.1,h3.2.1⟩),ec (fun h3=>h ⟨h3.1,h3.2.1⟩)]
theorem AP (hu:u<6)(ht:F.ut u=lK):zE (gUp F P (zp F.ut u)) u (flZ (yU F P u))=gUp F P (zp F.ut u+1):=by
 funext v;unfold zE gUp;by_cases e:v=u
 ·subst e;rw[ed rfl,ed ⟨hu,ht,by omega⟩]
 ·rw[ec e];by_cases h:v<6/\F.ut v=lK
  ·have:=Cg h.2 e ht;by_cases a:zp F.ut v<zp F.ut u
   ·rw[ed ⟨h.1,h.2,a⟩,ed ⟨h.1,h.2,by omega⟩]
   ·rw[ec (by omega),ec (by omega)]
  ·rw[ec (fun h3=>h ⟨h3.1,h3.2.1⟩),ec (fun h3=>h ⟨h3.1,h3.2.1⟩)]
theorem Bu (F:Flt)(P:Nat->Int):dUp F P (zp F.ut 6)=xU F P:=by
 funext u;unfold dUp xU;by_cases h:u<6/\F.ut u=lK
 ·rw[ed h,ed ⟨h.1,h.2,ns h.1 h.2⟩]
 ·rw[ec h,ec (fun h3=>h ⟨h3.1,h3.2.1⟩)]
theorem BN (F:Flt)(P:Nat->Int):gUp F P (zp F.ut 6)=zm F P:=by
 funext u;unfold gUp zm;by_cases h:u<6/\F.ut u=lK
 ·rw[ed h,ed ⟨h.1,h.2,ns h.1 h.2⟩]
 ·rw[ec h,ec (fun h3=>h ⟨h3.1,h3.2.1⟩)]
theorem IZ {q:Rat}{c:Int}(h0:0<=q)(h1:q<=(c:Rat)):0<=flZ q/\flZ q<=c:=by
 (have b:0<(q.den:Int):=by have:=q.den_nz;omega);have d:=Rat.num_nonneg.2 h0;unfold flZ;refine⟨Int.ediv_nonneg d (by omega),?_⟩;have a:=(Rat.le_iff _ _).1 h1;rw[jq,jG]at a;simp at a;exact Int.ediv_le_of_le_mul b a
theorem Bp (he:zr (zu P F.k) (xi F)=0)(hu:u<6)(ht:F.ut u=lK):0<=yU F P u/\yU F P u<=((yk F u:Int):Rat):=by
 obtain⟨g,h,d,e,i,j⟩:=pQ he;(have c:zp F.ut u<(xi F).length:=by rw[pA];exact ns hu ht);have b:=(rx d e).1;refine⟨b.low _ c,?_⟩;have a:=b.cap _ c;(have f:(xI (zu P F.k) (xi F)).C (zp F.ut u)=((yk F u:Int):Rat):=by show(((ug (xi F) (zp F.ut u)).cap:Int):Rat)=_;rw[Cc hu ht];rfl);rw[f]at a;exact a
theorem A4 (he:zr (zu P F.k) (xi F)=0)(hu:u<6)(ht:F.ut u=lK):xY (txt (yU F P u))=lJ (yU F P u):=by
 obtain⟨f,a,b,c,g,d⟩:=pQ he;(have e:zp F.ut u<(xi F).length:=by rw[pA];exact ns hu ht);have h:=(I7 b c a d e).txt (by omega);exact Ag _ (by unfold yU;omega)
theorem tK (he:zr (zu P F.k) (xi F)=0)(hu:u<6)(ht:F.ut u=lK):0<=flZ (yU F P u)/\flZ (yU F P u)<=yk F u:=by
 obtain⟨a,b⟩:=Bp he hu ht;exact IZ a b
theorem BG (he:zr (zu P F.k) (xi F)=0)(hu:u<6)(ht:F.ut u=lK):0<=yk F u/\yk F u<=1000:=by
 obtain⟨d,e,b,f,g,h⟩:=pQ he;(have c:zp F.ut u<(xi F).length:=by rw[pA];exact ns hu ht);have a:=b.cap c;rw[Cc hu ht]at a;exact a
theorem BP (n:Nat):txt (((n:Nat):Int):Rat)=decDigits n:=by
 unfold txt negB;rw[jq,jG];have e:decide (((n:Nat):Int)<0)=lL:=ee (by omega);rw[e];simp
theorem DU {a:ByteArray}{x:Rat}(hx:xY a.data.toList=lJ x)(hn:flZ x=(n:Int))(hle:n<10000)(ht:Tab w):Calls prog 181 #[lC a] w fun e w'=>e=lF (kW lD n)/\Below w.heap.size w w':=by
 have r:=hx;clear hx;go_enter func181,ntmps181;go_wp2_with fail;refine(Jp r (Ju hn) ht).mono ?_;rintro A D ⟨rfl,c⟩;have m:=c;clear c;obtain⟨s,hs⟩:∃s:ByteArray,s=⟨(txt (flQ x)).toArray⟩:=⟨_,rfl⟩;rw[<-hs];(have b:s.data.toList=decDigits n:=by rw[hs];show txt (flQ x)=_;unfold flQ;rw[hn];exact BP n);(have z:s.size<=4:=by(have j:s.size=s.data.toList.length:=by simp);rw[j,b];exact od (by omega) (by omega));(have g:s.data.toList.all yf=lK:=by rw[b];exact(oY n).2.1);(have q:dv s.data.toList=n:=by rw[b];exact qt n);clear hs b;go_wp2
 go_loop[5,6] (fun v i=>∃k:Nat,k<=s.size/\i=kW lD k/\v=kW lD (dv (s.data.toList.take k):Nat)) (fun _ i=>s.size-(intOf i).toNat)
 case atStart=>exact⟨0,ep _,rfl,rfl⟩
 case round=>
  obtain⟨k,B,rfl,rfl⟩:=hrel;by_cases d:k<s.size
  ·have f:=ox s k d;(have u:48<=s[k].toNat/\s[k].toNat<=57:=by have:=ie.1 g s[k] (ij (l:=s.data.toList) (n:=k) (by simpa using d));exact(l5 _).1 this);obtain⟨y,c⟩:=u
   have C:dv (s.data.toList.take k)<10000:=by
    have j:=qu (s.data.toList.take k) (by
     rw[ie];intro x hx;exact ie.1 g x (List.mem_of_mem_take hx))
    (have t:(s.data.toList.take k).length<=4:=by rw[im];simp;omega);have:(10:Nat)^(s.data.toList.take k).length<=10^4:=ip (by omega) t;omega
   have E:=px (s.data.toList.take k) s[k];go_wp2;exact⟨⟨k+1,by omega,by go_num,by rw[f,E];congr 1;omega⟩,by simp[intOf];omega⟩
  ·go_wp2;go_ret;exact⟨by rw[ew (by simp;omega),q];rfl,m⟩
end Go.Proofs.YtigokanoflkinaaGreatDoor
