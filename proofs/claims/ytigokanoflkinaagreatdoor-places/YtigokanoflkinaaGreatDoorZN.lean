/- RfKN, RfQT, joined. -/
import Derived.Test.YtigokanoflkinaaGreatDoorRfFJ
set_option maxHeartbeats 16000000
set_option maxRecDepth 20000
namespace Go.Proofs.YtigokanoflkinaaGreatDoor
set_option linter.unusedSimpArgs false
set_option linter.unusedVariables false
open Go.RowKit Por Go.Proofs.Tryz
open Value renaming int->kW,slice->kX,pointer->kY,bool->kZ,tuple->lB,string->lC
open IntKind renaming i64->lD
open Obj renaming cells->lE
open Ending renaming returned->lF
open World renaming setCell->lG,cell?->lH
open Option renaming none->lI,some->lJ
open Bool renaming true->lK,false->lL
open Go renaming World->lM,Value->lN
def ClearE (F:Flt)(G:Nat->Int)(u m:Nat)(w w':lM)(e:Ending):Prop:=∃v,e=lF (lB #[v,kZ (F.mt m&&(yL (cG F G) F.m u m).isSome)])/\Li w.heap.size w' v (zV (if F.mt m then(yL (cG F G) F.m u m).getD []else[]))/\Below w.heap.size w w'
variable{F:Flt}{u m:Nat}{w w':lM}{G:Nat->Int}
theorem ClearE.no (h:F.mt m=lL\/yL (cG F G) F.m u m=lI)(hb:Below w.heap.size w w'):ClearE F G u m w w' (lF (lB #[kX lI 0 0,kZ lL])):=by
 refine⟨kX lI 0 0,?_,?_,hb⟩
 ·rcases h with h|h
  ·rw[h];rfl
  ·rw[h];simp
 ·have:(if F.mt m then(yL (cG F G) F.m u m).getD []else[])=[]:=by
   rcases h with h|h
   ·rw[h];rfl
   ·rw[h];split<;>rfl
  rw[this];exact Li.nil _ _
variable{v:lN}
theorem ClearE.yes {l:List Nat} (h1:F.mt m=lK) (h2:yL (cG F G) F.m u m=lJ l) (hl:Li w.heap.size w' v (zV l)) (hb:Below w.heap.size w w'):ClearE F G u m w w' (lF (lB #[v,kZ lK])):=
  ⟨v,by rw[h1,h2];rfl,by rw[h1,h2];exact hl,hb⟩
theorem uT (h:RfO F){p:Nat}(hp:p<6)(hm:m<8)(h1:1<=F.m.on p m):F.ut p=lK/\p<F.ug:=by
 have:F.ut p=lK:=by
  cases e:F.ut p with
  |true=>rfl
  |false=>have:=h.none p hp e m hm;omega
 exact⟨this,h.ut p hp this⟩
variable{c:FC}
theorem Eg {k k':FK}(h:yW c u k=lJ k')(h0:∀j,j<6->0<=k.kt j):(Por.sumI k'.kt 6).toNat<(Por.sumI k.kt 6).toNat:=by
 obtain⟨j,a,_,b,_,_,_⟩:=qR h;have d:=qN h;have e:=l8 (f:=k.kt) (n:=6) h0 a;omega
variable{b gc:Nat}{ga:Option Addr}{gl:List Int}
theorem Do (hv:RfW w b F)(hw:RfO F)(hu:u<F.ug)(hut:F.ut u=lK)(hm:m<F.mg)(hga:Arr w 1 ga F.ug gc (zi gl))(hgv:∀j,j<F.ug->lm gl j=G j)(hg:FGood (cG F G) F.m):Calls prog 205 #[kY (lJ ⟨b,0,lI⟩),kW lD u,kW lD m,kX ga F.ug gc] w fun e w'=>ClearE F G u m w w' e:=by
 obtain⟨so,sc,uo,uc,ho,hc,ro,rc,hv⟩:=hv;have lb:=hv.lt;have HV:=hid hv;have C:=hid hw;have HG:=hid hg;have a8:=hid hga;have a9:=hid hgv;have am:=hid hut;clear hv hw hg hga hgv hut;have bI:=C.mg;have bO:=C.ug;(have bJ:(m:Int)<(F.mg:Int):=by omega);(have bP:(u:Int)<(F.ug:Int):=by omega);have c1:=HV.sz;go_enter func205,ntmps205
 cases U:F.mt m with
 |false=>obtain⟨g,o,rfl,hg,c5⟩:=HV.down m hm U;(have a1:∀w,(binOp .eql 22 (kX lI 0 0) (kX lI 0 0)).run prog w=.ok (kZ lK) w:=fun w=>Lib.run_eql_slice_nil w 22 3 _ _ _ 0 0 eR);have y:=hid U;clear U;go_wp2;go_ret2;exact ClearE.no (.inl y) brf
 | true=>
  have y:=hid U;clear U;obtain⟨g,o,d,e,dc,bw,hg,c5,hd,_⟩:=HV.up m hm y;subst bw;(have a1:∀w,(binOp .eql 22 (kX (lJ ⟨d,e,lI⟩) F.k dc) (kX lI 0 0)).run prog w=.ok (kZ lL) w:=fun w=>Lib.run_eql_slice_nil w 22 3 _ _ _ 0 0 eR);go_wp2_with fail;refine(Ev HV C).mono ?_;rintro e1 w1 ⟨J,bC,rfl,aU,aP,aW,aK⟩;obtain⟨val,aV,a2,a3,a4⟩:=aW.lists;have a:Hid (Besd w w1 J F m [] (lJ ⟨g,o,lI⟩) sc uo uc ho hc [] [] val):=⟨by rw[a2];exact aP,aV,aK⟩;have aD:=hid a3;have aE:=hid a4;clear aU aP aW aK aV a2 a3 a4 c1 c5 a1 hg hd;go_wp2_with fail;refine(rD (zB F 8) G u m _ (a.v HV) (C.ways (by omega) (fun j hj=>C.on j hj m (by omega))) hu hm).mono ?_;rintro e2 w2 ⟨c2,rfl,_,aQ,aL⟩;have ax:=hid ((aQ am).trans (Bo (KInv.beg HG.inv (by omega)) (zB F 8) y));have E:=hid (a.iP aL);rw[ax.out];clear aQ aL a ax;go_wp2
  go_loopg[11,12] (Por.sumI (kBeg (cG F G) F.m m).kt 6).toNat (fun gg s11 s12 wr=>∃(q:FK) (val:Tb->lN),gg=(Por.sumI q.kt 6).toNat/\s11=val .off/\s12=kZ (zU q.rm (F.ud u) 4)/\Hid (∀z,Iter (yW (cG F G) u) q z->Iter (yW (cG F G) u) (kBeg (cG F G) F.m m) z)/\Hid (KInv (cG F G) F.m u m q)/\Hid (Besd w wr J F m q.off (lJ ⟨g,o,lI⟩) sc uo uc ho hc q.off [] val)/\Hid (val .ku=kX lI 0 0))
  case atStart=>exact⟨kBeg (cG F G) F.m m,val,rfl,aD.symm,rfl,fun z h=>h,KInv.beg HG.inv (by omega),E,aE⟩
  case round=>
   clear E aD aE;obtain⟨q,val,bp,rfl,rfl,XI,M,a,XV⟩:=hrel;have al:=hid (M.len HG (by omega))
   cases ag:zU q.rm (F.ud u) 4 with
   | false=>
    have B:=hid ag;clear ag;(have aC:Hid (ya (cG (sW F m q.off) G) u (kG (sW F m q.off) G m) 6=ya (cG F G) u q 6):=by unfold Hid ya;rw[Io M.out (by omega)]);go_wp2_with fail;refine(Ed (a.v HV) (C.ways (by omega) (rH M)) hm (a8.iP a.bel) a9).mono ?_;rintro e3 w3 ⟨rfl,aM⟩;rw[aC.out];have aH:=hid (a.iP aM);clear aM a aC;have a:=aH;clear aH;by_cases aq:ya (cG F G) u q 6<0
    ·(have bc:Hid (yL (cG F G) F.m u m=lI):=by unfold Hid;rw[qW HG.out.inv (by omega) (XI.out q (.done (wm B.out (AF aq))))];exact ec (by show¬ zU q.rm (F.ud u) 4=lK;rw[B.out];decide));go_wp2;go_ret2;exact ClearE.no (.inr bc) a.bel
    ·obtain⟨a5,aw,aj,ab⟩:=tZ aq;obtain⟨p,hp⟩:∃p,(zT (cG F G) u q 6).1=p:=⟨_,rfl⟩;(have aY:yW (cG F G) u q=lJ (kOff (cG F G) q p):=by rw[<-hp];exact Ay B a5);rw[hp]at aw aj ab
     have bq:1<=q.kt p:=by
      unfold zx at ab;by_cases e:q.kt p<1
      ·rw[ei e]at ab;simp at ab
      ·omega
     have bu:=M.kt p aj;have R:=lU p q.off;obtain⟨bN,bt⟩:=uT C aj (m:=m) (by omega) (by omega);have Z:=C.on40 (u:=p) (m:=m) aj (by omega);(have aa:(zI F.m m q.off).on p m=q.kt p:=by rw[lY,ed rfl];omega);rw[aw];have ak:=hid aY;(have aG:Hid (∀z,Iter (yW (cG F G) u) (kOff (cG F G) q p) z->Iter (yW (cG F G) u) (kBeg (cG F G) F.m m) z):=fun z hz=>XI z (.step ak hz));have ao:=hid (M.step ak);have bb:=hid (Eg ak M.here0);clear aY a5 aw ab hp aq XI;obtain⟨rg,af,ae,g2,z2,aJ,s,ad,k1,lg,k2,kz,f⟩:=a.spot (j:=p) bt hm;rw[aa]at k2;obtain⟨X,hX⟩:∃X,q.kt p=X:=⟨_,rfl⟩;(have bk:1<=X/\X<=40:=by omega);rw[hX]at k2;have ac:=a.box.lt;(have k5:lH w3 ⟨J,5,lI⟩=lJ (kX (lJ ⟨rg,af,lI⟩) F.ug ae):=by rw[<-s];exact a.box.cell 5 _ rfl);(have bL:(p:Int)<(F.ug:Int):=by omega);have l:=hid (f (X-1) (q.off++[p]) (by rw[GQ,aa,hX]));clear f s aa hX bu bq R Z;(go_upto_region 10 with fail);go_region;clear k1 k2 kz k5 ad lg ac a;obtain⟨V,hV⟩:∃V,V=(lG w3 ⟨g2,z2+m,lI⟩ (kW lD (X-1))).drew:=⟨_,rfl⟩;have a:=hid (l.iP brf.drew);rw[<-hV]at a ⊢;clear hV l;(go_upto_region 11 with fail);(have L:Hid ((V.alloc (lE #[kW lD (p:Int)] 3)).ownsRow w.heap.size 3 1 (val .off) ((zV q.off).map (Value.int lD)).length ((zV q.off).map (Value.int lD))):=by unfold Hid;rw[show((zV q.off).map (Value.int lD)).length=q.off.length from by simp];exact(a.iP (brf.alloc lR (lE #[kW lD (p:Int)] 3))).tb.own .off trivial);obtain⟨n8,W⟩:∃n,((zV q.off).map (Value.int lD)).length+1=n:=⟨_,rfl⟩;(have ar:((zV q.off).map (Value.int lD)).length=q.off.length:=by simp);have au:=a.bel.size;have ai:=al.out;go_wp2_with (at_builtin;refine nH _ 3 22 (kW lD 0) 8 eR Tryz.infoInt rfl (by decide) rfl _ _ rfl w.heap.size _ ((zV q.off).map (Value.int lD)) ⟨V.heap.size,0,lI⟩ 1 1 [kW lD (p:Int)] rfl rfl L n8 W rfl (by decide) (mG ((i1 V #[kW lD (p:Int)] 3).cell 0 _ rfl)) (mJ rfl) (by omega) (by simp only[em];omega) ?_);intro K w8 A P O;(have Q:w8.ownsRow w.heap.size 3 1 K (q.off.length+1) ((zV q.off).map (Value.int lD)++[kW lD (p:Int)]):=by rw[show q.off.length+1=n8 by omega];have e9:(zV q.off).map (Value.int lD)=List.map (Value.int lD∘fun(j:Nat)=>(j:Int)) q.off:=List.map_map;first|exact A|(rw[e9];exact A));have N:=hid ((a.iP (brf.alloc lR (lE #[kW lD (p:Int)] 3))).appL Q P (by rw[em];exact O));clear A P O L W ar a ai au;have a:=N;clear N;clear Q;go_wp2_with fail;refine(rD (zB F 8) G u m _ (a.v HV) (C.ways (by omega) (rH ao)) hu hm).mono ?_;rintro e9 w9 ⟨c9,rfl,_,aS,aO⟩;have az:=hid ((aS am).trans (Bo (u:=u) (q:=kOff (cG F G) q p) ao (zB F 8) y));have bh:=hid (a.iP aO);rw[az.out];clear aS aO a az;(have bi:Hid (zF val .off K .ku=kX lI 0 0):=by unfold Hid;rw[j7 _ _ (by simp)];exact XV);have bd:Hid (K=zF val .off K .off):=(jR _ _ _).symm;go_wp2;go_roundg ((Por.sumI (kOff (cG F G) q p).kt 6).toNat);(case measure=>rw[bp];exact bb);case rel=>exact⟨kOff (cG F G) q p,zF val .off K,rfl,bd,rfl,aG,ao,bh,bi⟩
   | true=>
    have B:=hid ag;clear ag;(have bf:Hid (yL (cG F G) F.m u m=lJ (zz (cG F G) u q.off q.rm)):=by unfold Hid;rw[qW HG.out.inv (by omega) (XI.out q (.done (vJ B.out)))];exact ed B);obtain⟨la,lc,T,_,_,ah⟩:=a.tb.cells .off trivial;have t:=hid (T);rw[t.out];clear T ah;go_wp2
    go_loopg[12,14,15] q.off.length (fun gg s12 s14 ix wr=>∃(i:Nat) (c:List Nat) (val2:Tb->lN),gg=q.off.length-i/\i<=q.off.length/\s14=val2 .ku/\ix=kW lD i/\Hid (Besd w wr J F m (c++q.off.drop i) (lJ ⟨g,o,lI⟩) sc uo uc ho hc q.off c val2)/\Hid (val2 .off=kX la q.off.length lc)/\Hid (c++zz (cG F G) u (q.off.drop i) (Por.room (cG F G) (zI F.m m (c++q.off.drop i)) m)=(zz (cG F G) u q.off q.rm))/\Hid ((∀v,v<6->zh v (c++q.off.drop i)<=zh v q.off)/\(∀x,x∈c++q.off.drop i->x<6)/\c.length<=i))
    case atStart=>exact⟨0,[],val,rfl,ep _,XV.symm,rfl,a,t,(by show zz (cG F G) u q.off (Por.room (cG F G) (zI F.m m q.off) m)=_;rw[show Por.room (cG F G) (zI F.m m q.off) m=q.rm from funext fun r=>by rw[oP q.off F.m (fun j hj=>(M.out.ji j hj).1),ed rfl,M.out.rm]]),⟨fun v _=>ik _,fun x hx=>(M.ji x hx).1,lR⟩⟩
    case round=>
     clear a t XV;obtain⟨i,c,val,bG,hi,rfl,rfl,a,t,XR,I⟩:=hrel;have ai:=al.out;by_cases a0:i<q.off.length
     ·(have br:(i:Int)<(q.off.length:Int):=by omega);obtain ⟨j,hj⟩:∃ j,q.off[i]=j:=⟨_,rfl⟩;(have S:q.off.drop i=j :: q.off.drop (i+1):=by rw[js a0,hj]);generalize hD:q.off.drop (i+1)=D at S;have a7:=hid S;have HD:=hid hD;have H:=I.2.1 j (by rw[S];simp);rw[S] at a I;have bo:=I.1 j H;have aT:=oB j j c D;rw[ed rfl] at aT;have R:=lU j (c++D);have bv:=rH M j H;obtain ⟨bM,aX⟩:=uT C H (m:=m) (by omega) (by omega);have Z:=C.on40 (u:=j) (m:=m) H (by omega);(have bH:(j:Int)<(F.ug:Int):=by omega);obtain ⟨bx,a6,T,_,_,ah⟩:=a.tb.cells .off trivial;(have aZ:Value.slice bx q.off.length a6 = kX la q.off.length lc:=by rw[<-t.out];exact T.symm);obtain ⟨x1,_,x3⟩:=nR aZ;subst x1;subst x3;obtain ⟨bj,bA,bs,bz,cl⟩:=ah i (kW lD (j:Int)) (by show ((zV q.off).map (Value.int lD))[i]? = _;unfold zV;rw[eD,eD,en a0,hj];rfl);subst bs;clear T aZ ah;obtain ⟨rg,af,ae,g2,z2,aJ,s,ad,k1,lg,k2,kz,f⟩:=a.spot (j:=j) aX hm;(have aa:(zI F.m m (c++j :: D)).on j m=F.m.on j m - zh j (c++j :: D):=by rw[lY,ed rfl]);obtain ⟨X,hX⟩:∃ X,(zI F.m m (c++j :: D)).on j m=X:=⟨_,rfl⟩;(have bk:0<=X/\X<=40:=by omega);rw[hX] at k2;have ac:=a.box.lt;(have k5:lH wr ⟨J,5,lI⟩=lJ (kX (lJ ⟨rg,af,lI⟩) F.ug ae):=by rw[<-s];exact a.box.cell 5 _ rfl);have l:=hid (f (X+1) (c++D) (by rw[Gq F.m m j c D,hX]));clear f s aa hX Z;(go_upto_region 18 with fail);go_region;clear k1 k2 kz k5 ad lg ac a cl bz;obtain ⟨V,hV⟩:∃ V,V=(lG wr ⟨g2,z2+m,lI⟩ (kW lD (X+1))).drew:=⟨_,rfl⟩;have a:=hid (l.iP brf.drew);rw[<-hV] at a ⊢;clear hV l
      have aA:Hid (∀v,v<6->zh v (c++D)<=F.m.on v m):=fun v hv=>by
       have h1:=I.1 v hv;have h2:=rH M v hv;rw[oB]at h1;by_cases e:v=j
       ·rw[ed e]at h1;omega
       ·rw[ec e]at h1;omega
      clear bo aT R bv;go_wp2_with fail;refine(rD (zB F 8) G u m _ (a.v HV) (C.ways (by omega) aA) hu hm).mono ?_;rintro e5 w5 ⟨c5,rfl,_,aR,aN⟩;(have aF:Hid (Por.room (cG F G) (zI F.m m (c++D)) m=fun r=>Por.room (cG F G) (zI F.m m (c++j::D)) m r-F.ud j r):=funext fun r=>by have h1:=I.2.1;rw[oP _ _ (fun x hx=>h1 x (by rcases iu.1 hx with h|h;(exact List.mem_append_left _ h);(exact List.mem_append_right _ (List.mem_cons_of_mem _ h)))),oP _ _ h1,ed rfl,ed rfl,G0];show _=_+(_+F.ud j r)-F.ud j r;omega);(have ay:Hid (c5=zU (fun r=>Por.room (cG F G) (zI F.m m (c++j::D)) m r-F.ud j r) (F.ud u) 4):=by unfold Hid;rw[aR am.out,<-aF.out,oE];show(F.mt m && _)=_;rw[y.out];rfl);have aI:=hid (a.iP aN);clear aR aN a;have a:=aI;clear aI;rw[a7.out]at XR;clear S hD hj
      cases c5 with
      |true=>(have ap:Hid (c++zz (cG F G) u (q.off.drop (i+1)) (Por.room (cG F G) (zI F.m m (c++q.off.drop (i+1))) m)=(zz (cG F G) u q.off q.rm)):=by unfold Hid;rw[HD.out,aF.out,<-XR.out];congr 1;simp only[zz];exact(ed (show zU _ (F.ud u) 4=lK from ay.symm)).symm);(have an:Hid ((∀v,v<6->zh v (c++q.off.drop (i+1))<=zh v q.off)/\(∀x,x∈c++q.off.drop (i+1)->x<6)/\c.length<=i+1):=by rw[HD.out];refine⟨fun v hv=>?_,fun x hx=>I.2.1 x (by rcases iu.1 hx with h|h;(exact List.mem_append_left _ h);(exact List.mem_append_right _ (List.mem_cons_of_mem _ h))),by have:=I.2.2;omega⟩;have h1:=I.1 v hv;rw[oB]at h1;split at h1<;>omega);(have E:Hid (Besd w w5 J F m (c++q.off.drop (i+1)) (lJ ⟨g,o,lI⟩) sc uo uc ho hc q.off c val):=by rw[HD.out];exact a);go_wp2;go_roundg (q.off.length-(i+1));exact⟨i+1,c,val,rfl,by omega,rfl,by go_num,E,t,ap,an⟩;omega
      |false=>obtain⟨rg,af,ae,g3,z3,bB,s,ad,k1,lg,k2,kz,f⟩:=a.spot (j:=j) aX hm;obtain⟨Y,hY⟩:∃Y,(zI F.m m (c++D)).on j m=Y:=⟨_,rfl⟩;have Z:=C.on40 (u:=j) (m:=m) H (by omega);(have bl:Y=F.m.on j m-zh j (c++D):=by rw[<-hY,lY,ed rfl]);have R:=lU j (c++D);have bm:=aA.out j H;(have bF:0<=Y/\Y<=40:=by omega);rw[hY]at k2;have ac:=a.box.lt;(have k5:lH w5 ⟨J,5,lI⟩=lJ (kX (lJ ⟨rg,af,lI⟩) F.ug ae):=by rw[<-s];exact a.box.cell 5 _ rfl);have l:=hid (f (Y-1) (c++[j]++D) (by rw[EB F.m m j c D,hY]));clear f s bl hY Z R bm;(go_upto_region 21 with fail);go_region;clear k1 k2 kz k5 ad lg ac a;obtain⟨V2,hV⟩:∃V,V=(lG w5 ⟨g3,z3+m,lI⟩ (kW lD (Y-1))).drew:=⟨_,rfl⟩;have a:=hid (l.iP brf.drew);rw[<-hV]at a ⊢;clear hV l;have bK:=I.2.2;(go_upto_region 22 with fail);(have L:Hid ((V2.alloc (lE #[kW lD (j:Int)] 3)).ownsRow w.heap.size 3 1 (val .ku) ((zV c).map (Value.int lD)).length ((zV c).map (Value.int lD))):=by unfold Hid;rw[show((zV c).map (Value.int lD)).length=c.length from by simp];exact(a.iP (brf.alloc lR (lE #[kW lD (j:Int)] 3))).tb.own .ku trivial);obtain⟨n8,W⟩:∃n,((zV c).map (Value.int lD)).length+1=n:=⟨_,rfl⟩;(have ar:((zV c).map (Value.int lD)).length=c.length:=by simp);have au:=a.bel.size;have ai:=al.out;go_wp2_with (at_builtin;refine nH _ 3 22 (kW lD 0) 8 eR Tryz.infoInt rfl (by decide) rfl _ _ rfl w.heap.size _ ((zV c).map (Value.int lD)) ⟨V2.heap.size,0,lI⟩ 1 1 [kW lD (j:Int)] rfl rfl L n8 W rfl (by decide) (mG ((i1 V2 #[kW lD (j:Int)] 3).cell 0 _ rfl)) (mJ rfl) (by omega) (by simp only[em];omega) ?_);intro K w8 A P O;(have Q:w8.ownsRow w.heap.size 3 1 K (c.length+1) ((zV c).map (Value.int lD)++[kW lD (j:Int)]):=by rw[show c.length+1=n8 by omega];have e9:(zV c).map (Value.int lD)=List.map (Value.int lD∘fun(j:Nat)=>(j:Int)) c:=List.map_map;first|exact A|(rw[e9];exact A));have N:=hid ((a.iP (brf.alloc lR (lE #[kW lD (j:Int)] 3))).appO Q P (by rw[em];exact O));clear A P O L W ar a ai au;have a:=N;clear N;(have ap:Hid (c++[j]++zz (cG F G) u (q.off.drop (i+1)) (Por.room (cG F G) (zI F.m m (c++[j]++q.off.drop (i+1))) m)=(zz (cG F G) u q.off q.rm)):=by unfold Hid;rw[HD.out,<-XR.out,List.append_assoc,List.append_assoc];congr 1;simp only[zz];exact(ec (fun h=>absurd (Eq.trans ay h) (by decide))).symm);(have an:Hid ((∀v,v<6->zh v (c++[j]++q.off.drop (i+1))<=zh v q.off)/\(∀x,x∈c++[j]++q.off.drop (i+1)->x<6)/\(c++[j]).length<=i+1):=by rw[HD.out,List.append_assoc];exact⟨I.1,I.2.1,by rw[eK];simp;exact I.2.2⟩);(have E:Hid (Besd w w8 J F m (c++[j]++q.off.drop (i+1)) (lJ ⟨g,o,lI⟩) sc uo uc ho hc q.off (c++[j]) (zF val .ku K)):=by rw[HD.out];exact a);have bg:Hid (K=zF val .ku K .ku):=(jR _ _ _).symm;(have ba:Hid (zF val .ku K .off=kX (lJ ⟨bj,bA,lI⟩) q.off.length a6):=by unfold Hid;rw[j7 _ _ (by simp)];exact t);clear Q;go_wp2;go_roundg (q.off.length-(i+1));exact⟨i+1,c++[j],zF val .ku K,rfl,by omega,bg,by go_num,E,ba,ap,an⟩;omega
     ·(obtain rfl:i=q.off.length:=by omega);(have br:¬ (q.off.length:Int)<(q.off.length:Int):=by omega);(have be:Hid (c=(zz (cG F G) u q.off q.rm)):=by unfold Hid;rw[<-XR.out,List.drop_length];simp[zz]);have aB:=hid a.li.2;rw[be.out]at aB;go_wp2;go_ret2;exact ClearE.yes y bf aB a.bel
def zN (b:Nat)(F:Flt)(val:Tb->lN):Nat->Prop:=fun k=>k=b\/∃t,xF F t/\(val t).ownBlock=lJ k
variable{P:Nat->Prop}
theorem Chg.set {g:Nat} (h:P g) (w:lM) (i:Nat) (x:lN):Chg P w (lG w ⟨g,i,lI⟩ x):=
  have hg:=mI w g i x
  ⟨hg.os,hg.tape,hg.output,hg.size,fun k hk hn=>hg.block k hk (fun e=>hn (by rw[show k=g from iE e];exact h))⟩
section
variable{base:Nat} {w:lM} {b:Nat} {F F':Flt} {val:Tb->lN} {o o':Old} {u m:Nat}
theorem RfM.put (h:RfM base w b F val o){t:Tb}(ht:xF F t){g c:Nat}(hv:val t=kX (lJ ⟨g,0,lI⟩) (xG F t) c)(i:Nat)(x:lN)(hk:fcl F' val=fcl F val)(hd:xF F'=xF F)(hc:xG F'=xG F)(he:zJ F' val o'=zF (zJ F val o) t ((zJ F val o t).set i x))(ho:OldOk F' o'):RfM base (lG w ⟨g,i,lI⟩ x) b F' val o'/\Chg (zN b F val) w (lG w ⟨g,i,lI⟩ x):=by
 refine⟨⟨?_,h.low,?_,ho⟩,Chg.set (.inr ⟨t,ht,by rw[hv];rfl⟩) _ _ _⟩
 ·rw[hk];exact nF h.box (mI w g i x) (fun e=>mC (h.tb.own t ht) h.box (Tb.nef t) (by rw[hv];exact e))
 ·rw[hd,hc,he];exact h.tb.set ht hv i x
theorem Je (val:Tb->lN)(o:Old)(s':FM)(x:Int)(h1:s'.on=yC F.m.on u m x)(h2:s'.kV=F.m.kV)(h3:s'.ky=F.m.ky):zJ (withM F s') val o=zF (zJ F val o) (.rnr u) ((zJ F val o (.rnr u)).set m (kW lD x)):=by
 funext t;by_cases b:t=.rnr u
 ·subst b;rw[jR]
  exact(mr _ _ _ _ _ (fun k hk=>by
   show Value.int lD (s'.on u k)=_
   rw[h1]
   by_cases a:k=m
   ·subst a;rw[ed rfl,nU]
   ·rw[ec a,pl _ _ _ _ a])).symm
 ·rw[j7 _ _ b]
  cases t with
  |rnr v=>show ni F.mg (s'.on v)=ni F.mg (F.m.on v);rw[h1,mR _ _ _ (fun e=>b (by rw[e]))]
  |kV=>show ni F.ug s'.kV=_;rw[h2];rfl
  |off=>show ni F.ug s'.ky=_;rw[h3];rfl
  |_=>rfl
theorem H1 (val:Tb->lN)(o:Old)(s':FM)(x:Int)(h1:s'.kV=zE F.m.kV u x)(h2:s'.on=F.m.on)(h3:s'.ky=F.m.ky):zJ (withM F s') val o=zF (zJ F val o) .kV ((zJ F val o .kV).set u (kW lD x)):=by
 funext t;by_cases b:t=.kV
 ·subst b;rw[jR]
  exact(mr _ _ _ _ _ (fun k hk=>by
   show Value.int lD (s'.kV k)=_
   rw[h1];unfold zE;by_cases a:k=u;(rw[ed a,ed a]);(rw[ec a,ec a]))).symm
 ·rw[j7 _ _ b]
  cases t with
  |rnr v=>show ni F.mg (s'.on v)=_;rw[h2];rfl
  |kV=>exact absurd rfl b
  |off=>show ni F.ug s'.ky=_;rw[h3];rfl
  |_=>rfl
theorem It (val:Tb->lN)(o:Old)(s':FM)(x:Int)(h1:s'.ky=zE F.m.ky u x)(h2:s'.on=F.m.on)(h3:s'.kV=F.m.kV):zJ (withM F s') val o=zF (zJ F val o) .off ((zJ F val o .off).set u (kW lD x)):=by
 funext t;by_cases b:t=.off
 ·subst b;rw[jR]
  exact(mr _ _ _ _ _ (fun k hk=>by
   show Value.int lD (s'.ky k)=_
   rw[h1];unfold zE;by_cases a:k=u;(rw[ed a,ed a]);(rw[ec a,ec a]))).symm
 ·rw[j7 _ _ b]
  cases t with
  |rnr v=>show ni F.mg (s'.on v)=_;rw[h2];rfl
  |kV=>show ni F.ug s'.kV=_;rw[h3];rfl
  |off=>exact absurd rfl b
  |_=>rfl
theorem OldOk.withM {s':FM}(h:OldOk F o):OldOk (withM F s') o:=⟨h.dm,h.now⟩
theorem RfM.kN (h:RfM base w b F val o)(hu:u<F.ug)(hm:m<F.mg):∃rg ro rc g z cap,lH w ⟨b,5,lI⟩=lJ (kX (lJ ⟨rg,ro,lI⟩) F.ug rc)/\rg<w.heap.size/\lH w ⟨rg,ro+u,lI⟩=lJ (kX (lJ ⟨g,z,lI⟩) F.mg cap)/\g<w.heap.size/\lH w ⟨g,z+m,lI⟩=lJ (kW lD (F.m.on u m))/\w.frozen? ⟨g,z+m,lI⟩=lL/\∀(x:Int) (s':FM),s'.on=yC F.m.on u m x->s'.kV=F.m.kV->s'.ky=F.m.ky->RfM base (lG w ⟨g,z+m,lI⟩ (kW lD x)) b (withM F s') val o/\Chg (zN b F val) w (lG w ⟨g,z+m,lI⟩ (kW lD x)):=by
 obtain⟨ro,rc,c,_,_,e⟩:=h.tb.cells .run trivial;obtain⟨rg,p,d,f,j⟩:=e u _ (JF _ hu);obtain⟨g,cap,a,q,k,l,n⟩:=lS (h.tb.own (.rnr u) hu) (i:=m) (by rw[show Tb.sz (.rnr u)=1 from rfl,ic];exact hm);refine⟨rg,p,rc,g,0,cap,?_,f,by rw[j,a];rfl,k,by rw[l];exact JF _ hm,n,fun x s' s1 s2 s3=>?_⟩
 ·have:=h.box.cell 5 _ rfl;rw[this];show lJ (val .run)=_;rw[c,d];rfl
 ·rw[eC];exact h.put (F':=withM F s') (t:=.rnr u) hu a m _ rfl rfl rfl (Je val o s' x s1 s2 s3) h.old.withM
theorem RfM.kL (h:RfM base w b F val o)(hu:u<F.ug):∃g z cap,lH w ⟨b,4,lI⟩=lJ (kX (lJ ⟨g,z,lI⟩) F.ug cap)/\g<w.heap.size/\lH w ⟨g,z+u,lI⟩=lJ (kW lD (F.m.kV u))/\w.frozen? ⟨g,z+u,lI⟩=lL/\∀(x:Int) (s':FM),s'.kV=zE F.m.kV u x->s'.on=F.m.on->s'.ky=F.m.ky->RfM base (lG w ⟨g,z+u,lI⟩ (kW lD x)) b (withM F s') val o/\Chg (zN b F val) w (lG w ⟨g,z+u,lI⟩ (kW lD x)):=by
 obtain⟨g,cap,a,f,c,d,e⟩:=lS (h.tb.own .kV trivial) (i:=u) (by rw[show Tb.sz .kV=1 from rfl,ic];exact hu);refine⟨g,0,cap,?_,c,by rw[d];exact JF _ hu,e,fun x s' s1 s2 s3=>?_⟩
 ·have:=h.box.cell 4 _ rfl;rw[this];show lJ (val .kV)=_;rw[a];rfl
 ·rw[eC];exact h.put (F':=withM F s') (t:=.kV) trivial a u _ rfl rfl rfl (H1 val o s' x s1 s2 s3) h.old.withM
theorem RfM.spotRev (h:RfM base w b F val o)(hu:u<F.ug):∃g z cap,lH w ⟨b,7,lI⟩=lJ (kX (lJ ⟨g,z,lI⟩) F.ug cap)/\g<w.heap.size/\lH w ⟨g,z+u,lI⟩=lJ (kW lD (F.m.ky u))/\w.frozen? ⟨g,z+u,lI⟩=lL/\∀(x:Int) (s':FM),s'.ky=zE F.m.ky u x->s'.on=F.m.on->s'.kV=F.m.kV->RfM base (lG w ⟨g,z+u,lI⟩ (kW lD x)) b (withM F s') val o/\Chg (zN b F val) w (lG w ⟨g,z+u,lI⟩ (kW lD x)):=by
 obtain⟨g,cap,a,f,c,d,e⟩:=lS (h.tb.own .off trivial) (i:=u) (by rw[show Tb.sz .off=1 from rfl,ic];exact hu);refine⟨g,0,cap,?_,c,by rw[d];exact JF _ hu,e,fun x s' s1 s2 s3=>?_⟩
 ·have:=h.box.cell 7 _ rfl;rw[this];show lJ (val .off)=_;rw[a];rfl
 ·rw[eC];exact h.put (F':=withM F s') (t:=.off) trivial a u _ rfl rfl rfl (It val o s' x s1 s2 s3) h.old.withM
end
variable{base:Nat}{val:Tb->lN}{o:Old}
theorem t8 (hM:RfM base w b F val o)(hu:u<F.ug)(hm:m<F.mg)(hug:F.ug<=6)(hmg:F.mg<=8)(hw:0<=F.m.kV u/\F.m.kV u<=1000)(ho:0<=F.m.on u m/\F.m.on u m<=1000):Calls prog 191 #[kY (lJ ⟨b,0,lI⟩),kW lD u,kW lD m] w fun e w'=>e=lF (lB #[])/\RfM base w' b (withM F (yK F.m u m)) val o/\Chg (zN b F val) w w':=by
 (have E:(u:Int)<(F.ug:Int):=by omega);(have D:(m:Int)<(F.mg:Int):=by omega);have z:=hM.box.lt;obtain⟨t,A,r,G,q,x,B,a⟩:=hM.kL hu;generalize n:F.m.kV u=X at x hw;obtain⟨h,i⟩:=a (X-1) ⟨zE F.m.kV u (X-1),F.m.on,F.m.ky⟩ rfl rfl rfl;have g:=h;have f:=i;clear a h i;go_enter func191,ntmps191;(go_upto_region 0 with fail);go_region;clear G q x B hM z;obtain⟨V,v⟩:∃V,V=(lG w ⟨t,A+u,lI⟩ (kW lD (X-1))).drew:=⟨_,rfl⟩;have c:=g.iP brf.drew;have d:=f.trans (Chg.jE _ brf.drew);rw[<-v]at c d ⊢;clear v g f;have z:=c.box.lt;obtain⟨O,P,N,C,L,s,H,K,I,J,y,M,a⟩:=c.kN (u:=u) (m:=m) hu hm;dsimp only at H I y;generalize p:F.m.on u m=Y at y ho;obtain⟨h,i⟩:=a (Y+1) (yK F.m u m) (by show yC F.m.on u m (F.m.on u m+1)=_;rw[p]) (by show zE F.m.kV u (F.m.kV u-1)=_;rw[n]) rfl;have j:=d.trans i;clear a i c d n p;(go_upto_region 1 with fail);go_region;go_wp2;go_end0;exact⟨rfl,h.iP brf.drew,j.trans (Chg.jE _ brf.drew)⟩
variable{B:Nat}
theorem pE {l:List Int}(h:Li B w v l)(hc:Chg P w w')(hp:∀k,P k->k<B):Li B w' v l:=by
 refine⟨h.1,?_⟩;rcases h.2 with c|⟨g,a,b,c,e,d,f⟩
 ·exact .inl c
 ·exact .inr ⟨g,a,b,c,e,(hc.block g (ek.1 d).1 (fun h5=>by have:=hp g h5;omega)).trans d,f⟩
theorem RfM.kI (h:RfM base w b F val o):∀k,zN b F val k->k<w.heap.size:=fun k hk=>by
  rcases hk with e|⟨t,h1,h2⟩
  · rw[e];exact h.box.lt
  · exact(jN (h.tb.own t h1) k h2).2
def chI (c:FC)(s:FM)(u k:Nat):Int:=if (zG c s u k).2.2 then((zG c s u k).1:Int)else -1
theorem RfO.choose_mg (h:RfO F)(G:Nat->Int)(u:Nat):zG (cG F G) F.m u 8=zG (cG F G) F.m u F.mg:=by
 have a:∀j,F.mg<=j->j<=8->zG (cG F G) F.m u j=zG (cG F G) F.m u F.mg:=fun j=>by
  induction j with
  |zero=>intro b _;rw[show F.mg=0 by omega]
  | succ j ih=>
   intro b f;by_cases e:F.mg=j+1
   ·rw[e]
   ·have hs:F.mt j=lL:=by
     cases d:F.mt j with
     |false=>rfl
     |true=>have:=h.mt j (by omega) d;omega
    rw[qJ (c:=cG F G) hs,ih (by omega) (by omega)]
 exact a 8 h.mg (ea 8)
variable{s:FM}{k:Nat}
theorem Im (h:chI c s u k<0):(zG c s u k).2.2=lL:=by
 unfold chI at h
 cases e:(zG c s u k).2.2 with
 |false=>rfl
 |true=>rw[e,ed rfl]at h;omega
theorem Iy (h:¬ chI c s u k<0):(zG c s u k).2.2=lK:=by
 unfold chI at h
 cases e:(zG c s u k).2.2 with
 |false=>rw[e,ec (by decide)]at h;omega
 |true=>rfl
theorem DS (hM:RfM base w b F val o)(hw:RfO F)(hg:FGo (cG F G) F.m)(hu:u<F.ug)(hut:F.ut u=lK)(hlt:runs F.m u<G u)(hga:Arr w 1 ga F.ug gc (zi gl))(hgv:∀j,j<F.ug->lm gl j=G j):Calls prog 188 #[kY (lJ ⟨b,0,lI⟩),kW lD u,kX ga F.ug gc] w fun e w'=>e=lF (kZ (yJ (cG F G) F.m u).isSome)/\RfM base w' b (withM F ((yJ (cG F G) F.m u).getD F.m)) val o/\Chg (zN b F val) w w':=by
 have HM:=hid hM;have T:=hid hw;have HG:=hid hg;have az:=hid hut;have aw:=hid hlt;have a3:=hid hga;have a4:=hid hgv;clear hM hw hg hut hlt hga hgv;have aV:=T.ug;have aU:=T.mg;(have O:u<6:=by omega);have ah:=hid (HM.v T.k1);go_enter func188,ntmps188;go_wp2_with fail;refine(sY (zB F 8) G u _ ah T hu).mono ?_;rintro e1 w1 ⟨t,rfl,_,ht,aM⟩;have HT:=hid (ht az);have q:=hid aM;clear ht aM
 cases r:(Por.tight (cG F G) F.m u).2 with
 |true=>have ad:=jCt r;(have z:F.mt (Por.tight (cG F G) F.m u).1=lK:=by have h9:=ad.2;rw[oE]at h9;cases e:F.mt (Por.tight (cG F G) F.m u).1 with|true=>rfl|false=>rw[e]at h9;cases h9);(have R:Hid ((yJ (cG F G) F.m u)=lJ (yK F.m u (Por.tight (cG F G) F.m u).1)):=by unfold Hid yJ;rw[r];rfl);have I:Hid (t=((Por.tight (cG F G) F.m u).1:Int)):=HT.trans (by unfold tgt tgk;exact ed r);generalize hp:(Por.tight (cG F G) F.m u).1=p at ad z R I;have bh:=T.mt p ad.1 z;rw[I.out];have bB:=HG.kx.kV O;have bA:=HG.kx.on O ad.1;clear r hp HT I;go_wp2_with fail;refine(t8 (HM.iP q) hu bh aV aU (by omega) (by omega)).mono ?_;rintro e2 w2 ⟨rfl,aS,aN⟩;have a5:=hid aS;have a1:=hid ((Chg.jE _ q).trans aN);clear aS aN;go_wp2;go_ret;exact⟨by rw[R.out];rfl,by rw[R.out];exact a5,a1⟩
 | false=>
  have ay:=hid r;have I:=hid (HT.trans (by unfold tgt tgk;exact ec (by show¬ (Por.tight (cG F G) F.m u).2=lK;rw[r];decide)));rw[I.out];clear r HT I;go_wp2
  go_loopg[7,8,9] F.mg (fun gg s7 s8 ix wr=>∃(k:Nat) (bv:lN),gg=F.mg-k/\k<=F.mg/\s7=kW lD (chI (cG F G) F.m u k)/\bv=s8/\ix=kW lD k/\Hid (Li w.heap.size wr bv (zV (zG (cG F G) F.m u k).2.1))/\Hid (Bl w wr))
  case atStart=>exact⟨0,kX lI 0 0,rfl,ep _,rfl,rfl,rfl,Li.nil _ _,q⟩
  case round=>
   clear q;obtain⟨k,bv,bw,hk,rfl,rfl,rfl,C,q⟩:=hrel;have aA:=hid (ah.iP q);obtain⟨so,sc,uo,uc,ho,hc,ro,rc,aq⟩:=ah.iP q;have D:=aq.lt;have c1:=aq.sz;clear aq;by_cases hlt:k<F.mg
   ·(have bf:(k:Int)<(F.mg:Int):=by omega);go_wp2_with fail;refine (Do aA T hu az hlt (a3.iP q) a4 HG.kx).mono ?_;rintro e2 w2 ⟨v2,rfl,aQ,ac⟩;have H:=hid aQ;have aB:=hid (et q ac);have h:=hid (C.iP ac);have a6:=hid q.size;clear aQ ac c1 D aA q C;have q:=aB;have C:=h;clear aB h
    cases z:F.mt k with
    |false=>(have S:Hid (chI (cG F G) F.m u (k+1)=chI (cG F G) F.m u k):=by unfold Hid chI;rw[qJ (c:=(cG F G)) z]);(have h:Hid (Li w.heap.size w2 bv (zV (zG (cG F G) F.m u (k+1)).2.1)):=by unfold Hid;rw[qJ (c:=(cG F G)) z];exact C);clear z H;go_wp2;go_roundg (F.mg-(k+1));exact⟨k+1,bv,rfl,by omega,by rw[S.out];(first|done|rfl),rfl,by go_num,h,q⟩;omega
    | true=>
     rw[z]at H;have ax:=hid z;clear z
     cases y:yL (cG F G) F.m u k with
     |none=>(have S:Hid (chI (cG F G) F.m u (k+1)=chI (cG F G) F.m u k):=by unfold Hid chI;rw[sG y]);(have h:Hid (Li w.heap.size w2 bv (zV (zG (cG F G) F.m u (k+1)).2.1)):=by unfold Hid;rw[sG y];exact C);clear y H;go_wp2;go_roundg (F.mg-(k+1));exact⟨k+1,bv,rfl,by omega,by rw[S.out];(first|done|rfl),rfl,by go_num,h,q⟩;omega
     | some l=>
      rw[y]at H;have s:=hid y;clear y;have ag:=hid (H);obtain⟨la,lc,aW⟩:=ag.kE;obtain⟨ba,bc,L⟩:=C.kE;simp only[iv]at aW L;subst aW;subst L;have au:=hid (ag.mono a6);clear H ag;obtain⟨N,hN⟩:∃N,(zG (cG F G) F.m u k).2.1.length=N:=⟨_,rfl⟩;have HN:=hid hN;rw[hN];clear hN;by_cases am:chI (cG F G) F.m u k<0
      ·have A:=hid (qG (c:=(cG F G)) ax s (by rw[Im am];rfl));(have S:Hid (chI (cG F G) F.m u (k+1)=(k:Int)):=by unfold Hid chI;rw[A.out];rfl);(have h:Hid (Li w.heap.size w2 (kX la l.length lc) (zV (zG (cG F G) F.m u (k+1)).2.1)):=by unfold Hid;rw[A.out];exact au);go_wp2;go_roundg (F.mg-(k+1));exact⟨k+1,kX la l.length lc,rfl,by omega,by rw[S.out];(first|done|rfl),rfl,by go_num,h,q⟩;omega
      ·have bt:=ee am;have aZ:=hid (Iy am);by_cases ap:l.length<N
       ·(have aR:(l.length:Int)<(N:Int):=by omega);have A:=hid (qG (c:=(cG F G)) ax s (by rw[HN.out,ei ap,Bool.or_true]));(have S:Hid (chI (cG F G) F.m u (k+1)=(k:Int)):=by unfold Hid chI;rw[A.out];rfl);(have h:Hid (Li w.heap.size w2 (kX la l.length lc) (zV (zG (cG F G) F.m u (k+1)).2.1)):=by unfold Hid;rw[A.out];exact au);go_wp2;go_roundg (F.mg-(k+1));exact⟨k+1,kX la l.length lc,rfl,by omega,by rw[S.out];(first|done|rfl),rfl,by go_num,h,q⟩;omega
       ·(have aR:¬ (l.length:Int)<(N:Int):=by omega);have bz:=ee aR;have A:=hid (vP (c:=(cG F G)) s (by rw[aZ.out,HN.out,ee ap];rfl));(have S:Hid (chI (cG F G) F.m u (k+1)=chI (cG F G) F.m u k):=by unfold Hid chI;rw[A.out]);(have h:Hid (Li w.heap.size w2 (kX ba N bc) (zV (zG (cG F G) F.m u (k+1)).2.1)):=by unfold Hid;rw[A.out,<-HN.out];exact C);go_wp2;go_roundg (F.mg-(k+1));exact⟨k+1,kX ba N bc,rfl,by omega,by rw[S.out];(first|done|rfl),rfl,by go_num,h,q⟩;omega
   ·(obtain rfl:k=F.mg:=by omega);(have bf:¬ (F.mg:Int)<(F.mg:Int):=by omega);have P:=hid (T.choose_mg G u);have Q:=hid (choose_spec (cG F G) F.m u 8).1;obtain ⟨⟨a,l,xf⟩,hx⟩:∃ x,(zG (cG F G) F.m u 8)=x:=⟨_,rfl⟩;rw[hx] at P Q;(have ar:Hid (chI (cG F G) F.m u F.mg=if xf then (a:Int) else -1):=by unfold Hid chI;rw[<-P.out]);rw[<-P.out] at C;rw[ar.out];simp only at Q C;have HX:=hid hx;clear hx P ar
    cases xf with
    |false=>(have R:Hid ((yJ (cG F G) F.m u)=lI):=by unfold Hid yJ;rw[ay.out];simp only[ev,ig];rw[HX.out];rfl);simp only[ev,ig];go_wp2;go_ret;exact⟨by rw[R.out];rfl,by rw[R.out];exact HM.iP q,Chg.jE _ q⟩
    | true=>
     (have R:Hid ((yJ (cG F G) F.m u)=lJ (yK (zI F.m a l) u a)):=by unfold Hid yJ;rw[ay.out];simp only[ev,ig];rw[HX.out];rfl);simp only[eS];obtain⟨K,bi,y⟩:=Q rfl;have aX:=T.mt a K bi;(have bC:(a:Int)<(F.mg:Int):=by omega);have s:=hid (sV HG.kx.inv K y);clear y Q;(have ap:l.length<=240:=by have J:=um l (fun j hj=>(s.mem j hj).1);have E:=mD (f:=fun j=>zh j l) (n:=6) (B:=40) (fun j hj=>by show zh j l<=40;have h3:=s.on j hj;have h4:=HG.kx.on hj K;omega);rw[J]at E;omega);obtain⟨ba,bc,L⟩:=C.kE;simp only[iv]at L;subst L;go_wp2
     go_loopg[12] l.length (fun gg ix wr=>∃i:Nat,gg=l.length-i/\i<=l.length/\ix=kW lD i/\Hid (RfM base wr b (withM F (zI F.m a (l.take i))) val o)/\Hid (Li w.heap.size wr (kX ba l.length bc) (zV l))/\Hid (Chg (zN b F val) w wr))
     case atStart=>exact⟨0,rfl,ep _,rfl,HM.iP q,C,Chg.jE _ q⟩
     case round=>
      clear C q;obtain⟨i,bu,hi,rfl,XM,C,XC⟩:=hrel;by_cases M:i<l.length
      ·(have be:(i:Int)<(l.length:Int):=by omega);obtain⟨j,hj⟩:∃j,l[i]=j:=⟨_,rfl⟩;(have aP:j∈l:=by rw[<-hj];exact ij M);have an:=(s.mem j aP).1;(have a7:Hid (zI F.m a (l.take (i+1))=wayF (zI F.m a (l.take i)) j a):=by rw[<-hj];exact As M);obtain⟨af,ae,aY⟩:=s.rng HG O K aw i an;(have bd:1<=F.m.on j a:=by have J:=s.on j an;have E:0<zh j l:=(by unfold zh;have:=List.count_pos_iff.2 aP;omega);omega);obtain⟨_,ao⟩:=uT T an K bd;(have bx:(j:Int)<(F.ug:Int):=by omega);(obtain⟨bb,bp,bg,bm,cl⟩:∃g p,ba=lJ ⟨g,p,lI⟩/\g<wr.heap.size/\lH wr ⟨g,p+i,lI⟩=lJ (kW lD (j:Int)):=by obtain⟨so,sc,e1,_,_,J⟩:=sU C;obtain⟨g,p,q1,q2,q3⟩:=J i (kW lD (j:Int)) (by unfold zV;rw[eD,eD,en M,hj];rfl);exact⟨g,p,by rw[(nR e1).1];exact q1,q2,q3⟩);subst bg;have D:=XM.box.lt;obtain⟨rg,rp,rc,g2,z2,bq,k5,bo,k6,bj,k7,f2,d⟩:=XM.kN (u:=j) (m:=a) ao aX;dsimp only at k5 k6 k7 d;obtain⟨X,hX⟩:∃X,(zI F.m a (l.take i)).on j a=X:=⟨_,rfl⟩;obtain⟨Y,hY⟩:∃Y,(zI F.m a (l.take i)).kV j=Y:=⟨_,rfl⟩;obtain⟨Z,hZ⟩:∃Z,(zI F.m a (l.take i)).ky j=Z:=⟨_,rfl⟩;rw[hX]at k7 ae;rw[hY]at af;rw[hZ]at aY;obtain⟨J,E⟩:=d (X-1) ⟨(zI F.m a (l.take i)).kV,yC (zI F.m a (l.take i)).on j a (X-1),(zI F.m a (l.take i)).ky⟩ rfl rfl rfl;have aJ:=hid J;have aC:=hid (XC.trans E);have aF:Hid (Chg (zN b F val) wr _):=E;clear d J E;(go_upto_region 19 with fail);go_region;clear k5 k6 k7 f2 bo bj cl bm D XM XC;obtain⟨V1,hV⟩:∃V,V=(lG wr ⟨g2,z2+a,lI⟩ (kW lD (X-1))).drew:=⟨_,rfl⟩;have W:=hid (aJ.iP brf.drew);have ai:Hid (Chg (zN b F val) w (lG wr ⟨g2,z2+a,lI⟩ (kW lD (X-1))).drew):=aC.trans (Chg.jE _ brf.drew);have ak:Hid (Chg (zN b F val) wr (lG wr ⟨g2,z2+a,lI⟩ (kW lD (X-1))).drew):=aF.trans (Chg.jE _ brf.drew);rw[<-hV]at W ai ak ⊢;clear hV aJ aC aF;have D:=W.box.lt;obtain⟨g3,z3,br,k4,bk,k1,f1,d⟩:=W.kL (u:=j) ao;dsimp only at k4 k1 d;rw[hY]at k1;obtain⟨J,E⟩:=d (Y+1) ⟨zE (zI F.m a (l.take i)).kV j (Y+1),yC (zI F.m a (l.take i)).on j a (X-1),(zI F.m a (l.take i)).ky⟩ rfl rfl rfl;have aK:=hid J;have aD:Hid (Chg (zN b F val) w _):=ai.trans E;have aG:Hid (Chg (zN b F val) wr _):=ak.trans E;clear d J E;(go_upto_region 20 with fail);go_region;clear k4 bk k1 f1 D W ai ak;obtain⟨V2,hV⟩:∃V,V=(lG V1 ⟨g3,z3+j,lI⟩ (kW lD (Y+1))).drew:=⟨_,rfl⟩;have aa:=hid (aK.iP brf.drew);have aj:Hid (Chg (zN b F val) w (lG V1 ⟨g3,z3+j,lI⟩ (kW lD (Y+1))).drew):=aD.trans (Chg.jE _ brf.drew);have al:Hid (Chg (zN b F val) wr (lG V1 ⟨g3,z3+j,lI⟩ (kW lD (Y+1))).drew):=aG.trans (Chg.jE _ brf.drew);rw[<-hV]at aa aj al ⊢;clear hV aK aD aG;have D:=aa.box.lt;obtain⟨g4,z4,bs,k4,bl,k1,f1,d⟩:=aa.spotRev (u:=j) ao;dsimp only at k4 k1 d;rw[hZ]at k1;obtain⟨J,E⟩:=d (Z+1) (wayF (zI F.m a (l.take i)) j a) (by show zE (zI F.m a (l.take i)).ky j ((zI F.m a (l.take i)).ky j+1)=_;rw[hZ]) (by show yC (zI F.m a (l.take i)).on j a ((zI F.m a (l.take i)).on j a-1)=_;rw[hX]) (by show zE (zI F.m a (l.take i)).kV j ((zI F.m a (l.take i)).kV j+1)=_;rw[hY]);have ab:=hid J;have U:Hid (Chg (zN b F val) w _):=aj.trans E;have aH:Hid (Chg (zN b F val) wr _):=al.trans E;clear d J E hX hY hZ;(go_upto_region 21 with fail);go_region;clear k4 bl k1 f1 D aa aj al;obtain⟨V3,hV⟩:∃V,V=(lG V2 ⟨g4,z4+j,lI⟩ (kW lD (Z+1))).drew:=⟨_,rfl⟩;have aL:=hid (ab.iP brf.drew);have aE:Hid (Chg (zN b F val) w (lG V2 ⟨g4,z4+j,lI⟩ (kW lD (Z+1))).drew):=U.trans (Chg.jE _ brf.drew);have aI:Hid (Chg (zN b F val) wr (lG V2 ⟨g4,z4+j,lI⟩ (kW lD (Z+1))).drew):=aH.trans (Chg.jE _ brf.drew);rw[<-hV]at aL aE aI ⊢;clear hV ab U aH;(have a9:Hid (RfM base V3 b (withM F (zI F.m a (l.take (i+1)))) val o):=by unfold Hid;rw[a7.out];exact aL);have a8:Hid (Li w.heap.size V3 (kX (lJ ⟨bb,bp,lI⟩) l.length bc) (zV l)):=pE C aI HM.kI;go_wp2;go_roundg (l.length-(i+1));exact⟨i+1,rfl,by omega,by go_num,a9,a8,aE⟩;omega
      ·(obtain rfl:i=l.length:=by omega);(have be:¬ (l.length:Int)<(l.length:Int):=by omega);have r:l.take l.length=l:=jt;rw[r]at XM;obtain⟨af,ae,aY⟩:=s.rng HG O K aw l.length O;rw[r]at af ae;clear r;go_wp2_with fail;refine(t8 XM hu aX aV aU af ae).mono ?_;rintro e5 w5 ⟨rfl,aT,aO⟩;have ab:=hid aT;have U:Hid (Chg (zN b F val) w w5):=XC.trans aO;clear aT aO;go_wp2;go_ret;exact⟨by rw[R.out];rfl,by rw[R.out];exact ab,U⟩
variable{n:Nat}
theorem Jg {cap:Nat}(h:Li B w (kX ga n cap) gl)(hn:gl.length=n):Arr w 1 ga n cap (zi gl):=by
 obtain⟨f,c,e,d⟩:=h.arr;obtain⟨a,g,b⟩:=nR e;subst a;subst b;subst hn;exact d
theorem RfO.one_ug (h:RfO F)(G:Nat->Int)(hG:∀i,i<6->F.ut i=lL->G i<=0):xW (cG F G) F.m F.ug (6-F.ug)=Option.none:=by
 have a:∀n i,F.ug<=i->i+n=6->xW (cG F G) F.m i n=Option.none:=fun n=>by
  induction n with
  |zero=>intro i _ _;rfl
  | succ n ih=>
   intro i b d
   rw[t7 (c:=cG F G) (by
    have e:=hG i (by omega) (h.gut b (by omega))
    have f:=(oz h.sm (u:=i) (by omega)).1
    show G i<=runs F.m i
    omega)]
   exact ih (i+1) (by omega) (by omega)
 exact a (6-F.ug) F.ug lR (by have:=h.ug;omega)
theorem Em {gbase:Nat}(hM:RfM base w b F val o)(hw:RfO F)(hg:FGo (cG F G) F.m)(hG:∀i,i<6->F.ut i=lL->G i<=0)(hgl:Li gbase w (kX ga F.ug gc) gl)(hln:gl.length=F.ug)(hgv:∀j,j<F.ug->lm gl j=G j)(hgb:∀k,zN b F val k->k<gbase):Calls prog 167 #[kY (lJ ⟨b,0,lI⟩),kX ga F.ug gc] w fun e w'=>e=lF (kZ (zW (cG F G) F.m).isSome)/\RfM base w' b (withM F ((zW (cG F G) F.m).getD F.m)) val o/\Chg (zN b F val) w w':=by
 have r:=hid hgv;clear hgv;have Z:=hw.ug;go_enter func167,ntmps167;go_wp2
 go_loopg[5] F.ug (fun gg ix wr=>∃k:Nat,gg=F.ug-k/\k<=F.ug/\ix=kW lD k/\Hid (xW (cG F G) F.m k (6-k)=(zW (cG F G) F.m))/\Hid (RfM base wr b F val o)/\Hid (Chg (zN b F val) w wr))
 case atStart=>exact⟨0,rfl,ep _,rfl,rfl,hM,Chg.refl _ _⟩
 case round=>
  obtain⟨k,X,hk,rfl,A,p,y⟩:=hrel;have x:=p.v hw.k1;obtain⟨so,sc,uo,uc,ho,hc,ro,rc,n⟩:=p.v hw.k1;have P:=n.lt;have V:=n.us;clear n;by_cases f:k<F.ug
  ·(have O:(k:Int)<(F.ug:Int):=by omega);have g:=Jg (pE hgl y hgb) hln;obtain ⟨g3,o3,rfl,M⟩:=g.head (by omega);have Q:=g.int rfl f;rw[r.out k f] at Q;go_wp2_with fail;refine (nO x hw f).mono ?_;rintro e1 w1 ⟨rfl,Y⟩;obtain rfl:=Y.symm;(have J:Hid (6 - k=(6 - (k+1))+1):=by unfold Hid;omega);rw[J.out] at A;by_cases C:G k<=runs F.m k
   ·(have l:Hid (xW (cG F G) F.m (k+1) (6-(k+1))=(zW (cG F G) F.m)):=by unfold Hid;rw[<-A.out,t7 (c:=(cG F G)) C]);(have N:¬ runs F.m k<G k:=by omega);have W:=ee N;go_wp2;go_roundg (F.ug-(k+1));exact⟨k+1,rfl,by omega,by go_num,l,p,y⟩;omega
   ·have D:runs F.m k<G k:=by omega
    have K:F.ut k=lK:=by
     cases e:F.ut k with
     |true=>rfl
     |false=>have h3:=hG k (by omega) e;have h4:=(oz hw.sm (u:=k) (by omega)).1;omega
    go_wp2_with fail;refine(DS p hw hg f K D g r).mono ?_;rintro e2 R ⟨rfl,E,B⟩;have z:=y.trans B;clear B V Q P M p y x
    cases a:yJ (cG F G) F.m k with
    |none=>(have l:Hid (xW (cG F G) F.m (k+1) (6-(k+1))=(zW (cG F G) F.m)):=by unfold Hid;rw[<-A.out,BH (c:=(cG F G)) (show¬ G k<=runs F.m k by omega) a]);rw[a]at E;have L:=E;clear a E;go_wp2;go_roundg (F.ug-(k+1));exact⟨k+1,rfl,by omega,by go_num,l,L,z⟩;omega
    |some t=>(have s:Hid ((zW (cG F G) F.m)=lJ t):=by unfold Hid;rw[<-A.out,AJ (c:=(cG F G)) (show¬ G k<=runs F.m k by omega) a]);rw[a]at E;clear a;go_wp2;go_ret;exact⟨by rw[s.out];rfl,by rw[s.out];exact E,z⟩
  ·(obtain rfl:k=F.ug:=by omega);(have O:¬ (F.ug:Int)<(F.ug:Int):=by omega);(have s:Hid ((zW (cG F G) F.m)=lI):=by unfold Hid;rw[<-A.out];exact hw.one_ug G hG);go_wp2;go_ret;exact⟨by rw[s.out];rfl,by rw[s.out];exact p,y⟩
theorem Gu (c:FC) (s:FM):∀n,(zL c s n).2.2=lK->(zL c s n).2.1=zl c (zL c s n).1 (runs s (zL c s n).1):=fun n=>by
 induction n with
 |zero=>intro h;cases h
 | succ n ih=>
  cases hs:yV c s n with
  |false=>rw[oR hs];exact ih
  |true=>
   cases hx:(!(zL c s n).2.2||zj (zl c n (runs s n)) (zL c s n).2.1)with
   |true=>rw[qU hs hx];intro _;rfl
   |false=>rw[sJ hx];exact ih
def nxI (c:FC)(s:FM)(n:Nat):Int:=if (zL c s n).2.2 then((zL c s n).1:Int)else -1
theorem BF (h:nxI c s n<0):(zL c s n).2.2=lL:=by
 unfold nxI at h
 cases e:(zL c s n).2.2 with
 |false=>rfl
 |true=>rw[e,ed rfl]at h;omega
theorem uu (h:¬ nxI c s n<0):(zL c s n).2.2=lK/\nxI c s n=((zL c s n).1:Int)/\(zL c s n).1<n/\yV c s (zL c s n).1=lK:=by
 unfold nxI at h ⊢
 cases e:(zL c s n).2.2 with
 |false=>rw[e,ec (by decide)]at h;omega
 |true=>exact⟨rfl,ed rfl,(ti c s n).1 e⟩
theorem tI (h:yV c s n=lL):nxI c s (n+1)=nxI c s n:=by unfold nxI;rw[oR h]
theorem Bc (h:yV c s n=lK)(h1:nxI c s n<0\/zj (zl c n (runs s n)) (zL c s n).2.1=lK):nxI c s (n+1)=(n:Int):=by
 have e:=qU h (by rcases h1 with h1|h1;(rw[BF h1];rfl);(rw[h1,Bool.or_true]));unfold nxI;rw[e];rfl
theorem Hv (h1:¬ nxI c s n<0)(h2:zj (zl c n (runs s n)) (zL c s n).2.1=lL):nxI c s (n+1)=nxI c s n:=by
 have e:=sJ (c:=c) (s:=s) (k:=n) (by rw[(uu h1).1,h2];rfl);unfold nxI;rw[e]
theorem tp (h:yV c s k=lK):1<=s.kV k/\(Por.tight c s k).2=lK:=by
 unfold yV at h;by_cases e:s.kV k<1
 ·rw[ei e]at h;simp at h
 ·rw[eJ]at h;exact⟨by omega,h.2⟩
theorem RfO.next_ug (h:RfO F)(G:Nat->Int)(hn:∀i,i<6->F.ut i=lL->F.m.kV i=0):zL (cG F G) F.m 6=zL (cG F G) F.m F.ug:=by
 have a:∀j,F.ug<=j->j<=6->zL (cG F G) F.m j=zL (cG F G) F.m F.ug:=fun j=>by
  induction j with
  |zero=>intro b _;rw[show F.ug=0 by omega]
  | succ j ih=>
   intro b f;by_cases e:F.ug=j+1
   ·rw[e]
   ·have hs:yV (cG F G) F.m j=lL:=by
     cases d:yV (cG F G) F.m j with
     |false=>rfl
     |true=>have c:=(tp d).1;rw[hn j (by omega) (h.gut (by omega) (by omega))]at c;omega
    rw[oR hs,ih (by omega) (by omega)]
 exact a 6 h.ug (ea 6)
theorem Gt (hM:RfM base w b F val o)(hw:RfO F)(hg:FGood (cG F G) F.m)(hn:∀i,i<6->F.ut i=lL->F.m.kV i=0):Calls prog 168 #[kY (lJ ⟨b,0,lI⟩)] w fun e w'=>e=lF (kZ (zw (cG F G) F.m).isSome)/\RfM base w' b (withM F ((zw (cG F G) F.m).getD F.m)) val o/\Chg (zN b F val) w w':=by
 have HM:=hid hM;have D:=hid hw;have HG:=hid hg;have HN:=hid hn;have ao:=D.ug;have an:=D.mg;have l:=hid (HM.v D.k1);go_enter func168,ntmps168;go_wp2
 go_loopg[3,4] F.ug (fun gg s3 ix wr=>∃k:Nat,gg=F.ug-k/\k<=F.ug/\s3=kW lD (nxI (cG F G) F.m k)/\ix=kW lD k/\Hid (Bl w wr))
 case atStart=>exact⟨0,rfl,ep _,rfl,rfl,eB _ _⟩
 case round=>
  obtain⟨k,ay,hk,rfl,rfl,a⟩:=hrel;have h:=hid (HM.iP a);obtain⟨so,sc,uo,uc,ho,hc,ro,rc,c⟩:=l.iP a;have K:=c.lt;have c2:=c.us;by_cases A:k<F.ug
  ·(have am:(k:Int)<(F.ug:Int):=by omega);go_wp2_with fail;refine (nO (l.iP a) D A).mono ?_;rintro e1 w1 ⟨rfl,hq⟩;obtain rfl:=hq.symm;go_wp2_with fail;refine (sY (zB F 8) G k _ (l.iP a) D A).mono ?_;rintro e2 w2 ⟨t,rfl,_,ht,z⟩;have HT:=hid ht;have y:=hid (et a z);have a:=y;have h:=hid (HM.iP a);obtain ⟨so,sc,uo,uc,ho,hc,ro,rc,c⟩:=l.iP a;have K:=c.lt;have c2:=c.us;obtain ⟨g1,o1,d1,e1,au,wt,cp,rfl,al,_,_,_,_,_,_,c9,Y⟩:=c.user k A;have S:=hid Y;obtain ⟨g4,z4,ar,k4,aq,k1,_,_⟩:=h.kL A;have aB:=HG.kV (u:=k) (by omega);by_cases J:F.m.kV k=0
   ·have x:Hid (nxI (cG F G) F.m (k+1)=nxI (cG F G) F.m k):=tI (by unfold yV;rw[ei (show F.m.kV k<1 by omega)];simp);(have ap:(F.m.kV k == 0)=lK:=by rw[J];rfl);go_wp2;go_roundg (F.ug-(k+1));exact⟨k+1,rfl,by omega,by rw[x.out];(first|done|rfl),by go_num,a⟩;omega
   ·have ap:(F.m.kV k == 0)=lL:=by rw[eg];exact J
    have Q:Hid (F.ut k=lK):=by
     cases e:F.ut k with
     |true=>rfl
     |false=>exact absurd (HN k (by omega) e) J
    obtain⟨_,rfl⟩:=S Q;have g:=hid (HT Q);(have ag:¬ F.m.kV k<1:=by omega);by_cases E:F.uc k<=runs F.m k
    ·have x:=hid (tI (by unfold yV;rw[show decide ((cG F G).uc k<=runs F.m k)=lK from ei E];simp));have ak:=ei E;go_wp2;go_roundg (F.ug-(k+1));exact⟨k+1,rfl,by omega,by rw[x.out];(first|done|rfl),by go_num,a⟩;omega
    ·have ak:=ee E;have N:Hid (yV (cG F G) F.m k=(Por.tight (cG F G) F.m k).2):=by unfold Hid yV;rw[ee ag,show decide ((cG F G).uc k<=runs F.m k)=lL from ee E];rfl
     cases q:(Por.tight (cG F G) F.m k).2 with
     |false=>have x:=hid (tI (N.trans q));have j:=hid (g.trans (by unfold tgt tgk;exact ec (by show¬ (Por.tight (cG F G) F.m k).2=lK;rw[q];decide)));rw[j.out];go_wp2;go_roundg (F.ug-(k+1));exact⟨k+1,rfl,by omega,by rw[x.out];(first|done|rfl),by go_num,a⟩;omega
     | true=>
      have U:=hid (N.trans q);have j:=hid (g.trans (by unfold tgt tgk;exact ed q));generalize r:(Por.tight (cG F G) F.m k).1=R at j;rw[j.out];(have af:¬ (R:Int)<0:=by omega);have aA:=ee af;by_cases d:nxI (cG F G) F.m k<0
      ·have x:=hid (Bc U (.inl d));have aw:=ee (by omega);(have ax:¬ 0<=nxI (cG F G) F.m k:=by omega);go_wp2;go_roundg (F.ug-(k+1));exact⟨k+1,rfl,by omega,by rw[x.out];(first|done|rfl),by go_num,a⟩;omega
      ·obtain⟨B,f,C,s⟩:=uu d;(have M:Hid (zj (zl (cG F G) k (runs F.m k)) (zL (cG F G) F.m k).2.1=hiB F G (zL (cG F G) F.m k).1 k):=by unfold Hid;rw[Gu _ _ _ B];rfl);have L:=(tp s).1;obtain⟨p,hp⟩:∃p,(zL (cG F G) F.m k).1=p:=⟨_,rfl⟩;have W:=hid f;rw[hp]at W f C L M;have ah:=hid d;rw[f]at d ⊢
       have P:Hid (F.ut p=lK):=by
        cases e:F.ut p with
        |true=>rfl
        |false=>have Z:=HN.out p (by omega) e;omega
       go_wp2_with fail;refine(wI G p k _ (l.iP a) D (by omega) A P Q).mono ?_;rintro e3 w3 ⟨rfl,aa⟩;have X:=hid (et a aa);have a:=X
       cases hh:hiB F G p k with
       |true=>have x:=hid (Bc U (.inr (M.trans hh)));go_wp2;go_roundg (F.ug-(k+1));exact⟨k+1,rfl,by omega,by rw[x.out];(first|done|rfl),by go_num,a⟩;omega
       |false=>have x:=hid ((Hv (by have:=ah.out;omega) (M.trans hh)).trans W);go_wp2;go_roundg (F.ug-(k+1));exact⟨k+1,rfl,by omega,by rw[x.out];(first|done|rfl),by go_num,a⟩;omega
  ·(obtain rfl:k=F.ug:=by omega);(have am:¬ (F.ug:Int)<(F.ug:Int):=by omega);have T:=hid (D.next_ug G HN);by_cases d:nxI (cG F G) F.m F.ug<0
   ·(have O:Hid ((zw (cG F G) F.m)=lI):=by unfold Hid zw;rw[T.out,BF d];rfl);go_wp2;go_ret;exact⟨by rw[O.out];rfl,by rw[O.out];exact h,Chg.jE _ a⟩
   ·obtain⟨B,f,C,s⟩:=uu d;(have O:Hid ((zw (cG F G) F.m)=lJ (yK F.m (zL (cG F G) F.m F.ug).1 (Por.tight (cG F G) F.m (zL (cG F G) F.m F.ug).1).1)):=by unfold Hid zw;rw[T.out,B];rfl);have H:=tp s;generalize hp:(zL (cG F G) F.m F.ug).1=p at O f C s H;rw[f]at d ⊢
    have P:Hid (F.ut p=lK):=by
     cases e:F.ut p with
     |true=>rfl
     |false=>have Z:=HN.out p (by omega) e;omega
    have I:=jCt H.2;(have ad:F.mt (Por.tight (cG F G) F.m p).1=lK:=by have Z:=I.2;rw[oE]at Z;cases e:F.mt (Por.tight (cG F G) F.m p).1 with|true=>rfl|false=>rw[e]at Z;cases Z);have ae:=D.mt _ I.1 ad;obtain⟨R,r⟩:∃n,(Por.tight (cG F G) F.m p).1=n:=⟨_,rfl⟩;(have g:Hid (tgt (cG F G) F.m p=(R:Int)):=by unfold Hid tgt tgk;rw[<-r];exact ed H.2);rw[r]at ae I O;have ag:=HG.kV (u:=p) (by omega);have az:=HG.on (u:=p) (m:=R) (by omega) I.1;go_wp2_with fail;refine(sY (zB F 8) G p _ (l.iP a) D C).mono ?_;rintro e2 w2 ⟨t,rfl,_,ht,z⟩;have V:=hid ((ht P).trans g);rw[V.out];have y:=hid (et a z);go_wp2_with fail;refine(t8 (HM.iP y) C ae ao an (by omega) (by omega)).mono ?_;rintro e3 w3 ⟨rfl,ac,ab⟩;have aj:=hid ac;have ai:=hid ((Chg.jE _ y).trans ab);go_wp2;go_ret;exact⟨by rw[O.out];rfl,by rw[O.out];exact aj,ai⟩
def Gn (F:Flt)(s:FM):Prop:=∀i,i<6->F.ut i=lL->s.kV i=0/\runs s i=0
variable{t:FM}
theorem Gn.goal (h:Gn F s)(hi:FInv (cG F G) s)(hG:∀i,i<6->F.ut i=lL->G i<=0)(hg:zW (cG F G) s=lJ t):Gn F t:=by
 obtain⟨u,m,l,g⟩:=mV hi hg;intro i a c;obtain⟨o,d⟩:=h i a c;(have b:i≠u:=fun e=>by subst e;have k:runs s i<G i:=g.lt;have:=hG i a c;omega);have k:=g.cl.on i a;have p:=l8 (f:=s.on i) (n:=8) (fun j hj=>hi.on i a j hj) g.hm;have q:=lU i l;unfold runs at d;rw[g.kV i,g.runs i,ec b];unfold runs;omega
theorem Gn.fill (h:Gn F s)(hf:zw c s=lJ t):Gn F t:=by
 obtain⟨u,m,f⟩:=mW hf;intro i g j;obtain⟨b,d⟩:=h i g j;(have a:i≠u:=fun e=>by subst e;have:=f.kV;omega);rw[f.eq,qK f.hm,ec a];exact⟨by show zE s.kV u (s.kV u-1) i=0;rw[JJ _ _ a];exact b,d⟩
theorem RfO.at (h:RfO F) (hg:FGood (cG F G) s) (hn:Gn F s):RfO (withM F s):=
  ⟨h.k1,h.k4,h.mg,h.ug,h.mt,h.ut,h.ms,h.msz,h.msk,h.ud,h.udk,h.uw,hg.inv.on,fun u hu=>by
    have h1:=hg.tot u hu
    have h2:=hg.inv.kV u hu
    show runs s u<=40
    omega,fun u hu ht m hm=>by
    have h1:=(hn u hu ht).2
    have h2:=l8 (f:=s.on u) (n:=8) (fun j hj=>hg.inv.on u hu j hj) hm
    have h3:=hg.inv.on u hu m hm
    unfold runs at h1
    show s.on u m=0
    omega,hg.inv.gone,fun m hm r hr=>by
    have h1:=hg.inv.kw m hm r hr
    have h2:Por.room (cG F G) s m r=F.ms m r-Por.sumI (fun u=>F.ud u r*s.on u m) 6:=rfl
    show Por.sumI (fun u=>F.ud u r*s.on u m) 6<=F.ms m r
    omega,h.want,h.uw1⟩
def DuesC:Prop:=∀(base b:Nat)(R:Int)(F:Flt)(val:Tb->lN)(o:Old)(w:lM) ,RfM base w b F val o->FReady F->RfO F->Tab w->Gn F F.m->
  Calls prog 166 #[kY (lJ ⟨b,0,lI⟩)] w fun e w'=>∃ga gc o',e=lF (kX ga F.ug gc)/\Li w.heap.size w' (kX ga F.ug gc) (zu (zm F (zB F 8)) F.ug)/\RfM base w' b (withD F (xU F (zB F 8))) val o'/\Chg (zN b F val) w w'
theorem Ey (F:Flt) (P:Nat->Int):∀i,i<6->F.ut i=lL->zm F P i<=0:=fun i _ ht=>by
  unfold zm
  rw[ec (fun h=>by rw[ht]at h;cases h.2)];exact ik _
open Go.Lib (decDigits)
theorem Ea {x:Rat}(hn:flZ x=(n:Int))(hle:n<10000):Calls prog 187 #[lC ⟨(txt (flQ x)).toArray⟩] w fun e w'=>e=lF (kW lD n)/\w'=w:=by
 obtain⟨s,hs⟩:∃s:ByteArray,s=⟨(txt (flQ x)).toArray⟩:=⟨_,rfl⟩;rw[<-hs];(have a:s.data.toList=decDigits n:=by rw[hs];show txt (flQ x)=_;unfold flQ;rw[hn];exact BP n);(have q:s.size<=4:=by(have f:s.size=s.data.toList.length:=by simp);rw[f,a];exact od (by omega) (by omega));(have d:s.data.toList.all yf=lK:=by rw[a];exact(oY n).2.1);(have h:dv s.data.toList=n:=by rw[a];exact qt n);clear hs a hn;go_enter func187,ntmps187;go_wp2
 go_loop[3,4] (fun v i=>∃k:Nat,k<=s.size/\i=kW lD k/\v=kW lD (dv (s.data.toList.take k):Nat)) (fun _ i=>s.size-(intOf i).toNat)
 case atStart=>exact⟨0,ep _,rfl,rfl⟩
 case round=>
  obtain⟨k,t,rfl,rfl⟩:=hrel;by_cases b:k<s.size
  ·have c:=ox s k b;(have m:48<=s[k].toNat/\s[k].toNat<=57:=by have:=ie.1 d s[k] (ij (l:=s.data.toList) (n:=k) (by simpa using b));exact(l5 _).1 this);obtain⟨o,p⟩:=m
   have u:dv (s.data.toList.take k)<10000:=by
    have f:=qu (s.data.toList.take k) (by
     rw[ie];intro x r;exact ie.1 d x (List.mem_of_mem_take r))
    (have j:(s.data.toList.take k).length<=4:=by rw[im];simp;omega);have:(10:Nat)^(s.data.toList.take k).length<=10^4:=ip (by omega) j;omega
   have E:=px (s.data.toList.take k) s[k];go_wp2;exact⟨⟨k+1,by omega,by go_num,by rw[c,E];congr 1;omega⟩,by simp[intOf];omega⟩
  ·go_wp2;go_ret;exact⟨by rw[ew (by simp;omega),h];rfl,rfl⟩
end Go.Proofs.YtigokanoflkinaaGreatDoor
