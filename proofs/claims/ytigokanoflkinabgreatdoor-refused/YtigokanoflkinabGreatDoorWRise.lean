/- fill rise. (Laid by mksolve.py.) -/
import Derived.Test.YtigokanoflkinabGreatDoorWSteps
set_option maxHeartbeats 2000000
set_option maxRecDepth 20000
namespace Go.Proofs.YtigokanoflkinabGreatDoor
set_option linter.unusedSimpArgs false
set_option linter.unusedVariables false
open Go.RowKit Por
theorem jM2 {d:FD}{s:St}{w0:World}(ho:d.Ok w0)(hs:Small d s 60):∀ k,k<=d.n->∀ x,x∈suL d s k->Sm x 433:=by
 intro k
 induction k with
 | zero=>intro _ x a;cases a
 | succ k ih=>
  intro f x a;simp only[suL] at a;split at a
  ·exact ih (by omega) x a
  ·rename_i e;rcases List.mem_append.1 a with h | h
   ·exact ih (by omega) x h
   ·rw[List.mem_singleton] at h;subst h;have c:=ho.len;have b:=ho.good.cap (i:=k) (by omega);exact (((Sm.int (n:=(ug d.us k).cap) (by omega) (by omega)).sub (hs.ts k (by omega))).div (hs.rt k (by omega)) e).mono (by omega)
theorem jM1 {d:FD}{s:St}{w0:World}(ho:d.Ok w0)(hs:Small d s 60)(l:List Rat)(hl:∀ x,x∈l->Sm x 433):∀ k,k<=d.kk->∀ x,x∈skL d s l k->Sm x 433:=by
 intro k
 induction k with
 | zero=>intro _ x a;exact hl x a
 | succ k ih=>
  intro i x a;simp only[skL] at a;split at a
  ·exact ih (by omega) x a
  ·rename_i g;rcases List.mem_append.1 a with h | h
   ·exact ih (by omega) x h
   ·rw[List.mem_singleton] at h;subst h;have f:=ho.len;have c:=jFj ho.good (by omega) hs.ts k d.n (Nat.le_refl _);have e:=jFj ho.good (by omega) hs.rt k d.n (Nat.le_refl _);have b:=ho.n6;have j:=Nat.mul_le_mul_right 63 b;have m:=Nat.mul_le_mul_right 7 b;exact (((ho.rooms k (by omega)).sub c).div e g).mono (by omega)
theorem jKQ {d:FD}{s:St}{w0:World}(ho:d.Ok w0)(hs:Small d s 60):∀ x,x∈stepsF d s->Sm x 433:=jM1 ho hs _ (jM2 ho hs d.n (Nat.le_refl _)) d.kk (Nat.le_refl _)
def xd (s:St)(e:Rat)(k:Nat):Nat->Rat:=fun i=>if i<k then upTs s e i else s.ts i
def midLv (s:St)(e:Rat)(k:Nat):Nat->Rat:=fun i=>if i<k then upLv s e i else s.lv i
def midU (s:St)(e:Rat)(k:Nat):St:=⟨s.lev+e,s.rt,xd s e k,midLv s e k⟩
def upS (s:St)(e:Rat):St:=⟨s.lev+e,s.rt,upTs s e,upLv s e⟩
def riseF (d:FD)(s:St)(l:List Rat):St:=if l.length=0 then s else midS d (upS s (zP (rq l) l.length)) d.n
theorem jJC (w0:World)(d:FD)(s:St)(w:World)(h:FS w0 d w s)(ho:d.Ok w0)(hs:Small d s 60)(l:List Rat)(ln:Nat)(hl:Hid (stepsF d s=l))(hln:Hid (l.length=ln)):Calls Tryz.prog 75 #[.pointer (some ⟨d.sb,0,none⟩)] w fun e w'=>e = .returned (.tuple #[])/\FS w0 d w' (riseF d s l):=by
 have bE:=ho.n6;have ca:=ho.k4;have cc:=ho.len;have aT:=ho.ap;have H:=hid h;have HO:=hid ho;have HS:=hid hs;clear h ho hs;go_enter Tryz.func75,Tryz.ntmps75;go_wp2_with fail;refine (jJ6 w0 d s _ H.out HO.out HS.out).mono ?_;rintro e1 w1 ⟨v1,rfl,aU,bj⟩;have R:=hid (H.out.below bj);(have aM:Hid (∀ i,i<(stepsF d s).length->Sm (rq (stepsF d s) i) 433):=fun i hi=>jKQ HO.out HS.out _ (jHi hi));rw[hl.out] at aU aM;obtain ⟨lo,lc,rfl,aV⟩:=aU.frs;rw[hln.out] at aV aM ⊢;have br:=hid aV;have ar:=hid R.out.bel;clear aU aV bj;by_cases h0:ln=0
 ·subst h0;go_wp2_with fail;refine (jIh lo lc _).mono ?_;rintro U w2 ⟨rfl,W⟩;have y:=hid (R.out.below W);have Q:Hid (Below w0.heap.size w0 w2):=ar.out.trans (W.mono ar.out.size);clear R ar;clear W;go_wp2;(try simp only[Exit.inBlock,Exit.then]);refine bodyPost_ret (results_none rfl _ _ _) rfl ?_;exact ⟨rfl,by unfold riseF;rw[if_pos hln.out];exact y.out.alloc _⟩
 ·go_wp2_with fail;refine (jFb lo ln lc (rq l) _ br.out (fun i hi=>(aM.out i hi).mono (by omega)) (by omega)).mono ?_;rintro U w2 ⟨v2,rfl,⟨X,tb,Y,Z,te,tf,rfl,a2,a3⟩,W⟩;have y:=hid (R.out.below W);have Q:Hid (Below w0.heap.size w0 w2):=ar.out.trans (W.mono ar.out.size);clear R ar;clear W;have aC:=hid a2;have aD:=hid a3;have aE:=hid (show Sm (zP (rq l) ln) 433 from jDY aM.out (by omega) _ (Nat.le_refl _));have cy:=a2.sm1 aE.out;have cz:=a3.sm2 aE.out;clear a2 a3;generalize hdl:zP (rq l) ln=dl at *;have bq:=hid hdl;clear hdl;have bX:=y.out.lts;have z:=hid (jAC w2 #[.bool (negB dl),.slice X tb Y,.slice Z te tf] 118);have aB:=hid (y.out.alloc (.cells #[.bool (negB dl),.slice X tb Y,.slice Z te tf] 118));have L:=hid (aC.out.alloc (.cells #[.bool (negB dl),.slice X tb Y,.slice Z te tf] 118));have N:=hid (aD.out.alloc (.cells #[.bool (negB dl),.slice X tb Y,.slice Z te tf] 118));have aP:Hid (Below w0.heap.size w0 (w2.alloc (.cells #[.bool (negB dl),.slice X tb Y,.slice Z te tf] 118))):=Q.out.alloc Q.out.size (.cells #[.bool (negB dl),.slice X tb Y,.slice Z te tf] 118);have cp:w0.heap.size<=w2.heap.size:=Q.out.size;clear y aC aD Q;go_wp2_with fail;obtain ⟨V,hV⟩:∃ V,V=(w2.alloc (.cells #[.bool (negB dl),.slice X tb Y,.slice Z te tf] 118)):=⟨_,rfl⟩;rw[<- hV] at z aB L N aP ⊢;clear hV;have aw:=aB;obtain ⟨la,lb,bn,ld,le,lf,a,b,c⟩:=aw.out.box;have b0:=a.lt;have cs:=b.sm1 HS.out.lev;have ct:=c.sm2 HS.out.lev;have d2:V.drew.cell? ⟨d.sb,2,none⟩=some (.bool (negB s.lev)):=a.drew.cell 2 _ rfl;have d3:V.drew.cell? ⟨d.sb,3,none⟩=some (.slice la lb bn):=a.drew.cell 3 _ rfl;have d4:V.drew.cell? ⟨d.sb,4,none⟩=some (.slice ld le lf):=a.drew.cell 4 _ rfl;have bB:=z.out.drew.cell 0 _ rfl;have bC:=z.out.drew.cell 1 _ rfl;have bD:=z.out.drew.cell 2 _ rfl;have bo:=z.out.lt;have a7:=hid b;have a8:=hid c;have aR:=hid a;clear b c a;have b1:=hid (HS.out.lev.add aE.out)
  go_cut[3] (fun y0 wx=>.pointer (some ⟨w2.heap.size,0,none⟩)=y0/\Hid (FS w0 d wx ⟨s.lev+dl,s.rt,s.ts,s.lv⟩)/\Hid (Bx wx w2.heap.size #[.bool (negB dl),.slice X tb Y,.slice Z te tf] 118)/\Hid (Row wx X tb Y (zA dl.num.natAbs))/\Hid (Row wx Z te tf (zA dl.den)))
  case first=>go_region_with (first | (go_at_call 95;refine (jDA la ld X Z lb bn le lf tb Y te tf s.lev dl V.drew a7.out.drew a8.out.drew L.out.drew N.out.drew (by omega) (by omega) (by omega) (by omega)).mono ?_;rintro e7 w7 ⟨v7,rfl,⟨na,nb,nc,nd,ne,nf,rfl,aW,aX⟩,q⟩;have XB:=aR.out.drew.keep q;have x2:=XB.cell 2 _ rfl;have x3:=XB.cell 3 _ rfl;have x4:=XB.cell 4 _ rfl;have z2:=XB.frozen 2;have z3:=XB.frozen 3;have z4:=XB.frozen 4;have bp:=XB.lt;clear XB));(all_goals (go_wp2_with fail;go_meet));all_goals (have bd:=aR.out.drew.keep q;exact ⟨rfl,(aw.out.drew.below q).putLev aT (s.lev+dl) aW aX,Bx.putA_other (z.out.drew.keep q) _ _ _ (by omega),(L.out.drew.below q).putA bd (by decide),(N.out.drew.below q).putA bd (by decide)⟩)
  case rest=>
   obtain ⟨rfl,aS,ay,az,aA⟩:=hcut;clear d2 d3 d4 bB bC bD a7 a8 aR aw z L N aP;obtain ⟨cd,cf,ch,cj,cl,cq,a,b,c⟩:=aS.out.box;have g5:wc.cell? ⟨d.sb,5,none⟩=some (.slice (some ⟨d.gr,0,none⟩) d.n d.n):=a.cell 5 _ rfl;clear a b c;go_wp2
   go_loopg[31] d.n (fun g i wr=>∃ k:Nat,g=d.n - k/\k<=d.n/\i = .int .i64 k/\Hid (FS w0 d wr (midU s dl k))/\Hid (Bx wr w2.heap.size #[.bool (negB dl),.slice X tb Y,.slice Z te tf] 118)/\Hid (Row wr X tb Y (zA dl.num.natAbs))/\Hid (Row wr Z te tf (zA dl.den)))
   case atStart=>exact ⟨0,rfl,Nat.zero_le _,rfl,aS.out.congr rfl (fun i hi=>rfl) (fun i hi=>by unfold midU xd;simp) (fun i hi=>by unfold midU midLv;simp),ay.out,az.out,aA.out⟩
   case round=>
    clear g5 aS ay az aA;obtain ⟨k,b9,hk,rfl,hF,bg,bh,bi⟩:=hrel;have aq:=hid hF.out.bel;by_cases P:k<d.n
    ·obtain ⟨ra,rb,rc,rd,re,rf,c0,c1,c2,a0,a1⟩:=hF.out.rt.cells P;have cw:=a0.sm1 (HS.out.rt k P);have cx:=a1.sm2 (HS.out.rt k P);have bY:=hF.out.rt.lt;(have cb:(k:Int)<(d.n:Int):=by omega);have af:=hid a0;have ai:=hid a1;clear a0 a1;have aI:=hid (jAB bg.out (.cells #[.bool (negB (s.rt k)),.slice ra rb rc,.slice rd re rf] 118));have aF:=hid (jAC wr #[.bool (negB (s.rt k)),.slice ra rb rc,.slice rd re rf] 118);have aa:=hid (hF.out.alloc (.cells #[.bool (negB (s.rt k)),.slice ra rb rc,.slice rd re rf] 118));have al:=hid (bh.out.alloc (.cells #[.bool (negB (s.rt k)),.slice ra rb rc,.slice rd re rf] 118));have an:=hid (bi.out.alloc (.cells #[.bool (negB (s.rt k)),.slice ra rb rc,.slice rd re rf] 118));have G:=hid (af.out.alloc (.cells #[.bool (negB (s.rt k)),.slice ra rb rc,.slice rd re rf] 118));have J:=hid (ai.out.alloc (.cells #[.bool (negB (s.rt k)),.slice ra rb rc,.slice rd re rf] 118));have A:Hid (Below w0.heap.size w0 (wr.alloc (.cells #[.bool (negB (s.rt k)),.slice ra rb rc,.slice rd re rf] 118))):=aq.out.alloc aq.out.size (.cells #[.bool (negB (s.rt k)),.slice ra rb rc,.slice rd re rf] 118);have co:w0.heap.size<=wr.heap.size:=aq.out.size;clear bg hF bh bi af ai aq;go_wp2_with fail;refine (jHL ra rb rc rd re rf (s.rt k) _ G.out J.out (by omega) (by omega) (HO.out.tab.of A.out)).mono ?_;rintro b2 bT ⟨rfl,m⟩;have f:=hid (aI.out.keep m);have t:=hid (aF.out.keep m);have C:=hid (aa.out.below m);have u:=hid (al.out.below m);have v:=hid (an.out.below m);have I:=hid (G.out.below m);have K:=hid (J.out.below m);have S:Hid (Below w0.heap.size w0 bT):=A.out.trans (m.mono A.out.size);clear aI aF aa al an G J A;clear m;clear c0 c1 c2;by_cases hz:s.rt k=0
     ·have aK:decide (s.rt k=0)=true:=decide_eq_true hz;rw[aK];have HZ:=hid hz;clear hz aK;go_wp2;go_roundg (d.n - (k+1));case measure=>omega
      case rel=>
       refine ⟨k+1,rfl,by omega,by go_num,C.out.congr rfl (fun j hj=>rfl) (fun j hj=>?_) (fun j hj=>?_),f.out,u.out,v.out⟩
       ·show xd s dl k j=xd s dl (k+1) j;unfold xd;by_cases e:j=k
        ·subst e;rw[if_neg (by omega),if_pos (by omega),upTs,if_pos HZ.out]
        ·by_cases U:j<k
         ·rw[if_pos U,if_pos (by omega)]
         ·rw[if_neg U,if_neg (by omega)]
       ·show midLv s dl k j=midLv s dl (k+1) j;unfold midLv;by_cases e:j=k
        ·subst e;rw[if_neg (by omega),if_pos (by omega),upLv,if_pos HZ.out]
        ·by_cases U:j<k
         ·rw[if_pos U,if_pos (by omega)]
         ·rw[if_neg U,if_neg (by omega)]
     ·have aK:decide (s.rt k=0)=false:=decide_eq_false hz;rw[aK];have HZ:=hid hz;clear hz aK;have bo:=f.out.lt;have bx:=f.out.cell 0 _ rfl;have bz:=f.out.cell 1 _ rfl;have bA:=f.out.cell 2 _ rfl;have bO:=t.out.lt;have bu:=t.out.cell 0 _ rfl;have bv:=t.out.cell 1 _ rfl;have bw:=t.out.cell 2 _ rfl;go_wp2_with fail;clear bo bx bz bA bO bu bv bw;refine (jF5 ra rd X Z rb rc re rf tb Y te tf (s.rt k) dl _ I.out K.out u.out v.out (by omega) (by omega) (by omega) (by omega)).mono ?_;rintro b3 aL ⟨cD,rfl,⟨pa,pb,pc,pd,pe,pf,rfl,aY,aZ⟩,o⟩;have aJ:=hid (f.out.keep o);have aG:=hid (t.out.keep o);have ab:=hid (C.out.below o);have am:=hid (u.out.below o);have ao:=hid (v.out.below o);have ag:=hid (I.out.below o);have aj:=hid (K.out.below o);have B:Hid (Below w0.heap.size w0 aL):=S.out.trans (o.mono S.out.size);clear f t C u v I K S;clear o;have ad:=hid aY;have ae:=hid aZ;have be:=hid (show Sm (s.rt k*dl) 437 from (HS.out.rt k P).mul aE.out);have cu:=aY.sm1 be.out;have cv:=aZ.sm2 be.out;clear aY aZ;have T:=hid (jAB aJ.out (.cells #[.bool (negB (s.rt k*dl)),.slice pa pb pc,.slice pd pe pf] 118));have aH:=hid (jAB aG.out (.cells #[.bool (negB (s.rt k*dl)),.slice pa pb pc,.slice pd pe pf] 118));have r:=hid (jAC aL #[.bool (negB (s.rt k*dl)),.slice pa pb pc,.slice pd pe pf] 118);have D:=hid (ab.out.alloc (.cells #[.bool (negB (s.rt k*dl)),.slice pa pb pc,.slice pd pe pf] 118));have M:=hid (am.out.alloc (.cells #[.bool (negB (s.rt k*dl)),.slice pa pb pc,.slice pd pe pf] 118));have O:=hid (ao.out.alloc (.cells #[.bool (negB (s.rt k*dl)),.slice pa pb pc,.slice pd pe pf] 118));have ah:=hid (ag.out.alloc (.cells #[.bool (negB (s.rt k*dl)),.slice pa pb pc,.slice pd pe pf] 118));have ak:=hid (aj.out.alloc (.cells #[.bool (negB (s.rt k*dl)),.slice pa pb pc,.slice pd pe pf] 118));have E:=hid (ad.out.alloc (.cells #[.bool (negB (s.rt k*dl)),.slice pa pb pc,.slice pd pe pf] 118));have F:=hid (ae.out.alloc (.cells #[.bool (negB (s.rt k*dl)),.slice pa pb pc,.slice pd pe pf] 118));have au:Hid (Below w0.heap.size w0 (aL.alloc (.cells #[.bool (negB (s.rt k*dl)),.slice pa pb pc,.slice pd pe pf] 118))):=B.out.alloc B.out.size (.cells #[.bool (negB (s.rt k*dl)),.slice pa pb pc,.slice pd pe pf] 118);have cn:w0.heap.size<=aL.heap.size:=B.out.size;clear aJ aG ab am ao ag aj ad ae B;have bW:=D.out.lts;go_wp2_with fail;obtain ⟨V5,hV⟩:∃ V5,V5=(aL.alloc (.cells #[.bool (negB (s.rt k*dl)),.slice pa pb pc,.slice pd pe pf] 118)):=⟨_,rfl⟩;rw[<- hV] at T aH r D M O ah ak E F au ⊢;clear hV;have x:=D;obtain ⟨ce,cg,ci,ck,cm,cr,a,b,c⟩:=x.out.box;have a4:=a.lt;have a5:=hid a;have e6:V5.drew.cell? ⟨d.sb,6,none⟩=some (.slice (some ⟨d.gt,0,none⟩) d.n d.n):=a.drew.cell 6 _ rfl;clear a b c;(have bf:(midU s dl k).ts k=s.ts k:=by unfold midU xd;simp);obtain ⟨ua,ub,uc,ud,ue,uf,e0,e1,U,aN,aO⟩:=x.out.drew.ts.cells P;rw[bf] at e0 aN aO;clear bf;have bZ:=x.out.drew.ts.lt;have cB:=aN.sm1 (HS.out.ts k P);have cC:=aO.sm2 (HS.out.ts k P);have bb:=hid aN;have bc:=hid aO;clear aN aO;have bQ:=r.out.drew.cell 0 _ rfl;have bR:=r.out.drew.cell 1 _ rfl;have bS:=r.out.drew.cell 2 _ rfl;have cA:=r.out.lt
      go_cut[31,5,3] (fun y0 y1 y2 wx=>.int .i64 (k:Nat)=y0/\.int .i64 (k:Nat)=y1/\.pointer (some ⟨w2.heap.size,0,none⟩)=y2/\Hid (FS w0 d wx ⟨s.lev+dl,s.rt,upd (xd s dl k) k (s.ts k+s.rt k*dl),midLv s dl k⟩)/\Hid (Bx wx w2.heap.size #[.bool (negB dl),.slice X tb Y,.slice Z te tf] 118)/\Hid (Row wx X tb Y (zA dl.num.natAbs))/\Hid (Row wx Z te tf (zA dl.den)))
      case first=>go_region_with (first | (go_at_call 95;refine (jDA ua ud pa pd ub uc ue uf pb pc pe pf (s.ts k) (s.rt k*dl) V5.drew bb.out bc.out E.out.drew F.out.drew (by omega) (by omega) (by omega) (by omega)).mono ?_;rintro e7 w7 ⟨v7,rfl,⟨na,nb,nc,nd,ne,nf,rfl,aW,aX⟩,q⟩;have FT:=(x.out.drew.below q).ts;obtain ⟨x0,bF⟩:=FT.has (j:=k*3) (by omega);obtain ⟨x1,bG⟩:=FT.has (j:=k*3+1) (by omega);obtain ⟨x2,bH⟩:=FT.has (j:=k*3+2) (by omega);have z0:=FT.frozen (k*3);have z1:=FT.frozen (k*3+1);have z2:=FT.frozen (k*3+2);have bp:=FT.lt;have b4:=(q.cell (p:=⟨d.sb,6,none⟩) a4).trans e6;clear FT));(all_goals (go_wp2_with fail;go_meet));all_goals (obtain ⟨bU,bl⟩:=(x.out.drew.below q).ts.blk;exact ⟨rfl,rfl,rfl,(x.out.drew.below q).putTs aT P (s.ts k+s.rt k*dl) aW aX,Bx.putA_other (T.out.drew.keep q) _ _ _ (by omega),(M.out.drew.below q).putA bl (by decide),(O.out.drew.below q).putA bl (by decide)⟩)
      case rest=>
       obtain ⟨rfl,rfl,rfl,ax,ay,az,aA⟩:=hcut;clear e6 e0 e1 U bQ bR bS bb bc a5 x T aH r M O ah ak E F au;go_wp2_with fail;obtain ⟨V6,hV⟩:∃ V6,V6=wc:=⟨_,rfl⟩;rw[<- hV] at ax ay az aA ⊢;clear hV;obtain ⟨bI,bJ,bK,bL,bM,bN,a,b,c⟩:=ax.out.box;have bP:=a.lt;have b8:V6.cell? ⟨d.sb,7,none⟩=some (.slice (some ⟨d.gl,0,none⟩) d.n d.n):=a.cell 7 _ rfl;have b5:V6.cell? ⟨d.sb,2,none⟩=some (.bool (negB (s.lev+dl))):=a.cell 2 _ rfl;have b6:V6.cell? ⟨d.sb,3,none⟩=some (.slice bI bJ bK):=a.cell 3 _ rfl;have b7:V6.cell? ⟨d.sb,4,none⟩=some (.slice bL bM bN):=a.cell 4 _ rfl;have FL:=ax.out.lv;obtain ⟨x0,bF⟩:=FL.has (j:=k*3) (by omega);obtain ⟨x1,bG⟩:=FL.has (j:=k*3+1) (by omega);obtain ⟨x2,bH⟩:=FL.has (j:=k*3+2) (by omega);have z0:=FL.frozen (k*3);have z1:=FL.frozen (k*3+1);have z2:=FL.frozen (k*3+2);have bp:=FL.lt;clear FL a;have a9:=hid b;have ba:=hid c;clear b c;go_region;go_wp2;go_roundg (d.n - (k+1));case measure=>omega
       case rel=>
        obtain ⟨bV,bm⟩:=ax.out.drew.lv.blk;have h5:=ax.out.drew.putLv aT P (s.lev+dl) a9.out.drew ba.out.drew;refine ⟨k+1,rfl,by omega,by go_num,h5.congr rfl (fun j hj=>rfl) (fun j hj=>?_) (fun j hj=>?_),Bx.putA_other ay.out.drew _ _ _ (by omega),az.out.drew.putA bm (by decide),aA.out.drew.putA bm (by decide)⟩
        ·show upd (xd s dl k) k (s.ts k+s.rt k*dl) j=xd s dl (k+1) j;by_cases e:j=k
         ·subst e;rw[jB3];unfold xd;rw[if_pos (by omega),upTs,if_neg HZ.out]
         ·rw[jBh _ _ e];unfold xd;by_cases U:j<k
          ·rw[if_pos U,if_pos (by omega)]
          ·rw[if_neg U,if_neg (by omega)]
        ·show upd (midLv s dl k) k (s.lev+dl) j=midLv s dl (k+1) j;by_cases e:j=k
         ·subst e;rw[jB3];unfold midLv;rw[if_pos (by omega),upLv,if_neg HZ.out]
         ·rw[jBh _ _ e];unfold midLv;by_cases U:j<k
          ·rw[if_pos U,if_pos (by omega)]
          ·rw[if_neg U,if_neg (by omega)]
    ·(obtain rfl:k=d.n:=by omega);have bs:Hid (FS w0 d wr (upS s dl)):=hF.out.congr rfl (fun i hi=>rfl) (fun i hi=>by show xd s dl d.n i=upTs s dl i;unfold xd;rw[if_pos hi]) (fun i hi=>by show midLv s dl d.n i=upLv s dl i;unfold midLv;rw[if_pos hi])
     have bt:Hid (∀ i,i<d.n->Sm ((upS s dl).ts i) 498):=fun i hi=>by
      show Sm (upTs s dl i) 498;unfold upTs;split
      ·exact (HS.out.ts i hi).mono (by omega)
      ·exact (HS.out.ts i hi).add ((HS.out.rt i hi).mul aE.out)
     (have bk:5+d.n*(498+3)<=10000:=by have:=Nat.mul_le_mul_right 501 bE;omega);go_wp2_with fail;refine (jLh w0 d (upS s dl) 498 _ bs.out HO.out bt.out bk).mono ?_;rintro e8 w8 ⟨rfl,aQ⟩;have a6:=hid aQ;clear aQ;go_wp2;go_end0;exact ⟨rfl,by unfold riseF;rw[if_neg (by rw[hln.out];exact h0),hln.out,bq.out];exact a6.out⟩
end Go.Proofs.YtigokanoflkinabGreatDoor
