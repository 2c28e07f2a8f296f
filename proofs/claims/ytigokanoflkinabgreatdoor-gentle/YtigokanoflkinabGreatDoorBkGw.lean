/- portionkeep: gone, giveWay. (Laid by mkbkgw.py.) -/
import Derived.Test.YtigokanoflkinabGreatDoorBkGG
import Derived.Test.YtigokanoflkinabGreatDoorBkTv
set_option maxHeartbeats 32000000
set_option maxRecDepth 20000
namespace Go.Proofs.YtigokanoflkinabGreatDoor
set_option linter.unusedSimpArgs false
set_option linter.unusedVariables false
open Go.RowKit Por
theorem jJb (sb:Nat)(F:Flt)(o:OpV)(da:Option Addr)(dn dc u:Nat)(w:World)(htv:TV w sb F)(hu:u<7):Calls Tryz.prog 62 #[(.agg #[.int .i64 o.kind,.int .i64 o.a,.int .i64 o.b,.int .i64 o.c,.slice da dn dc,.bool o.oth]),.pointer (some ⟨sb,0,none⟩),.int .i64 u] w fun e w'=>e = .returned (.int .i64 (yh F o u))/\Below w.heap.size w w':=by
 obtain ⟨E,B,H,I,R,oth⟩:=o;obtain ⟨ro,rc,wo,wc,so,sc,oo,oc,uo,uc,jo,jc,eo,en,ec,el,htv⟩:=htv;have M:=hid htv;clear htv;dsimp only;have y:=hid (brw w);have C:=hid (jAC w #[.int .i64 E,.int .i64 B,.int .i64 H,.int .i64 I,.slice da dn dc,.bool oth] 30);have A:Hid (Below w.heap.size w (w.alloc (.cells #[.int .i64 E,.int .i64 B,.int .i64 H,.int .i64 I,.slice da dn dc,.bool oth] 30))):=y.out.alloc y.out.size (.cells #[.int .i64 E,.int .i64 B,.int .i64 H,.int .i64 I,.slice da dn dc,.bool oth] 30);have Y:w.heap.size<=w.heap.size:=y.out.size;clear y;go_enter Tryz.func62,Tryz.ntmps62;(go_upto_region 1 with fail);obtain ⟨V,hV⟩:∃ V,V=(w.alloc (.cells #[.int .i64 E,.int .i64 B,.int .i64 H,.int .i64 I,.slice da dn dc,.bool oth] 30)):=⟨_,rfl⟩;rw[<- hV] at C A ⊢;clear hV;obtain ⟨Z,K⟩:∃ Z,Z=w.heap.size:=⟨_,rfl⟩;(have i:Hid (Bx V Z #[.int .i64 E,.int .i64 B,.int .i64 H,.int .i64 I,.slice da dn dc,.bool oth] 30):=by rw[K];exact C);rw[<- K];have n:=hid (M.out.below A.out);have s:=A;clear M K Y C A;(have ab:(u:Int)<7:=by omega);by_cases S:E=2
 ·subst S;by_cases h0:B<0
  ·have t:=i.out.cell 0 _ rfl;have v:=i.out.cell 1 _ rfl;have q:=i.out.lt;have x:=n.out.box.cell 0 _ rfl;have r:=n.out.box.lt;have d0:decide ((0:Int)<=B)=false:=decide_eq_false (by omega);(have G:Hid (yh F ⟨2,B,H,I,R,oth⟩ u=0):=by unfold Hid yh;rw[if_neg (fun h=>by have h1:(0:Int)<=B:=h.2.1;omega),if_neg (fun h=>by have:=h.1;revert this;show (2:Int)=8->False;omega)]);go_quiet (fail);have f:=below_drewN (brw V) nq;have l:=hid (i.out.keep f);have k:=hid (n.out.below f);have j:Hid (Below w.heap.size w (V.drewN nq)):=s.out.trans (f.mono s.out.size);clear i n s t v x q r f;obtain ⟨V,p⟩:∃ U,U=V.drewN nq:=⟨_,rfl⟩;rw[<- p] at l k j ⊢;clear p;have i:=l;have n:=k;have s:=j;clear l k j;have t:=i.out.cell 0 _ rfl;have v:=i.out.cell 1 _ rfl;have q:=i.out.lt;have x:=n.out.box.cell 0 _ rfl;have r:=n.out.box.lt;go_wp2;go_ret;exact ⟨by rw[G.out];(first | done | rfl),s.out⟩
  ·obtain ⟨m,rfl⟩:∃ m:Nat,B=(m:Int):=⟨B.toNat,by omega⟩;have d0:decide ((0:Int)<=(m:Int))=true:=decide_eq_true (by omega);by_cases h9:m<9
   ·have t:=i.out.cell 0 _ rfl;have v:=i.out.cell 1 _ rfl;have q:=i.out.lt;have x:=n.out.box.cell 0 _ rfl;have r:=n.out.box.lt;obtain ⟨g,z,d,e,c,rfl,Q,N,P,L⟩:=n.out.run u hu;(have D:(m:Int)<9:=by omega);have d9:decide ((m:Int)<9)=true:=decide_eq_true D;(have G:Hid (yh F ⟨2,(m:Int),H,I,R,oth⟩ u=yL F u m):=by unfold Hid yh;rw[if_pos ⟨rfl,by show (0:Int)<=(m:Int);omega,D⟩]);go_quiet (fail);have f:=below_drewN (brw V) nq;have l:=hid (i.out.keep f);have k:=hid (n.out.below f);have j:Hid (Below w.heap.size w (V.drewN nq)):=s.out.trans (f.mono s.out.size);clear i n s t v x q r f;obtain ⟨V,p⟩:∃ U,U=V.drewN nq:=⟨_,rfl⟩;rw[<- p] at l k j ⊢;clear p;have i:=l;have n:=k;have s:=j;clear l k j;have t:=i.out.cell 0 _ rfl;have v:=i.out.cell 1 _ rfl;have q:=i.out.lt;have x:=n.out.box.cell 0 _ rfl;have r:=n.out.box.lt;clear Q N P L;obtain ⟨g2,z2,d2,e2,c2,J,Q,N,P,L⟩:=n.out.run u hu;(injection J with J);(injection J with W X);subst W;subst X;have cm:=L m h9;clear L;(go_upto_region 2 with fail);go_quiet (fail);have f:=below_drewN (brw V) nq;have l:=hid (i.out.keep f);have k:=hid (n.out.below f);have j:Hid (Below w.heap.size w (V.drewN nq)):=s.out.trans (f.mono s.out.size);clear i n s t v x q r f;obtain ⟨V,p⟩:∃ U,U=V.drewN nq:=⟨_,rfl⟩;rw[<- p] at l k j ⊢;clear p;have i:=l;have n:=k;have s:=j;clear l k j;clear Q N P cm;go_wp2;go_ret;exact ⟨by rw[G.out];(first | done | rfl),s.out⟩
   ·have t:=i.out.cell 0 _ rfl;have v:=i.out.cell 1 _ rfl;have q:=i.out.lt;have x:=n.out.box.cell 0 _ rfl;have r:=n.out.box.lt;obtain ⟨g,z,d,e,c,rfl,Q,N,P,L⟩:=n.out.run u hu;clear L P;(have D:¬ (m:Int)<9:=by omega);have d9:decide ((m:Int)<9)=false:=decide_eq_false D;(have G:Hid (yh F ⟨2,(m:Int),H,I,R,oth⟩ u=0):=by unfold Hid yh;rw[if_neg (fun h=>D h.2.2),if_neg (fun h=>by have:=h.1;revert this;show (2:Int)=8->False;omega)]);go_quiet (fail);have f:=below_drewN (brw V) nq;have l:=hid (i.out.keep f);have k:=hid (n.out.below f);have j:Hid (Below w.heap.size w (V.drewN nq)):=s.out.trans (f.mono s.out.size);clear i n s t v x q r f;obtain ⟨V,p⟩:∃ U,U=V.drewN nq:=⟨_,rfl⟩;rw[<- p] at l k j ⊢;clear p;have i:=l;have n:=k;have s:=j;clear l k j;clear Q N;have t:=i.out.cell 0 _ rfl;have v:=i.out.cell 1 _ rfl;have q:=i.out.lt;have x:=n.out.box.cell 0 _ rfl;have r:=n.out.box.lt;go_wp2;go_ret;exact ⟨by rw[G.out];(first | done | rfl),s.out⟩
 ·(have g2:(E == 2)=false:=by rw[beq_eq_false_iff_ne];exact S);by_cases T:E=8/\B=(u:Int)
  ·obtain ⟨rfl,rfl⟩:=T;have t:=i.out.cell 0 _ rfl;have v:=i.out.cell 1 _ rfl;have q:=i.out.lt;have x:=n.out.box.cell 0 _ rfl;have r:=n.out.box.lt;(have G:Hid (yh F ⟨8,(u:Int),H,I,R,oth⟩ u=1):=by unfold Hid yh;rw[if_neg (fun h=>S h.1),if_pos ⟨rfl,rfl⟩]);go_quiet (fail);have f:=below_drewN (brw V) nq;have l:=hid (i.out.keep f);have k:=hid (n.out.below f);have j:Hid (Below w.heap.size w (V.drewN nq)):=s.out.trans (f.mono s.out.size);clear i n s t v x q r f;obtain ⟨V,p⟩:∃ U,U=V.drewN nq:=⟨_,rfl⟩;rw[<- p] at l k j ⊢;clear p;have i:=l;have n:=k;have s:=j;clear l k j;have t:=i.out.cell 0 _ rfl;have v:=i.out.cell 1 _ rfl;have q:=i.out.lt;have x:=n.out.box.cell 0 _ rfl;have r:=n.out.box.lt;go_wp2;go_ret;exact ⟨by rw[G.out];(first | done | rfl),s.out⟩
  ·(have G:Hid (yh F ⟨E,B,H,I,R,oth⟩ u=0):=by unfold Hid yh;rw[if_neg (fun h=>S h.1),if_neg T]);by_cases O:E=8
   ·subst O;(have aa:(B == (u:Int))=false:=by rw[beq_eq_false_iff_ne];exact fun e=>T ⟨rfl,e⟩);have t:=i.out.cell 0 _ rfl;have v:=i.out.cell 1 _ rfl;have q:=i.out.lt;have x:=n.out.box.cell 0 _ rfl;have r:=n.out.box.lt;go_quiet (fail);have f:=below_drewN (brw V) nq;have l:=hid (i.out.keep f);have k:=hid (n.out.below f);have j:Hid (Below w.heap.size w (V.drewN nq)):=s.out.trans (f.mono s.out.size);clear i n s t v x q r f;obtain ⟨V,p⟩:∃ U,U=V.drewN nq:=⟨_,rfl⟩;rw[<- p] at l k j ⊢;clear p;have i:=l;have n:=k;have s:=j;clear l k j;have t:=i.out.cell 0 _ rfl;have v:=i.out.cell 1 _ rfl;have q:=i.out.lt;have x:=n.out.box.cell 0 _ rfl;have r:=n.out.box.lt;go_wp2;go_ret;exact ⟨by rw[G.out];(first | done | rfl),s.out⟩
   ·(have g8:(E == 8)=false:=by rw[beq_eq_false_iff_ne];exact O);have t:=i.out.cell 0 _ rfl;have v:=i.out.cell 1 _ rfl;have q:=i.out.lt;have x:=n.out.box.cell 0 _ rfl;have r:=n.out.box.lt;go_quiet (fail);have f:=below_drewN (brw V) nq;have l:=hid (i.out.keep f);have k:=hid (n.out.below f);have j:Hid (Below w.heap.size w (V.drewN nq)):=s.out.trans (f.mono s.out.size);clear i n s t v x q r f;obtain ⟨V,p⟩:∃ U,U=V.drewN nq:=⟨_,rfl⟩;rw[<- p] at l k j ⊢;clear p;have i:=l;have n:=k;have s:=j;clear l k j;have t:=i.out.cell 0 _ rfl;have v:=i.out.cell 1 _ rfl;have q:=i.out.lt;have x:=n.out.box.cell 0 _ rfl;have r:=n.out.box.lt;go_wp2;go_ret;exact ⟨by rw[G.out];(first | done | rfl),s.out⟩
def xg (F G:Flt):Nat->Bool
  | 0=>false
  | k+1=>xg F G k || (G.ut k && decide (yW F k<G.m.rev k))
noncomputable def xY (F:Flt)(o:OpV)(G:Flt):Nat->Bool
  | 0=>false
  | k+1=>xY F o G k || (G.ut k && (decide (hadV F o k<zG G (zB G 8) k) && decide (hadV F o k<runs G.m k)))
theorem jKG {F G:Flt}:∀ {k:Nat},xg F G k=true->∃ u,u<k/\G.ut u=true/\yW F u<G.m.rev u:=by
 intro k
 induction k with
 | zero=>intro h;cases h
 | succ k ih=>
  intro h;simp only[xg,Bool.or_eq_true,Bool.and_eq_true,decide_eq_true_eq] at h;rcases h with h | h
  ·obtain ⟨u,b,a⟩:=ih h;exact ⟨u,by omega,a⟩
  ·exact ⟨k,by omega,h⟩
theorem jLL {F:Flt}{o:OpV}{G:Flt}:∀ {k v:Nat},v<k->G.ut v=true->hadV F o v<zG G (zB G 8) v->hadV F o v<runs G.m v->xY F o G k=true:=by
 intro k
 induction k with
 | zero=>intro v h;omega
 | succ k ih=>
  intro v d a b c;simp only[xY,Bool.or_eq_true,Bool.and_eq_true,decide_eq_true_eq];by_cases e:v=k
  ·subst e;exact .inr ⟨a,b,c⟩
  ·exact .inl (ih (by omega) a b c)
theorem run_rng {R:Int}{F:Flt}(h:FWf R F){u:Nat}(m:Nat):0<=yL F u m/\yL F u m<=40:=by
 unfold yL
 cases e:zJ F (u:Int) && zi F (m:Int) with
 | false=>rw[if_neg (by simp)];omega
 | true=>rw[if_pos rfl];rw[Bool.and_eq_true] at e;obtain ⟨j,c,d,_⟩:=jBC e.1;obtain ⟨i,f,g,_⟩:=jC5 e.2;have a:(u:Int).toNat=u:=rfl;have b:(m:Int).toNat=m:=rfl;rw[a,b];exact h.on40 (by omega) (by omega)
theorem jHw {R:Int}{F:Flt}(h:FWf R F){u:Nat}:∀ k,0<=Por.sumI (fun m=>yL F u m) k/\Por.sumI (fun m=>yL F u m) k<=40*(k:Int):=by
 intro k
 induction k with
 | zero=>exact ⟨Int.le_refl _,Int.le_refl _⟩
 | succ k ih=>have:=run_rng h (u:=u) k;show 0<=Por.sumI (fun m=>yL F u m) k+yL F u k/\Por.sumI (fun m=>yL F u m) k+yL F u k<=_;omega
theorem jLc {R:Int}{F:Flt}(h:FWf R F)(o:OpV)(u:Nat):0<=yh F o u/\yh F o u<=40:=by
 unfold yh;split
 ·rename_i b;obtain ⟨m,e⟩:∃ m:Nat,o.a=(m:Int):=⟨o.a.toNat,by omega⟩;rw[e];exact run_rng h m
 ·split <;> omega
theorem jKc (b fb sb:Nat)(R R':Int)(F G:Flt)(sp:List Int)(o:OpV)(da:Option Addr)(dn dc:Nat)(w:World)(hv:VW w b fb G sp)(hw:FWf R G)(hwF:FWf R' F)(hq:Rest G)(htb:Tab w)(htv:TV w sb F)(hgb:GentB F o G):Calls Tryz.prog 29 #[.pointer (some ⟨b,0,none⟩),.agg #[.int .i64 o.kind,.int .i64 o.a,.int .i64 o.b,.int .i64 o.c,.slice da dn dc,.bool o.oth],.pointer (some ⟨sb,0,none⟩)] w fun e w'=>e = .returned (.bool true)/\Below w.heap.size w w':=by
 obtain ⟨L,I,J,K,P,oth⟩:=o;obtain ⟨a1,a0,a3,a2,aU,aP,ay,aV,aZ,aY,hv⟩:=hv;obtain ⟨ro,rc,wo,wc,so,sc,oo,oc,uo,uc,jo,jc,eo,en,ec,el,htv⟩:=htv;have an:=hid hv;have am:=hid htv;have HW:=hid hw;have aa:=hid hwF;have HQ:=hid hq;have ad:=hid htb;have Q:=hid hgb;have aD:Hid (G.ug<=6):=hw.ug;clear hv htv hw hwF hq htb hgb;dsimp only;have N:=hid (brw w);have U:=hid (jAC w #[.int .i64 L,.int .i64 I,.int .i64 J,.int .i64 K,.slice da dn dc,.bool oth] 30);have D:Hid (Below w.heap.size w (w.alloc (.cells #[.int .i64 L,.int .i64 I,.int .i64 J,.int .i64 K,.slice da dn dc,.bool oth] 30))):=N.out.alloc N.out.size (.cells #[.int .i64 L,.int .i64 I,.int .i64 J,.int .i64 K,.slice da dn dc,.bool oth] 30);have aM:w.heap.size<=w.heap.size:=N.out.size;clear N;go_enter Tryz.func29,Tryz.ntmps29;(go_upto_region 1 with fail);obtain ⟨V,hV⟩:∃ V,V=(w.alloc (.cells #[.int .i64 L,.int .i64 I,.int .i64 J,.int .i64 K,.slice da dn dc,.bool oth] 30)):=⟨_,rfl⟩;rw[<- hV] at U D ⊢;clear hV;obtain ⟨ob,aj⟩:∃ ob,ob=w.heap.size:=⟨_,rfl⟩;(have XO:Hid (Bx V ob #[.int .i64 L,.int .i64 I,.int .i64 J,.int .i64 K,.slice da dn dc,.bool oth] 30):=by rw[aj];exact U);rw[<- aj];have HV:=hid (an.out.below D.out);have HT:=hid (am.out.below D.out);have aC:=hid (ad.out.below D.out);have HB:=D;clear an am ad aj aM U D;have lV:=HV.out.box.lt;go_wp2
 go_loopg[7,8,9] G.ug (fun gg s7 s8 ix wr=>∃ k:Nat,gg=G.ug - k/\k<=G.ug/\ix = .int .i64 k/\s7 = .bool (xg F G k)/\s8 = .bool (xY F ⟨L,I,J,K,P,oth⟩ G k)/\Hid (Below V.heap.size V wr))
 case atStart=>exact ⟨0,rfl,Nat.zero_le _,rfl,rfl,rfl,Below.refl _ _⟩
 case round=>
  obtain ⟨k,aR,hk,rfl,rfl,rfl,XB⟩:=hrel;have aH:=aD.out;have T:=hid (HV.out.below XB.out);have aJ:=T.out.box.lt;have c3:=T.out.box.cell 3 _ rfl;have c4:=T.out.box.cell 4 _ rfl;by_cases aF:k<G.ug
  ·(have au:(k:Int)<(G.ug:Int):=by omega);obtain ⟨g1,o1,rfl,aQ,c5⟩:=T.out.here k aF
   cases ht:G.ut k with
   | false=>rw[ht] at c5;(have t:Hid (xg F G (k+1)=xg F G k):=by unfold Hid;simp only[xg];rw[ht];simp);(have d:Hid (xY F ⟨L,I,J,K,P,oth⟩ G (k+1)=xY F ⟨L,I,J,K,P,oth⟩ G k):=by unfold Hid;simp only[xY];rw[ht];simp);go_wp2;go_roundg (G.ug - (k+1));(case measure=>omega);case rel=>exact ⟨k+1,rfl,by omega,by go_num,by rw[t.out],by rw[d.out],XB.out⟩
   | true=>
    rw[ht] at c5;have E:=hid ht;go_wp2;clear c3 c4 c5
    go_loopg[10,11] 9 (fun gg s10 ix wq=>∃ m:Nat,gg=9 - m/\m<=9/\ix = .int .i64 m/\s10 = .int .i64 (Por.sumI (fun m=>yL F k m) m)/\wq=wr)
    case atStart=>exact ⟨0,rfl,Nat.zero_le _,rfl,rfl,rfl⟩
    case round=>
     obtain ⟨m,aS,hm,rfl,rfl,aI⟩:=hrel;subst aI;have S:=hid (HT.out.below XB.out);have aO:=S.out.box.lt;have s0:=S.out.box.cell 0 _ rfl;obtain ⟨g2,o2,d2,e2,c2,rfl,aN,aE,aL,ai⟩:=S.out.run k (by omega);by_cases aG:m<9
     ·(have aT:(m:Int)<9:=by omega);have cm:=ai m aG;clear ai;have p1:=jHw aa.out (u:=k) m;have p2:=run_rng aa.out (u:=k) m;(have aw:(k:Int)<7:=by omega);go_wp2;go_roundg (9 - (m+1));(case measure=>omega);case rel=>exact ⟨m+1,rfl,by omega,by go_num,rfl,rfl⟩
     ·(obtain rfl:m=9:=by omega);clear ai;(have aw:(k:Int)<7:=by omega);have p1:=jHw aa.out (u:=k) 9;have p2:=jLc aa.out ⟨L,I,J,K,P,oth⟩ k;have H:=hid (XO.out.keep XB.out);have k0:=H.out.cell 0 _ rfl;have k1:=H.out.cell 1 _ rfl;have k2:=H.out.cell 2 _ rfl;have k3:=H.out.cell 3 _ rfl;have k4:=H.out.cell 4 _ rfl;have k5:=H.out.cell 5 _ rfl;have ay:=H.out.lt;go_wp2_with fail;refine (jJb sb F ⟨L,I,J,K,P,oth⟩ da dn dc k _ (show TV wr sb F from ⟨_,_,_,_,_,_,_,_,_,_,_,_,_,_,_,_,S.out⟩) (by omega)).mono ?_;rintro e3 w3 ⟨rfl,aq⟩;obtain ⟨h,hh⟩:∃ h,hadV F ⟨L,I,J,K,P,oth⟩ k=h:=⟨_,rfl⟩;have HH:=hid hh;have aA:Hid (Por.sumI (fun m=>yL F k m) 9 - yh F ⟨L,I,J,K,P,oth⟩ k=h):=hh;have O:Hid (Below V.heap.size V w3):=XB.out.trans (aq.mono XB.out.size);have ag:=hid (HV.out.below O.out);have aB:=hid (HT.out.below O.out);have ae:=hid (aC.out.below O.out);clear hh aq k0 k1 k2 k3 k4 k5 ay H T S s0 aO aN aE aL aJ;go_wp2_with fail;rw[aA.out];refine (jCJ b fb R G sp k _ ag.out.vw HW.out (by omega) E.out).mono ?_;rintro e4 w4 ⟨rfl,ak⟩;obtain rfl:=ak.symm;go_wp2_with fail;refine (jE3 b fb R G sp k _ ag.out.vw HW.out HQ.out ae.out (by omega) E.out).mono ?_;rintro e5 w5 ⟨rfl,ar⟩;have l:Hid (Below V.heap.size V w5):=O.out.trans (ar.mono O.out.size);have ah:=hid (HV.out.below l.out);have af:=hid (HT.out.below l.out);clear ar ag aB ae XB O;have c0:=ah.out.box.cell 0 _ rfl;have aK:=ah.out.box.lt;(have az:Hid (xG (zX G (k:Int)) (.int .i64 (G.m.rev (k:Int).toNat)) (.int .i64 0) = .tuple #[.int .i64 (G.m.rev k),.int .i64 0]):=by unfold Hid zX;rw[decide_eq_true (show (0:Int)<=(k:Int) by omega),decide_eq_true au];rfl);go_wp2_with fail;refine (Revoked_any fb G (k:Int) _ ah.out.fl aH).mono ?_;rintro e6 w6 ⟨he,ak⟩;obtain rfl:=ak.symm;rw[az.out] at he;subst he;clear c0 aK;(have ab:k<6:=by omega);have q1:=Q.out.rev k ab E.out;have q2:=Q.out.low k ab E.out;have q3:=Q.out.way k ab E.out;have q4:=Q.out.kept k ab E.out;rw[HH.out] at q2 q4;obtain ⟨n,hn⟩:∃ n,runs G.m k=n:=⟨_,rfl⟩;obtain ⟨g,hg⟩:∃ g,zG G (zB G 8) k=g:=⟨_,rfl⟩;obtain ⟨r,hr⟩:∃ r,G.m.rev k=r:=⟨_,rfl⟩;obtain ⟨s,hs⟩:∃ s,yW F k=s:=⟨_,rfl⟩;rw[hn] at q2 q3 q4 ⊢;rw[hg] at q2 q3 ⊢;rw[hr] at q1 q3 q4 ⊢;rw[hs] at q1 q3 q4;(have t:Hid (xg F G (k+1)=(xg F G k || decide (s<r))):=by unfold Hid;simp only[xg];rw[E.out,hs,hr];simp);(have d:Hid (xY F ⟨L,I,J,K,P,oth⟩ G (k+1)=(xY F ⟨L,I,J,K,P,oth⟩ G k || (decide (h<g) && decide (h<n)))):=by unfold Hid;simp only[xY];rw[E.out,HH.out,hg,hn];simp);have s3:w5.cell? ⟨sb,3,none⟩=some (.slice oo 7 oc):=af.out.box.cell 3 _ rfl;have aX:=af.out.box.lt;obtain ⟨g6,o6,rfl,aW,ap⟩:=af.out.off k (by omega);dsimp only at ap;rw[hs] at ap;clear hn hg hr hs;have X:=hid q2;have Y:=hid q3;have Z:=hid q4;clear q2 q3 q4;(have x0:¬ r<s:=by omega);have a4:decide (r<s)=false:=decide_eq_false x0
      cases p:xg F G k with
      | true=>
       cases q:xY F ⟨L,I,J,K,P,oth⟩ G k with
       | true=>
        by_cases W:n<h
        ·have M:decide (n<h)=true:=decide_eq_true W;by_cases C:n<g
         ·have z:decide (n<g)=true:=decide_eq_true C;exfalso;have:=X.out;omega
         ·have z:decide (n<g)=false:=decide_eq_false C;by_cases A:s<r
          ·have j:decide (s<r)=true:=decide_eq_true A;(have B:(r == s)=false:=by rw[beq_eq_false_iff_ne];omega);by_cases y:h<g
           ·have i:decide (h<g)=true:=decide_eq_true y;by_cases x:h<n
            ·exfalso;omega
            ·exfalso;omega
           ·have i:decide (h<g)=false:=decide_eq_false y;by_cases x:h<n
            ·exfalso;omega
            ·have f:decide (h<n)=false:=decide_eq_false x;rw[j,p] at t;rw[i,f,q] at d;go_wp2;go_roundg (G.ug - (k+1));(case measure=>omega);case rel=>exact ⟨k+1,rfl,by omega,by go_num,by rw[t.out];rfl,by rw[d.out];rfl,l.out⟩
          ·exfalso;have:=Z.out (by omega);omega
        ·have M:decide (n<h)=false:=decide_eq_false W;by_cases C:n<g
         ·have z:decide (n<g)=true:=decide_eq_true C;by_cases A:s<r
          ·exfalso;have:=Y.out A;omega
          ·have j:decide (s<r)=false:=decide_eq_false A;(have B:(r == s)=true:=by rw[beq_iff_eq];omega);by_cases y:h<g
           ·have i:decide (h<g)=true:=decide_eq_true y;by_cases x:h<n
            ·have f:decide (h<n)=true:=decide_eq_true x;rw[j,p] at t;rw[i,f,q] at d;go_wp2;go_roundg (G.ug - (k+1));(case measure=>omega);case rel=>exact ⟨k+1,rfl,by omega,by go_num,by rw[t.out];rfl,by rw[d.out];rfl,l.out⟩
            ·have f:decide (h<n)=false:=decide_eq_false x;rw[j,p] at t;rw[i,f,q] at d;go_wp2;go_roundg (G.ug - (k+1));(case measure=>omega);case rel=>exact ⟨k+1,rfl,by omega,by go_num,by rw[t.out];rfl,by rw[d.out];rfl,l.out⟩
           ·have i:decide (h<g)=false:=decide_eq_false y;by_cases x:h<n
            ·exfalso;omega
            ·exfalso;omega
         ·have z:decide (n<g)=false:=decide_eq_false C;by_cases A:s<r
          ·have j:decide (s<r)=true:=decide_eq_true A;(have B:(r == s)=false:=by rw[beq_eq_false_iff_ne];omega);by_cases y:h<g
           ·have i:decide (h<g)=true:=decide_eq_true y;by_cases x:h<n
            ·have f:decide (h<n)=true:=decide_eq_true x;rw[j,p] at t;rw[i,f,q] at d;go_wp2;go_roundg (G.ug - (k+1));(case measure=>omega);case rel=>exact ⟨k+1,rfl,by omega,by go_num,by rw[t.out];rfl,by rw[d.out];rfl,l.out⟩
            ·exfalso;omega
           ·have i:decide (h<g)=false:=decide_eq_false y;by_cases x:h<n
            ·have f:decide (h<n)=true:=decide_eq_true x;rw[j,p] at t;rw[i,f,q] at d;go_wp2;go_roundg (G.ug - (k+1));(case measure=>omega);case rel=>exact ⟨k+1,rfl,by omega,by go_num,by rw[t.out];rfl,by rw[d.out];rfl,l.out⟩
            ·have f:decide (h<n)=false:=decide_eq_false x;rw[j,p] at t;rw[i,f,q] at d;go_wp2;go_roundg (G.ug - (k+1));(case measure=>omega);case rel=>exact ⟨k+1,rfl,by omega,by go_num,by rw[t.out];rfl,by rw[d.out];rfl,l.out⟩
          ·have j:decide (s<r)=false:=decide_eq_false A;(have B:(r == s)=true:=by rw[beq_iff_eq];omega);by_cases y:h<g
           ·have i:decide (h<g)=true:=decide_eq_true y;by_cases x:h<n
            ·have f:decide (h<n)=true:=decide_eq_true x;rw[j,p] at t;rw[i,f,q] at d;go_wp2;go_roundg (G.ug - (k+1));(case measure=>omega);case rel=>exact ⟨k+1,rfl,by omega,by go_num,by rw[t.out];rfl,by rw[d.out];rfl,l.out⟩
            ·exfalso;omega
           ·have i:decide (h<g)=false:=decide_eq_false y;by_cases x:h<n
            ·have f:decide (h<n)=true:=decide_eq_true x;rw[j,p] at t;rw[i,f,q] at d;go_wp2;go_roundg (G.ug - (k+1));(case measure=>omega);case rel=>exact ⟨k+1,rfl,by omega,by go_num,by rw[t.out];rfl,by rw[d.out];rfl,l.out⟩
            ·have f:decide (h<n)=false:=decide_eq_false x;rw[j,p] at t;rw[i,f,q] at d;go_wp2;go_roundg (G.ug - (k+1));(case measure=>omega);case rel=>exact ⟨k+1,rfl,by omega,by go_num,by rw[t.out];rfl,by rw[d.out];rfl,l.out⟩
       | false=>
        by_cases W:n<h
        ·have M:decide (n<h)=true:=decide_eq_true W;by_cases C:n<g
         ·have z:decide (n<g)=true:=decide_eq_true C;exfalso;have:=X.out;omega
         ·have z:decide (n<g)=false:=decide_eq_false C;by_cases A:s<r
          ·have j:decide (s<r)=true:=decide_eq_true A;(have B:(r == s)=false:=by rw[beq_eq_false_iff_ne];omega);by_cases y:h<g
           ·have i:decide (h<g)=true:=decide_eq_true y;by_cases x:h<n
            ·exfalso;omega
            ·exfalso;omega
           ·have i:decide (h<g)=false:=decide_eq_false y;by_cases x:h<n
            ·exfalso;omega
            ·have f:decide (h<n)=false:=decide_eq_false x;rw[j,p] at t;rw[i,f,q] at d;go_wp2;go_roundg (G.ug - (k+1));(case measure=>omega);case rel=>exact ⟨k+1,rfl,by omega,by go_num,by rw[t.out];rfl,by rw[d.out];rfl,l.out⟩
          ·exfalso;have:=Z.out (by omega);omega
        ·have M:decide (n<h)=false:=decide_eq_false W;by_cases C:n<g
         ·have z:decide (n<g)=true:=decide_eq_true C;by_cases A:s<r
          ·exfalso;have:=Y.out A;omega
          ·have j:decide (s<r)=false:=decide_eq_false A;(have B:(r == s)=true:=by rw[beq_iff_eq];omega);by_cases y:h<g
           ·have i:decide (h<g)=true:=decide_eq_true y;by_cases x:h<n
            ·have f:decide (h<n)=true:=decide_eq_true x;rw[j,p] at t;rw[i,f,q] at d;go_wp2;go_roundg (G.ug - (k+1));(case measure=>omega);case rel=>exact ⟨k+1,rfl,by omega,by go_num,by rw[t.out];rfl,by rw[d.out];rfl,l.out⟩
            ·have f:decide (h<n)=false:=decide_eq_false x;rw[j,p] at t;rw[i,f,q] at d;go_wp2;go_roundg (G.ug - (k+1));(case measure=>omega);case rel=>exact ⟨k+1,rfl,by omega,by go_num,by rw[t.out];rfl,by rw[d.out];rfl,l.out⟩
           ·have i:decide (h<g)=false:=decide_eq_false y;by_cases x:h<n
            ·exfalso;omega
            ·exfalso;omega
         ·have z:decide (n<g)=false:=decide_eq_false C;by_cases A:s<r
          ·have j:decide (s<r)=true:=decide_eq_true A;(have B:(r == s)=false:=by rw[beq_eq_false_iff_ne];omega);by_cases y:h<g
           ·have i:decide (h<g)=true:=decide_eq_true y;by_cases x:h<n
            ·have f:decide (h<n)=true:=decide_eq_true x;rw[j,p] at t;rw[i,f,q] at d;go_wp2;go_roundg (G.ug - (k+1));(case measure=>omega);case rel=>exact ⟨k+1,rfl,by omega,by go_num,by rw[t.out];rfl,by rw[d.out];rfl,l.out⟩
            ·exfalso;omega
           ·have i:decide (h<g)=false:=decide_eq_false y;by_cases x:h<n
            ·have f:decide (h<n)=true:=decide_eq_true x;rw[j,p] at t;rw[i,f,q] at d;go_wp2;go_roundg (G.ug - (k+1));(case measure=>omega);case rel=>exact ⟨k+1,rfl,by omega,by go_num,by rw[t.out];rfl,by rw[d.out];rfl,l.out⟩
            ·have f:decide (h<n)=false:=decide_eq_false x;rw[j,p] at t;rw[i,f,q] at d;go_wp2;go_roundg (G.ug - (k+1));(case measure=>omega);case rel=>exact ⟨k+1,rfl,by omega,by go_num,by rw[t.out];rfl,by rw[d.out];rfl,l.out⟩
          ·have j:decide (s<r)=false:=decide_eq_false A;(have B:(r == s)=true:=by rw[beq_iff_eq];omega);by_cases y:h<g
           ·have i:decide (h<g)=true:=decide_eq_true y;by_cases x:h<n
            ·have f:decide (h<n)=true:=decide_eq_true x;rw[j,p] at t;rw[i,f,q] at d;go_wp2;go_roundg (G.ug - (k+1));(case measure=>omega);case rel=>exact ⟨k+1,rfl,by omega,by go_num,by rw[t.out];rfl,by rw[d.out];rfl,l.out⟩
            ·exfalso;omega
           ·have i:decide (h<g)=false:=decide_eq_false y;by_cases x:h<n
            ·have f:decide (h<n)=true:=decide_eq_true x;rw[j,p] at t;rw[i,f,q] at d;go_wp2;go_roundg (G.ug - (k+1));(case measure=>omega);case rel=>exact ⟨k+1,rfl,by omega,by go_num,by rw[t.out];rfl,by rw[d.out];rfl,l.out⟩
            ·have f:decide (h<n)=false:=decide_eq_false x;rw[j,p] at t;rw[i,f,q] at d;go_wp2;go_roundg (G.ug - (k+1));(case measure=>omega);case rel=>exact ⟨k+1,rfl,by omega,by go_num,by rw[t.out];rfl,by rw[d.out];rfl,l.out⟩
      | false=>
       cases q:xY F ⟨L,I,J,K,P,oth⟩ G k with
       | true=>
        by_cases W:n<h
        ·have M:decide (n<h)=true:=decide_eq_true W;by_cases C:n<g
         ·have z:decide (n<g)=true:=decide_eq_true C;exfalso;have:=X.out;omega
         ·have z:decide (n<g)=false:=decide_eq_false C;by_cases A:s<r
          ·have j:decide (s<r)=true:=decide_eq_true A;(have B:(r == s)=false:=by rw[beq_eq_false_iff_ne];omega);by_cases y:h<g
           ·have i:decide (h<g)=true:=decide_eq_true y;by_cases x:h<n
            ·exfalso;omega
            ·exfalso;omega
           ·have i:decide (h<g)=false:=decide_eq_false y;by_cases x:h<n
            ·exfalso;omega
            ·have f:decide (h<n)=false:=decide_eq_false x;rw[j,p] at t;rw[i,f,q] at d;go_wp2;go_roundg (G.ug - (k+1));(case measure=>omega);case rel=>exact ⟨k+1,rfl,by omega,by go_num,by rw[t.out];rfl,by rw[d.out];rfl,l.out⟩
          ·exfalso;have:=Z.out (by omega);omega
        ·have M:decide (n<h)=false:=decide_eq_false W;by_cases C:n<g
         ·have z:decide (n<g)=true:=decide_eq_true C;by_cases A:s<r
          ·exfalso;have:=Y.out A;omega
          ·have j:decide (s<r)=false:=decide_eq_false A;(have B:(r == s)=true:=by rw[beq_iff_eq];omega);by_cases y:h<g
           ·have i:decide (h<g)=true:=decide_eq_true y;by_cases x:h<n
            ·have f:decide (h<n)=true:=decide_eq_true x;rw[j,p] at t;rw[i,f,q] at d;go_wp2;go_roundg (G.ug - (k+1));(case measure=>omega);case rel=>exact ⟨k+1,rfl,by omega,by go_num,by rw[t.out];rfl,by rw[d.out];rfl,l.out⟩
            ·have f:decide (h<n)=false:=decide_eq_false x;rw[j,p] at t;rw[i,f,q] at d;go_wp2;go_roundg (G.ug - (k+1));(case measure=>omega);case rel=>exact ⟨k+1,rfl,by omega,by go_num,by rw[t.out];rfl,by rw[d.out];rfl,l.out⟩
           ·have i:decide (h<g)=false:=decide_eq_false y;by_cases x:h<n
            ·exfalso;omega
            ·exfalso;omega
         ·have z:decide (n<g)=false:=decide_eq_false C;by_cases A:s<r
          ·have j:decide (s<r)=true:=decide_eq_true A;(have B:(r == s)=false:=by rw[beq_eq_false_iff_ne];omega);by_cases y:h<g
           ·have i:decide (h<g)=true:=decide_eq_true y;by_cases x:h<n
            ·have f:decide (h<n)=true:=decide_eq_true x;rw[j,p] at t;rw[i,f,q] at d;go_wp2;go_roundg (G.ug - (k+1));(case measure=>omega);case rel=>exact ⟨k+1,rfl,by omega,by go_num,by rw[t.out];rfl,by rw[d.out];rfl,l.out⟩
            ·exfalso;omega
           ·have i:decide (h<g)=false:=decide_eq_false y;by_cases x:h<n
            ·have f:decide (h<n)=true:=decide_eq_true x;rw[j,p] at t;rw[i,f,q] at d;go_wp2;go_roundg (G.ug - (k+1));(case measure=>omega);case rel=>exact ⟨k+1,rfl,by omega,by go_num,by rw[t.out];rfl,by rw[d.out];rfl,l.out⟩
            ·have f:decide (h<n)=false:=decide_eq_false x;rw[j,p] at t;rw[i,f,q] at d;go_wp2;go_roundg (G.ug - (k+1));(case measure=>omega);case rel=>exact ⟨k+1,rfl,by omega,by go_num,by rw[t.out];rfl,by rw[d.out];rfl,l.out⟩
          ·have j:decide (s<r)=false:=decide_eq_false A;(have B:(r == s)=true:=by rw[beq_iff_eq];omega);by_cases y:h<g
           ·have i:decide (h<g)=true:=decide_eq_true y;by_cases x:h<n
            ·have f:decide (h<n)=true:=decide_eq_true x;rw[j,p] at t;rw[i,f,q] at d;go_wp2;go_roundg (G.ug - (k+1));(case measure=>omega);case rel=>exact ⟨k+1,rfl,by omega,by go_num,by rw[t.out];rfl,by rw[d.out];rfl,l.out⟩
            ·exfalso;omega
           ·have i:decide (h<g)=false:=decide_eq_false y;by_cases x:h<n
            ·have f:decide (h<n)=true:=decide_eq_true x;rw[j,p] at t;rw[i,f,q] at d;go_wp2;go_roundg (G.ug - (k+1));(case measure=>omega);case rel=>exact ⟨k+1,rfl,by omega,by go_num,by rw[t.out];rfl,by rw[d.out];rfl,l.out⟩
            ·have f:decide (h<n)=false:=decide_eq_false x;rw[j,p] at t;rw[i,f,q] at d;go_wp2;go_roundg (G.ug - (k+1));(case measure=>omega);case rel=>exact ⟨k+1,rfl,by omega,by go_num,by rw[t.out];rfl,by rw[d.out];rfl,l.out⟩
       | false=>
        by_cases W:n<h
        ·have M:decide (n<h)=true:=decide_eq_true W;by_cases C:n<g
         ·have z:decide (n<g)=true:=decide_eq_true C;exfalso;have:=X.out;omega
         ·have z:decide (n<g)=false:=decide_eq_false C;by_cases A:s<r
          ·have j:decide (s<r)=true:=decide_eq_true A;(have B:(r == s)=false:=by rw[beq_eq_false_iff_ne];omega);by_cases y:h<g
           ·have i:decide (h<g)=true:=decide_eq_true y;by_cases x:h<n
            ·exfalso;omega
            ·exfalso;omega
           ·have i:decide (h<g)=false:=decide_eq_false y;by_cases x:h<n
            ·exfalso;omega
            ·have f:decide (h<n)=false:=decide_eq_false x;rw[j,p] at t;rw[i,f,q] at d;go_wp2;go_roundg (G.ug - (k+1));(case measure=>omega);case rel=>exact ⟨k+1,rfl,by omega,by go_num,by rw[t.out];rfl,by rw[d.out];rfl,l.out⟩
          ·exfalso;have:=Z.out (by omega);omega
        ·have M:decide (n<h)=false:=decide_eq_false W;by_cases C:n<g
         ·have z:decide (n<g)=true:=decide_eq_true C;by_cases A:s<r
          ·exfalso;have:=Y.out A;omega
          ·have j:decide (s<r)=false:=decide_eq_false A;(have B:(r == s)=true:=by rw[beq_iff_eq];omega);by_cases y:h<g
           ·have i:decide (h<g)=true:=decide_eq_true y;by_cases x:h<n
            ·have f:decide (h<n)=true:=decide_eq_true x;rw[j,p] at t;rw[i,f,q] at d;go_wp2;go_roundg (G.ug - (k+1));(case measure=>omega);case rel=>exact ⟨k+1,rfl,by omega,by go_num,by rw[t.out];rfl,by rw[d.out];rfl,l.out⟩
            ·have f:decide (h<n)=false:=decide_eq_false x;rw[j,p] at t;rw[i,f,q] at d;go_wp2;go_roundg (G.ug - (k+1));(case measure=>omega);case rel=>exact ⟨k+1,rfl,by omega,by go_num,by rw[t.out];rfl,by rw[d.out];rfl,l.out⟩
           ·have i:decide (h<g)=false:=decide_eq_false y;by_cases x:h<n
            ·exfalso;omega
            ·exfalso;omega
         ·have z:decide (n<g)=false:=decide_eq_false C;by_cases A:s<r
          ·have j:decide (s<r)=true:=decide_eq_true A;(have B:(r == s)=false:=by rw[beq_eq_false_iff_ne];omega);by_cases y:h<g
           ·have i:decide (h<g)=true:=decide_eq_true y;by_cases x:h<n
            ·have f:decide (h<n)=true:=decide_eq_true x;rw[j,p] at t;rw[i,f,q] at d;go_wp2;go_roundg (G.ug - (k+1));(case measure=>omega);case rel=>exact ⟨k+1,rfl,by omega,by go_num,by rw[t.out];rfl,by rw[d.out];rfl,l.out⟩
            ·exfalso;omega
           ·have i:decide (h<g)=false:=decide_eq_false y;by_cases x:h<n
            ·have f:decide (h<n)=true:=decide_eq_true x;rw[j,p] at t;rw[i,f,q] at d;go_wp2;go_roundg (G.ug - (k+1));(case measure=>omega);case rel=>exact ⟨k+1,rfl,by omega,by go_num,by rw[t.out];rfl,by rw[d.out];rfl,l.out⟩
            ·have f:decide (h<n)=false:=decide_eq_false x;rw[j,p] at t;rw[i,f,q] at d;go_wp2;go_roundg (G.ug - (k+1));(case measure=>omega);case rel=>exact ⟨k+1,rfl,by omega,by go_num,by rw[t.out];rfl,by rw[d.out];rfl,l.out⟩
          ·have j:decide (s<r)=false:=decide_eq_false A;(have B:(r == s)=true:=by rw[beq_iff_eq];omega);by_cases y:h<g
           ·have i:decide (h<g)=true:=decide_eq_true y;by_cases x:h<n
            ·have f:decide (h<n)=true:=decide_eq_true x;rw[j,p] at t;rw[i,f,q] at d;go_wp2;go_roundg (G.ug - (k+1));(case measure=>omega);case rel=>exact ⟨k+1,rfl,by omega,by go_num,by rw[t.out];rfl,by rw[d.out];rfl,l.out⟩
            ·exfalso;omega
           ·have i:decide (h<g)=false:=decide_eq_false y;by_cases x:h<n
            ·have f:decide (h<n)=true:=decide_eq_true x;rw[j,p] at t;rw[i,f,q] at d;go_wp2;go_roundg (G.ug - (k+1));(case measure=>omega);case rel=>exact ⟨k+1,rfl,by omega,by go_num,by rw[t.out];rfl,by rw[d.out];rfl,l.out⟩
            ·have f:decide (h<n)=false:=decide_eq_false x;rw[j,p] at t;rw[i,f,q] at d;go_wp2;go_roundg (G.ug - (k+1));(case measure=>omega);case rel=>exact ⟨k+1,rfl,by omega,by go_num,by rw[t.out];rfl,by rw[d.out];rfl,l.out⟩
  ·(obtain rfl:k=G.ug:=by omega);(have au:¬ (G.ug:Int)<(G.ug:Int):=by omega);(have al:Hid (xg F G G.ug=true->xY F ⟨L,I,J,K,P,oth⟩ G G.ug=true):=fun h=>by obtain ⟨u,h1,h2,h3⟩:=jKG h;obtain ⟨v,h4,h5,h6,h7⟩:=Q.out.gain ⟨u,by omega,h2,h3⟩;exact jLL (HW.out.ut v h4 h5) h5 h6 h7);have ao:Hid (Below w.heap.size w wr):=HB.out.trans (XB.out.mono HB.out.size)
   cases p:xg F G G.ug with
   | false=>go_wp2;go_ret;exact ⟨rfl,ao.out⟩
   | true=>rw[al.out p];go_wp2;go_ret;exact ⟨rfl,ao.out⟩
end Go.Proofs.YtigokanoflkinabGreatDoor
