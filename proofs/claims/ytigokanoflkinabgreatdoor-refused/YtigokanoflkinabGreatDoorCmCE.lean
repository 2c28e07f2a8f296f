/- CmC, CmD, CmE, joined. -/
import Derived.Test.YtigokanoflkinabGreatDoorCmAB
set_option maxHeartbeats 8000000
set_option maxRecDepth 20000
namespace Go.Proofs.YtigokanoflkinabGreatDoor
set_option linter.unusedSimpArgs false
set_option linter.unusedVariables false
open Go.RowKit Por
theorem Enc.setUsed {M:Nat->Value}{F:Flt}(h:Enc M F){u q:Nat}(hu:u<6)(hq:q<4)(x:Int):Enc (xM M (43+u*22+18+q) (.int .i64 x)) { F with used:=yR F.used u q x }:=by
 refine ⟨?_,?_,?_,fun i hi=>?_,fun i hi r hr=>?_,fun v hv=>?_,fun v hv r hr=>?_,fun v hv=>?_,fun v hv=>?_,fun v hv=>?_,fun v hv m hm=>?_,fun v hv=>?_,fun v hv=>?_,fun v hv r hr=>?_,?_,fun r hr=>?_⟩
 ·rw[jAA _ _ (by omega)];exact h.k
 ·rw[jAA _ _ (by omega)];exact h.mg
 ·rw[jAA _ _ (by omega)];exact h.ug
 ·rw[jAA _ _ (by omega)];exact h.mt i hi
 ·rw[jAA _ _ (by omega)];exact h.ms i hi r hr
 ·rw[jAA _ _ (by omega)];exact h.ut v hv
 ·rw[jAA _ _ (by omega)];exact h.ud v hv r hr
 ·rw[jAA _ _ (by omega)];exact h.uw v hv
 ·rw[jAA _ _ (by omega)];exact h.uc v hv
 ·rw[jAA _ _ (by omega)];exact h.wait v hv
 ·rw[jAA _ _ (by omega)];exact h.on v hv m hm
 ·rw[jAA _ _ (by omega)];exact h.due v hv
 ·rw[jAA _ _ (by omega)];exact h.rev v hv
 ·show _=Value.int .i64 (yR F.used u q x v r);by_cases e:v=u/\r=q
  ·obtain ⟨rfl,rfl⟩:=e;rw[jAs,jCf]
  ·rw[jAA _ _ (by omega),jDj _ _ e];exact h.used v hv r hr
 ·rw[jAA _ _ (by omega)];exact h.ck
 ·rw[jAA _ _ (by omega)];exact h.idle r hr
theorem Enc.setIdle {M:Nat->Value}{F:Flt}(h:Enc M F){q:Nat}(hq:q<4)(x:Int):Enc (xM M (176+q) (.int .i64 x)) { F with idle:=zF F.idle q x }:=by
 refine ⟨?_,?_,?_,fun i hi=>?_,fun i hi r hr=>?_,fun v hv=>?_,fun v hv r hr=>?_,fun v hv=>?_,fun v hv=>?_,fun v hv=>?_,fun v hv m hm=>?_,fun v hv=>?_,fun v hv=>?_,fun v hv r hr=>?_,?_,fun r hr=>?_⟩
 ·rw[jAA _ _ (by omega)];exact h.k
 ·rw[jAA _ _ (by omega)];exact h.mg
 ·rw[jAA _ _ (by omega)];exact h.ug
 ·rw[jAA _ _ (by omega)];exact h.mt i hi
 ·rw[jAA _ _ (by omega)];exact h.ms i hi r hr
 ·rw[jAA _ _ (by omega)];exact h.ut v hv
 ·rw[jAA _ _ (by omega)];exact h.ud v hv r hr
 ·rw[jAA _ _ (by omega)];exact h.uw v hv
 ·rw[jAA _ _ (by omega)];exact h.uc v hv
 ·rw[jAA _ _ (by omega)];exact h.wait v hv
 ·rw[jAA _ _ (by omega)];exact h.on v hv m hm
 ·rw[jAA _ _ (by omega)];exact h.due v hv
 ·rw[jAA _ _ (by omega)];exact h.rev v hv
 ·rw[jAA _ _ (by omega)];exact h.used v hv r hr
 ·rw[jAA _ _ (by omega)];exact h.ck
 ·show _=Value.int .i64 (zF F.idle q x r);by_cases e:r=q
  ·subst e;rw[jAs,jAU]
  ·rw[jAA _ _ (by omega),jAL _ _ e];exact h.idle r hr
theorem Enc.setCk {M:Nat->Value}{F:Flt}(h:Enc M F)(x:Int):Enc (xM M 175 (.int .i64 x)) { F with ck:=x }:=by
 refine ⟨?_,?_,?_,fun i hi=>?_,fun i hi r hr=>?_,fun v hv=>?_,fun v hv r hr=>?_,fun v hv=>?_,fun v hv=>?_,fun v hv=>?_,fun v hv m hm=>?_,fun v hv=>?_,fun v hv=>?_,fun v hv r hr=>?_,?_,fun r hr=>?_⟩
 ·rw[jAA _ _ (by omega)];exact h.k
 ·rw[jAA _ _ (by omega)];exact h.mg
 ·rw[jAA _ _ (by omega)];exact h.ug
 ·rw[jAA _ _ (by omega)];exact h.mt i hi
 ·rw[jAA _ _ (by omega)];exact h.ms i hi r hr
 ·rw[jAA _ _ (by omega)];exact h.ut v hv
 ·rw[jAA _ _ (by omega)];exact h.ud v hv r hr
 ·rw[jAA _ _ (by omega)];exact h.uw v hv
 ·rw[jAA _ _ (by omega)];exact h.uc v hv
 ·rw[jAA _ _ (by omega)];exact h.wait v hv
 ·rw[jAA _ _ (by omega)];exact h.on v hv m hm
 ·rw[jAA _ _ (by omega)];exact h.due v hv
 ·rw[jAA _ _ (by omega)];exact h.rev v hv
 ·rw[jAA _ _ (by omega)];exact h.used v hv r hr
 ·rw[jAs]
 ·rw[jAA _ _ (by omega)];exact h.idle r hr
theorem FL.setUsed {w:World}{b:Nat}{F:Flt}(h:FL w b F){u q:Nat}(hu:u<6)(hq:q<4)(x:Int):FL (w.setCell ⟨b,43+u*22+18+q,none⟩ (.int .i64 x)) b { F with used:=yR F.used u q x }:=by
 obtain ⟨M,a,c⟩:=h;exact ⟨_,a.set _ _,c.setUsed hu hq x⟩
theorem FL.setIdle {w:World}{b:Nat}{F:Flt}(h:FL w b F){q:Nat}(hq:q<4)(x:Int):FL (w.setCell ⟨b,176+q,none⟩ (.int .i64 x)) b { F with idle:=zF F.idle q x }:=by
 obtain ⟨M,a,c⟩:=h;exact ⟨_,a.set _ _,c.setIdle hq x⟩
theorem FL.setCk {w:World}{b:Nat}{F:Flt}(h:FL w b F)(x:Int):FL (w.setCell ⟨b,175,none⟩ (.int .i64 x)) b { F with ck:=x }:=by
 obtain ⟨M,a,c⟩:=h;exact ⟨_,a.set _ _,c.setCk x⟩
theorem FL.cUsed {w:World}{b:Nat}{F:Flt}(h:FL w b F){u q:Nat}(hu:u<6)(hq:q<4):w.cell? ⟨b,43+u*22+18+q,none⟩=some (.int .i64 (F.used u q))/\w.frozen? ⟨b,43+u*22+18+q,none⟩=false:=by
 obtain ⟨M,a,c⟩:=h;rw[a.cell (by omega),c.used u hu q hq];exact ⟨rfl,a.frozen _⟩
theorem FL.cIdle {w:World}{b:Nat}{F:Flt}(h:FL w b F){q:Nat}(hq:q<4):w.cell? ⟨b,176+q,none⟩=some (.int .i64 (F.idle q))/\w.frozen? ⟨b,176+q,none⟩=false:=by
 obtain ⟨M,a,c⟩:=h;rw[a.cell (by omega),c.idle q hq];exact ⟨rfl,a.frozen _⟩
theorem FL.cCk {w:World}{b:Nat}{F:Flt}(h:FL w b F):w.cell? ⟨b,175,none⟩=some (.int .i64 F.ck)/\w.frozen? ⟨b,175,none⟩=false:=by
 obtain ⟨M,a,c⟩:=h;rw[a.cell (by omega),c.ck];exact ⟨rfl,a.frozen _⟩
theorem FL.usedC {w:World}{b:Nat}{F:Flt}(h:FL w b F){g:Nat->Nat->Int}(hg:∀ u,u<6->∀ r,r<4->F.used u r=g u r):FL w b { F with used:=g }:=by
 obtain ⟨M,c,a⟩:=h;exact ⟨M,c,{ a with used:=fun u hu r hr=>by rw[a.used u hu r hr,hg u hu r hr] }⟩
theorem FL.idleC {w:World}{b:Nat}{F:Flt}(h:FL w b F){g:Nat->Int}(hg:∀ r,r<4->F.idle r=g r):FL w b { F with idle:=g }:=by
 obtain ⟨M,c,a⟩:=h;exact ⟨M,c,{ a with idle:=fun r hr=>by rw[a.idle r hr,hg r hr] }⟩
theorem FL.putUsed {w:World}{b:Nat}{F:Flt}(h:FL w b F){u:Nat}(hu:u<6)(g:Nat->Int):FL ((((w.setCell ⟨b,43+u*22+18,none⟩ (.int .i64 (g 0))).setCell ⟨b,43+u*22+18+1,none⟩ (.int .i64 (g 1))).setCell ⟨b,43+u*22+18+2,none⟩ (.int .i64 (g 2))).setCell ⟨b,43+u*22+18+3,none⟩ (.int .i64 (g 3))) b { F with used:=yI F.used u g }:=by
 have a:=((((h.setUsed hu (q:=0) (by omega) (g 0)).setUsed hu (q:=1) (by omega) (g 1)).setUsed hu (q:=2) (by omega) (g 2)).setUsed hu (q:=3) (by omega) (g 3));refine FL.usedC a (g:=yI F.used u g) (fun v hv r hr=>?_);show yR (yR (yR (yR F.used u 0 (g 0)) u 1 (g 1)) u 2 (g 2)) u 3 (g 3) v r=yI F.used u g v r;by_cases e:v=u
 ·subst e;rw[jA6];(have:r=0∨r=1∨r=2∨r=3:=by omega);rcases this with rfl | rfl | rfl | rfl <;> simp[yR]
 ·rw[jAV _ _ e,jCX _ _ _ e,jCX _ _ _ e,jCX _ _ _ e,jCX _ _ _ e]
theorem FL.putIdle {w:World}{b:Nat}{F:Flt}(h:FL w b F)(g:Nat->Int):FL ((((w.setCell ⟨b,176,none⟩ (.int .i64 (g 0))).setCell ⟨b,176+1,none⟩ (.int .i64 (g 1))).setCell ⟨b,176+2,none⟩ (.int .i64 (g 2))).setCell ⟨b,176+3,none⟩ (.int .i64 (g 3))) b { F with idle:=g }:=by
 have a:=((((h.setIdle (q:=0) (by omega) (g 0)).setIdle (q:=1) (by omega) (g 1)).setIdle (q:=2) (by omega) (g 2)).setIdle (q:=3) (by omega) (g 3));refine FL.idleC a (g:=g) (fun r hr=>?_);show zF (zF (zF (zF F.idle 0 (g 0)) 1 (g 1)) 2 (g 2)) 3 (g 3) r=g r;(have:r=0∨r=1∨r=2∨r=3:=by omega);rcases this with rfl | rfl | rfl | rfl <;> simp[zF]
def zy (F:Flt)(n:Int)(k:Nat):Nat->Nat->Int:=fun u r=>if u<k then F.used u r+F.ud u r*runs F.m u*n else F.used u r
def zD (F:Flt)(k r:Nat):Int:=zB F 8 r - Por.sumI (fun u=>F.ud u r*runs F.m u) k
theorem jG5 (F:Flt)(n:Int)(k:Nat):yI (zy F n k) k (fun r=>F.used k r+F.ud k r*runs F.m k*n)=zy F n (k+1):=by
 funext u r;unfold yI zy;by_cases e:u=k
 ·subst e;rw[if_pos rfl,if_pos (by omega)]
 ·rw[if_neg e];by_cases h:u<k
  ·rw[if_pos h,if_pos (by omega)]
  ·rw[if_neg h,if_neg (by omega)]
theorem jDl (F:Flt)(n:Int)(k r:Nat):zy F n k k r=F.used k r:=by unfold zy;rw[if_neg (by omega)]
theorem FWf.wanted {R:Int} {F:Flt} (h:FWf R F) {u r:Nat} (hu:u<6) (hr:r<4):0<=F.ud u r*runs F.m u/\F.ud u r*runs F.m u<=400000:=
  jBE (h.ud u hu r hr) (show 0<=runs F.m u/\runs F.m u<=40 from ⟨h.runs0 hu,by have:=h.tot u hu;have:=h.wait u hu;omega⟩)
theorem jEt {R:Int}{F:Flt}(h:FWf R F){k r:Nat}(hk:k<=6)(hr:r<4):-2400000<=zD F k r/\zD F k r<=8000:=by
 have a:=h.stat.pool r hr;have b:0<=Por.sumI (fun u=>F.ud u r*runs F.m u) k:=jAK (fun u hu=>(h.wanted (by omega) hr).1);have c:=jBL (f:=fun u=>F.ud u r*runs F.m u) (n:=k) (B:=400000) (fun u hu=>(h.wanted (by omega) hr).2);unfold zD;(have d:(k:Int)*400000<=6*400000:=by omega);omega
theorem jIT (b:Nat) (F:Flt) (U:Nat->Nat->Int) (u:Nat) (w:World) (hf:FL w b { F with used:=U }) (hu:u<6) (ho:∀ m,m<8->0<=F.m.on u m/\F.m.on u m<=1000000) :
    Calls Tryz.prog 84 #[.pointer (some ⟨b,43+u*22,none⟩)] w fun e w'=>e = .returned (.int .i64 (runs F.m u))/\Below w.heap.size w w':=jFY b { F with used:=U } u w hf hu ho
theorem idleF0 (F:Flt)(r:Nat):zD F 0 r=zB F 8 r:=by unfold zD;simp only[Por.sumI];omega
theorem jEj (w:World)(g:Nat)(u0 u1 u2 u3:Value)(k:Nat)(h:k≠g):(wput4 w g u0 u1 u2 u3).heap[k]? = w.heap[k]?:=by
 unfold wput4;rw[Below.heap_setCell _ _ _ k h,Below.heap_setCell _ _ _ k h,Below.heap_setCell _ _ _ k h,Below.heap_setCell _ _ _ k h]
theorem jHP (b:Nat)(R:Int)(F:Flt)(n:Int)(w:World)(hf:FL w b F)(hr:FWf R F)(hn:0<=n/\n<=1000)(ht:Tab w):Calls Tryz.prog 72 #[.pointer (some ⟨b,0,none⟩),.int .i64 n] w fun e w'=>e = .returned (.tuple #[])/\FL w' b ({ F with used:=zy F n 6,idle:=fun r=>F.idle r+zD F 6 r*n })/\Tab w'/\Only w.heap.size b w w':=by
  have lb:=hf.lt;have aA:=hid hf;have Q:=hid hr;have HN:=hid hn;have HT:=hid ht;clear hf hr hn ht;have Z:=hid (brw w);go_enter Tryz.func72,Tryz.ntmps72;go_wp2_with fail;refine (jHh b F _ aA.out Q.out.sm).mono ?_;rintro e1 w1 ⟨rfl,aF⟩;have U:Hid (Below (w.heap.size) w w1):=Z.out.trans (aF.mono (Z.out.size));clear Z;clear aF;(go_upto_region 1 with fail);have ae:=hid (jAC w1 #[.int .i64 (zB F 8 0),.int .i64 (zB F 8 1),.int .i64 (zB F 8 2),.int .i64 (zB F 8 3)] 68);have K:Hid (Below w.heap.size w (w1.alloc (.cells #[.int .i64 (zB F 8 0),.int .i64 (zB F 8 1),.int .i64 (zB F 8 2),.int .i64 (zB F 8 3)] 68))):=U.out.alloc U.out.size (.cells #[.int .i64 (zB F 8 0),.int .i64 (zB F 8 1),.int .i64 (zB F 8 2),.int .i64 (zB F 8 3)] 68);have aH:w.heap.size<=w1.heap.size:=U.out.size;clear U;obtain ⟨V,W⟩:∃ V,V=(w1.alloc (.cells #[.int .i64 (zB F 8 0),.int .i64 (zB F 8 1),.int .i64 (zB F 8 2),.int .i64 (zB F 8 3)] 68)):=⟨_,rfl⟩;rw[<- W] at ae K ⊢;clear W;obtain ⟨g,ao⟩:∃ g,g=w1.heap.size:=⟨_,rfl⟩;have hI:=ae;(have aJ:w.heap.size<=g:=by rw[ao];exact aH);rw[<- ao] at hI ⊢;clear ao aH ae;(have aB:Hid (Bx V g #[.int .i64 (zD F 0 0),.int .i64 (zD F 0 1),.int .i64 (zD F 0 2),.int .i64 (zD F 0 3)] 68):=by have N:=hI.out;unfold Hid;rw[idleF0,idleF0,idleF0,idleF0];exact N);have aE:Hid (FL V b ({ F with used:=zy F n 0 })):=aA.out.below K.out;have aD:=hid (HT.out.below K.out);have aC:=hid (Only.of_below b K.out);clear hI K;go_wp2
  go_loopg[11] 6 (fun gg ix wr=>∃ i:Nat,gg=6 - i/\i<=6/\ix = .int .i64 i/\Hid (FL wr b ({ F with used:=zy F n i }))/\Hid (Bx wr g #[.int .i64 (zD F i 0),.int .i64 (zD F i 1),.int .i64 (zD F i 2),.int .i64 (zD F i 3)] 68)/\Hid (Tab wr)/\Hid (Only w.heap.size b w wr))
  case atStart=>exact ⟨0,rfl,by omega,rfl,aE.out,aB.out,aD.out,aC.out⟩
  case round=>
    clear aE aB aD aC;obtain ⟨i,a5,hi,rfl,XF,XI,XT,XO⟩:=hrel;have aq:g≠b:=XF.out.type_ne XI.out (by decide);by_cases o:i<6
    · (have a6:(i:Int)<6:=by omega);have a4:g<wr.heap.size:=XI.out.lt;have P:=hid (brw wr);have au:=XF.out.lt;go_wp2_with fail;clear au;refine (jIT b F (zy F n i) i _ XF.out o (fun m hm=>by have:=Q.out.on40 o hm;omega)).mono ?_;rintro e2 w2 ⟨rfl,am⟩;have aa:=hid (XI.out.keep am);have z:Hid (Below (wr.heap.size) wr w2):=P.out.trans (am.mono (P.out.size));clear XI P;clear am;obtain ⟨a,ar⟩:∃ t,runs F.m i=t:=⟨_,rfl⟩;rw[ar];have Y:=hid ar;clear ar;have ai:=(XF.out.below z.out).cUd o;have d0:=ai 0 (by omega);have d1:=ai 1 (by omega);have d2:=ai 2 (by omega);have d3:=ai 3 (by omega);have au:=(XF.out.below z.out).lt;clear ai;go_wp2_with fail;clear d0 d1 d2 d3 au;refine (jDH (F.ud i) a (fun r hr=>by have N:=Q.out.wanted o hr;rw[Y.out] at N;show _<=F.ud i r*a/\F.ud i r*a<=_;omega) _).mono ?_;rintro e3 w3 ⟨rfl,an⟩;have ab:=hid (aa.out.keep an);have D:Hid (Below (wr.heap.size) wr w3):=z.out.trans (an.mono (z.out.size));clear aa z;clear an;(go_upto_region 7 with fail);have u:=hid (jAB ab.out (.cells #[.int .i64 (F.ud i 0*a),.int .i64 (F.ud i 1*a),.int .i64 (F.ud i 2*a),.int .i64 (F.ud i 3*a)] 68));have S:=hid (jAC w3 #[.int .i64 (F.ud i 0*a),.int .i64 (F.ud i 1*a),.int .i64 (F.ud i 2*a),.int .i64 (F.ud i 3*a)] 68);have E:Hid (Below wr.heap.size wr (w3.alloc (.cells #[.int .i64 (F.ud i 0*a),.int .i64 (F.ud i 1*a),.int .i64 (F.ud i 2*a),.int .i64 (F.ud i 3*a)] 68))):=D.out.alloc D.out.size (.cells #[.int .i64 (F.ud i 0*a),.int .i64 (F.ud i 1*a),.int .i64 (F.ud i 2*a),.int .i64 (F.ud i 3*a)] 68);have aI:wr.heap.size<=w3.heap.size:=D.out.size;clear ab D;obtain ⟨V2,W⟩:∃ V2,V2=(w3.alloc (.cells #[.int .i64 (F.ud i 0*a),.int .i64 (F.ud i 1*a),.int .i64 (F.ud i 2*a),.int .i64 (F.ud i 3*a)] 68)):=⟨_,rfl⟩;rw[<- W] at u S E ⊢;clear W;obtain ⟨s,ap⟩:∃ s,s=w3.heap.size:=⟨_,rfl⟩;have hN:=S;rw[<- ap] at hN ⊢;(have a7:wr.heap.size<=s:=by rw[ap];exact aI);clear ap aI S;(have aG:g≠s:=by omega);have p0:=u.out.cell 0 _ rfl;have p1:=u.out.cell 1 _ rfl;have p2:=u.out.cell 2 _ rfl;have p3:=u.out.cell 3 _ rfl;have lp:=u.out.lt;have q0:=hN.out.cell 0 _ rfl;have q1:=hN.out.cell 1 _ rfl;have q2:=hN.out.cell 2 _ rfl;have q3:=hN.out.cell 3 _ rfl;have T:=hN.out.lt;go_wp2_with fail;clear p0 p1 p2 p3 lp;clear q0 q1 q2 q3 T;refine (jD2 (zD F i) (fun r=>F.ud i r*a) (fun r hr=>by have:=jEt Q.out (show i<=6 by omega) hr;omega) (fun r hr=>by have N:=Q.out.wanted o hr;rw[Y.out] at N;show _<=F.ud i r*a/\F.ud i r*a<=_;omega) _).mono ?_;rintro e4 w4 ⟨rfl,ak⟩;have d:=hid (u.out.keep ak);have af:=hid (hN.out.keep ak);have G:Hid (Below (wr.heap.size) wr w4):=E.out.trans (ak.mono (E.out.size));clear u hN E;clear ak;have p0:=d.out.cell 0 _ rfl;have p1:=d.out.cell 1 _ rfl;have p2:=d.out.cell 2 _ rfl;have p3:=d.out.cell 3 _ rfl;have lp:=d.out.lt;have aw:=d.out.frozen 0;have ax:=d.out.frozen 1;have ay:=d.out.frozen 2;have az:=d.out.frozen 3;have aV:g<w4.heap.size:=d.out.lt;have YI:Hid (Bx ((((w4.setCell ⟨g,0,none⟩ (.int .i64 (zD F i 0 - F.ud i 0*a))).setCell ⟨g,1,none⟩ (.int .i64 (zD F i 1 - F.ud i 1*a))).setCell ⟨g,2,none⟩ (.int .i64 (zD F i 2 - F.ud i 2*a))).setCell ⟨g,3,none⟩ (.int .i64 (zD F i 3 - F.ud i 3*a))) g #[.int .i64 (zD F i 0 - F.ud i 0*a),.int .i64 (zD F i 1 - F.ud i 1*a),.int .i64 (zD F i 2 - F.ud i 2*a),.int .i64 (zD F i 3 - F.ud i 3*a)] 68):=d.out.put4 (.int .i64 (zD F i 0 - F.ud i 0*a)) (.int .i64 (zD F i 1 - F.ud i 1*a)) (.int .i64 (zD F i 2 - F.ud i 2*a)) (.int .i64 (zD F i 3 - F.ud i 3*a));have YN:Hid (Bx ((((w4.setCell ⟨g,0,none⟩ (.int .i64 (zD F i 0 - F.ud i 0*a))).setCell ⟨g,1,none⟩ (.int .i64 (zD F i 1 - F.ud i 1*a))).setCell ⟨g,2,none⟩ (.int .i64 (zD F i 2 - F.ud i 2*a))).setCell ⟨g,3,none⟩ (.int .i64 (zD F i 3 - F.ud i 3*a))) s #[.int .i64 (F.ud i 0*a),.int .i64 (F.ud i 1*a),.int .i64 (F.ud i 2*a),.int .i64 (F.ud i 3*a)] 68):=af.out.put4_other (.int .i64 (zD F i 0 - F.ud i 0*a)) (.int .i64 (zD F i 1 - F.ud i 1*a)) (.int .i64 (zD F i 2 - F.ud i 2*a)) (.int .i64 (zD F i 3 - F.ud i 3*a)) (fun e=>aG e);(have C:Hid (FL ((((w4.setCell ⟨g,0,none⟩ (.int .i64 (zD F i 0 - F.ud i 0*a))).setCell ⟨g,1,none⟩ (.int .i64 (zD F i 1 - F.ud i 1*a))).setCell ⟨g,2,none⟩ (.int .i64 (zD F i 2 - F.ud i 2*a))).setCell ⟨g,3,none⟩ (.int .i64 (zD F i 3 - F.ud i 3*a))) b ({ F with used:=zy F n i })):=by obtain ⟨M,h1,h2⟩:=(XF.out.below G.out);exact ⟨M,(jEj _ g _ _ _ _ b (fun e=>aq e.symm)).trans h1,h2⟩);have YT:Hid (Tab ((((w4.setCell ⟨g,0,none⟩ (.int .i64 (zD F i 0 - F.ud i 0*a))).setCell ⟨g,1,none⟩ (.int .i64 (zD F i 1 - F.ud i 1*a))).setCell ⟨g,2,none⟩ (.int .i64 (zD F i 2 - F.ud i 2*a))).setCell ⟨g,3,none⟩ (.int .i64 (zD F i 3 - F.ud i 3*a)))):=((((XT.out.below G.out).set d.out rfl (by simp) 0 _).set (jAE d.out 0 _) rfl (by simp) 1 _).set (jAE (jAE d.out 0 _) 1 _) rfl (by simp) 2 _).set (jAE (jAE (jAE d.out 0 _) 1 _) 2 _) rfl (by simp) 3 _;have YO:Hid (Only w.heap.size b w ((((w4.setCell ⟨g,0,none⟩ (.int .i64 (zD F i 0 - F.ud i 0*a))).setCell ⟨g,1,none⟩ (.int .i64 (zD F i 1 - F.ud i 1*a))).setCell ⟨g,2,none⟩ (.int .i64 (zD F i 2 - F.ud i 2*a))).setCell ⟨g,3,none⟩ (.int .i64 (zD F i 3 - F.ud i 3*a)))):=XO.out.trans (Only.of_below b (jAo (G.out.mono XO.out.size) aJ (.int .i64 (zD F i 0 - F.ud i 0*a)) (.int .i64 (zD F i 1 - F.ud i 1*a)) (.int .i64 (zD F i 2 - F.ud i 2*a)) (.int .i64 (zD F i 3 - F.ud i 3*a))));(go_upto_region 8 with fail);clear p0 p1 p2 p3 lp aw ax ay az;obtain ⟨V5,W⟩:∃ V,V=((((w4.setCell ⟨g,0,none⟩ (.int .i64 (zD F i 0 - F.ud i 0*a))).setCell ⟨g,1,none⟩ (.int .i64 (zD F i 1 - F.ud i 1*a))).setCell ⟨g,2,none⟩ (.int .i64 (zD F i 2 - F.ud i 2*a))).setCell ⟨g,3,none⟩ (.int .i64 (zD F i 3 - F.ud i 3*a))):=⟨_,rfl⟩;rw[<- W] at YI YN C YT YO ⊢;have aM:=hid XO.out.size;clear W aV XF XT XO d af G;have al:=hid (brw V5);have aW:s≠b:=C.out.type_ne YN.out (by decide);have q0:=YN.out.cell 0 _ rfl;have q1:=YN.out.cell 1 _ rfl;have q2:=YN.out.cell 2 _ rfl;have q3:=YN.out.cell 3 _ rfl;have T:=YN.out.lt;go_wp2_with fail;clear q0 q1 q2 q3 T;refine (jDH (fun r=>F.ud i r*a) n (fun r hr=>by have N:=Q.out.wanted o hr;rw[Y.out] at N;have h8:=jBE N HN.out;show _<=F.ud i r*a*n/\F.ud i r*a*n<=_;omega) _).mono ?_;rintro e6 X ⟨rfl,O⟩;have ad:=hid (YI.out.keep O);have j:=hid (YN.out.keep O);have H:Hid (Below (V5.heap.size) V5 X):=al.out.trans (O.mono (al.out.size));clear YI YN al;clear O;have q0:=j.out.cell 0 _ rfl;have q1:=j.out.cell 1 _ rfl;have q2:=j.out.cell 2 _ rfl;have q3:=j.out.cell 3 _ rfl;have T:=j.out.lt;have aY:=j.out.frozen 0;have aZ:=j.out.frozen 1;have a0:=j.out.frozen 2;have a1:=j.out.frozen 3;have ZN:Hid (Bx ((((X.setCell ⟨s,0,none⟩ (.int .i64 (F.ud i 0*a*n))).setCell ⟨s,1,none⟩ (.int .i64 (F.ud i 1*a*n))).setCell ⟨s,2,none⟩ (.int .i64 (F.ud i 2*a*n))).setCell ⟨s,3,none⟩ (.int .i64 (F.ud i 3*a*n))) s #[.int .i64 (F.ud i 0*a*n),.int .i64 (F.ud i 1*a*n),.int .i64 (F.ud i 2*a*n),.int .i64 (F.ud i 3*a*n)] 68):=j.out.put4 (.int .i64 (F.ud i 0*a*n)) (.int .i64 (F.ud i 1*a*n)) (.int .i64 (F.ud i 2*a*n)) (.int .i64 (F.ud i 3*a*n));have ZI:Hid (Bx ((((X.setCell ⟨s,0,none⟩ (.int .i64 (F.ud i 0*a*n))).setCell ⟨s,1,none⟩ (.int .i64 (F.ud i 1*a*n))).setCell ⟨s,2,none⟩ (.int .i64 (F.ud i 2*a*n))).setCell ⟨s,3,none⟩ (.int .i64 (F.ud i 3*a*n))) g #[.int .i64 (zD F i 0 - F.ud i 0*a),.int .i64 (zD F i 1 - F.ud i 1*a),.int .i64 (zD F i 2 - F.ud i 2*a),.int .i64 (zD F i 3 - F.ud i 3*a)] 68):=ad.out.put4_other (.int .i64 (F.ud i 0*a*n)) (.int .i64 (F.ud i 1*a*n)) (.int .i64 (F.ud i 2*a*n)) (.int .i64 (F.ud i 3*a*n)) (fun e=>aG e.symm);(have L:Hid (FL ((((X.setCell ⟨s,0,none⟩ (.int .i64 (F.ud i 0*a*n))).setCell ⟨s,1,none⟩ (.int .i64 (F.ud i 1*a*n))).setCell ⟨s,2,none⟩ (.int .i64 (F.ud i 2*a*n))).setCell ⟨s,3,none⟩ (.int .i64 (F.ud i 3*a*n))) b ({ F with used:=zy F n i })):=by obtain ⟨M,h1,h2⟩:=C.out.below H.out;exact ⟨M,(jEj _ s _ _ _ _ b (fun e=>aW e.symm)).trans h1,h2⟩);have ZT:Hid (Tab ((((X.setCell ⟨s,0,none⟩ (.int .i64 (F.ud i 0*a*n))).setCell ⟨s,1,none⟩ (.int .i64 (F.ud i 1*a*n))).setCell ⟨s,2,none⟩ (.int .i64 (F.ud i 2*a*n))).setCell ⟨s,3,none⟩ (.int .i64 (F.ud i 3*a*n)))):=((((YT.out.below H.out).set j.out rfl (by simp) 0 _).set (jAE j.out 0 _) rfl (by simp) 1 _).set (jAE (jAE j.out 0 _) 1 _) rfl (by simp) 2 _).set (jAE (jAE (jAE j.out 0 _) 1 _) 2 _) rfl (by simp) 3 _;have ZO:Hid (Only w.heap.size b w ((((X.setCell ⟨s,0,none⟩ (.int .i64 (F.ud i 0*a*n))).setCell ⟨s,1,none⟩ (.int .i64 (F.ud i 1*a*n))).setCell ⟨s,2,none⟩ (.int .i64 (F.ud i 2*a*n))).setCell ⟨s,3,none⟩ (.int .i64 (F.ud i 3*a*n)))):=YO.out.trans (Only.of_below b (jAo (H.out.mono YO.out.size) (by have:=aM.out;omega) (.int .i64 (F.ud i 0*a*n)) (.int .i64 (F.ud i 1*a*n)) (.int .i64 (F.ud i 2*a*n)) (.int .i64 (F.ud i 3*a*n))));(go_upto_region 9 with fail);clear q0 q1 q2 q3 T aY aZ a0 a1;obtain ⟨c,W⟩:∃ V,V=((((X.setCell ⟨s,0,none⟩ (.int .i64 (F.ud i 0*a*n))).setCell ⟨s,1,none⟩ (.int .i64 (F.ud i 1*a*n))).setCell ⟨s,2,none⟩ (.int .i64 (F.ud i 2*a*n))).setCell ⟨s,3,none⟩ (.int .i64 (F.ud i 3*a*n))):=⟨_,rfl⟩;rw[<- W] at ZI ZN L ZT ZO ⊢;clear W C YT YO ad j H;have aK:=hid (brw c);have q0:=ZN.out.cell 0 _ rfl;have q1:=ZN.out.cell 1 _ rfl;have q2:=ZN.out.cell 2 _ rfl;have q3:=ZN.out.cell 3 _ rfl;have T:=ZN.out.lt;have u0:c.cell? ⟨b,43+i*22+18,none⟩=some (.int .i64 (F.used i 0)):=((L.out.cUsed o (q:=0) (by omega)).1).trans (by show some (Value.int .i64 (zy F n i i 0))=_;rw[jDl]);have u1:c.cell? ⟨b,43+i*22+18+1,none⟩=some (.int .i64 (F.used i 1)):=((L.out.cUsed o (q:=1) (by omega)).1).trans (by show some (Value.int .i64 (zy F n i i 1))=_;rw[jDl]);have u2:c.cell? ⟨b,43+i*22+18+2,none⟩=some (.int .i64 (F.used i 2)):=((L.out.cUsed o (q:=2) (by omega)).1).trans (by show some (Value.int .i64 (zy F n i i 2))=_;rw[jDl]);have u3:c.cell? ⟨b,43+i*22+18+3,none⟩=some (.int .i64 (F.used i 3)):=((L.out.cUsed o (q:=3) (by omega)).1).trans (by show some (Value.int .i64 (zy F n i i 3))=_;rw[jDl]);have J:=L.out.lt;(have aL:Hid (yI (zy F n i) i (fun r=>F.used i r+F.ud i r*a*n)=zy F n (i+1)):=by unfold Hid;rw[<- Y.out];exact jG5 F n i);(have aj:Hid (∀ r,zD F (i+1) r=zD F i r - F.ud i r*a):=fun r=>by unfold zD;simp only[Por.sumI];rw[Y.out];omega);have aR:c.drew.cell? ⟨b,43+i*22+18,none⟩=some (.int .i64 (F.used i 0)):=((brw c).drew.cell (p:=⟨b,43+i*22+18,none⟩) J).trans u0;have aS:c.drew.cell? ⟨b,43+i*22+18+1,none⟩=some (.int .i64 (F.used i 1)):=((brw c).drew.cell (p:=⟨b,43+i*22+18+1,none⟩) J).trans u1;have aT:c.drew.cell? ⟨b,43+i*22+18+2,none⟩=some (.int .i64 (F.used i 2)):=((brw c).drew.cell (p:=⟨b,43+i*22+18+2,none⟩) J).trans u2;have aU:c.drew.cell? ⟨b,43+i*22+18+3,none⟩=some (.int .i64 (F.used i 3)):=((brw c).drew.cell (p:=⟨b,43+i*22+18+3,none⟩) J).trans u3;have aN:c.drew.cell? ⟨s,0,none⟩=some (.int .i64 (F.ud i 0*a*n)):=((brw c).drew.cell (p:=⟨s,0,none⟩) T).trans q0;have aO:c.drew.cell? ⟨s,1,none⟩=some (.int .i64 (F.ud i 1*a*n)):=((brw c).drew.cell (p:=⟨s,1,none⟩) T).trans q1;have aP:c.drew.cell? ⟨s,2,none⟩=some (.int .i64 (F.ud i 2*a*n)):=((brw c).drew.cell (p:=⟨s,2,none⟩) T).trans q2;have aQ:c.drew.cell? ⟨s,3,none⟩=some (.int .i64 (F.ud i 3*a*n)):=((brw c).drew.cell (p:=⟨s,3,none⟩) T).trans q3;go_region_law (first | (go_simp;go_at_call 87;refine (jDa (F.used i) (fun r=>F.ud i r*a*n) (fun r hr=>by have h8:=Q.out.used i o r hr;have N:=Q.out.ck;omega) (fun r hr=>by have N:=Q.out.wanted o hr;rw[Y.out] at N;have h8:=jBE N HN.out;show _<=F.ud i r*a*n/\F.ud i r*a*n<=_;omega) _).mono ?_;rintro a2 v ⟨rfl,ag⟩;have f:Below c.heap.size c v:=(brw c).drew.trans (ag.mono ((brw c).drew).size);clear ag;have k0:=((L.out.below f).cUsed o (q:=0) (by omega)).1;have z0:=((L.out.below f).cUsed o (q:=0) (by omega)).2;have k1:=((L.out.below f).cUsed o (q:=1) (by omega)).1;have z1:=((L.out.below f).cUsed o (q:=1) (by omega)).2;have k2:=((L.out.below f).cUsed o (q:=2) (by omega)).1;have z2:=((L.out.below f).cUsed o (q:=2) (by omega)).2;have k3:=((L.out.below f).cUsed o (q:=3) (by omega)).1;have z3:=((L.out.below f).cUsed o (q:=3) (by omega)).2;simp only[Nat.add_zero] at k0 z0;have aX:=(L.out.below f).lt;go_wp2_with fail))
      all_goals
        have QF : Hid (FL ((((v.setCell ⟨b, 43 + i * 22 + 18, none⟩ (.int .i64 (F.used i 0 + F.ud i 0 * a * n))).setCell ⟨b, 43 + i * 22 + 18 + 1, none⟩ (.int .i64 (F.used i 1 + F.ud i 1 * a * n))).setCell ⟨b, 43 + i * 22 + 18 + 2, none⟩ (.int .i64 (F.used i 2 + F.ud i 2 * a * n))).setCell ⟨b, 43 + i * 22 + 18 + 3, none⟩ (.int .i64 (F.used i 3 + F.ud i 3 * a * n))) b ({ F with used := zy F n (i + 1) })) := (by unfold Hid; rw [<- aL.out]; exact (L.out.below f).putUsed o (fun r => F.used i r + F.ud i r * a * n))
        have QI : Hid (Bx ((((v.setCell ⟨b, 43 + i * 22 + 18, none⟩ (.int .i64 (F.used i 0 + F.ud i 0 * a * n))).setCell ⟨b, 43 + i * 22 + 18 + 1, none⟩ (.int .i64 (F.used i 1 + F.ud i 1 * a * n))).setCell ⟨b, 43 + i * 22 + 18 + 2, none⟩ (.int .i64 (F.used i 2 + F.ud i 2 * a * n))).setCell ⟨b, 43 + i * 22 + 18 + 3, none⟩ (.int .i64 (F.used i 3 + F.ud i 3 * a * n))) g #[.int .i64 (zD F (i + 1) 0), .int .i64 (zD F (i + 1) 1), .int .i64 (zD F (i + 1) 2), .int .i64 (zD F (i + 1) 3)] 68) := (by rw [aj.out 0, aj.out 1, aj.out 2, aj.out 3]; exact Bx.only (ZI.out.keep f) (((((Only.refl v.heap.size b v).setCell _ (43 + i * 22 + 18) (.int .i64 (F.used i 0 + F.ud i 0 * a * n))).setCell _ (43 + i * 22 + 18 + 1) (.int .i64 (F.used i 1 + F.ud i 1 * a * n))).setCell _ (43 + i * 22 + 18 + 2) (.int .i64 (F.used i 2 + F.ud i 2 * a * n))).setCell _ (43 + i * 22 + 18 + 3) (.int .i64 (F.used i 3 + F.ud i 3 * a * n))) (ZI.out.keep f).lt aq)
        have QT : Hid (Tab ((((v.setCell ⟨b, 43 + i * 22 + 18, none⟩ (.int .i64 (F.used i 0 + F.ud i 0 * a * n))).setCell ⟨b, 43 + i * 22 + 18 + 1, none⟩ (.int .i64 (F.used i 1 + F.ud i 1 * a * n))).setCell ⟨b, 43 + i * 22 + 18 + 2, none⟩ (.int .i64 (F.used i 2 + F.ud i 2 * a * n))).setCell ⟨b, 43 + i * 22 + 18 + 3, none⟩ (.int .i64 (F.used i 3 + F.ud i 3 * a * n)))) := ((ZT.out.below f).only (L.out.below f) (((((Only.refl v.heap.size b v).setCell _ (43 + i * 22 + 18) (.int .i64 (F.used i 0 + F.ud i 0 * a * n))).setCell _ (43 + i * 22 + 18 + 1) (.int .i64 (F.used i 1 + F.ud i 1 * a * n))).setCell _ (43 + i * 22 + 18 + 2) (.int .i64 (F.used i 2 + F.ud i 2 * a * n))).setCell _ (43 + i * 22 + 18 + 3) (.int .i64 (F.used i 3 + F.ud i 3 * a * n))) (Nat.le_refl _))
        have QO : Hid (Only w.heap.size b w ((((v.setCell ⟨b, 43 + i * 22 + 18, none⟩ (.int .i64 (F.used i 0 + F.ud i 0 * a * n))).setCell ⟨b, 43 + i * 22 + 18 + 1, none⟩ (.int .i64 (F.used i 1 + F.ud i 1 * a * n))).setCell ⟨b, 43 + i * 22 + 18 + 2, none⟩ (.int .i64 (F.used i 2 + F.ud i 2 * a * n))).setCell ⟨b, 43 + i * 22 + 18 + 3, none⟩ (.int .i64 (F.used i 3 + F.ud i 3 * a * n)))) := ((ZO.out.trans ((Only.of_below b f).mono ZO.out.size)).trans ((((((Only.refl v.heap.size b v).setCell _ (43 + i * 22 + 18) (.int .i64 (F.used i 0 + F.ud i 0 * a * n))).setCell _ (43 + i * 22 + 18 + 1) (.int .i64 (F.used i 1 + F.ud i 1 * a * n))).setCell _ (43 + i * 22 + 18 + 2) (.int .i64 (F.used i 2 + F.ud i 2 * a * n))).setCell _ (43 + i * 22 + 18 + 3) (.int .i64 (F.used i 3 + F.ud i 3 * a * n))).mono (Nat.le_trans ZO.out.size f.size)))
        go_wp2
        go_roundg (6 - (i + 1))
        case measure => omega
        case rel => exact ⟨i + 1, rfl, by omega, by go_num, QF.out, QI.out, QT.out, QO.out⟩
    · (obtain rfl:i=6:=by omega);have P:=hid (brw wr);have p0:=XI.out.cell 0 _ rfl;have p1:=XI.out.cell 1 _ rfl;have p2:=XI.out.cell 2 _ rfl;have p3:=XI.out.cell 3 _ rfl;have lp:=XI.out.lt;go_wp2_with fail;clear p0 p1 p2 p3 lp;refine (jDH (zD F 6) n (fun r hr=>by have N:=jEt Q.out (Nat.le_refl 6) hr;have h8:=Q.out.spare hr;have h7:=jBE (A:=8000) (B:=1000) (x:=zD F 6 r) (y:=n) ⟨h8,N.2⟩ HN.out;show _<=zD F 6 r*n/\zD F 6 r*n<=_;omega) _).mono ?_;rintro e6 X ⟨rfl,O⟩;have h:=hid (XI.out.keep O);have I:Hid (Below (wr.heap.size) wr X):=P.out.trans (O.mono (P.out.size));clear XI P;clear O;have p0:=h.out.cell 0 _ rfl;have p1:=h.out.cell 1 _ rfl;have p2:=h.out.cell 2 _ rfl;have p3:=h.out.cell 3 _ rfl;have lp:=h.out.lt;have aw:=h.out.frozen 0;have ax:=h.out.frozen 1;have ay:=h.out.frozen 2;have az:=h.out.frozen 3;have YI:Hid (Bx ((((X.setCell ⟨g,0,none⟩ (.int .i64 (zD F 6 0*n))).setCell ⟨g,1,none⟩ (.int .i64 (zD F 6 1*n))).setCell ⟨g,2,none⟩ (.int .i64 (zD F 6 2*n))).setCell ⟨g,3,none⟩ (.int .i64 (zD F 6 3*n))) g #[.int .i64 (zD F 6 0*n),.int .i64 (zD F 6 1*n),.int .i64 (zD F 6 2*n),.int .i64 (zD F 6 3*n)] 68):=h.out.put4 (.int .i64 (zD F 6 0*n)) (.int .i64 (zD F 6 1*n)) (.int .i64 (zD F 6 2*n)) (.int .i64 (zD F 6 3*n));(have C:Hid (FL ((((X.setCell ⟨g,0,none⟩ (.int .i64 (zD F 6 0*n))).setCell ⟨g,1,none⟩ (.int .i64 (zD F 6 1*n))).setCell ⟨g,2,none⟩ (.int .i64 (zD F 6 2*n))).setCell ⟨g,3,none⟩ (.int .i64 (zD F 6 3*n))) b ({ F with used:=zy F n 6 })):=by obtain ⟨M,h1,h2⟩:=XF.out.below I.out;exact ⟨M,(jEj _ g _ _ _ _ b (fun e=>aq e.symm)).trans h1,h2⟩);have YT:Hid (Tab ((((X.setCell ⟨g,0,none⟩ (.int .i64 (zD F 6 0*n))).setCell ⟨g,1,none⟩ (.int .i64 (zD F 6 1*n))).setCell ⟨g,2,none⟩ (.int .i64 (zD F 6 2*n))).setCell ⟨g,3,none⟩ (.int .i64 (zD F 6 3*n)))):=((((XT.out.below I.out).set h.out rfl (by simp) 0 _).set (jAE h.out 0 _) rfl (by simp) 1 _).set (jAE (jAE h.out 0 _) 1 _) rfl (by simp) 2 _).set (jAE (jAE (jAE h.out 0 _) 1 _) 2 _) rfl (by simp) 3 _;have YO:Hid (Only w.heap.size b w ((((X.setCell ⟨g,0,none⟩ (.int .i64 (zD F 6 0*n))).setCell ⟨g,1,none⟩ (.int .i64 (zD F 6 1*n))).setCell ⟨g,2,none⟩ (.int .i64 (zD F 6 2*n))).setCell ⟨g,3,none⟩ (.int .i64 (zD F 6 3*n)))):=XO.out.trans (Only.of_below b (jAo (I.out.mono XO.out.size) aJ (.int .i64 (zD F 6 0*n)) (.int .i64 (zD F 6 1*n)) (.int .i64 (zD F 6 2*n)) (.int .i64 (zD F 6 3*n))));(go_upto_region 12 with fail);clear p0 p1 p2 p3 lp aw ax ay az;obtain ⟨c,W⟩:∃ V,V=((((X.setCell ⟨g,0,none⟩ (.int .i64 (zD F 6 0*n))).setCell ⟨g,1,none⟩ (.int .i64 (zD F 6 1*n))).setCell ⟨g,2,none⟩ (.int .i64 (zD F 6 2*n))).setCell ⟨g,3,none⟩ (.int .i64 (zD F 6 3*n))):=⟨_,rfl⟩;rw[<- W] at YI C YT YO ⊢;clear W XF XT XO h I;have aK:=hid (brw c);have q0:=YI.out.cell 0 _ rfl;have q1:=YI.out.cell 1 _ rfl;have q2:=YI.out.cell 2 _ rfl;have q3:=YI.out.cell 3 _ rfl;have T:=YI.out.lt;have u0:c.cell? ⟨b,176,none⟩=some (.int .i64 (F.idle 0)):=(C.out.cIdle (q:=0) (by omega)).1;have u1:c.cell? ⟨b,177,none⟩=some (.int .i64 (F.idle 1)):=(C.out.cIdle (q:=1) (by omega)).1;have u2:c.cell? ⟨b,178,none⟩=some (.int .i64 (F.idle 2)):=(C.out.cIdle (q:=2) (by omega)).1;have u3:c.cell? ⟨b,179,none⟩=some (.int .i64 (F.idle 3)):=(C.out.cIdle (q:=3) (by omega)).1;have J:=C.out.lt;have aR:c.drew.cell? ⟨b,176,none⟩=some (.int .i64 (F.idle 0)):=((brw c).drew.cell (p:=⟨b,176,none⟩) J).trans u0;have aS:c.drew.cell? ⟨b,177,none⟩=some (.int .i64 (F.idle 1)):=((brw c).drew.cell (p:=⟨b,177,none⟩) J).trans u1;have aT:c.drew.cell? ⟨b,178,none⟩=some (.int .i64 (F.idle 2)):=((brw c).drew.cell (p:=⟨b,178,none⟩) J).trans u2;have aU:c.drew.cell? ⟨b,179,none⟩=some (.int .i64 (F.idle 3)):=((brw c).drew.cell (p:=⟨b,179,none⟩) J).trans u3;have aN:c.drew.cell? ⟨g,0,none⟩=some (.int .i64 (zD F 6 0*n)):=((brw c).drew.cell (p:=⟨g,0,none⟩) T).trans q0;have aO:c.drew.cell? ⟨g,1,none⟩=some (.int .i64 (zD F 6 1*n)):=((brw c).drew.cell (p:=⟨g,1,none⟩) T).trans q1;have aP:c.drew.cell? ⟨g,2,none⟩=some (.int .i64 (zD F 6 2*n)):=((brw c).drew.cell (p:=⟨g,2,none⟩) T).trans q2;have aQ:c.drew.cell? ⟨g,3,none⟩=some (.int .i64 (zD F 6 3*n)):=((brw c).drew.cell (p:=⟨g,3,none⟩) T).trans q3;go_region_law (first | (go_simp;go_at_call 87;refine (jDa F.idle (fun r=>zD F 6 r*n) (fun r hr=>by have h8:=Q.out.idle r hr;have N:=Q.out.ck;omega) (fun r hr=>by have N:=jEt Q.out (Nat.le_refl 6) hr;have h8:=Q.out.spare hr;have h7:=jBE (A:=8000) (B:=1000) (x:=zD F 6 r) (y:=n) ⟨h8,N.2⟩ HN.out;show _<=zD F 6 r*n/\zD F 6 r*n<=_;omega) _).mono ?_;rintro a3 l ⟨rfl,ah⟩;have k:Below c.heap.size c l:=(brw c).drew.trans (ah.mono ((brw c).drew).size);clear ah;have k0:l.cell? ⟨b,176,none⟩=some (.int .i64 (F.idle 0)):=((C.out.below k).cIdle (q:=0) (by omega)).1;have z0:l.frozen? ⟨b,176,none⟩=false:=((C.out.below k).cIdle (q:=0) (by omega)).2;have k1:l.cell? ⟨b,177,none⟩=some (.int .i64 (F.idle 1)):=((C.out.below k).cIdle (q:=1) (by omega)).1;have z1:l.frozen? ⟨b,177,none⟩=false:=((C.out.below k).cIdle (q:=1) (by omega)).2;have k2:l.cell? ⟨b,178,none⟩=some (.int .i64 (F.idle 2)):=((C.out.below k).cIdle (q:=2) (by omega)).1;have z2:l.frozen? ⟨b,178,none⟩=false:=((C.out.below k).cIdle (q:=2) (by omega)).2;have k3:l.cell? ⟨b,179,none⟩=some (.int .i64 (F.idle 3)):=((C.out.below k).cIdle (q:=3) (by omega)).1;have z3:l.frozen? ⟨b,179,none⟩=false:=((C.out.below k).cIdle (q:=3) (by omega)).2;have aX:=(C.out.below k).lt;go_wp2_with fail))
      all_goals
        have QF : Hid (FL ((((l.setCell ⟨b, 176, none⟩ (.int .i64 (F.idle 0 + zD F 6 0 * n))).setCell ⟨b, 177, none⟩ (.int .i64 (F.idle 1 + zD F 6 1 * n))).setCell ⟨b, 178, none⟩ (.int .i64 (F.idle 2 + zD F 6 2 * n))).setCell ⟨b, 179, none⟩ (.int .i64 (F.idle 3 + zD F 6 3 * n))) b ({ F with used := zy F n 6, idle := fun r => F.idle r + zD F 6 r * n })) := ((C.out.below k).putIdle (fun r => F.idle r + zD F 6 r * n))
        have QT : Hid (Tab ((((l.setCell ⟨b, 176, none⟩ (.int .i64 (F.idle 0 + zD F 6 0 * n))).setCell ⟨b, 177, none⟩ (.int .i64 (F.idle 1 + zD F 6 1 * n))).setCell ⟨b, 178, none⟩ (.int .i64 (F.idle 2 + zD F 6 2 * n))).setCell ⟨b, 179, none⟩ (.int .i64 (F.idle 3 + zD F 6 3 * n)))) := ((YT.out.below k).only (C.out.below k) (((((Only.refl l.heap.size b l).setCell _ (176) (.int .i64 (F.idle 0 + zD F 6 0 * n))).setCell _ (177) (.int .i64 (F.idle 1 + zD F 6 1 * n))).setCell _ (178) (.int .i64 (F.idle 2 + zD F 6 2 * n))).setCell _ (179) (.int .i64 (F.idle 3 + zD F 6 3 * n))) (Nat.le_refl _))
        have QO : Hid (Only w.heap.size b w ((((l.setCell ⟨b, 176, none⟩ (.int .i64 (F.idle 0 + zD F 6 0 * n))).setCell ⟨b, 177, none⟩ (.int .i64 (F.idle 1 + zD F 6 1 * n))).setCell ⟨b, 178, none⟩ (.int .i64 (F.idle 2 + zD F 6 2 * n))).setCell ⟨b, 179, none⟩ (.int .i64 (F.idle 3 + zD F 6 3 * n)))) := ((YO.out.trans ((Only.of_below b k).mono YO.out.size)).trans ((((((Only.refl l.heap.size b l).setCell _ (176) (.int .i64 (F.idle 0 + zD F 6 0 * n))).setCell _ (177) (.int .i64 (F.idle 1 + zD F 6 1 * n))).setCell _ (178) (.int .i64 (F.idle 2 + zD F 6 2 * n))).setCell _ (179) (.int .i64 (F.idle 3 + zD F 6 3 * n))).mono (Nat.le_trans YO.out.size k.size)))
        go_wp2
        go_end0
        exact ⟨rfl, QF.out, QT.out, QO.out⟩
theorem jMB (xs:List Int)(h:xs.length<=4):splice [.int .i64 0,.int .i64 0,.int .i64 0,.int .i64 0] 0 (zg xs)=(av (zm xs)).toList:=by
 match xs,h with
 | [],_=>rfl
 | [a],_=>rfl
 | [a,b],_=>rfl
 | [a,b,c],_=>rfl
 | [a,b,c,d],_=>rfl
theorem jFJ (w0 w:World){ops:Array Oper}{rest:List Oper}{o:Oper}{a:Act}{Q:Exit->Act->World->Prop}(hgd:o.guard=none)(d s:Operand)(ho:o.op = .call { callee:=.builtin .copy,args:=#[d,s],argTypes:=#[28,28] })(g n cap:Nat)(ao:Option Addr)(xs:List Int)(hd:a.eval d = .slice (some ⟨g,0,none⟩) 4 4)(hs:a.eval s = .slice ao n cap)(hz:Bx w g #[.int .i64 0,.int .i64 0,.int .i64 0,.int .i64 0] 68)(hr:Arr w 1 ao n cap (zg xs))(hnm:n<=4)(hb:Below w0.heap.size w0 w)(hle:w0.heap.size<=g)(h:∀ w',Hid (Bx w' g (av (zm xs)) 68)->Below w0.heap.size w0 w'->wpList Tryz.prog ops Q rest (a.put o.dst (goInt n)) w'):wpList Tryz.prog ops Q (o :: rest) a w:=by
  have m:=hr.len;rw[jAG] at m;subst m;(have e:(zg xs).length=Nat.min xs.length 4:=by rw[jAG];exact (Nat.min_eq_left hnm).symm);refine wpList_copy_splice hgd d s 28 28 ho 3 Tryz.underlying28 Tryz.sizeInt _ _ _ _ _ _ hd hs g 0 [.int .i64 0,.int .i64 0,.int .i64 0,.int .i64 0] 68 hz (zg xs) e ?_ (by rw[jAG];simp;omega) ?_ w0.heap.size w0 hb hle ?_
  · intro l;rw[jAG] at l;obtain ⟨b,k,rfl,t⟩:=hr.head l;refine ⟨rfl,_,rfl,fun j v c=>?_⟩;have r:j<xs.length:=by have:=(List.getElem?_eq_some_iff.1 c).1;rwa [jAG] at this
    have := hr.cell b k rfl j v c 0 v (by
      rw [jDG xs r] at c; cases c; rfl)
    (have f:(⟨b,k,none⟩:Addr).add j=⟨b,k+j,none⟩:=by unfold Addr.add;split <;> simp_all);rw[f]
    simpa using this
  · intro v c;unfold zg at c;obtain ⟨x,_,rfl⟩:=List.mem_map.1 c;rfl
  · intro w' u i;(have p:goInt (zg xs).length=goInt xs.length:=by rw[jAG]);rw[p];refine h w' ?_ i;have q:=u.out;unfold Hid Bx;rw[q,jMB xs hnm]
def xU (k:Nat)(xs:List Int):Bool:=decide (xs.length=k) && xZ 1000 xs
theorem jDn (ao:Option Addr)(n cap:Nat)(xs:List Int)(w:World)(hr:Arr w 1 ao n cap (zg xs))(hn:n<=4):Calls Tryz.prog 66 #[.slice ao n cap] w fun e w'=>e = .returned (.agg (av (zm xs)))/\Below w.heap.size w w':=by
 have t:=hid hr;clear hr;have c:=hid (brw w);have f:=hid (jAC w #[.int .i64 0,.int .i64 0,.int .i64 0,.int .i64 0] 68);have b:Hid (Below w.heap.size w (w.alloc (.cells #[.int .i64 0,.int .i64 0,.int .i64 0,.int .i64 0] 68))):=c.out.alloc c.out.size (.cells #[.int .i64 0,.int .i64 0,.int .i64 0,.int .i64 0] 68);have x:w.heap.size<=w.heap.size:=c.out.size;clear c;go_enter Tryz.func66,Tryz.ntmps66;(go_upto_region 1 with fail);obtain ⟨V,s⟩:∃ V,V=(w.alloc (.cells #[.int .i64 0,.int .i64 0,.int .i64 0,.int .i64 0] 68)):=⟨_,rfl⟩;rw[<- s] at f b ⊢;clear s;obtain ⟨d,k⟩:∃ d,d=w.heap.size:=⟨_,rfl⟩;have o:=f;rw[<- k] at o ⊢;(have p:w.heap.size<=d:=by omega);clear k f;have r:=hid (jAC V #[.int .i64 0,.int .i64 0,.int .i64 0,.int .i64 0] 68);have i:Hid (Below V.heap.size V (V.alloc (.cells #[.int .i64 0,.int .i64 0,.int .i64 0,.int .i64 0] 68))):=brf.alloc (Nat.le_refl _) _;have u:w.heap.size<=V.heap.size:=b.out.size;go_wp2_with (refine jFJ V _ rfl (.tmp 4) (.tmp 5) rfl V.heap.size n cap ao xs rfl rfl r.out ((t.out.below b.out).below i.out) hn i.out (Nat.le_refl _) ?_);intro q g j;have a:=hid (o.out.keep j);have l:Hid (Below w.heap.size w q):=b.out.trans (j.mono b.out.size);clear j r i o;have C:=g.out.cell 0 _ rfl;have D:=g.out.cell 1 _ rfl;have E:=g.out.cell 2 _ rfl;have F:=g.out.cell 3 _ rfl;have M:=a.out.cell 0 _ rfl;have I:=a.out.frozen 0;have N:=a.out.cell 1 _ rfl;have J:=a.out.frozen 1;have O:=a.out.cell 2 _ rfl;have K:=a.out.frozen 2;have P:=a.out.cell 3 _ rfl;have L:=a.out.frozen 3;have G:=g.out.lt;have H:=a.out.lt;have h:Hid (Bx ((((q.setCell ⟨d,0,none⟩ (.int .i64 (zm xs 0))).setCell ⟨d,1,none⟩ (.int .i64 (zm xs 1))).setCell ⟨d,2,none⟩ (.int .i64 (zm xs 2))).setCell ⟨d,3,none⟩ (.int .i64 (zm xs 3))) d #[.int .i64 (zm xs 0),.int .i64 (zm xs 1),.int .i64 (zm xs 2),.int .i64 (zm xs 3)] 68):=a.out.put4 (.int .i64 (zm xs 0)) (.int .i64 (zm xs 1)) (.int .i64 (zm xs 2)) (.int .i64 (zm xs 3));have m:Hid (Below w.heap.size w ((((q.setCell ⟨d,0,none⟩ (.int .i64 (zm xs 0))).setCell ⟨d,1,none⟩ (.int .i64 (zm xs 1))).setCell ⟨d,2,none⟩ (.int .i64 (zm xs 2))).setCell ⟨d,3,none⟩ (.int .i64 (zm xs 3)))):=jAo l.out p (.int .i64 (zm xs 0)) (.int .i64 (zm xs 1)) (.int .i64 (zm xs 2)) (.int .i64 (zm xs 3));go_wp2;have y:=h.out.cell 0 _ rfl;have z:=h.out.cell 1 _ rfl;have A:=h.out.cell 2 _ rfl;have B:=h.out.cell 3 _ rfl;refine bodyPost_ret (v:=.agg #[.int .i64 (zm xs 0),.int .i64 (zm xs 1),.int .i64 (zm xs 2),.int .i64 (zm xs 3)]) (by simp[results,Tryz.results66,go_sem,y,z,A,B]) rfl ⟨rfl,m.out⟩
theorem jIv (ao:Option Addr)(n cap k:Nat)(xs:List Int)(w:World)(hr:Arr w 1 ao n cap (zg xs)):Calls Tryz.prog 65 #[.slice ao n cap,.int .i64 k] w fun e w'=>e = .returned (.bool (xU k xs))/\w'=w:=by
 have a:=hr.len;rw[jAG] at a;have c:=hid hr;clear hr;go_enter Tryz.func65,Tryz.ntmps65;by_cases d:n=k
 ·subst d;(have f:((n:Int) != (n:Int))=false:=by simp);go_wp2_with fail;refine (jDM ao n cap xs 1000 _ c.out).mono ?_;rintro g h ⟨rfl,rfl⟩;(have b:Hid (xU n xs=xZ 1000 xs):=by unfold Hid xU;rw[decide_eq_true a,Bool.true_and]);go_wp2;go_ret;exact ⟨by rw[b.out];rfl,rfl⟩
 ·(have f:((n:Int) != (k:Int))=true:=by simp;omega);(have b:Hid (xU k xs=false):=by unfold Hid xU;rw[decide_eq_false (by omega),Bool.false_and]);go_wp2;go_ret;exact ⟨by rw[b.out];rfl,rfl⟩
def putL (M:Nat->Value):Nat->List Value->Nat->Value
  | _,[]=>M
  | o,v :: r=>putL (xM M o v) (o+1) r
theorem jFy:∀ (vs:List Value)(M:Nat->Value)(o j:Nat) ,(j<o∨o+vs.length<=j)->putL M o vs j=M j:=by
 intro vs
 induction vs with
 | nil=>intro M o j h;rfl
 | cons v r ih=>intro M o j h;simp only[List.length_cons] at h;simp only[putL];rw[ih _ _ _ (by omega),jAA _ _ (by omega)]
theorem jKZ:∀ (vs:List Value)(M:Nat->Value)(o j:Nat)(x:Value) ,vs[j]? = some x->putL M o vs (o+j)=x:=by
 intro vs
 induction vs with
 | nil=>intro M o j x h;simp at h
 | cons v r ih=>
  intro M o j x h;simp only[putL]
  match j with
  | 0=>rw[jFy _ _ _ _ (by omega),Nat.add_zero,jAs];simpa using h
  | j+1=>have:=ih (xM M o v) (o+1) j x (by simpa using h);rw[show o+(j+1)=o+1+j by omega];exact this
theorem FBk.setCells {w:World}{b:Nat}:∀ (vs:List Value) {M:Nat->Value} (o:Nat) {w:World},FBk w b M->FBk (w.setCells b o vs) b (putL M o vs):=by
 intro vs
 induction vs with
 | nil=>intro M o w h;exact h
 | cons v r ih=>intro M o w h;exact ih (o+1) (h.set o v)
theorem FBk.there {w:World}{b:Nat}{M:Nat->Value}(h:FBk w b M){o n:Nat}(hn:o+n<=180):w.there b o n:=fun j hj=>⟨by rw[h.cell (by omega)];rfl,h.frozen _⟩
theorem jAu {B b:Nat}{x:World}:∀ (vs:List Value) (o:Nat) {w:World},Only B b x w->Only B b x (w.setCells b o vs):=by
 intro vs
 induction vs with
 | nil=>intro o w h;exact h
 | cons v r ih=>intro o w h;exact ih (o+1) (h.setCell _ o v)
abbrev uvals (t:Bool)(d:Nat->Int)(wt cp wa:Int)(on:Nat->Int)(du:ByteArray)(rv:Int)(us:Nat->Int):List Value:=[.bool t,.int .i64 (d 0),.int .i64 (d 1),.int .i64 (d 2),.int .i64 (d 3),.int .i64 wt,.int .i64 cp,.int .i64 wa,.int .i64 (on 0),.int .i64 (on 1),.int .i64 (on 2),.int .i64 (on 3),.int .i64 (on 4),.int .i64 (on 5),.int .i64 (on 6),.int .i64 (on 7),.string du,.int .i64 rv,.int .i64 (us 0),.int .i64 (us 1),.int .i64 (us 2),.int .i64 (us 3)]
abbrev mvals (t:Bool)(d:Nat->Int):List Value:=[.bool t,.int .i64 (d 0),.int .i64 (d 1),.int .i64 (d 2),.int .i64 (d 3)]
def putU (F:Flt)(u:Nat)(t:Bool)(d:Nat->Int)(wt cp wa:Int)(on:Nat->Int)(du:ByteArray)(rv:Int)(us:Nat->Int):Flt:=
  { F with ut:=yy F.ut u t,ud:=yI F.ud u d,uw:=zF F.uw u wt,uc:=zF F.uc u cp,m:=⟨zF F.m.wait u wa,yI F.m.on u on,zF F.m.rev u rv⟩,due:=updB F.due u du,used:=yI F.used u us }
def putM (F:Flt)(i:Nat)(t:Bool)(d:Nat->Int):Flt:={ F with mt:=yy F.mt i t,ms:=yI F.ms i d }
theorem Enc.putUser {M:Nat->Value}{F:Flt}(h:Enc M F){u:Nat}(hu:u<6)(t:Bool)(d:Nat->Int)(wt cp wa:Int)(on:Nat->Int)(du:ByteArray)(rv:Int)(us:Nat->Int):Enc (putL M (43+u*22) (uvals t d wt cp wa on du rv us)) (putU F u t d wt cp wa on du rv us):=by
  (have b:∀ j x,(uvals t d wt cp wa on du rv us)[j]? = some x->putL M (43+u*22) (uvals t d wt cp wa on du rv us) (43+u*22+j)=x:=fun j x hx=>jKZ _ _ _ _ _ hx);(have a:∀ j,(j<43+u*22∨43+u*22+22<=j)->putL M (43+u*22) (uvals t d wt cp wa on du rv us) j=M j:=fun j hj=>jFy _ _ _ _ hj);refine ⟨?_,?_,?_,fun i hi=>?_,fun i hi r hr=>?_,fun v hv=>?_,fun v hv r hr=>?_,fun v hv=>?_,fun v hv=>?_,fun v hv=>?_,fun v hv m hm=>?_,fun v hv=>?_,fun v hv=>?_,fun v hv r hr=>?_,?_,fun r hr=>?_⟩
  · rw[a _ (by omega)];exact h.k
  · rw[a _ (by omega)];exact h.mg
  · rw[a _ (by omega)];exact h.ug
  · rw[a _ (by omega)];exact h.mt i hi
  · rw[a _ (by omega)];exact h.ms i hi r hr
  · by_cases e:v=u
    · subst e;have c:=b 0 _ rfl;rw[Nat.add_zero] at c;rw[c];show _=Value.bool (yy F.ut v t v);unfold yy;rw[if_pos rfl]
    · rw[a _ (by omega)];show _=Value.bool (yy F.ut u t v);unfold yy;rw[if_neg e];exact h.ut v hv
  · by_cases e:v=u
    · subst e
      rw [show 43 + v * 22 + 1 + r = 43 + v * 22 + (1 + r) by omega, b (1 + r) (.int .i64 (d r)) (by
        have : r = 0 ∨ r = 1 ∨ r = 2 ∨ r = 3 := by omega
        rcases this with rfl | rfl | rfl | rfl <;> rfl)]
      show _=Value.int .i64 (yI F.ud v d v r);rw[jA6]
    · rw[a _ (by omega)];show _=Value.int .i64 (yI F.ud u d v r);rw[jAV _ _ e];exact h.ud v hv r hr
  · by_cases e:v=u
    · subst e;rw[b 5 _ rfl];show _=Value.int .i64 (zF F.uw v wt v);unfold zF;rw[if_pos rfl]
    · rw[a _ (by omega)];show _=Value.int .i64 (zF F.uw u wt v);unfold zF;rw[if_neg e];exact h.uw v hv
  · by_cases e:v=u
    · subst e;rw[b 6 _ rfl];show _=Value.int .i64 (zF F.uc v cp v);unfold zF;rw[if_pos rfl]
    · rw[a _ (by omega)];show _=Value.int .i64 (zF F.uc u cp v);unfold zF;rw[if_neg e];exact h.uc v hv
  · by_cases e:v=u
    · subst e;rw[b 7 _ rfl];show _=Value.int .i64 (zF F.m.wait v wa v);unfold zF;rw[if_pos rfl]
    · rw[a _ (by omega)];show _=Value.int .i64 (zF F.m.wait u wa v);unfold zF;rw[if_neg e];exact h.wait v hv
  · by_cases e:v=u
    · subst e
      rw [show 43 + v * 22 + 8 + m = 43 + v * 22 + (8 + m) by omega, b (8 + m) (.int .i64 (on m)) (by
        have : m = 0 ∨ m = 1 ∨ m = 2 ∨ m = 3 ∨ m = 4 ∨ m = 5 ∨ m = 6 ∨ m = 7 := by omega
        rcases this with rfl | rfl | rfl | rfl | rfl | rfl | rfl | rfl <;> rfl)]
      show _=Value.int .i64 (yI F.m.on v on v m);rw[jA6]
    · rw[a _ (by omega)];show _=Value.int .i64 (yI F.m.on u on v m);rw[jAV _ _ e];exact h.on v hv m hm
  · by_cases e:v=u
    · subst e;rw[b 16 _ rfl];show _=Value.string (updB F.due v du v);unfold updB;rw[if_pos rfl]
    · rw[a _ (by omega)];show _=Value.string (updB F.due u du v);unfold updB;rw[if_neg e];exact h.due v hv
  · by_cases e:v=u
    · subst e;rw[b 17 _ rfl];show _=Value.int .i64 (zF F.m.rev v rv v);unfold zF;rw[if_pos rfl]
    · rw[a _ (by omega)];show _=Value.int .i64 (zF F.m.rev u rv v);unfold zF;rw[if_neg e];exact h.rev v hv
  · by_cases e:v=u
    · subst e
      rw [show 43 + v * 22 + 18 + r = 43 + v * 22 + (18 + r) by omega, b (18 + r) (.int .i64 (us r)) (by
        have : r = 0 ∨ r = 1 ∨ r = 2 ∨ r = 3 := by omega
        rcases this with rfl | rfl | rfl | rfl <;> rfl)]
      show _=Value.int .i64 (yI F.used v us v r);rw[jA6]
    · rw[a _ (by omega)];show _=Value.int .i64 (yI F.used u us v r);rw[jAV _ _ e];exact h.used v hv r hr
  · rw[a _ (by omega)];exact h.ck
  · rw[a _ (by omega)];exact h.idle r hr
theorem Enc.putMach {M:Nat->Value}{F:Flt}(h:Enc M F){q:Nat}(hq:q<8)(t:Bool)(d:Nat->Int):Enc (putL M (3+q*5) (mvals t d)) (putM F q t d):=by
  (have b:∀ j x,(mvals t d)[j]? = some x->putL M (3+q*5) (mvals t d) (3+q*5+j)=x:=fun j x hx=>jKZ _ _ _ _ _ hx);(have a:∀ j,(j<3+q*5∨3+q*5+5<=j)->putL M (3+q*5) (mvals t d) j=M j:=fun j hj=>jFy _ _ _ _ hj);refine ⟨?_,?_,?_,fun i hi=>?_,fun i hi r hr=>?_,fun v hv=>?_,fun v hv r hr=>?_,fun v hv=>?_,fun v hv=>?_,fun v hv=>?_,fun v hv m hm=>?_,fun v hv=>?_,fun v hv=>?_,fun v hv r hr=>?_,?_,fun r hr=>?_⟩
  · rw[a _ (by omega)];exact h.k
  · rw[a _ (by omega)];exact h.mg
  · rw[a _ (by omega)];exact h.ug
  · by_cases e:i=q
    · subst e;have c:=b 0 _ rfl;rw[Nat.add_zero] at c;rw[c];show _=Value.bool (yy F.mt i t i);rw[jBd]
    · rw[a _ (by omega)];show _=Value.bool (yy F.mt q t i);rw[jAe _ _ e];exact h.mt i hi
  · by_cases e:i=q
    · subst e
      rw [show 3 + i * 5 + 1 + r = 3 + i * 5 + (1 + r) by omega, b (1 + r) (.int .i64 (d r)) (by
        have : r = 0 ∨ r = 1 ∨ r = 2 ∨ r = 3 := by omega
        rcases this with rfl | rfl | rfl | rfl <;> rfl)]
      show _=Value.int .i64 (yI F.ms i d i r);rw[jA6]
    · rw[a _ (by omega)];show _=Value.int .i64 (yI F.ms q d i r);rw[jAV _ _ e];exact h.ms i hi r hr
  · rw[a _ (by omega)];exact h.ut v hv
  · rw[a _ (by omega)];exact h.ud v hv r hr
  · rw[a _ (by omega)];exact h.uw v hv
  · rw[a _ (by omega)];exact h.uc v hv
  · rw[a _ (by omega)];exact h.wait v hv
  · rw[a _ (by omega)];exact h.on v hv m hm
  · rw[a _ (by omega)];exact h.due v hv
  · rw[a _ (by omega)];exact h.rev v hv
  · rw[a _ (by omega)];exact h.used v hv r hr
  · rw[a _ (by omega)];exact h.ck
  · rw[a _ (by omega)];exact h.idle r hr
theorem Enc.setMg {M:Nat->Value}{F:Flt}(h:Enc M F)(x:Nat):Enc (xM M 1 (.int .i64 x)) { F with mg:=x }:=by
 refine ⟨?_,?_,?_,fun i hi=>?_,fun i hi r hr=>?_,fun v hv=>?_,fun v hv r hr=>?_,fun v hv=>?_,fun v hv=>?_,fun v hv=>?_,fun v hv m hm=>?_,fun v hv=>?_,fun v hv=>?_,fun v hv r hr=>?_,?_,fun r hr=>?_⟩
 ·rw[jAA _ _ (by omega)];exact h.k
 ·rw[jAs]
 ·rw[jAA _ _ (by omega)];exact h.ug
 ·rw[jAA _ _ (by omega)];exact h.mt i hi
 ·rw[jAA _ _ (by omega)];exact h.ms i hi r hr
 ·rw[jAA _ _ (by omega)];exact h.ut v hv
 ·rw[jAA _ _ (by omega)];exact h.ud v hv r hr
 ·rw[jAA _ _ (by omega)];exact h.uw v hv
 ·rw[jAA _ _ (by omega)];exact h.uc v hv
 ·rw[jAA _ _ (by omega)];exact h.wait v hv
 ·rw[jAA _ _ (by omega)];exact h.on v hv m hm
 ·rw[jAA _ _ (by omega)];exact h.due v hv
 ·rw[jAA _ _ (by omega)];exact h.rev v hv
 ·rw[jAA _ _ (by omega)];exact h.used v hv r hr
 ·rw[jAA _ _ (by omega)];exact h.ck
 ·rw[jAA _ _ (by omega)];exact h.idle r hr
theorem FL.setMg {w:World}{b:Nat}{F:Flt}(h:FL w b F)(x:Nat):FL (w.setCell ⟨b,1,none⟩ (.int .i64 x)) b { F with mg:=x }:=by
 obtain ⟨M,a,c⟩:=h;exact ⟨_,a.set _ _,c.setMg x⟩
theorem FL.cMg {w:World}{b:Nat}{F:Flt}(h:FL w b F):w.cell? ⟨b,1,none⟩=some (.int .i64 F.mg)/\w.frozen? ⟨b,1,none⟩=false:=by
 obtain ⟨M,a,c⟩:=h;rw[a.cell (by omega),c.mg];exact ⟨rfl,a.frozen _⟩
theorem Enc.setUg {M:Nat->Value}{F:Flt}(h:Enc M F)(x:Nat):Enc (xM M 2 (.int .i64 x)) { F with ug:=x }:=by
 refine ⟨?_,?_,?_,fun i hi=>?_,fun i hi r hr=>?_,fun v hv=>?_,fun v hv r hr=>?_,fun v hv=>?_,fun v hv=>?_,fun v hv=>?_,fun v hv m hm=>?_,fun v hv=>?_,fun v hv=>?_,fun v hv r hr=>?_,?_,fun r hr=>?_⟩
 ·rw[jAA _ _ (by omega)];exact h.k
 ·rw[jAA _ _ (by omega)];exact h.mg
 ·rw[jAs]
 ·rw[jAA _ _ (by omega)];exact h.mt i hi
 ·rw[jAA _ _ (by omega)];exact h.ms i hi r hr
 ·rw[jAA _ _ (by omega)];exact h.ut v hv
 ·rw[jAA _ _ (by omega)];exact h.ud v hv r hr
 ·rw[jAA _ _ (by omega)];exact h.uw v hv
 ·rw[jAA _ _ (by omega)];exact h.uc v hv
 ·rw[jAA _ _ (by omega)];exact h.wait v hv
 ·rw[jAA _ _ (by omega)];exact h.on v hv m hm
 ·rw[jAA _ _ (by omega)];exact h.due v hv
 ·rw[jAA _ _ (by omega)];exact h.rev v hv
 ·rw[jAA _ _ (by omega)];exact h.used v hv r hr
 ·rw[jAA _ _ (by omega)];exact h.ck
 ·rw[jAA _ _ (by omega)];exact h.idle r hr
theorem FL.setUg {w:World}{b:Nat}{F:Flt}(h:FL w b F)(x:Nat):FL (w.setCell ⟨b,2,none⟩ (.int .i64 x)) b { F with ug:=x }:=by
 obtain ⟨M,a,c⟩:=h;exact ⟨_,a.set _ _,c.setUg x⟩
theorem FL.cUg {w:World}{b:Nat}{F:Flt}(h:FL w b F):w.cell? ⟨b,2,none⟩=some (.int .i64 F.ug)/\w.frozen? ⟨b,2,none⟩=false:=by
 obtain ⟨M,a,c⟩:=h;rw[a.cell (by omega),c.ug];exact ⟨rfl,a.frozen _⟩
theorem FL.cK {w:World}{b:Nat}{F:Flt}(h:FL w b F):w.cell? ⟨b,0,none⟩=some (.int .i64 F.k):=by
 obtain ⟨M,a,c⟩:=h;rw[a.cell (by omega),c.k]
theorem FL.putUser {w:World}{b:Nat}{F:Flt}(h:FL w b F){u:Nat}(hu:u<6)(t:Bool)(d:Nat->Int)(wt cp wa:Int)(on:Nat->Int)(du:ByteArray)(rv:Int)(us:Nat->Int):FL (w.setCells b (43+u*22) (uvals t d wt cp wa on du rv us)) b (putU F u t d wt cp wa on du rv us):=by
 obtain ⟨M,a,c⟩:=h;exact ⟨_,a.setCells (w:=w) _ _,c.putUser hu t d wt cp wa on du rv us⟩
theorem FL.putMach {w:World}{b:Nat}{F:Flt}(h:FL w b F){q:Nat}(hq:q<8)(t:Bool)(d:Nat->Int):FL (w.setCells b (3+q*5) (mvals t d)) b (putM F q t d):=by
 obtain ⟨M,a,c⟩:=h;exact ⟨_,a.setCells (w:=w) _ _,c.putMach hq t d⟩
theorem FL.there {w:World}{b:Nat}{F:Flt}(h:FL w b F){o n:Nat}(hn:o+n<=180):w.there b o n:=by
 obtain ⟨M,a,c⟩:=h;exact a.there hn
end Go.Proofs.YtigokanoflkinabGreatDoor
