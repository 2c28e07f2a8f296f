/- portionkeep: ints, told, alike. (Laid by mkbkre.py.) -/
import Derived.Test.YtigokanoflkinabGreatDoorBkDP
import Derived.Test.YtigokanoflkinabGreatDoorBkTv
set_option maxHeartbeats 16000000
set_option maxRecDepth 20000
namespace Go.Proofs.YtigokanoflkinabGreatDoor
set_option linter.unusedSimpArgs false
set_option linter.unusedVariables false
open Go.RowKit Por
theorem jCj (ao bo:Option Addr)(n ac bc:Nat)(f:Nat->Int)(w:World)(ha:CellsF w ao n (fun i=>.int .i64 (f i)))(hb:CellsF w bo n (fun i=>.int .i64 (f i)))(hn:n<=1000):Calls Tryz.prog 63 #[.slice ao n ac,.slice bo n bc] w fun e w'=>e = .returned (.bool true)/\Below w.heap.size w w':=by
 have k:=hid ha;have l:=hid hb;clear ha hb;go_enter Tryz.func63,Tryz.ntmps63;(have s:((n:Int) == (n:Int))=true:=by simp);go_wp2;clear s
 go_loopg[5] n (fun gg ix wr=>∃ i:Nat,gg=n - i/\i<=n/\ix = .int .i64 i/\Hid (Below w.heap.size w wr))
 case atStart=>exact ⟨0,rfl,Nat.zero_le _,rfl,Below.refl _ _⟩
 case round=>
  obtain ⟨i,p,v,rfl,a⟩:=hrel;by_cases b:i<n
  ·(have d:(i:Int)<(n:Int):=by omega);obtain ⟨t,y,m,q,g⟩:=k.out.below a.out i b;obtain ⟨u,z,o,r,h⟩:=l.out.below a.out i b;subst m;subst o;dsimp only at g h;obtain ⟨x,j⟩:∃ x,f i=x:=⟨_,rfl⟩;rw[j] at g h;clear j;(have A:(x == x)=true:=by simp);(go_upto_region 6 with fail);go_quiet (fail);have c:Hid (Below w.heap.size w (wr.drewN nq)):=a.out.trans ((below_drewN (brw wr) nq).mono a.out.size);go_wp2;go_roundg (n - (i+1));(case measure=>omega);case rel=>exact ⟨i+1,rfl,by omega,by go_num,c.out⟩
  ·(obtain rfl:i=n:=by omega);(have d:¬ (i:Int)<(i:Int):=by omega);go_wp2;go_ret;exact ⟨rfl,a.out⟩
theorem jCF (c:Bool)(w:World):Calls Tryz.prog 64 #[.int .i64 (zw c),.bool c] w fun e w'=>e = .returned (.bool true)/\w'=w:=by
 cases c with
 | false=>go_enter Tryz.func64,Tryz.ntmps64;go_wp2;go_ret;exact ⟨rfl,rfl⟩
 | true=>go_enter Tryz.func64,Tryz.ntmps64;go_wp2;go_ret;exact ⟨rfl,rfl⟩
theorem jLm (F:Flt):(yi F 7 ++ ieL F 5).length=124:=by
 rw[List.length_append,jDB];simp[ieL]
theorem jKm (c:Bool)(v z:Value):xG c v z = .tuple #[if c then v else z,.int .i64 (zw c)]:=by cases c <;> rfl
theorem jC0 {e:Ending}{c:Bool}{v z:Value}(h:e = .returned (xG c v z)):∃ x,e = .returned (.tuple #[x,.int .i64 (zw c)]):=⟨_,by rw[h,jKm]⟩
theorem jLi (x:ByteArray):∃ L:List UInt8,x=⟨L.toArray⟩:=⟨x.data.toList,by cases x;simp⟩
theorem jD6 (s t:Nat)(F:Flt)(w:World)(h1:TV w s F)(h2:TV w t F):Calls Tryz.prog 31 #[.pointer (some ⟨s,0,none⟩),.pointer (some ⟨t,0,none⟩)] w fun e w'=>e = .returned (.bool true)/\Below w.heap.size w w':=by
 obtain ⟨aP,aq,ad,aa,aT,aR,Y,W,aV,au,Q,O,aJ,aA,aH,az,h1⟩:=h1;obtain ⟨aQ,ar,ae,ab,aU,aS,Z,X,aW,aw,R,P,aK,ay,aI,ax,h2⟩:=h2;(obtain rfl:ax=az:=by rw[h1.elq,h2.elq]);(obtain rfl:ay=aA:=by rw[h1.enq,h2.enq]);(have aB:ay=124:=by rw[h2.enq,h2.elq,jLm]);subst aB;have f:=hid h1;have j:=hid h2;clear h1 h2;go_enter Tryz.func31,Tryz.ntmps31;go_wp2
 go_loopg[5] 7 (fun gg ix wr=>∃ u:Nat,gg=7 - u/\u<=7/\ix = .int .i64 u/\Hid (Below w.heap.size w wr))
 case atStart=>exact ⟨0,rfl,Nat.zero_le _,rfl,Below.refl _ _⟩
 case round=>
  obtain ⟨u,aM,aO,rfl,a⟩:=hrel;by_cases hu:u<7
  ·obtain ⟨V,c⟩:∃ U,U=wr:=⟨_,rfl⟩;rw[<- c] at a ⊢;clear c;(have aD:(u:Int)<7:=by omega);have aG:=(f.out.below a.out).box.lt;have x0:=(f.out.below a.out).box.cell 0 _ rfl;(go_upto_region 4 with fail);clear aG x0;have d:=(f.out.below a.out).box.lt;have g:=(j.out.below a.out).box.lt;have l:=(f.out.below a.out).box.cell 0 _ rfl;have n:=(j.out.below a.out).box.cell 0 _ rfl;obtain ⟨x,z,B,I,q1,am,G,a1,S,r1⟩:=(f.out.below a.out).run u hu;obtain ⟨y,A,D,J,q2,an,H,b1,T,r2⟩:=(j.out.below a.out).run u hu;subst am;subst an;(have M:CellsF V (some ⟨B,I,none⟩) 9 (fun i=>.int .i64 (yL F u i)):=fun m hm=>⟨B,I,rfl,S,r1 m hm⟩);(have N:CellsF V (some ⟨D,J,none⟩) 9 (fun i=>.int .i64 (yL F u i)):=fun m hm=>⟨D,J,rfl,T,r2 m hm⟩);clear r1 r2 S T;(have k:Hid (∀ U,Below V.heap.size V U->U.cell? ⟨s,0,none⟩=some (.slice (some ⟨x,z,none⟩) 7 aq)/\U.cell? ⟨t,0,none⟩=some (.slice (some ⟨y,A,none⟩) 7 ar)/\U.cell? ⟨x,z+u,none⟩=some (.slice (some ⟨B,I,none⟩) 9 q1)/\U.cell? ⟨y,A+u,none⟩=some (.slice (some ⟨D,J,none⟩) 9 q2)):=fun U h=>⟨(h.cell (p:=⟨s,0,none⟩) d).trans l,(h.cell (p:=⟨t,0,none⟩) g).trans n,(h.cell (p:=⟨x,z+u,none⟩) G).trans a1,(h.cell (p:=⟨y,A+u,none⟩) H).trans b1⟩);(have K:Hid (∀ U,Below V.heap.size V U->Calls Tryz.prog 63 #[.slice (some ⟨B,I,none⟩) 9 q1,.slice (some ⟨D,J,none⟩) 9 q2] U (fun e w'=>e = .returned (.bool true)/\Below V.heap.size V w')):=fun U h=>(jCj (some ⟨B,I,none⟩) (some ⟨D,J,none⟩) 9 q1 q2 (fun i=>yL F u i) U (M.below h) (N.below h) (by omega)).mono (fun e w' ⟨h8,h9⟩=>⟨h8,h.trans (h9.mono h.size)⟩));have o:V.drew.cell? ⟨s,0,none⟩=some (.slice (some ⟨x,z,none⟩) 7 aq):=((brw V).drew.cell (p:=⟨s,0,none⟩) d).trans l;have q:V.drew.cell? ⟨t,0,none⟩=some (.slice (some ⟨y,A,none⟩) 7 ar):=((brw V).drew.cell (p:=⟨t,0,none⟩) g).trans n;have af:V.drew.cell? ⟨x,z+u,none⟩=some (.slice (some ⟨B,I,none⟩) 9 q1):=((brw V).drew.cell (p:=⟨x,z+u,none⟩) G).trans a1;have ag:V.drew.cell? ⟨y,A+u,none⟩=some (.slice (some ⟨D,J,none⟩) 9 q2):=((brw V).drew.cell (p:=⟨y,A+u,none⟩) H).trans b1;go_region_held3 (fun w'=>w'.cell? ⟨s,0,none⟩=some (.slice (some ⟨x,z,none⟩) 7 aq)/\w'.cell? ⟨t,0,none⟩=some (.slice (some ⟨y,A,none⟩) 7 ar)/\w'.cell? ⟨x,z+u,none⟩=some (.slice (some ⟨B,I,none⟩) 9 q1)/\w'.cell? ⟨y,A+u,none⟩=some (.slice (some ⟨D,J,none⟩) 9 q2)) (first | exact k.out _ brf.drew | exact k.out _ ah) (first | (go_at_call 63;refine (K.out _ brf.drew).mono ?_;rintro e1 w1 ⟨rfl,ah⟩));have b:Hid (Below w.heap.size w w1):=a.out.trans (ah.mono a.out.size);clear k K ah a l o n q a1 af b1 ag M N;obtain ⟨V,c⟩:∃ U,U=w1:=⟨_,rfl⟩;rw[<- c] at b ⊢;clear c;have a:=b;clear b;clear d g G H;(go_upto_region 5 with fail);have d:=(f.out.below a.out).box.lt;have g:=(j.out.below a.out).box.lt;have l:=(f.out.below a.out).box.cell 4 _ rfl;have n:=(j.out.below a.out).box.cell 4 _ rfl;obtain ⟨x,z,B,I,q1,am,G,a1,S,r1⟩:=(f.out.below a.out).used u hu;obtain ⟨y,A,D,J,q2,an,H,b1,T,r2⟩:=(j.out.below a.out).used u hu;subst am;subst an;(have M:CellsF V (some ⟨B,I,none⟩) 5 (fun i=>.int .i64 (yK F u i)):=fun m hm=>⟨B,I,rfl,S,r1 m hm⟩);(have N:CellsF V (some ⟨D,J,none⟩) 5 (fun i=>.int .i64 (yK F u i)):=fun m hm=>⟨D,J,rfl,T,r2 m hm⟩);clear r1 r2 S T;(have k:Hid (∀ U,Below V.heap.size V U->U.cell? ⟨s,4,none⟩=some (.slice (some ⟨x,z,none⟩) 7 au)/\U.cell? ⟨t,4,none⟩=some (.slice (some ⟨y,A,none⟩) 7 aw)/\U.cell? ⟨x,z+u,none⟩=some (.slice (some ⟨B,I,none⟩) 5 q1)/\U.cell? ⟨y,A+u,none⟩=some (.slice (some ⟨D,J,none⟩) 5 q2)):=fun U h=>⟨(h.cell (p:=⟨s,4,none⟩) d).trans l,(h.cell (p:=⟨t,4,none⟩) g).trans n,(h.cell (p:=⟨x,z+u,none⟩) G).trans a1,(h.cell (p:=⟨y,A+u,none⟩) H).trans b1⟩);(have K:Hid (∀ U,Below V.heap.size V U->Calls Tryz.prog 63 #[.slice (some ⟨B,I,none⟩) 5 q1,.slice (some ⟨D,J,none⟩) 5 q2] U (fun e w'=>e = .returned (.bool true)/\Below V.heap.size V w')):=fun U h=>(jCj (some ⟨B,I,none⟩) (some ⟨D,J,none⟩) 5 q1 q2 (fun i=>yK F u i) U (M.below h) (N.below h) (by omega)).mono (fun e w' ⟨h8,h9⟩=>⟨h8,h.trans (h9.mono h.size)⟩));have o:V.drew.cell? ⟨s,4,none⟩=some (.slice (some ⟨x,z,none⟩) 7 au):=((brw V).drew.cell (p:=⟨s,4,none⟩) d).trans l;have q:V.drew.cell? ⟨t,4,none⟩=some (.slice (some ⟨y,A,none⟩) 7 aw):=((brw V).drew.cell (p:=⟨t,4,none⟩) g).trans n;have af:V.drew.cell? ⟨x,z+u,none⟩=some (.slice (some ⟨B,I,none⟩) 5 q1):=((brw V).drew.cell (p:=⟨x,z+u,none⟩) G).trans a1;have ag:V.drew.cell? ⟨y,A+u,none⟩=some (.slice (some ⟨D,J,none⟩) 5 q2):=((brw V).drew.cell (p:=⟨y,A+u,none⟩) H).trans b1;go_region_held3 (fun w'=>w'.cell? ⟨s,4,none⟩=some (.slice (some ⟨x,z,none⟩) 7 au)/\w'.cell? ⟨t,4,none⟩=some (.slice (some ⟨y,A,none⟩) 7 aw)/\w'.cell? ⟨x,z+u,none⟩=some (.slice (some ⟨B,I,none⟩) 5 q1)/\w'.cell? ⟨y,A+u,none⟩=some (.slice (some ⟨D,J,none⟩) 5 q2)) (first | exact k.out _ brf.drew | exact k.out _ ai) (first | (go_at_call 63;refine (K.out _ brf.drew).mono ?_;rintro e2 w2 ⟨rfl,ai⟩));have b:Hid (Below w.heap.size w w2):=a.out.trans (ai.mono a.out.size);clear k K ai a l o n q a1 af b1 ag M N;obtain ⟨V,c⟩:∃ U,U=w2:=⟨_,rfl⟩;rw[<- c] at b ⊢;clear c;have a:=b;clear b;clear d g G H;have r:=hid (f.out.below a.out);have v:=hid (j.out.below a.out);have d:=r.out.box.lt;have g:=v.out.box.lt;have a2:=r.out.box.cell 2 _ rfl;have b2:=v.out.box.cell 2 _ rfl;obtain ⟨g3,o3,ao,aE,a3⟩:=r.out.due u hu;obtain ⟨g4,o4,ap,aF,b3⟩:=v.out.due u hu;subst ao;subst ap;dsimp only at a3 b3;obtain ⟨L,hL⟩:=jLi (dueV F u);rw[hL] at a3 b3;clear hL;(have e1:(L == L)=true:=by simp);(go_upto_region 6 with fail);go_quiet (fail);have b:Hid (Below w.heap.size w (V.drewN nq)):=a.out.trans ((below_drewN (brw V) nq).mono a.out.size);go_wp2;go_roundg (7 - (u+1));(case measure=>omega);case rel=>exact ⟨u+1,rfl,by omega,by go_num,b.out⟩
  ·(obtain rfl:u=7:=by omega);(have aD:¬ ((7:Nat):Int)<7:=by omega);have d:=(f.out.below a.out).box.lt;have x0:=(f.out.below a.out).box.cell 0 _ rfl;go_wp2;clear d x0
   go_loopg[8] 124 (fun gg ix wr=>∃ i:Nat,gg=124 - i/\i<=124/\ix = .int .i64 i/\Hid (Below w.heap.size w wr))
   case atStart=>exact ⟨0,rfl,Nat.zero_le _,rfl,a.out⟩
   case round=>
    clear a;obtain ⟨i,aL,aN,rfl,a⟩:=hrel;obtain ⟨V,c⟩:∃ U,U=wr:=⟨_,rfl⟩;rw[<- c] at a ⊢;clear c;have r:=hid (f.out.below a.out);have v:=hid (j.out.below a.out);have d:=r.out.box.lt;have g:=v.out.box.lt;have a7:=r.out.box.cell 7 _ rfl;by_cases hi:i<124
    ·(have aC:(i:Int)<124:=by omega);have b7:=v.out.box.cell 7 _ rfl;obtain ⟨g3,o3,ao,aE,a3⟩:=r.out.errs i hi;obtain ⟨g4,o4,ap,aF,b3⟩:=v.out.errs i hi;subst ao;subst ap;dsimp only at a3 b3;obtain ⟨E,hE⟩:∃ E,lm ax i=E:=⟨_,rfl⟩;rw[hE] at a3 b3;clear hE;(have e1:(E == E)=true:=by simp);(go_upto_region 11 with fail);go_quiet (fail);have b:Hid (Below w.heap.size w (V.drewN nq)):=a.out.trans ((below_drewN (brw V) nq).mono a.out.size);go_wp2;go_roundg (124 - (i+1));(case measure=>omega);case rel=>exact ⟨i+1,rfl,by omega,by go_num,b.out⟩
    ·(obtain rfl:i=124:=by omega);(have aC:¬ ((124:Nat):Int)<124:=by omega);(go_upto_region 13 with fail);clear a7 d g r v;have d:=(f.out.below a.out).box.lt;have g:=(j.out.below a.out).box.lt;have l:=(f.out.below a.out).box.cell 1 _ rfl;have n:=(j.out.below a.out).box.cell 1 _ rfl;have M:=(f.out.below a.out).wait;have N:=(j.out.below a.out).wait;(have k:Hid (∀ U,Below V.heap.size V U->U.cell? ⟨s,1,none⟩=some (.slice ad 7 aa)/\U.cell? ⟨t,1,none⟩=some (.slice ae 7 ab)):=fun U h=>⟨(h.cell (p:=⟨s,1,none⟩) d).trans l,(h.cell (p:=⟨t,1,none⟩) g).trans n⟩);(have K:Hid (∀ U,Below V.heap.size V U->Calls Tryz.prog 63 #[.slice ad 7 aa,.slice ae 7 ab] U (fun e w'=>e = .returned (.bool true)/\Below V.heap.size V w')):=fun U h=>(jCj ad ae 7 aa ab (fun i=>ym F i) U (M.below h) (N.below h) (by omega)).mono (fun e w' ⟨h8,h9⟩=>⟨h8,h.trans (h9.mono h.size)⟩));have o:V.drew.cell? ⟨s,1,none⟩=some (.slice ad 7 aa):=((brw V).drew.cell (p:=⟨s,1,none⟩) d).trans l;have q:V.drew.cell? ⟨t,1,none⟩=some (.slice ae 7 ab):=((brw V).drew.cell (p:=⟨t,1,none⟩) g).trans n;go_region_held3 (fun w'=>w'.cell? ⟨s,1,none⟩=some (.slice ad 7 aa)/\w'.cell? ⟨t,1,none⟩=some (.slice ae 7 ab)) (first | exact k.out _ brf.drew | exact k.out _ aj) (first | (go_at_call 63;refine (K.out _ brf.drew).mono ?_;rintro e3 w3 ⟨rfl,aj⟩));have b:Hid (Below w.heap.size w w3):=a.out.trans (aj.mono a.out.size);clear k K aj a l o n q M N;obtain ⟨V,c⟩:∃ U,U=w3:=⟨_,rfl⟩;rw[<- c] at b ⊢;clear c;have a:=b;clear b;clear d g;(go_upto_region 14 with fail);have d:=(f.out.below a.out).box.lt;have g:=(j.out.below a.out).box.lt;have l:=(f.out.below a.out).box.cell 3 _ rfl;have n:=(j.out.below a.out).box.cell 3 _ rfl;have M:=(f.out.below a.out).off;have N:=(j.out.below a.out).off;(have k:Hid (∀ U,Below V.heap.size V U->U.cell? ⟨s,3,none⟩=some (.slice Y 7 W)/\U.cell? ⟨t,3,none⟩=some (.slice Z 7 X)):=fun U h=>⟨(h.cell (p:=⟨s,3,none⟩) d).trans l,(h.cell (p:=⟨t,3,none⟩) g).trans n⟩);(have K:Hid (∀ U,Below V.heap.size V U->Calls Tryz.prog 63 #[.slice Y 7 W,.slice Z 7 X] U (fun e w'=>e = .returned (.bool true)/\Below V.heap.size V w')):=fun U h=>(jCj Y Z 7 W X (fun i=>yW F i) U (M.below h) (N.below h) (by omega)).mono (fun e w' ⟨h8,h9⟩=>⟨h8,h.trans (h9.mono h.size)⟩));have o:V.drew.cell? ⟨s,3,none⟩=some (.slice Y 7 W):=((brw V).drew.cell (p:=⟨s,3,none⟩) d).trans l;have q:V.drew.cell? ⟨t,3,none⟩=some (.slice Z 7 X):=((brw V).drew.cell (p:=⟨t,3,none⟩) g).trans n;go_region_held3 (fun w'=>w'.cell? ⟨s,3,none⟩=some (.slice Y 7 W)/\w'.cell? ⟨t,3,none⟩=some (.slice Z 7 X)) (first | exact k.out _ brf.drew | exact k.out _ ak) (first | (go_at_call 63;refine (K.out _ brf.drew).mono ?_;rintro e4 w4 ⟨rfl,ak⟩));have b:Hid (Below w.heap.size w w4):=a.out.trans (ak.mono a.out.size);clear k K ak a l o n q M N;obtain ⟨V,c⟩:∃ U,U=w4:=⟨_,rfl⟩;rw[<- c] at b ⊢;clear c;have a:=b;clear b;clear d g;(go_upto_region 15 with fail);have d:=(f.out.below a.out).box.lt;have g:=(j.out.below a.out).box.lt;have l:=(f.out.below a.out).box.cell 5 _ rfl;have n:=(j.out.below a.out).box.cell 5 _ rfl;have M:=(f.out.below a.out).idle;have N:=(j.out.below a.out).idle;(have k:Hid (∀ U,Below V.heap.size V U->U.cell? ⟨s,5,none⟩=some (.slice Q 5 O)/\U.cell? ⟨t,5,none⟩=some (.slice R 5 P)):=fun U h=>⟨(h.cell (p:=⟨s,5,none⟩) d).trans l,(h.cell (p:=⟨t,5,none⟩) g).trans n⟩);(have K:Hid (∀ U,Below V.heap.size V U->Calls Tryz.prog 63 #[.slice Q 5 O,.slice R 5 P] U (fun e w'=>e = .returned (.bool true)/\Below V.heap.size V w')):=fun U h=>(jCj Q R 5 O P (fun i=>yq F i) U (M.below h) (N.below h) (by omega)).mono (fun e w' ⟨h8,h9⟩=>⟨h8,h.trans (h9.mono h.size)⟩));have o:V.drew.cell? ⟨s,5,none⟩=some (.slice Q 5 O):=((brw V).drew.cell (p:=⟨s,5,none⟩) d).trans l;have q:V.drew.cell? ⟨t,5,none⟩=some (.slice R 5 P):=((brw V).drew.cell (p:=⟨t,5,none⟩) g).trans n;go_region_held3 (fun w'=>w'.cell? ⟨s,5,none⟩=some (.slice Q 5 O)/\w'.cell? ⟨t,5,none⟩=some (.slice R 5 P)) (first | exact k.out _ brf.drew | exact k.out _ al) (first | (go_at_call 63;refine (K.out _ brf.drew).mono ?_;rintro e5 w5 ⟨rfl,al⟩));have b:Hid (Below w.heap.size w w5):=a.out.trans (al.mono a.out.size);clear k K al a l o n q M N;obtain ⟨V,c⟩:∃ U,U=w5:=⟨_,rfl⟩;rw[<- c] at b ⊢;clear c;have a:=b;clear b;clear d g;have d:=(f.out.below a.out).box.lt;have g:=(j.out.below a.out).box.lt;have a6:=(f.out.below a.out).box.cell 6 _ rfl;have b6:=(j.out.below a.out).box.cell 6 _ rfl;obtain ⟨C,hC⟩:∃ C,F.ck=C:=⟨_,rfl⟩;rw[hC] at a6 b6;clear hC;(have e1:(C == C)=true:=by simp);(go_upto_region 16 with fail);go_quiet (fail);have b:Hid (Below w.heap.size w (V.drewN nq)):=a.out.trans ((below_drewN (brw V) nq).mono a.out.size);go_wp2;go_ret;exact ⟨rfl,b.out⟩
theorem jNP {R:Int}{F:Flt}(h:FWf R F)(x:Int):(¬ 0<=x/\zJ F x=false/\zX F x=false)∨(0<=x/\¬ x<(F.ug:Int)/\zJ F x=false/\zX F x=false)∨(0<=x/\x<(F.ug:Int)/\zJ F x=false/\zX F x=true)∨(0<=x/\x<(F.ug:Int)/\zJ F x=true/\zX F x=true):=by
 by_cases a:0<=x
 ·by_cases b:x<(F.ug:Int)
  ·have c:zX F x=true:=by unfold zX;rw[decide_eq_true a,decide_eq_true b];rfl
   cases g:zJ F x with
   | false=>exact .inr (.inr (.inl ⟨a,b,rfl,c⟩))
   | true=>exact .inr (.inr (.inr ⟨a,b,rfl,c⟩))
  ·have c:zX F x=false:=by unfold zX;rw[decide_eq_true a,decide_eq_false b];rfl
   have d:zJ F x=false:=by
    unfold zJ;by_cases e:x<6
    ·cases f:F.ut x.toNat with
     | false=>simp
     | true=>have:=h.ut x.toNat (by omega) f;omega
    ·rw[decide_eq_false e];simp
   exact .inr (.inl ⟨a,b,d,c⟩)
 ·exact .inl ⟨a,by unfold zJ;rw[decide_eq_false a];simp,by unfold zX;rw[decide_eq_false a];simp⟩
theorem jNO (F:Flt)(x:Int):(¬ 0<=x/\zi F x=false/\zh F x=false)∨(0<=x/\¬ x<(F.k:Int)/\zi F x=false/\zh F x=false)∨(0<=x/\¬ x<(F.k:Int)/\zi F x=true/\zh F x=false)∨(0<=x/\x<(F.k:Int)/\zi F x=false/\zh F x=true)∨(0<=x/\x<(F.k:Int)/\zi F x=true/\zh F x=true):=by
 by_cases a:0<=x
 ·by_cases b:x<(F.k:Int)
  ·have c:zh F x=true:=by unfold zh;rw[decide_eq_true a,decide_eq_true b];rfl
   cases d:zi F x with
   | false=>exact .inr (.inr (.inr (.inl ⟨a,b,rfl,c⟩)))
   | true=>exact .inr (.inr (.inr (.inr ⟨a,b,rfl,c⟩)))
  ·have c:zh F x=false:=by unfold zh;rw[decide_eq_true a,decide_eq_false b];rfl
   cases d:zi F x with
   | false=>exact .inr (.inl ⟨a,b,rfl,c⟩)
   | true=>exact .inr (.inr (.inl ⟨a,b,rfl,c⟩))
 ·exact .inl ⟨a,by unfold zi;rw[decide_eq_false a];simp,by unfold zh;rw[decide_eq_false a];simp⟩
theorem jEX (b fb:Nat)(R:Int)(F:Flt)(sp:List Int)(w:World)(hv:VW w b fb F sp)(hw:FWf R F):Calls Tryz.prog 32 #[.pointer (some ⟨b,0,none⟩)] w fun e w'=>e = .returned (.bool true)/\w'=w:=by
  have i:=hid hv;obtain ⟨so,sc,uo,uc,ho,hc,lo,lc,po,pc,hv⟩:=hv;have d:=hid hv;have s:=hid hw;have o:=hw.ug;have n:=hw.k4;have lb:=hv.box.lt;have Y:=hv.box.cell 0 _ rfl;have Z:=hv.box.cell 1 _ rfl;have c3:=hv.box.cell 3 _ rfl;clear hv hw;go_enter Tryz.func32,Tryz.ntmps32;go_wp2
  go_loopg[3] 8 (fun gg ix wr=>∃ x:Int,gg=(7 - x).toNat/\-1<=x/\x<=7/\ix = .int .i64 x/\wr=w)
  case atStart=>exact ⟨-1,rfl,by decide,by decide,rfl,rfl⟩
  case round=>
    obtain ⟨x,J,O,P,rfl,rfl⟩:=hrel;by_cases hx:x<=6
    · rcases jNP s.out x with ⟨j,m,l⟩ | ⟨j,r,m,l⟩ | ⟨j,r,m,l⟩ | ⟨j,r,m,l⟩
      all_goals
        have q := hid m
        have t := hid l
        clear m l
        first | have y : decide (0 <= x) = true := decide_eq_true j | have y : decide (0 <= x) = false := decide_eq_false j
        try first | have z : decide (x < (F.ug : Int)) = true := decide_eq_true r | have z : decide (x < (F.ug : Int)) = false := decide_eq_false r
        go_wp2_with fail
        refine (jDx b fb R F sp x _ i.out s.out).mono ?_
        rintro e1 w1 ⟨c, a⟩
        obtain rfl := a.symm
        rw [q.out] at c
        subst c
        go_wp2_with fail
        refine (Waiting_any fb F x _ d.out.fl).mono ?_
        rintro e2 w2 ⟨c, a⟩
        obtain rfl := a.symm
        simp only [q.out, Bool.true_and, Bool.false_and, Bool.and_true, Bool.and_false] at c
        obtain ⟨x2, rfl⟩ := jC0 c
        go_wp2_with fail
        refine (Due_any fb F x _ d.out.fl).mono ?_
        rintro e3 w3 ⟨c, a⟩
        obtain rfl := a.symm
        simp only [q.out, Bool.true_and, Bool.false_and, Bool.and_true, Bool.and_false] at c
        obtain ⟨x3, rfl⟩ := jC0 c
        go_wp2_with fail
        refine (Revoked_any fb F x _ d.out.fl o).mono ?_
        rintro e4 w4 ⟨c, a⟩
        obtain rfl := a.symm
        simp only [t.out, Bool.true_and, Bool.false_and, Bool.and_true, Bool.and_false] at c
        obtain ⟨x4, rfl⟩ := jC0 c
        go_wp2_with fail
        refine (jCF _ _).mono ?_
        rintro e5 w5 ⟨rfl, a⟩
        obtain rfl := a.symm
        go_wp2_with fail
        refine (jCF _ _).mono ?_
        rintro e6 w6 ⟨rfl, a⟩
        obtain rfl := a.symm
        go_wp2_with fail
        refine (jCF _ _).mono ?_
        rintro e7 w7 ⟨rfl, a⟩
        obtain rfl := a.symm
        go_wp2
        go_loopg [12, 13, 14, 15] 10 (fun gg y1 y2 y3 ix wq => ∃ k : Int, gg = (9 - k).toNat /\ -1 <= k /\ k <= 9 /\ y1 = .bool true /\ y2 = .bool true /\ y3 = .bool true /\ ix = .int .i64 k /\ wq = wr)
        case atStart => exact ⟨-1, rfl, by decide, by decide, rfl, rfl, rfl, rfl, rfl⟩
        case round =>
          obtain ⟨k, I, L, M, rfl, rfl, rfl, rfl, rfl⟩ := hrel
          by_cases K : k <= 8
          · rcases jNO F k with ⟨h, g, f⟩ | ⟨h, p, g, f⟩ | ⟨h, p, g, f⟩ | ⟨h, p, g, f⟩ | ⟨h, p, g, f⟩
            all_goals
              have v := hid g
              have u := hid f
              clear g f
              first | have A : decide (0 <= k) = true := decide_eq_true h | have A : decide (0 <= k) = false := decide_eq_false h
              try first | have B : decide (k < (F.k : Int)) = true := decide_eq_true p | have B : decide (k < (F.k : Int)) = false := decide_eq_false p
              go_wp2_with fail
              refine (jCn b fb R F sp k _ i.out s.out).mono ?_
              rintro e8 w8 ⟨c, a⟩
              obtain rfl := a.symm
              rw [v.out] at c
              subst c
              go_wp2_with fail
              refine (Running_any fb F x k _ d.out.fl).mono ?_
              rintro e9 w9 ⟨c, a⟩
              obtain rfl := a.symm
              simp only [q.out, v.out, Bool.true_and, Bool.false_and, Bool.and_true, Bool.and_false] at c
              obtain ⟨x9, rfl⟩ := jC0 c
              go_wp2_with fail
              refine (Used_any fb F x k _ d.out.fl o n).mono ?_
              rintro C Q ⟨c, a⟩
              obtain rfl := a.symm
              simp only [t.out, u.out, Bool.true_and, Bool.false_and, Bool.and_true, Bool.and_false] at c
              obtain ⟨W, rfl⟩ := jC0 c
              go_wp2_with fail
              refine (Idle_any fb F k _ d.out.fl n).mono ?_
              rintro D S ⟨c, a⟩
              obtain rfl := a.symm
              simp only [u.out, Bool.true_and, Bool.false_and, Bool.and_true, Bool.and_false] at c
              obtain ⟨X, rfl⟩ := jC0 c
              go_wp2_with fail
              refine (jCF _ _).mono ?_
              rintro E T ⟨rfl, a⟩
              obtain rfl := a.symm
              go_wp2_with fail
              refine (jCF _ _).mono ?_
              rintro G U ⟨rfl, a⟩
              obtain rfl := a.symm
              go_wp2_with fail
              refine (jCF _ _).mono ?_
              rintro H V ⟨rfl, a⟩
              obtain rfl := a.symm
              go_wp2
              go_roundg ((9 - (k + 1)).toNat)
              case measure => omega
              case rel => exact ⟨k + 1, rfl, by omega, by omega, rfl, rfl, rfl, by go_num, rfl⟩
          · have N : ¬ k <= 8 := K
            go_wp2
            go_roundg ((7 - (x + 1)).toNat)
            case measure => omega
            case rel => exact ⟨x + 1, rfl, by omega, by omega, by go_num, rfl⟩
    · go_wp2;go_ret;exact ⟨rfl,rfl⟩
theorem jF9:Holds 5:=by
 intro ab b y sb B R F G S sv uv hv lv pv ss ps o N P O T w hb hf ha Y hr Z ad hR hs W J ht;obtain ⟨Q,K,L,M,xs,s⟩:=o;have C:=hid Y;have z:=hid J.tv;have A:Hid (VW w b y G S.sp):=by obtain ⟨s1,s2,s3,s4,s5,s6,s7,s8,s9,ae,_,_,_,_,_,h9⟩:=hb.vw hf ha Y;exact h9.vw
 have HE:Hid (T≠0->G=F):=fun D=>by
  rcases hs with ⟨_,U⟩ | ⟨U,_⟩
  ·exact U
  ·exact absurd U D
 clear hb hf ha Y hr Z hs J ht W;dsimp only;have p:=hid (brw w);have t:=hid (jAC w #[.int .i64 Q,.int .i64 K,.int .i64 L,.int .i64 M,.slice N P O,.bool s] 30);have n:Hid (Below w.heap.size w (w.alloc (.cells #[.int .i64 Q,.int .i64 K,.int .i64 L,.int .i64 M,.slice N P O,.bool s] 30))):=p.out.alloc p.out.size (.cells #[.int .i64 Q,.int .i64 K,.int .i64 L,.int .i64 M,.slice N P O,.bool s] 30);have aa:w.heap.size<=w.heap.size:=p.out.size;clear p;go_enter Tryz.func12,Tryz.ntmps12;(go_upto_region 1 with fail);obtain ⟨V,hV⟩:∃ V,V=(w.alloc (.cells #[.int .i64 Q,.int .i64 K,.int .i64 L,.int .i64 M,.slice N P O,.bool s] 30)):=⟨_,rfl⟩;rw[<- hV] at t n ⊢;clear hV;have k:=hid (A.out.below n.out);have m:=hid (z.out.below n.out);have h:=n;clear t n z A aa;go_wp2_with fail;refine (jBp b y _ G S.sp _ k.out C.out).mono ?_;rintro e1 w1 ⟨t1,rfl,E,u,r⟩;have c:=hid u.tv;have f:=hid (k.out.below r);have d:Hid (Below w.heap.size w w1):=h.out.trans (r.mono h.out.size);have e:=hid (m.out.below r);clear k h m;have k:=f;have h:=d;have m:=e;clear f d e r E u;by_cases D:T=0
 ·subst D;go_wp2_with fail;refine (jBp b y _ G S.sp _ k.out C.out).mono ?_;rintro e2 w2 ⟨t2,rfl,H,v,l⟩;have g:=hid v.tv;have f:=hid (k.out.below l);have d:Hid (Below w.heap.size w w2):=h.out.trans (l.mono h.out.size);have e:=hid (m.out.below l);have a:=hid (c.out.below l);clear k h m c;have k:=f;have h:=d;have m:=e;have c:=a;clear f d e a l H v;go_wp2_with fail;refine (jD6 t1 t2 G _ c.out g.out).mono ?_;rintro e3 w3 ⟨rfl,i⟩;have f:=hid (k.out.below i);have d:Hid (Below w.heap.size w w3):=h.out.trans (i.mono h.out.size);have e:=hid (m.out.below i);have a:=hid (c.out.below i);have j:=hid (g.out.below i);clear k h m c g;have k:=f;have h:=d;have m:=e;have c:=a;have g:=j;clear f d e a j i;go_wp2_with fail;refine (jEX b y _ G S.sp _ k.out C.out).mono ?_;rintro e4 w4 ⟨rfl,X⟩;obtain rfl:=X.symm;go_wp2;go_ret;exact ⟨rfl,h.out⟩
 ·(have g0:(T == 0)=false:=by rw[beq_eq_false_iff_ne];exact D);obtain rfl:=HE.out D;go_wp2_with fail;refine (jD6 sb t1 G _ m.out c.out).mono ?_;rintro e2 w2 ⟨rfl,l⟩;have f:=hid (k.out.below l);have d:Hid (Below w.heap.size w w2):=h.out.trans (l.mono h.out.size);have e:=hid (m.out.below l);have a:=hid (c.out.below l);clear k h m c;have k:=f;have h:=d;have m:=e;have c:=a;clear f d e a l;go_wp2_with fail;refine (jBp b y _ G S.sp _ k.out C.out).mono ?_;rintro e3 w3 ⟨t2,rfl,I,x,i⟩;have g:=hid x.tv;have f:=hid (k.out.below i);have d:Hid (Below w.heap.size w w3):=h.out.trans (i.mono h.out.size);have e:=hid (m.out.below i);have a:=hid (c.out.below i);clear k h m c;have k:=f;have h:=d;have m:=e;have c:=a;clear f d e a i I x;go_wp2_with fail;refine (jD6 t1 t2 G _ c.out g.out).mono ?_;rintro e4 w4 ⟨rfl,q⟩;have f:=hid (k.out.below q);have d:Hid (Below w.heap.size w w4):=h.out.trans (q.mono h.out.size);have e:=hid (m.out.below q);have a:=hid (c.out.below q);have j:=hid (g.out.below q);clear k h m c g;have k:=f;have h:=d;have m:=e;have c:=a;have g:=j;clear f d e a j q;go_wp2_with fail;refine (jEX b y _ G S.sp _ k.out C.out).mono ?_;rintro e5 w5 ⟨rfl,X⟩;obtain rfl:=X.symm;go_wp2;go_ret;exact ⟨rfl,h.out⟩
theorem jHY (k:Int)(ao:Option Addr)(n cap:Nat)(os:List OpV)(w:World)(hs:Scr w ao n cap os)(hn:n<=2199023255552)(hll:∀ i,i<n->(og os i).l.length<=17592186044416)(ht:Tab w):Calls Tryz.prog 7 #[.int .i64 k,.slice ao n cap] w fun e w'=>e = .returned (.bool true)/\Below w.heap.size w w':=by
 go_enter Tryz.func7,Tryz.ntmps7;go_wp2_with fail;refine (jB8 k ao n cap os 5 _ hs hn hll ht jF9).mono ?_;rintro c d ⟨rfl,a⟩;have b:=hid a;clear a;go_wp2;go_ret;exact ⟨rfl,b.out⟩
end Go.Proofs.YtigokanoflkinabGreatDoor
