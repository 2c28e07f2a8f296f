/- WDivA, WDivB, WDivC, WDivD, WGcd, joined. -/
import Derived.Test.YtigokanoflkinabGreatDoorWBase
import Derived.Laws.CopyOwn
import Derived.Deep.LoopGhost
set_option maxHeartbeats 1000000
set_option maxRecDepth 10000
namespace Go.Proofs.YtigokanoflkinabGreatDoor
set_option linter.unusedSimpArgs false
set_option linter.unusedVariables false
open Go.RowKit Por
theorem jEb (ro bo:Option Addr)(n capr capb:Nat)(R B:List Int)(w:World)(hr:Row w ro (n+1) capr R)(hs:Row w bo n capb B)(hR:yg R)(hB:yg B)(hn:n<=60000):Calls Tryz.prog 159 #[.slice ro (n+1:Nat) capr,.slice bo n capb] w fun e w'=>e = .returned (.bool (ltB (val R) (val B)))/\Below w.heap.size w w':=by
  have o:=hr.len;have r:=hs.len;obtain ⟨d,f,rfl,i⟩:=hr.head (by omega);have y:=hid hr;have t:=hid hs;have u:=hr.cell d f rfl n (by omega);obtain ⟨H,I⟩:=jAM hR n;clear hr hs;by_cases c:0<lm R n
  · have E:=hid (jKB R B n hR hB o r c);go_enter Tryz.func159,Tryz.ntmps159;go_wp2;go_ret;exact ⟨by rw[E.out];rfl,Below.refl _ _⟩
  · have x:=hid (show lm R n=0 by omega);go_enter Tryz.func159,Tryz.ntmps159;go_wp2
    go_loopw [5] (fun v wr=>∃ k:Nat,k<=n/\v = .int .i64 ((k:Int) - 1)/\Hid (∀ j,k<=j->j<n->lm R j=lm B j)/\Hid (Below w.heap.size w wr)) (fun v _=>(intOf v+1).toNat)
    case atStart=>exact ⟨n,Nat.le_refl _,rfl,fun j h1 h2=>by omega,Below.refl _ _⟩
    case round=>
      obtain ⟨k,G,rfl,h,b⟩:=hrel;by_cases C:k=0
      · subst C;have E:=hid (jKn R B n o r x.out (fun j hj=>h.out j (by omega) hj));go_wp2;go_ret;exact ⟨by rw[E.out];rfl,b.out⟩
      · obtain ⟨q,rfl⟩:∃ q,k=q+1:=⟨k - 1,by omega⟩;obtain ⟨g,s,rfl,l⟩:=t.out.head (by omega);have D:wr.cell? ⟨d,f+q,none⟩=some (.int .i64 (lm R q)):=(b.out.cell (p:=⟨d,f+q,none⟩) i).trans (y.out.cell d f rfl q (by omega));have F:wr.cell? ⟨g,s+q,none⟩=some (.int .i64 (lm B q)):=(b.out.cell (p:=⟨g,s+q,none⟩) l).trans (t.out.cell g s rfl q (by omega));(have A:(0:Int)<=((q+1:Nat):Int) - 1:=by omega);by_cases a:lm R q=lm B q
        · (have m:(lm R q != lm B q)=false:=by simp[a]);have z:=hid a;clear a u;go_wp2;go_quiet (fail);go_wp2
          go_roundw
          case rel => exact ⟨q, by omega, by go_num, fun j h1 h2 => (by
            by_cases e : j = q
            · rw [e]; exact z.out
            · exact h.out j (by omega) h2), below_drewN b.out _⟩
          case measure=>simp[intOf]
        · (have m:(lm R q != lm B q)=true:=by simp[a]);have E:=hid (jLC R B n q hR hB o r x.out (by omega) (fun j h1 h2=>h.out j (by omega) h2) a);clear a u;go_wp2;go_quiet (fail);go_wp2;go_quiet (fail);go_wp2;go_ret;exact ⟨by rw[E.out];rfl,by first | exact below_drewN b.out _ | exact below_drewN (below_drewN b.out _) _⟩
theorem jGr {w w':World} {g:Nat} (h:w.grownBy w' (some g)) (j:Nat) (v:Value):w.grownBy (w'.setCell ⟨g,j,none⟩ v) (some g):=
  ⟨h.os,h.tape,h.output,by simpa [World.setCell] using h.size,fun k hk hne=>(Below.heap_setCell w' _ v k (fun e=>hne (by rw[e]))).trans (h.block k hk hne)⟩
theorem jDN {a b c:World} {g:Nat} (h:a.grownBy b (some g)) (k:b.grownBy c (some g)):a.grownBy c (some g):=
  ⟨k.os.trans h.os,k.tape.trans h.tape,k.output.trans h.output,Nat.le_trans h.size k.size,fun i hi hne=>(k.block i (Nat.lt_of_lt_of_le hi h.size) hne).trans (h.block i hi hne)⟩
theorem jBx {a b c:World} {g:Nat} (h:a.grownBy b (some g)) (k:Below b.heap.size b c):a.grownBy c (some g):=
  ⟨k.os.trans h.os,k.tape.trans h.tape,k.output.trans h.output,Nat.le_trans h.size k.size,fun i hi hne=>(k.block i (Nat.lt_of_lt_of_le hi h.size)).trans (h.block i hi hne)⟩
theorem Row.grown {w w':World}{ao:Option Addr}{n cap g:Nat}{xs:List Int}(h:Row w ao n cap xs)(hg:w.grownBy w' (some g))(hne:∀ b o,ao=some ⟨b,o,none⟩->b≠g):Row w' ao n cap xs:=by
 refine ⟨h.len,h.le,h.cm,fun hn=>?_,fun b o e hn=>?_,fun b o e j hj=>?_⟩
 ·obtain ⟨b,o,e,a⟩:=h.head hn;exact ⟨b,o,e,Nat.lt_of_lt_of_le a hg.size⟩
 ·obtain ⟨d,k,i⟩:=h.ib b o e hn;exact ⟨d,k,(hg.block b (Array.getElem?_eq_some_iff.1 i).1 (fun c=>hne b o e (by cases c;rfl))).trans i⟩
 ·obtain ⟨l,m,f,a⟩:=h.head (by omega);rw[e] at f;cases f;rw[<- h.cell b o e j hj];exact World.cell?_of_block (hg.block b a (fun c=>hne b o e (by cases c;rfl)))
theorem jCA (g o n capr capb:Nat)(bo:Option Addr)(Z B:List Int)(t:Int)(w:World)(hk:Blk w g Z)(ho:o+(n+1)<=Z.length)(hs:Row w bo n capb B)(hne:∀ b o',bo=some ⟨b,o',none⟩->b≠g)(hZ:yg Z)(hB:yg B)(ht0:0<=t)(ht1:t<10000)(hle:t*val B<=val ((Z.drop o).take (n+1)))(hn:n<=60000):Calls Tryz.prog 160 #[.slice (some ⟨g,o,none⟩) (n+1:Nat) capr,.slice bo n capb,.int .i64 t] w fun e w'=>e = .returned (.tuple #[])/\∃ Z',Win Z Z' o (n+1) (t*val B)/\yg Z'/\Blk w' g Z'/\w.grownBy w' (some g):=by
  have O:=hs.len;have G:=hid hk;have D:=hid hs;have u:=hid hle;have v:=hid hne;clear hk hs hle hne;go_enter Tryz.func160,Tryz.ntmps160;go_wp2
  go_loopw [6, 12] (fun vc vi wr => ∃ (i : Nat) (c : Int) (Y : List Int), i <= n /\ vi = .int .i64 i /\ vc = .int .i64 c /\ 0 <= c /\ c <= 10000 /\ Y.length = Z.length /\ Hid (yg Y) /\ Hid (Y.take o = Z.take o) /\
      Hid (∀ j, i <= j -> lm Y (o + j) = lm Z (o + j)) /\ Hid (val ((Y.drop o).take i) - 10000 ^ i * c = val ((Z.drop o).take i) - t * val (B.take i)) /\ Hid (Blk wr g Y) /\ Hid (w.grownBy wr (some g))) (fun _ vi _ => n - (intOf vi).toNat)
  case atStart=>exact ⟨0,0,Z,Nat.zero_le _,rfl,rfl,by omega,by omega,rfl,hZ,rfl,fun _ _=>rfl,by simp[Hid,val],G.out,World.grownBy.refl _ _⟩
  case round=>
    obtain ⟨i,c,Y,S,rfl,rfl,p,y,q,h,k,f,l,d,z⟩:=hrel;by_cases N:i<n
    · obtain ⟨m,s,rfl,C⟩:=D.out.head (by omega);have R:wr.cell? ⟨m,s+i,none⟩=some (.int .i64 (lm B i)):=(World.cell?_of_block (a:=⟨m,s+i,none⟩) (z.out.block m C (fun e=>v.out m s rfl (by cases e;rfl)))).trans (D.out.cell m s rfl i (by omega));have K:=d.out.cell (o+i) (by omega);have L:=d.out.frozen (o+i);obtain ⟨T,U,V,W⟩:=jIV (lm B i) t c (jAM hB i) ⟨ht0,ht1⟩ ⟨p,y⟩;obtain ⟨H,I⟩:=jAM h.out (o+i);obtain ⟨P,Q⟩:=jAM hB i;have M:=hid ((jCP Y o i).trans ((f.out i (Nat.le_refl _)).trans (jCP Z o i).symm));have r:=hid (jCP Y o i);by_cases F:lm Y (o+i) - (c+lm B i*t) % 10000<0
      all_goals
        go_wp2
        go_roundw
        case rel =>
          refine ⟨i + 1, _, _, by omega, by go_num, rfl, by omega, by omega, by simpa using q, jB4 h.out (o + i) _ (by omega) (by omega), ?_, ?_, ?_, d.out.set (o + i) _, jGr z.out _ _⟩
          · show _ = _
            rw [List.take_set_of_le (by omega)]; exact k.out
          · intro j A
            refine Eq.trans ?_ (f.out j (by omega))
            unfold lm; simp [List.getElem?_set, show ¬ o + i = o + j by omega, show ¬ i = j by omega]
          · show _ = _
            rw [<- List.set_drop]
            exact jJ2 (Y.drop o) (Z.drop o) B i t c _ _ (by rw [List.length_drop]; omega) M.out (by rw [r.out]; omega) l.out
        case measure => simp [intOf]; omega
    · (obtain rfl:i=n:=by omega);have K:=d.out.cell (o+i) (by omega);have L:=d.out.frozen (o+i);have r:=hid (jCP Y o i)
      have E := hid (jK1 (Y.drop o) ((Z.drop o).take (i + 1)) B i t c (jBc h.out o) (jAm (jBc hZ o) _) p (by rw [List.length_drop]; omega)
        (by rw [jCN _ _ _ (by omega), jCP, jCP]; exact f.out i (Nat.le_refl _)) O (by rw [List.length_take, List.length_drop]; omega) (by rw [List.take_take, Nat.min_eq_left (by omega)]; exact l.out) u.out)
      obtain ⟨H,I⟩:=jAM h.out (o+i);(have J:0<=lm Y (o+i) - c:=by have:=E.out.1;rw[r.out] at this;exact this);go_wp2;go_end0;refine ⟨rfl,Y.set (o+i) (lm Y (o+i) - c),⟨by simpa using q,?_,?_,?_⟩,jB4 h.out _ _ J (by omega),d.out.set (o+i) _,jGr z.out _ _⟩
      · rw[List.take_set_of_le (by omega)];exact k.out
      · apply List.ext_getElem?;intro j;have x:=f.out (i+1+j) (by omega);by_cases A:o+(i+1)+j<Z.length
        · unfold lm at x;rw[List.getElem?_drop,List.getElem?_drop,List.getElem?_set,if_neg (by omega)];rw[show o+(i+1+j)=o+(i+1)+j by omega] at x;rw[List.getElem?_eq_getElem (by omega),List.getElem?_eq_getElem A]
          simpa [List.getD_eq_getElem?_getD,A,show o+(i+1)+j<Y.length by omega] using x
        · rw[List.getElem?_eq_none (by simp;omega),List.getElem?_eq_none (by simp;omega)]
      · rw[<- List.set_drop,<- r.out];exact E.out.2.2
theorem Row.drewN {w:World}{ao:Option Addr}{n cap:Nat}{xs:List Int}(h:Row w ao n cap xs)(q:Nat):Row (w.drewN q) ao n cap xs:=h.below (below_drewN brf q)
theorem Blk.drewN {w:World}{g:Nat}{zs:List Int}(h:Blk w g zs)(q:Nat):Blk (w.drewN q) g zs:=h.below (below_drewN (Below.refl (g+1) w) q) (by omega)
theorem jEW {a b:World}{g:Nat}(h:a.grownBy b (some g))(q:Nat):a.grownBy (b.drewN q) (some g):=jBx h (below_drewN brf q)
theorem jHZ (Y B:List Int)(o n:Nat)(hY:yg Y)(hB:yg B)(ho:o+(n+1+1)<=Y.length)(l2:B.length=n+1):0<=(lm Y (o+(n+1))*10000+lm Y (o+n)) / (lm B n+1)/\(lm Y (o+(n+1))*10000+lm Y (o+n)) / (lm B n+1)*val B<=val ((Y.drop o).take (n+1+1)):=by
 have d:=jAM hY (o+(n+1));have e:=jAM hY (o+n);have f:=jAM hB n;(have b:lm ((Y.drop o).take (n+1+1)) (n+1)=lm Y (o+(n+1)):=by rw[jCN _ _ _ (by omega),jCP]);(have c:lm ((Y.drop o).take (n+1+1)) n=lm Y (o+n):=by rw[jCN _ _ _ (by omega),jCP]);have a:0<=(lm Y (o+(n+1))*10000+lm Y (o+n)) / (lm B n+1):=Int.ediv_nonneg (by omega) (by omega);refine ⟨a,jLk _ B n (jAm (jBc hY o) _) hB (by rw[List.length_take,List.length_drop];omega) l2 _ a ?_⟩;rw[b,c];exact Int.ediv_mul_le _ (by omega)
theorem jL4 {Z Y:List Int}{o n:Nat}{q t V:Int}(h:Win Z Y o n (q*V))(hV:0<V)(ht:t*V<=val ((Y.drop o).take n))(hl:val ((Z.drop o).take n)<10000*V):q+t<10000:=by
 refine jLl (q+t) V (val ((Z.drop o).take n)) hV ?_ hl;rw[h.win] at ht;rw[Int.add_mul];omega
theorem jHC (g o n capr capb:Nat)(bo:Option Addr)(Z B:List Int)(w:World)(hk:Blk w g Z)(ho:o+(n+1+1)<=Z.length)(hc:n+1+1<=capr)(hcm:capr<=maxLen)(hs:Row w bo (n+1) capb B)(hne:∀ b o',bo=some ⟨b,o',none⟩->b≠g)(hZ:yg Z)(hB:yg B)(htop:1<=lm B n)(hlt:val ((Z.drop o).take (n+1+1))<10000*val B)(hn:n<=50000):Calls Tryz.prog 153 #[.slice (some ⟨g,o,none⟩) (n+1+1:Nat) capr,.slice bo (n+1:Nat) capb] w fun e w'=>∃ (q:Int) (Z':List Int),e = .returned (.int .i64 q)/\0<=q/\q<10000/\Win Z Z' o (n+1+1) (q*val B)/\yg Z'/\val ((Z'.drop o).take (n+1+1))<val B/\Blk w' g Z'/\w.grownBy w' (some g):=by
 have T:=hs.len;obtain ⟨M,U,rfl,aa⟩:=hs.head (by omega);have D:=hid (jMf hB n T htop);have t:M≠g:=hne M U rfl;have V:=hid hk;have W:=hid hs;have x:=hid hlt;clear hk hs hlt hne;go_enter Tryz.func153,Tryz.ntmps153;go_wp2
 go_loopw [6] (fun vq wr=>∃ (q:Int) (Y:List Int),vq = .int .i64 q/\0<=q/\q<10000/\Hid (Win Z Y o (n+1+1) (q*val B))/\Hid (yg Y)/\Hid (Blk wr g Y)/\Hid (w.grownBy wr (some g))) (fun vq _=>10000 - (intOf vq).toNat)
 case atStart=>exact ⟨0,Z,rfl,by omega,by omega,by rw[Int.zero_mul];exact Win.refl _ _ _,hZ,V.out,World.grownBy.refl _ _⟩
 case round=>
  obtain ⟨q,Y,rfl,O,P,c,f,d,F⟩:=hrel;have ab:=c.out.len;have s:=hid (d.out.row o (n+1+1) capr (by omega) hc hcm);have v:=hid (W.out.grown F.out (fun b o' e=>by cases e;exact t));have C:=hid (jAm (jBc f.out o) (n+1+1));by_cases a:val ((Y.drop o).take (n+1+1))<val B
  ·(have X:ltB (val ((Y.drop o).take (n+1+1))) (val B)=true:=by unfold ltB;simpa using a);have H:=hid a;clear a;go_wp2_with fail;refine (jEb _ _ (n+1) capr capb _ B _ s.out v.out C.out hB (by omega)).mono ?_;rintro e w3 ⟨rfl,i⟩;have k:=hid i;clear i;go_wp2;go_ret;exact ⟨q,Y,rfl,O,P,c.out,f.out,H.out,d.out.below k.out d.out.lt,jBx F.out k.out⟩
  ·(have X:ltB (val ((Y.drop o).take (n+1+1))) (val B)=false:=by unfold ltB;simpa using a);have H:=hid a;clear a;go_wp2_with fail;refine (jEb _ _ (n+1) capr capb _ B _ s.out v.out C.out hB (by omega)).mono ?_;rintro e w3 ⟨rfl,i⟩;have k:=hid i;have j:=hid (d.out.below i d.out.lt);have p:=hid (v.out.below i);have d1:=j.out.cell (o+(n+1)) (by omega);have d2:=j.out.cell (o+n) (by omega);have d3:=p.out.cell M U rfl n (by omega);obtain ⟨a0,a1⟩:=jAM f.out (o+(n+1));obtain ⟨a2,a3⟩:=jAM f.out (o+n);obtain ⟨a4,a5⟩:=jAM hB n;clear i;have I:=hid (jHZ Y B o n f.out hB (by omega) T);by_cases z:(lm Y (o+(n+1))*10000+lm Y (o+n)) / (lm B n+1)=0
   ·(have N:((lm Y (o+(n+1))*10000+lm Y (o+n)) / (lm B n+1) == 0)=true:=by simpa using z);(have Q:Hid (1*val B<=val ((Y.drop o).take (n+1+1))):=by rw[Int.one_mul];exact H.out);have y:=jL4 c.out D.out Q.out x.out;clear z;go_wp2_with fail;go_quiet (fail);go_wp2_with fail;refine (jCA g o (n+1) capr capb _ Y B 1 _ (j.out.drewN _) (by omega) (p.out.drewN _) (fun b o' e=>by cases e;exact t) f.out hB (by omega) (by omega) Q.out (by omega)).mono ?_;rintro e w4 ⟨rfl,L,r,u,m,l⟩;have K:=hid r;have J:=hid m;have G:=hid l;clear r m l;go_wp2
    go_roundw
    (case rel=>exact ⟨q+1,L,rfl,by omega,y,by rw[Int.add_mul];exact c.out.trans K.out,u,J.out,jDN (jEW (jBx F.out k.out) _) G.out⟩);case measure=>simp[intOf];omega
   ·obtain ⟨E,A⟩:∃ E,E=(lm Y (o+(n+1))*10000+lm Y (o+n)) / (lm B n+1):=⟨_,rfl⟩;(have N:((lm Y (o+(n+1))*10000+lm Y (o+n)) / (lm B n+1) == 0)=false:=by simpa using z);have y:=jL4 c.out D.out I.out.2 x.out;have HE:=hid A;have R:=I.out.1
    have S:1<=(lm Y (o+(n+1))*10000+lm Y (o+n)) / (lm B n+1):=by
     rcases Int.lt_or_eq_of_le R with h | h
     ·exact h
     ·exact absurd h.symm z
    clear z A;go_wp2_with fail;go_quiet (fail);go_wp2_with fail;refine (jCA g o (n+1) capr capb _ Y B _ _ (j.out.drewN _) (by omega) (p.out.drewN _) (fun b o' e=>by cases e;exact t) f.out hB R (by omega) I.out.2 (by omega)).mono ?_;rintro e w4 ⟨rfl,L,r,u,m,l⟩;have K:=hid r;have J:=hid m;have G:=hid l;clear r m l;go_wp2
    go_roundw
    (case rel=>exact ⟨_,L,rfl,by omega,y,by rw[Int.add_mul];exact c.out.trans K.out,u,J.out,jDN (jEW (jBx F.out k.out) _) G.out⟩);case measure=>simp only[intOf];revert S y;generalize (lm Y (o+(n+1))*10000+lm Y (o+n)) / (lm B n+1)=E';intro S y;omega
theorem jJA (X:List Int)(m:Nat)(hX:yg X)(hl:X.length=m+1)(h0:lm X m=0):val X<10000 ^ m:=by
 have a:=jCb X m hl;have b:=jDJ (jAm hX m);rw[List.length_take,Nat.min_eq_left (by omega)] at b;rw[h0] at a;omega
theorem jKU (B:List Int)(m:Nat)(hB:yg B)(hl:B.length=m+1)(h0:1<=lm B m):(10000:Int) ^ m<=val B:=by
 have a:=jCb B m hl;have b:=jAd (jAm hB m);have:(10000:Int) ^ m*1<=10000 ^ m*lm B m:=Int.mul_le_mul_of_nonneg_left h0 (Int.le_of_lt (Int.pow_pos (by omega)));omega
structure Div (Z B Q Z':List Int):Prop where
  limQ:yg Q
  limZ:yg Z'
  len:Z'.length=Z.length
  sum:val Q*val B+val Z'=val Z
  small:val Z'<val B
theorem jKp {Z B Q Y Y':List Int}{i n qn:Nat}{q:Int}(hsum:val Q*val B+val Y=val Z)(hq0:lm Q i=0)(hi:i<Q.length)(hw:Win Y Y' i (n+1+1) (q*val B))(hle:i+(n+1+1)<=Y.length)(he:val ((Y.drop i).take (n+1+1))=val (Y.drop i))(hs:val ((Y'.drop i).take (n+1+1))<val B):val (Q.set i q)*val B+val Y'=val Z/\val (Y'.drop i)<val B:=by
 have a:=hw.all hle;have b:=hw.drop hle;have c:=hw.win;refine ⟨?_,by omega⟩;rw[jHe Q i q hi,hq0,a];generalize (10000:Int) ^ i=P at *
 grind
theorem jEP (g L capb m:Nat)(bo:Option Addr)(w:World)(h:m=0∨L<=m)(hL:L<=60000)(hm:m<=60000):Calls Tryz.prog 147 #[.slice (some ⟨g,0,none⟩) L L,.slice bo m capb] w fun e w'=>e = .returned (.slice none 0 0)/\w'=w:=by
 by_cases a:m=0
 ·subst a;go_enter Tryz.func147,Tryz.ntmps147;go_wp2;go_ret;exact ⟨rfl,rfl⟩
 ·(have b:((m:Int) == 0)=false:=by simp;omega);(have c:(L:Int)<=(m:Int):=by omega);go_enter Tryz.func147,Tryz.ntmps147;go_wp2;go_ret;exact ⟨rfl,rfl⟩
theorem jEY (g L capb n:Nat)(bo:Option Addr)(Z B:List Int)(w:World)(hk:Blk w g Z)(hl:Z.length=L)(hs:Row w bo (n+1) capb B)(hne:∀ b o',bo=some ⟨b,o',none⟩->b≠g)(hZ:yg Z)(hB:yg B)(htop:1<=lm B n)(hz:lm Z (L - 1)=0)(hn:n+1<L)(hL:L<=50000):Calls Tryz.prog 147 #[.slice (some ⟨g,0,none⟩) L L,.slice bo (n+1:Nat) capb] w fun e w'=>∃ (qo:Option Addr) (qn qcap:Nat) (Q Z':List Int),e = .returned (.slice qo qn qcap)/\qn<=L/\Div Z B Q Z'/\Row w' qo qn qcap Q/\Blk w' g Z'/\w.grownBy w' (some g):=by
  have U:=hs.len;(have aa:(((n:Int)+1) == 0)=false:=by rw[beq_eq_false_iff_ne];omega);(have ab:decide ((L:Int)<=(n:Int)+1)=false:=by rw[decide_eq_false_iff_not];omega);have af:=hk.lt;have K:=hid (jKU B n hB U htop);have M:=hid (Int.le_of_lt (jDJ hB));(have P:Hid (val (Z.drop (L - (n+1)))<val B):=by have:=jJA (Z.drop (L - (n+1))) n (jBc hZ _) (by rw[List.length_drop];omega) (by rw[jCP,show L - (n+1)+n=L - 1 by omega];exact hz);have h2:=K.out;show _ < _;omega);have W:=hid hk;have X:=hid hs;have s:=hid hne;clear hk hs hne;go_enter Tryz.func147,Tryz.ntmps147;go_wp2_with (at_make;refine jAi _ rfl _ _ rfl _ _ (L - (n+1)) rfl rfl (by omega) (by omega) (by omega) ?_);intro w1 c v ai;have r:=hid c;have p:=hid v;obtain ⟨G,T⟩:∃ G,G=w.heap.size:=⟨_,rfl⟩;(have ae:g<G:=by omega);(have ad:w.heap.size<=G:=by omega);rw[<- T] at r ⊢;clear c v T;go_wp2
  go_loopw [6] (fun vi wr => ∃ (k : Nat) (Q Y : List Int), k <= L - (n + 1) /\ vi = .int .i64 ((k : Int) - 1) /\ Q.length = L - (n + 1) /\ Y.length = L /\ Hid (yg Q) /\ Hid (yg Y) /\ Hid (val Q * val B + val Y = val Z) /\ Hid (val (Y.drop k) < val B) /\
      Hid (∀ t, t < k -> lm Q t = 0) /\ Hid (Blk wr G Q) /\ Hid (Blk wr g Y) /\ Hid (w.grownBy wr (some g))) (fun vi _ => (intOf vi + 1).toNat)
  case atStart=>refine ⟨L - (n+1),_,Z,Nat.le_refl _,by go_num,by simp,hl,jBV _,hZ,by simp[Hid,jDU],P.out,fun t _=>jCx _ t,r.out,W.out.below p.out (by omega),jBx (World.grownBy.refl _ _) p.out⟩
  case round=>
    obtain ⟨k,Q,Y,hk,rfl,A,ah,u,j,f,E,z,l,x,N⟩:=hrel;by_cases k0:k=0
    · subst k0;go_wp2;go_ret;have C:=Blk.row0 l.out (L - (n+1)) (L - (n+1)) A.symm (Nat.le_refl _) (by unfold maxLen;omega);exact ⟨_,_,_,Q,Y,rfl,by omega,⟨u.out,j.out,by omega,f.out,by have:=E.out;rwa [List.drop_zero] at this⟩,C,x.out,N.out⟩
    · obtain ⟨i,rfl⟩:∃ i,k=i+1:=⟨k - 1,by omega⟩;(have ag:(0:Int)<=((i+1:Nat):Int) - 1:=by omega);have O:=hid (X.out.grown N.out s.out);have d:=hid (jIQ Y i (n+1) (val B) j.out (by have:=M.out;rwa [U] at this) (by omega) E.out);go_wp2_with fail;rw[show i+(n+1)+1 - i=n+1+1 from by omega];refine (jHC g i n (L - i) capb bo Y B _ x.out (by omega) (by omega) (by unfold maxLen;omega) O.out s.out j.out hB htop (by rw[d.out.1];exact d.out.2.1) (by omega)).mono ?_;rintro e V ⟨q,S,rfl,q0,q1,o,y,D,c,m⟩;have J:G<wr.heap.size:=l.out.lt;have h:Hid (Blk V G Q):=(m.block G J (by intro e;cases e;omega)).trans l.out;have g1:=h.out.cell i (by omega);have g2:=h.out.frozen i;have R:=hid (jKp (qn:=L) f.out (z.out i (by omega)) (by omega) o (by omega) d.out.1 D);(have F:S.length=L:=by have:=o.len;omega);have H:=hid c;have I:=hid y;have a:=hid (jDN N.out m);clear o D c m y;go_wp2
      go_roundw
      (case rel=>refine ⟨i,Q.set i q,S,by omega,by go_num,by simpa using A,F,jB4 u.out i q q0 q1,I.out,R.out.1,R.out.2,fun t ht=>(jGH Q i t q (by omega)).trans (z.out t (by omega)),h.out.set i q,H.out.other _ _ (by show G≠g;omega),?_⟩;exact ⟨a.out.os,a.out.tape,a.out.output,by simpa [World.setCell] using a.out.size,fun t ht hne=>(Below.heap_setCell V _ _ t (by show t≠G;omega)).trans (a.out.block t ht hne)⟩);case measure=>simp[intOf]
theorem Tryz.sizeInt:(Tryz.prog.info? 3).map (·.size)=some 1:=by kernel_rfl
theorem jEM (w:World){ops:Array Oper}{rest:List Oper}{o:Oper}{a:Act}{Q:Exit->Act->World->Prop}(hgd:o.guard=none)(d s:Operand)(ho:o.op = .call { callee:=.builtin .copy,args:=#[d,s],argTypes:=#[28,28] })(g n dLen dCap cap:Nat)(so:Option Addr)(D xs:List Int)(hd:a.eval d = .slice (some ⟨g,0,none⟩) dLen dCap)(hs:a.eval s = .slice so n cap)(hk:Blk w g D)(hD:D.length=dLen)(hr:Row w so n cap xs)(hle:n<=dLen)(h:∀ w',Hid (Blk w' g (xs ++ D.drop n))->Below g w w'->wpList Tryz.prog ops Q rest (a.put o.dst (goInt n)) w'):wpList Tryz.prog ops Q (o :: rest) a w:=by
 have f:=hr.len;(have k:((xs.map (Value.int .i64)).length:Int)=n:=by simp[f]);refine wpList_copy_splice hgd d s _ _ ho 3 Tryz.underlying28 Tryz.sizeInt (some ⟨g,0,none⟩) so dLen dCap n cap hd hs g 0 (D.map (Value.int .i64)) 3 hk (xs.map (Value.int .i64)) (by rw[List.length_map,f];exact (Nat.min_eq_left hle).symm) ?_ (by simp;omega) ?_ g w brf (Nat.le_refl _) ?_
 ·intro q;obtain ⟨b,c,e,_⟩:=hr.head (by simpa [f] using q);refine ⟨rfl,⟨b,c,none⟩,e,fun j v i=>?_⟩
  have p:j<n:=by
   have:=(List.getElem?_eq_some_iff.1 i).1
   simpa [f] using this
  have:=hr.cell b c e j p;rw[show (⟨b,c,none⟩:Addr).add j=⟨b,c+j,none⟩ by simp[Addr.add],this];rw[<- i];unfold lm;simp[show j<xs.length by omega]
 ·intro v i;obtain ⟨x,_,rfl⟩:=List.mem_map.1 i;rfl
 ·intro w' l m;rw[k];refine h w' ?_ m;have:=l.out;unfold splice at this;show w'.heap[g]? = _;rw[this];simp[f]
theorem jDc (ao:Option Addr)(n cap:Nat)(xs:List Int)(w:World)(hr:Row w ao n cap xs)(hn:n<=60000):Calls Tryz.prog 146 #[.agg #[.slice ao n cap]] w fun e w'=>∃ g,e = .returned (.slice (some ⟨g,0,none⟩) (n+1:Nat) (n+1:Nat))/\w.heap.size<=g/\Blk w' g (xs ++ [0])/\Below w.heap.size w w':=by
 have m:=hid (jAC w #[.slice ao n cap] 116);have b:=hid ((Below.refl _ w).alloc (Nat.le_refl _) (.cells #[.slice ao n cap] 116));have l:=hid (hr.below b.out);clear hr;go_enter Tryz.func146,Tryz.ntmps146;go_wp2_with (at_make;refine jAi _ rfl _ _ rfl _ _ (n+1) rfl rfl (by omega) (by omega) (by omega) ?_);intro r d a p;have o:=hid (m.out.below a (by omega));have q:=o.out.cell 0 _ rfl;have j:=hid (l.out.below (a.mono (by simp)));have f:=hid a;have i:=hid d;clear a d;go_wp2_with (refine jEM _ rfl (.tmp 9) (.tmp 11) rfl (w.heap.size+1) n (n+1) (n+1) cap ao (List.replicate (n+1) 0) xs rfl rfl i.out (by simp) j.out (by omega) ?_);intro s k c;have h:=hid c;clear c;go_wp2;go_ret;refine ⟨w.heap.size+1,rfl,by omega,?_,b.out.trans ((f.out.mono (by omega)).trans (h.out.mono (by omega)))⟩;exact k.out
theorem jMv (xs:List Int)(n:Nat)(h:xs.length=n):lm (xs ++ [0]) n=0:=by subst h;unfold lm;simp
theorem jK0 (xs:List Int):val (xs ++ [0])=val xs:=by rw[jC7];simp[val]
theorem jLQ {xs:List Int}(h:yg xs):yg (xs ++ [0]):=by
 intro x a;rcases List.mem_append.1 a with a | a
 ·exact h x a
 ·have:=List.mem_singleton.1 a;omega
theorem jKe {B:List Int}(h:xO B)(hL:yg B)(n:Nat)(hn:B.length=n+1):1<=lm B n:=by
 have:=jAM hL n
 have b:lm B n≠0:=by
  intro a;apply h;rw[List.getLast?_eq_getElem?,hn,Nat.add_sub_cancel];unfold lm at a;rw[List.getElem?_eq_getElem (by omega)]
  simpa [show n<B.length by omega] using a
 omega
theorem jDK (g n capb m:Nat)(bo:Option Addr)(x y:Nat)(w:World)(hk:Blk w g (zA x ++ [0]))(hl:(zA x).length=n)(hs:Row w bo m capb (zA y))(hne:∀ b o',bo=some ⟨b,o',none⟩->0<m->b≠g)(hn:n<=40000)(hm:m<=40000):Calls Tryz.prog 147 #[.slice (some ⟨g,0,none⟩) (n+1:Nat) (n+1:Nat),.slice bo m capb] w fun e w'=>∃ (qo:Option Addr) (qn qcap:Nat) (Q Z':List Int),e = .returned (.slice qo qn qcap)/\qn<=n+1/\yg Q/\yg Z'/\Z'.length=n+1/\(val Q).toNat=x / y/\(val Z').toNat=x % y/\Row w' qo qn qcap Q/\Blk w' g Z'/\w.grownBy w' (some g):=by
 have D:=hs.len;have c:=jLQ (jAJ x);(have p:val (zA x ++ [0])=(x:Int):=by rw[jK0,jAg]);by_cases h:m=0∨n+1<=m
 ·refine (jEP g (n+1) capb m bo w h (by omega) (by omega)).mono ?_;rintro e w' ⟨rfl,rfl⟩
  have o:x / y=0/\x % y=x:=by
   by_cases q:y=0
   ·subst q;simp
   ·(have C:m≠0:=by intro H;apply jB0 q;apply List.eq_nil_of_length_eq_zero;omega);(have d:x<y:=by have j:=jCY (jAJ x) (jAJ y) (jBj y) (by omega);rw[jAg,jAg] at j;omega);exact ⟨Nat.div_eq_of_lt d,Nat.mod_eq_of_lt d⟩
  refine ⟨none,0,0,[],_,rfl,by omega,by simp[yg],c,by simp[hl],by rw[o.1];rfl,by rw[o.2,p];omega,Row.nil _,hk,World.grownBy.refl _ _⟩
 ·obtain ⟨k,rfl⟩:∃ k,m=k+1:=⟨m - 1,by omega⟩;have i:=jKe (jBj y) (jAJ y) k D;refine (jEY g (n+1) capb k bo _ (zA y) w hk (by simp[hl]) hs (fun b o' e=>hne b o' e (by omega)) c (jAJ y) i (by rw[Nat.add_sub_cancel];exact jMv _ n hl) (by omega) (by omega)).mono ?_;rintro e w' ⟨qo,qn,qcap,Q,Z',rfl,l,a,f,A,B⟩;have j:=a.sum;have z:=a.small;rw[p,jAg] at j;rw[jAg] at z;have E:=jAd a.limQ;have F:=jAd a.limZ;(have v:x=(val Q).toNat*y+(val Z').toNat:=by have r:((val Q).toNat:Int)=val Q:=Int.toNat_of_nonneg E;have s:((val Z').toNat:Int)=val Z':=Int.toNat_of_nonneg F;(have G:(((val Q).toNat*y+(val Z').toNat:Nat):Int)=x:=by rw[Int.natCast_add,Int.natCast_mul,r,s];exact j);omega);obtain ⟨t,u⟩:=jKW x y _ _ v (by omega);exact ⟨qo,qn,qcap,Q,Z',rfl,l,a.limQ,a.limZ,by rw[a.len];simp[hl],t,u,f,A,B⟩
theorem jBg (ao bo:Option Addr)(n capa m capb:Nat)(x y:Nat)(w:World)(hr:Row w ao n capa (zA x))(hs:Row w bo m capb (zA y))(hn:n<=40000)(hm:m<=40000):Calls Tryz.prog 129 #[.agg #[.slice ao n capa],.agg #[.slice bo m capb]] w fun e w'=>∃ v,e = .returned v/\Num w' v (x / y)/\Below w.heap.size w w':=by
 have l1:=hr.len;obtain ⟨c1,U,V,u⟩:=boxes3 w #[.slice ao n capa] #[.slice bo m capb] #[.slice none 0 0] 116 116 116;have s:=hid (hr.below u);have t:=hid (hs.below u);(have q:∀ b A,bo=some ⟨b,A,none⟩->0<m->b<w.heap.size:=fun b o e h=>by obtain ⟨b',A,W,hl⟩:=hs.head h;rw[e] at W;cases W;exact hl);have D:=hid q;have R:=hid u;have G:=hid U;have H:=hid V;clear hr hs u c1 U V q;go_enter Tryz.func129,Tryz.ntmps129;go_wp2_with fail;refine (jDc ao n capa (zA x) _ s.out (by omega)).mono ?_;rintro e Z ⟨g,rfl,M,i,a⟩;simp only[World.size_alloc] at M;have I:=hid (G.out.below a G.out.lt);have T:=hid (H.out.below a H.out.lt);have y2:=I.out.cell 0 _ rfl;have N:=hid (t.out.below a);have l:Hid (Below w.heap.size w Z):=R.out.trans (a.mono (by simp;omega));have E:=hid i;have ab:g<Z.heap.size:=i.lt;clear a i s t R G H;go_wp2_with fail;refine (jDK g n capb m bo x y _ E.out l1 N.out (fun b A e h=>by have:=D.out b A e h;omega) hn hm).mono ?_;rintro e P ⟨Y,qn,f,Q,Z',rfl,ad,K,aa,ae,X,hz,d,L,z⟩;have W2:=hid ((z.block _ I.out.lt (by intro e;cases e;omega)).trans I.out);have S:Hid (Bx P (w.heap.size+1+1) #[.slice none 0 0] 116):=(z.block _ T.out.lt (by intro e;cases e;omega)).trans T.out;have B:Hid (Below w.heap.size w P):=(l.out).grown z (by have:=l.out.size;omega) (fun k e=>by cases e;omega);have p:=hid d;have HQ:=hid X;have O:w.heap.size+1+1<P.heap.size:=S.out.lt;clear d L z X hz W2;go_wp2_with fail;refine (jDF Y qn f Q _ p.out K (by omega)).mono ?_;rintro e w4 ⟨j,hj,r,rfl,c⟩;have J:=hid (S.out.below c O);have z1:=J.out.cell 0 _ rfl;have z2:=J.out.frozen 0;have F:=hid (jBZ p.out hj r HQ.out c);have C:Hid (Below w.heap.size w w4):=B.out.trans (c.mono (by omega));clear c r;go_wp2;refine bodyPost_ret (v:=.agg #[.slice Y j f]) (by simp[results,Tryz.results129,go_sem,z1]) rfl ⟨_,rfl,⟨_,_,_,rfl,F.out.other _ _ _ J.out (by decide)⟩,?_⟩;exact C.out.setCell (by simp;omega) _
theorem jBo (ao bo:Option Addr)(n capa m capb:Nat)(x y:Nat)(w:World)(hr:Row w ao n capa (zA x))(hs:Row w bo m capb (zA y))(hn:n<=40000)(hm:m<=40000):Calls Tryz.prog 130 #[.agg #[.slice ao n capa],.agg #[.slice bo m capb]] w fun e w'=>∃ v,e = .returned v/\Num w' v (x % y)/\Below w.heap.size w w':=by
 have l1:=hr.len;obtain ⟨c1,T,U,u⟩:=boxes3 w #[.slice ao n capa] #[.slice bo m capb] #[.slice none 0 0] 116 116 116;have r:=hid (hr.below u);have t:=hid (hs.below u);(have p:∀ b z,bo=some ⟨b,z,none⟩->0<m->b<w.heap.size:=fun b o e h=>by obtain ⟨b',z,V,hl⟩:=hs.head h;rw[e] at V;cases V;exact hl);have C:=hid p;have P:=hid u;have F:=hid T;have G:=hid U;clear hr hs u c1 T U p;go_enter Tryz.func130,Tryz.ntmps130;go_wp2_with fail;refine (jDc ao n capa (zA x) _ r.out (by omega)).mono ?_;rintro e Y ⟨g,rfl,K,d,a⟩;simp only[World.size_alloc] at K;have Y2:=hid (F.out.below a F.out.lt);have S:=hid (G.out.below a G.out.lt);have y2:=Y2.out.cell 0 _ rfl;have L:=hid (t.out.below a);have f:Hid (Below w.heap.size w Y):=P.out.trans (a.mono (by simp;omega));have D:=hid d;have ab:g<Y.heap.size:=d.lt;clear a d r t P F G;go_wp2_with fail;refine (jDK g n capb m bo x y _ D.out l1 L.out (fun b z e h=>by have:=C.out b z e h;omega) hn hm).mono ?_;rintro e O ⟨qo,qn,X,Q,Z',rfl,ad,aa,I,N,hq,W,s,l,J⟩;have R:Hid (Bx O (w.heap.size+1+1) #[.slice none 0 0] 116):=(J.block _ S.out.lt (by intro e;cases e;omega)).trans S.out;have A:Hid (Below w.heap.size w O):=(f.out).grown J (by have:=f.out.size;omega) (fun k e=>by cases e;omega);have i:=hid (Blk.row0 l (n+1) (n+1) N.symm (Nat.le_refl _) (by unfold maxLen;omega));have Z:=hid W;have M:w.heap.size+1+1<O.heap.size:=R.out.lt;clear s l J hq W;go_wp2_with fail;refine (jDF _ (n+1) (n+1) Z' _ i.out I (by omega)).mono ?_;rintro e w4 ⟨j,hj,q,rfl,c⟩;have H:=hid (R.out.below c M);have z1:=H.out.cell 0 _ rfl;have z2:=H.out.frozen 0;have E:=hid (jBZ i.out hj q Z.out c);have B:Hid (Below w.heap.size w w4):=A.out.trans (c.mono (by omega));clear c q;go_wp2;refine bodyPost_ret (v:=.agg #[.slice (some ⟨g,0,none⟩) j (n+1)]) (by simp[results,Tryz.results130,go_sem,z1]) rfl ⟨_,rfl,⟨_,_,_,rfl,E.out.other _ _ _ H.out (by decide)⟩,?_⟩;exact B.out.setCell (by simp;omega) _
theorem Bx.set {w:World}{b:Nat}{v:Value}{T:TypeId}(h:Bx w b #[v] T)(u:Value):Bx (w.setCell ⟨b,0,none⟩ u) b #[u] T:=by
 unfold Bx;rw[heap_setCell_same w b 0 _ _ _ h];rfl
theorem Row.alloc {w:World}{ao:Option Addr}{n cap:Nat}{xs:List Int}(h:Row w ao n cap xs)(o:Obj):Row (w.alloc o) ao n cap xs:=h.below (brf.alloc (Nat.le_refl _) _)
theorem jJp (ao bo:Option Addr)(n capa m capb:Nat)(x y:Nat)(w:World)(hr:Row w ao n capa (zA x))(hs:Row w bo m capb (zA y))(hn:n<=40000)(hm:m<=40000):Calls Tryz.prog 144 #[.agg #[.slice ao n capa],.agg #[.slice bo m capb]] w fun e w'=>∃ v,e = .returned v/\Num w' v (Nat.gcd x y)/\Below w.heap.size w w':=by
  obtain ⟨u,H,I,J⟩:=boxes3 w #[.slice ao n capa] #[.slice bo m capb] #[.slice none 0 0] 116 116 116;have A:=hid (hr.below J);have D:=hid (hs.below J);have W:=hid J;have X:=hid u;have Y:=hid H;have Z:=hid I;clear hr hs J u H I;go_enter Tryz.func144,Tryz.ntmps144;go_wp2
  go_loopg [5] y (fun k _ wr => ∃ (ao bo : Option Addr) (n capa m capb a b : Nat), k = b /\ n <= 40000 /\ m <= 40000 /\ Hid (Nat.gcd a b = Nat.gcd x y) /\ Hid (Row wr ao n capa (zA a)) /\ Hid (Row wr bo m capb (zA b)) /\
      Hid (Bx wr w.heap.size #[.slice ao n capa] 116) /\ Hid (Bx wr (w.heap.size + 1) #[.slice bo m capb] 116) /\ Hid (Bx wr (w.heap.size + 1 + 1) #[.slice none 0 0] 116) /\ Hid (Below w.heap.size w wr))
  case atStart=>exact ⟨ao,bo,n,capa,m,capb,x,y,rfl,hn,hm,rfl,A.out,D.out,X.out,Y.out,Z.out,W.out⟩
  case round=>
    obtain ⟨ao,bo,n,capa,m,capb,a,b,z,hn,hm,g,C,l,L,U,o,hB⟩:=hrel;have HG:=hid z;clear z A D X Y Z W;have Q:w.heap.size+1+1<wr.heap.size:=o.out.lt;have b1:=L.out.cell 0 _ rfl;have b2:=U.out.cell 0 _ rfl;have b3:=o.out.cell 0 _ rfl;have fz:=o.out.frozen 0;by_cases j:b=0
    · (have hz:isZ b=true:=by simp[isZ,j]);go_wp2_with fail;refine (jAb bo m capb b _ l.out (by omega)).mono ?_;rintro e S ⟨rfl,c⟩;have G:=hid (L.out.below c (by omega));have p:=hid (o.out.below c (by omega));have u:=G.out.cell 0 _ rfl;have I:=p.out.cell 0 _ rfl;have f3:=p.out.frozen 0;have i:=hid (C.out.below c);have h:Hid (Below w.heap.size w S):=hB.out.trans (c.mono (by omega));(have HE:Hid (a=Nat.gcd x y):=by have:=g.out;rw[j,Nat.gcd_zero_right] at this;exact this);clear c;go_wp2;refine bodyPost_ret (v:=.agg #[.slice ao n capa]) (by simp[results,Tryz.results144,go_sem,I]) rfl ⟨_,rfl,⟨_,_,_,rfl,?_⟩,h.out.setCell (by simp;omega) _⟩;rw[<- HE.out];exact i.out.other _ _ _ p.out (by decide)
    · (have hz:isZ b=false:=by simp[isZ,j]);go_wp2_with fail;refine (jAb bo m capb b _ l.out (by omega)).mono ?_;rintro e S ⟨rfl,c⟩;have E:=c.size;have G:=hid (L.out.below c (by omega));have V:=hid (U.out.below c (by omega));have p:=hid (o.out.below c (by omega));have u:=G.out.cell 0 _ rfl;have H:=V.out.cell 0 _ rfl;have i:=hid (C.out.below c);have s:=hid (l.out.below c);have h:Hid (Below w.heap.size w S):=hB.out.trans (c.mono (by omega));clear c;go_wp2_with fail;refine (jBo ao bo n capa m capb a b _ i.out s.out hn hm).mono ?_;rintro e T ⟨v,rfl,⟨R,K,f,rfl,B⟩,d⟩;have F:=d.size;have q:=hid (G.out.below d (by omega));have M:=hid (V.out.below d (by omega));have D3:=hid (p.out.below d (by omega));have d1:=q.out.cell 0 _ rfl;have d2:=M.out.cell 0 _ rfl;have f1:=q.out.frozen 0;have f2:=M.out.frozen 0;have t:=hid (s.out.below d);have r:=hid B;have O:Hid (Below w.heap.size w T):=h.out.trans (d.mono (by omega));(have aa:w.heap.size<T.heap.size:=by omega);(have ab:w.heap.size+1<T.heap.size:=by omega);clear d B u H b1 b2 b3 fz Q E F;(have P:K<=40000:=by have h1:=r.out.len;have h2:=t.out.len;have:=@jAl (a % b) b (Nat.le_of_lt (Nat.mod_lt a (by omega)));omega);go_wp2;go_roundg (a % b);case measure=>rw[HG.out];exact Nat.mod_lt a (by omega)
      case rel=>
        have N:=M.out.other ⟨w.heap.size,0,none⟩ (.slice bo m capb) (by show w.heap.size≠w.heap.size+1;omega);have E1:=(q.out.set (.slice bo m capb)).other ⟨w.heap.size+1,0,none⟩ (.slice R K f) (by show w.heap.size+1≠w.heap.size;omega);have E3:=(D3.out.other ⟨w.heap.size,0,none⟩ (.slice bo m capb) (by show w.heap.size≠w.heap.size+1+1;omega)).other ⟨w.heap.size+1,0,none⟩ (.slice R K f) (by show w.heap.size+1≠w.heap.size+1+1;omega);refine ⟨bo,R,m,capb,K,f,b,a % b,rfl,hm,P,?_,?_,?_,?_,?_,?_,?_⟩
        · exact ((Nat.gcd_comm b (a % b)).trans ((Nat.gcd_rec b a).symm.trans (Nat.gcd_comm b a))).trans g.out
        · exact ((t.out.other _ _ _ q.out (by decide)).other _ _ _ N (by decide)).alloc _
        · exact ((r.out.other _ _ _ q.out (by decide)).other _ _ _ N (by decide)).alloc _
        · exact jAB E1 _
        · exact jAB (N.set _) _
        · exact jAB E3 _
        · exact ((O.out.setCell (Nat.le_refl _) _).setCell (by show w.heap.size<=w.heap.size+1;omega) _).alloc (by simp[World.setCell];omega) _
end Go.Proofs.YtigokanoflkinabGreatDoor
