/- WDivA, WDivB, WDivC, WDivD, WGcd, joined. -/
import Derived.Test.YtigokanoflkinabGreatDoorWBase
import Derived.Test.YtigokanoflkinabGreatDoorPure
import Derived.Laws.CopyOwn
import Derived.Deep.LoopGhost
set_option maxHeartbeats 1000000
set_option maxRecDepth 10000
namespace Go.Proofs.YtigokanoflkinabGreatDoor
set_option linter.unusedSimpArgs false
set_option linter.unusedVariables false
open Go.RowKit Por
theorem jEl (ro bo:Option Addr)(n capr capb:Nat)(R B:List Int)(w:World)(hr:Row w ro (n+1) capr R)(hs:Row w bo n capb B)(hR:Lim R)(hB:Lim B)(hn:n≤60000):Calls Tryz.prog 159 #[.slice ro (n+1:Nat) capr,.slice bo n capb] w fun e w'=>e = .returned (.bool (ltB (val R) (val B)))∧Below w.heap.size w w':=by
  have l1:=hr.len;have l2:=hs.len;obtain ⟨ba,oa,rfl,hla⟩:=hr.head (by omega);have HR:=hid hr;have HS:=hid hs;have d0:=hr.cell ba oa rfl n (by omega);obtain ⟨t0,t1⟩:=jAN hR n;clear hr hs;by_cases hpos:0<lm R n
  · have E:=hid (jIW R B n hR hB l1 l2 hpos);go_enter Tryz.func159,Tryz.ntmps159;go_wp2;go_ret;exact ⟨by rw[E.out];rfl,Below.refl _ _⟩
  · have hz:=hid (show lm R n=0 by omega);go_enter Tryz.func159,Tryz.ntmps159;go_wp2
    go_loopw [5] (fun v wr=>∃ k:Nat,k≤n∧v = .int .i64 ((k:Int) - 1)∧Hid (∀ j,k≤j→j<n→lm R j=lm B j)∧Hid (Below w.heap.size w wr)) (fun v _=>(intOf v+1).toNat)
    case atStart=>exact ⟨n,Nat.le_refl _,rfl,fun j h1 h2=>by omega,Below.refl _ _⟩
    case round=>
      obtain ⟨k,hk,rfl,he,hb⟩:=hrel;by_cases k0:k=0
      · subst k0;have E:=hid (jJu R B n l1 l2 hz.out (fun j hj=>he.out j (by omega) hj));go_wp2;go_ret;exact ⟨by rw[E.out];rfl,hb.out⟩
      · obtain ⟨q,rfl⟩:∃ q,k=q+1:=⟨k - 1,by omega⟩;obtain ⟨bb,ob,rfl,hlb⟩:=HS.out.head (by omega);have d1:wr.cell? ⟨ba,oa+q,none⟩=some (.int .i64 (lm R q)):=(hb.out.cell (p:=⟨ba,oa+q,none⟩) hla).trans (HR.out.cell ba oa rfl q (by omega));have d2:wr.cell? ⟨bb,ob+q,none⟩=some (.int .i64 (lm B q)):=(hb.out.cell (p:=⟨bb,ob+q,none⟩) hlb).trans (HS.out.cell bb ob rfl q (by omega));(have hq1:(0:Int)≤((q+1:Nat):Int) - 1:=by omega);by_cases heq:lm R q=lm B q
        · (have hne:(lm R q != lm B q)=false:=by simp[heq]);have He:=hid heq;clear heq d0;go_wp2;go_quiet (fail);go_wp2
          go_roundw
          case rel => exact ⟨q, by omega, by go_num, fun j h1 h2 => (by
            by_cases e : j = q
            · rw [e]; exact He.out
            · exact he.out j (by omega) h2), below_drewN hb.out _⟩
          case measure=>simp[intOf]
        · (have hne:(lm R q != lm B q)=true:=by simp[heq]);have E:=hid (jJ0 R B n q hR hB l1 l2 hz.out (by omega) (fun j h1 h2=>he.out j (by omega) h2) heq);clear heq d0;go_wp2;go_quiet (fail);go_wp2;go_quiet (fail);go_wp2;go_ret;exact ⟨by rw[E.out];rfl,by first | exact below_drewN hb.out _ | exact below_drewN (below_drewN hb.out _) _⟩
theorem jFz {w w':World} {g:Nat} (h:w.grownBy w' (some g)) (j:Nat) (v:Value):w.grownBy (w'.setCell ⟨g,j,none⟩ v) (some g):=
  ⟨h.os,h.tape,h.output,by simpa [World.setCell] using h.size,fun k hk hne=>(Below.heap_setCell w' _ v k (fun e=>hne (by rw[e]))).trans (h.block k hk hne)⟩
theorem jCs {a b c:World} {g:Nat} (h:a.grownBy b (some g)) (k:b.grownBy c (some g)):a.grownBy c (some g):=
  ⟨k.os.trans h.os,k.tape.trans h.tape,k.output.trans h.output,Nat.le_trans h.size k.size,fun i hi hne=>(k.block i (Nat.lt_of_lt_of_le hi h.size) hne).trans (h.block i hi hne)⟩
theorem jBl {a b c:World} {g:Nat} (h:a.grownBy b (some g)) (k:Below b.heap.size b c):a.grownBy c (some g):=
  ⟨k.os.trans h.os,k.tape.trans h.tape,k.output.trans h.output,Nat.le_trans h.size k.size,fun i hi hne=>(k.block i (Nat.lt_of_lt_of_le hi h.size)).trans (h.block i hi hne)⟩
theorem Row.grown {w w':World}{ao:Option Addr}{n cap g:Nat}{xs:List Int}(h:Row w ao n cap xs)(hg:w.grownBy w' (some g))(hne:∀ b o,ao=some ⟨b,o,none⟩→b≠g):Row w' ao n cap xs:=by
 refine ⟨h.len,h.le,h.cm,fun hn=>?_,fun b o e hn=>?_,fun b o e j hj=>?_⟩
 ·obtain ⟨b,o,e,hlt⟩:=h.head hn;exact ⟨b,o,e,Nat.lt_of_lt_of_le hlt hg.size⟩
 ·obtain ⟨arr,fz,hh⟩:=h.ib b o e hn;exact ⟨arr,fz,(hg.block b (Array.getElem?_eq_some_iff.1 hh).1 (fun c=>hne b o e (by cases c;rfl))).trans hh⟩
 ·obtain ⟨b',o',e',hlt⟩:=h.head (by omega);rw[e] at e';cases e';rw[← h.cell b o e j hj];exact World.cell?_of_block (hg.block b hlt (fun c=>hne b o e (by cases c;rfl)))
theorem jB2 (g o n capr capb:Nat)(bo:Option Addr)(Z B:List Int)(t:Int)(w:World)(hk:Blk w g Z)(ho:o+(n+1)≤Z.length)(hs:Row w bo n capb B)(hne:∀ b o',bo=some ⟨b,o',none⟩→b≠g)(hZ:Lim Z)(hB:Lim B)(ht0:0≤t)(ht1:t<10000)(hle:t*val B≤val ((Z.drop o).take (n+1)))(hn:n≤60000):Calls Tryz.prog 160 #[.slice (some ⟨g,o,none⟩) (n+1:Nat) capr,.slice bo n capb,.int .i64 t] w fun e w'=>e = .returned (.tuple #[])∧∃ Z',Win Z Z' o (n+1) (t*val B)∧Lim Z'∧Blk w' g Z'∧w.grownBy w' (some g):=by
  have l2:=hs.len;have HK:=hid hk;have HS:=hid hs;have HLE:=hid hle;have HNE:=hid hne;clear hk hs hle hne;go_enter Tryz.func160,Tryz.ntmps160;go_wp2
  go_loopw [6, 12] (fun vc vi wr => ∃ (i : Nat) (c : Int) (Y : List Int), i ≤ n ∧ vi = .int .i64 i ∧ vc = .int .i64 c ∧ 0 ≤ c ∧ c ≤ 10000 ∧ Y.length = Z.length ∧ Hid (Lim Y) ∧ Hid (Y.take o = Z.take o) ∧
      Hid (∀ j, i ≤ j → lm Y (o + j) = lm Z (o + j)) ∧ Hid (val ((Y.drop o).take i) - 10000 ^ i * c = val ((Z.drop o).take i) - t * val (B.take i)) ∧ Hid (Blk wr g Y) ∧ Hid (w.grownBy wr (some g))) (fun _ vi _ => n - (intOf vi).toNat)
  case atStart=>exact ⟨0,0,Z,Nat.zero_le _,rfl,rfl,by omega,by omega,rfl,hZ,rfl,fun _ _=>rfl,by simp[Hid,val],HK.out,World.grownBy.refl _ _⟩
  case round=>
    obtain ⟨i,c,Y,hi,rfl,rfl,hc0,hc1,hyl,hYL,hpre,hsame,hval,hblk,hg⟩:=hrel;by_cases hlt:i<n
    · obtain ⟨bb,ob,rfl,hlb⟩:=HS.out.head (by omega);have d2:wr.cell? ⟨bb,ob+i,none⟩=some (.int .i64 (lm B i)):=(World.cell?_of_block (a:=⟨bb,ob+i,none⟩) (hg.out.block bb hlb (fun e=>HNE.out bb ob rfl (by cases e;rfl)))).trans (HS.out.cell bb ob rfl i (by omega));have g1:=hblk.out.cell (o+i) (by omega);have g2:=hblk.out.frozen (o+i);obtain ⟨p1,p2,p3,p4⟩:=jHn (lm B i) t c (jAN hB i) ⟨ht0,ht1⟩ ⟨hc0,hc1⟩;obtain ⟨b0,b1⟩:=jAN hYL.out (o+i);obtain ⟨b2,b3⟩:=jAN hB i;have hD:=hid ((jCA Y o i).trans ((hsame.out i (Nat.le_refl _)).trans (jCA Z o i).symm));have e1:=hid (jCA Y o i);by_cases hneg:lm Y (o+i) - (c+lm B i*t) % 10000<0
      all_goals
        go_wp2
        go_roundw
        case rel =>
          refine ⟨i + 1, _, _, by omega, by go_num, rfl, by omega, by omega, by simpa using hyl, jBw hYL.out (o + i) _ (by omega) (by omega), ?_, ?_, ?_, hblk.out.set (o + i) _, jFz hg.out _ _⟩
          · show _ = _
            rw [List.take_set_of_le (by omega)]; exact hpre.out
          · intro j hj
            refine Eq.trans ?_ (hsame.out j (by omega))
            unfold lm; simp [List.getElem?_set, show ¬ o + i = o + j by omega, show ¬ i = j by omega]
          · show _ = _
            rw [← List.set_drop]
            exact jIb (Y.drop o) (Z.drop o) B i t c _ _ (by rw [List.length_drop]; omega) hD.out (by rw [e1.out]; omega) hval.out
        case measure => simp [intOf]; omega
    · (obtain rfl:i=n:=by omega);have g1:=hblk.out.cell (o+i) (by omega);have g2:=hblk.out.frozen (o+i);have e1:=hid (jCA Y o i)
      have hE := hid (jJt (Y.drop o) ((Z.drop o).take (i + 1)) B i t c (jBS hYL.out o) (jAj (jBS hZ o) _) hc0 (by rw [List.length_drop]; omega)
        (by rw [jCD _ _ _ (by omega), jCA, jCA]; exact hsame.out i (Nat.le_refl _)) l2 (by rw [List.length_take, List.length_drop]; omega) (by rw [List.take_take, Nat.min_eq_left (by omega)]; exact hval.out) HLE.out)
      obtain ⟨b0,b1⟩:=jAN hYL.out (o+i);(have b4:0≤lm Y (o+i) - c:=by have:=hE.out.1;rw[e1.out] at this;exact this);go_wp2;go_end0;refine ⟨rfl,Y.set (o+i) (lm Y (o+i) - c),⟨by simpa using hyl,?_,?_,?_⟩,jBw hYL.out _ _ b4 (by omega),hblk.out.set (o+i) _,jFz hg.out _ _⟩
      · rw[List.take_set_of_le (by omega)];exact hpre.out
      · apply List.ext_getElem?;intro j;have h1:=hsame.out (i+1+j) (by omega);by_cases hj:o+(i+1)+j<Z.length
        · unfold lm at h1;rw[List.getElem?_drop,List.getElem?_drop,List.getElem?_set,if_neg (by omega)];rw[show o+(i+1+j)=o+(i+1)+j by omega] at h1;rw[List.getElem?_eq_getElem (by omega),List.getElem?_eq_getElem hj]
          simpa [List.getD_eq_getElem?_getD,hj,show o+(i+1)+j<Y.length by omega] using h1
        · rw[List.getElem?_eq_none (by simp;omega),List.getElem?_eq_none (by simp;omega)]
      · rw[← List.set_drop,← e1.out];exact hE.out.2.2
theorem Row.drewN {w:World}{ao:Option Addr}{n cap:Nat}{xs:List Int}(h:Row w ao n cap xs)(q:Nat):Row (w.drewN q) ao n cap xs:=h.below (below_drewN (Below.refl _ _) q)
theorem Blk.drewN {w:World}{g:Nat}{zs:List Int}(h:Blk w g zs)(q:Nat):Blk (w.drewN q) g zs:=h.below (below_drewN (Below.refl (g+1) w) q) (by omega)
theorem jEc {a b:World}{g:Nat}(h:a.grownBy b (some g))(q:Nat):a.grownBy (b.drewN q) (some g):=jBl h (below_drewN (Below.refl _ _) q)
theorem jGh (Y B:List Int)(o n:Nat)(hY:Lim Y)(hB:Lim B)(ho:o+(n+1+1)≤Y.length)(l2:B.length=n+1):0≤(lm Y (o+(n+1))*10000+lm Y (o+n)) / (lm B n+1)∧(lm Y (o+(n+1))*10000+lm Y (o+n)) / (lm B n+1)*val B≤val ((Y.drop o).take (n+1+1)):=by
 have h1:=jAN hY (o+(n+1));have h2:=jAN hY (o+n);have h3:=jAN hB n;(have e1:lm ((Y.drop o).take (n+1+1)) (n+1)=lm Y (o+(n+1)):=by rw[jCD _ _ _ (by omega),jCA]);(have e2:lm ((Y.drop o).take (n+1+1)) n=lm Y (o+n):=by rw[jCD _ _ _ (by omega),jCA]);have h0:0≤(lm Y (o+(n+1))*10000+lm Y (o+n)) / (lm B n+1):=Int.ediv_nonneg (by omega) (by omega);refine ⟨h0,jKB _ B n (jAj (jBS hY o) _) hB (by rw[List.length_take,List.length_drop];omega) l2 _ h0 ?_⟩;rw[e1,e2];exact Int.ediv_mul_le _ (by omega)
theorem jKx {Z Y:List Int}{o n:Nat}{q t V:Int}(h:Win Z Y o n (q*V))(hV:0<V)(ht:t*V≤val ((Y.drop o).take n))(hl:val ((Z.drop o).take n)<10000*V):q+t<10000:=by
 refine jKR (q+t) V (val ((Z.drop o).take n)) hV ?_ hl;rw[h.win] at ht;rw[Int.add_mul];omega
theorem jGj (g o n capr capb:Nat)(bo:Option Addr)(Z B:List Int)(w:World)(hk:Blk w g Z)(ho:o+(n+1+1)≤Z.length)(hc:n+1+1≤capr)(hcm:capr≤maxLen)(hs:Row w bo (n+1) capb B)(hne:∀ b o',bo=some ⟨b,o',none⟩→b≠g)(hZ:Lim Z)(hB:Lim B)(htop:1≤lm B n)(hlt:val ((Z.drop o).take (n+1+1))<10000*val B)(hn:n≤50000):Calls Tryz.prog 153 #[.slice (some ⟨g,o,none⟩) (n+1+1:Nat) capr,.slice bo (n+1:Nat) capb] w fun e w'=>∃ (q:Int) (Z':List Int),e = .returned (.int .i64 q)∧0≤q∧q<10000∧Win Z Z' o (n+1+1) (q*val B)∧Lim Z'∧val ((Z'.drop o).take (n+1+1))<val B∧Blk w' g Z'∧w.grownBy w' (some g):=by
 have l2:=hs.len;obtain ⟨bb,ob,rfl,hlb⟩:=hs.head (by omega);have hVp:=hid (jLj hB n l2 htop);have hgb:bb≠g:=hne bb ob rfl;have HK:=hid hk;have HS:=hid hs;have HLT:=hid hlt;clear hk hs hlt hne;go_enter Tryz.func153,Tryz.ntmps153;go_wp2
 go_loopw [6] (fun vq wr=>∃ (q:Int) (Y:List Int),vq = .int .i64 q∧0≤q∧q<10000∧Hid (Win Z Y o (n+1+1) (q*val B))∧Hid (Lim Y)∧Hid (Blk wr g Y)∧Hid (w.grownBy wr (some g))) (fun vq _=>10000 - (intOf vq).toNat)
 case atStart=>exact ⟨0,Z,rfl,by omega,by omega,by rw[Int.zero_mul];exact Win.refl _ _ _,hZ,HK.out,World.grownBy.refl _ _⟩
 case round=>
  obtain ⟨q,Y,rfl,hq0,hq1,hwin,hYL,hblk,hg⟩:=hrel;have hyl:=hwin.out.len;have hrow:=hid (hblk.out.row o (n+1+1) capr (by omega) hc hcm);have hrs:=hid (HS.out.grown hg.out (fun b o' e=>by cases e;exact hgb));have hRL:=hid (jAj (jBS hYL.out o) (n+1+1));by_cases hdone:val ((Y.drop o).take (n+1+1))<val B
  ·(have hE:ltB (val ((Y.drop o).take (n+1+1))) (val B)=true:=by unfold ltB;simpa using hdone);have HD:=hid hdone;clear hdone;go_wp2_with fail;refine (jEl _ _ (n+1) capr capb _ B _ hrow.out hrs.out hRL.out hB (by omega)).mono ?_;rintro e w3 ⟨rfl,hb3⟩;have HB3:=hid hb3;clear hb3;go_wp2;go_ret;exact ⟨q,Y,rfl,hq0,hq1,hwin.out,hYL.out,HD.out,hblk.out.below HB3.out hblk.out.lt,jBl hg.out HB3.out⟩
  ·(have hE:ltB (val ((Y.drop o).take (n+1+1))) (val B)=false:=by unfold ltB;simpa using hdone);have HD:=hid hdone;clear hdone;go_wp2_with fail;refine (jEl _ _ (n+1) capr capb _ B _ hrow.out hrs.out hRL.out hB (by omega)).mono ?_;rintro e w3 ⟨rfl,hb3⟩;have HB3:=hid hb3;have hbl3:=hid (hblk.out.below hb3 hblk.out.lt);have hrs3:=hid (hrs.out.below hb3);have d1:=hbl3.out.cell (o+(n+1)) (by omega);have d2:=hbl3.out.cell (o+n) (by omega);have d3:=hrs3.out.cell bb ob rfl n (by omega);obtain ⟨a0,a1⟩:=jAN hYL.out (o+(n+1));obtain ⟨a2,a3⟩:=jAN hYL.out (o+n);obtain ⟨a4,a5⟩:=jAN hB n;clear hb3;have HF:=hid (jGh Y B o n hYL.out hB (by omega) l2);by_cases h0:(lm Y (o+(n+1))*10000+lm Y (o+n)) / (lm B n+1)=0
   ·(have h0':((lm Y (o+(n+1))*10000+lm Y (o+n)) / (lm B n+1) == 0)=true:=by simpa using h0);(have H1:Hid (1*val B≤val ((Y.drop o).take (n+1+1))):=by rw[Int.one_mul];exact HD.out);have Hq:=jKx hwin.out hVp.out H1.out HLT.out;clear h0;go_wp2_with fail;go_quiet (fail);go_wp2_with fail;refine (jB2 g o (n+1) capr capb _ Y B 1 _ (hbl3.out.drewN _) (by omega) (hrs3.out.drewN _) (fun b o' e=>by cases e;exact hgb) hYL.out hB (by omega) (by omega) H1.out (by omega)).mono ?_;rintro e w4 ⟨rfl,Y1,hw1,hl1,hk1,hg1⟩;have W1:=hid hw1;have K1:=hid hk1;have G1:=hid hg1;clear hw1 hk1 hg1;go_wp2
    go_roundw
    (case rel=>exact ⟨q+1,Y1,rfl,by omega,Hq,by rw[Int.add_mul];exact hwin.out.trans W1.out,hl1,K1.out,jCs (jEc (jBl hg.out HB3.out) _) G1.out⟩);case measure=>simp[intOf];omega
   ·obtain ⟨E,hEq⟩:∃ E,E=(lm Y (o+(n+1))*10000+lm Y (o+n)) / (lm B n+1):=⟨_,rfl⟩;(have h0':((lm Y (o+(n+1))*10000+lm Y (o+n)) / (lm B n+1) == 0)=false:=by simpa using h0);have Hq:=jKx hwin.out hVp.out HF.out.2 HLT.out;have HE:=hid hEq;have f1:=HF.out.1
    have f2:1≤(lm Y (o+(n+1))*10000+lm Y (o+n)) / (lm B n+1):=by
     rcases Int.lt_or_eq_of_le f1 with h | h
     ·exact h
     ·exact absurd h.symm h0
    clear h0 hEq;go_wp2_with fail;go_quiet (fail);go_wp2_with fail;refine (jB2 g o (n+1) capr capb _ Y B _ _ (hbl3.out.drewN _) (by omega) (hrs3.out.drewN _) (fun b o' e=>by cases e;exact hgb) hYL.out hB f1 (by omega) HF.out.2 (by omega)).mono ?_;rintro e w4 ⟨rfl,Y1,hw1,hl1,hk1,hg1⟩;have W1:=hid hw1;have K1:=hid hk1;have G1:=hid hg1;clear hw1 hk1 hg1;go_wp2
    go_roundw
    (case rel=>exact ⟨_,Y1,rfl,by omega,Hq,by rw[Int.add_mul];exact hwin.out.trans W1.out,hl1,K1.out,jCs (jEc (jBl hg.out HB3.out) _) G1.out⟩);case measure=>simp only[intOf];revert f2 Hq;generalize (lm Y (o+(n+1))*10000+lm Y (o+n)) / (lm B n+1)=E';intro f2 Hq;omega
theorem jI9 (X:List Int)(m:Nat)(hX:Lim X)(hl:X.length=m+1)(h0:lm X m=0):val X<10000 ^ m:=by
 have h1:=jCI X m hl;have h2:=jCp (jAj hX m);rw[List.length_take,Nat.min_eq_left (by omega)] at h2;rw[h0] at h1;omega
theorem jIp (B:List Int)(m:Nat)(hB:Lim B)(hl:B.length=m+1)(h0:1≤lm B m):(10000:Int) ^ m≤val B:=by
 have h1:=jCI B m hl;have h2:=jAY (jAj hB m);have:(10000:Int) ^ m*1≤10000 ^ m*lm B m:=Int.mul_le_mul_of_nonneg_left h0 (Int.le_of_lt (Int.pow_pos (by omega)));omega
structure Div (Z B Q Z':List Int):Prop where
  limQ:Lim Q
  limZ:Lim Z'
  len:Z'.length=Z.length
  sum:val Q*val B+val Z'=val Z
  small:val Z'<val B
theorem jKV {Z B Q Y Y':List Int}{i n qn:Nat}{q:Int}(hsum:val Q*val B+val Y=val Z)(hq0:lm Q i=0)(hi:i<Q.length)(hw:Win Y Y' i (n+1+1) (q*val B))(hle:i+(n+1+1)≤Y.length)(he:val ((Y.drop i).take (n+1+1))=val (Y.drop i))(hs:val ((Y'.drop i).take (n+1+1))<val B):val (Q.set i q)*val B+val Y'=val Z∧val (Y'.drop i)<val B:=by
 have h1:=hw.all hle;have h2:=hw.drop hle;have h3:=hw.win;refine ⟨?_,by omega⟩;rw[jGa Q i q hi,hq0,h1];generalize (10000:Int) ^ i=P at *
 grind
theorem jDr (g L capb m:Nat)(bo:Option Addr)(w:World)(h:m=0∨L≤m)(hL:L≤60000)(hm:m≤60000):Calls Tryz.prog 147 #[.slice (some ⟨g,0,none⟩) L L,.slice bo m capb] w fun e w'=>e = .returned (.slice none 0 0)∧w'=w:=by
 by_cases h0:m=0
 ·subst h0;go_enter Tryz.func147,Tryz.ntmps147;go_wp2;go_ret;exact ⟨rfl,rfl⟩
 ·(have h0':((m:Int) == 0)=false:=by simp;omega);(have h1:(L:Int)≤(m:Int):=by omega);go_enter Tryz.func147,Tryz.ntmps147;go_wp2;go_ret;exact ⟨rfl,rfl⟩
theorem jEH (g L capb n:Nat)(bo:Option Addr)(Z B:List Int)(w:World)(hk:Blk w g Z)(hl:Z.length=L)(hs:Row w bo (n+1) capb B)(hne:∀ b o',bo=some ⟨b,o',none⟩→b≠g)(hZ:Lim Z)(hB:Lim B)(htop:1≤lm B n)(hz:lm Z (L - 1)=0)(hn:n+1<L)(hL:L≤50000):Calls Tryz.prog 147 #[.slice (some ⟨g,0,none⟩) L L,.slice bo (n+1:Nat) capb] w fun e w'=>∃ (qo:Option Addr) (qn qcap:Nat) (Q Z':List Int),e = .returned (.slice qo qn qcap)∧qn≤L∧Div Z B Q Z'∧Row w' qo qn qcap Q∧Blk w' g Z'∧w.grownBy w' (some g):=by
  have l2:=hs.len;(have h0':(((n:Int)+1) == 0)=false:=by rw[beq_eq_false_iff_ne];omega);(have h1':decide ((L:Int)≤(n:Int)+1)=false:=by rw[decide_eq_false_iff_not];omega);have hgw:=hk.lt;have hV1:=hid (jIp B n hB l2 htop);have hV2:=hid (Int.le_of_lt (jCp hB));(have hst:Hid (val (Z.drop (L - (n+1)))<val B):=by have:=jI9 (Z.drop (L - (n+1))) n (jBS hZ _) (by rw[List.length_drop];omega) (by rw[jCA,show L - (n+1)+n=L - 1 by omega];exact hz);have h2:=hV1.out;show _ < _;omega);have HK:=hid hk;have HS:=hid hs;have HNE:=hid hne;clear hk hs hne;go_enter Tryz.func147,Tryz.ntmps147;go_wp2_with (at_make;refine jAf _ rfl _ _ rfl _ _ (L - (n+1)) rfl rfl (by omega) (by omega) (by omega) ?_);intro w1 hk1 hb1 hz1;have HK1:=hid hk1;have HB1:=hid hb1;obtain ⟨G,hG⟩:∃ G,G=w.heap.size:=⟨_,rfl⟩;(have hgG:g<G:=by omega);(have hGw:w.heap.size≤G:=by omega);rw[← hG] at HK1 ⊢;clear hk1 hb1 hG;go_wp2
  go_loopw [6] (fun vi wr => ∃ (k : Nat) (Q Y : List Int), k ≤ L - (n + 1) ∧ vi = .int .i64 ((k : Int) - 1) ∧ Q.length = L - (n + 1) ∧ Y.length = L ∧ Hid (Lim Q) ∧ Hid (Lim Y) ∧ Hid (val Q * val B + val Y = val Z) ∧ Hid (val (Y.drop k) < val B) ∧
      Hid (∀ t, t < k → lm Q t = 0) ∧ Hid (Blk wr G Q) ∧ Hid (Blk wr g Y) ∧ Hid (w.grownBy wr (some g))) (fun vi _ => (intOf vi + 1).toNat)
  case atStart=>refine ⟨L - (n+1),_,Z,Nat.le_refl _,by go_num,by simp,hl,jBJ _,hZ,by simp[Hid,jDL],hst.out,fun t _=>jCX _ t,HK1.out,HK.out.below HB1.out (by omega),jBl (World.grownBy.refl _ _) HB1.out⟩
  case round=>
    obtain ⟨k,Q,Y,hk,rfl,hql,hyl,hQL,hYL,hsum,hsm,hq0,hbQ,hbY,hg⟩:=hrel;by_cases k0:k=0
    · subst k0;go_wp2;go_ret;have hrow:=Blk.row0 hbQ.out (L - (n+1)) (L - (n+1)) hql.symm (Nat.le_refl _) (by unfold maxLen;omega);exact ⟨_,_,_,Q,Y,rfl,by omega,⟨hQL.out,hYL.out,by omega,hsum.out,by have:=hsm.out;rwa [List.drop_zero] at this⟩,hrow,hbY.out,hg.out⟩
    · obtain ⟨i,rfl⟩:∃ i,k=i+1:=⟨k - 1,by omega⟩;(have hq1:(0:Int)≤((i+1:Nat):Int) - 1:=by omega);have hrs:=hid (HS.out.grown hg.out HNE.out);have hwin:=hid (jHu Y i (n+1) (val B) hYL.out (by have:=hV2.out;rwa [l2] at this) (by omega) hsm.out);go_wp2_with fail;rw[show i+(n+1)+1 - i=n+1+1 from by omega];refine (jGj g i n (L - i) capb bo Y B _ hbY.out (by omega) (by omega) (by unfold maxLen;omega) hrs.out HNE.out hYL.out hB htop (by rw[hwin.out.1];exact hwin.out.2.1) (by omega)).mono ?_;rintro e w3 ⟨q,Y1,rfl,q0,q1,hw1,hl1,hs1,hk1,hg1⟩;have hGr:G<wr.heap.size:=hbQ.out.lt;have HQ3:Hid (Blk w3 G Q):=(hg1.block G hGr (by intro e;cases e;omega)).trans hbQ.out;have g1:=HQ3.out.cell i (by omega);have g2:=HQ3.out.frozen i;have HD:=hid (jKV (qn:=L) hsum.out (hq0.out i (by omega)) (by omega) hw1 (by omega) hwin.out.1 hs1);(have hy1l:Y1.length=L:=by have:=hw1.len;omega);have HK3:=hid hk1;have HL1:=hid hl1;have HG3:=hid (jCs hg.out hg1);clear hw1 hs1 hk1 hg1 hl1;go_wp2
      go_roundw
      (case rel=>refine ⟨i,Q.set i q,Y1,by omega,by go_num,by simpa using hql,hy1l,jBw hQL.out i q q0 q1,HL1.out,HD.out.1,HD.out.2,fun t ht=>(jF5 Q i t q (by omega)).trans (hq0.out t (by omega)),HQ3.out.set i q,HK3.out.other _ _ (by show G≠g;omega),?_⟩;exact ⟨HG3.out.os,HG3.out.tape,HG3.out.output,by simpa [World.setCell] using HG3.out.size,fun t ht hne=>(Below.heap_setCell w3 _ _ t (by show t≠G;omega)).trans (HG3.out.block t ht hne)⟩);case measure=>simp[intOf]
theorem Tryz.sizeInt:(Tryz.prog.info? 3).map (·.size)=some 1:=by kernel_rfl
theorem jDq (w:World){ops:Array Oper}{rest:List Oper}{o:Oper}{a:Act}{Q:Exit→Act→World→Prop}(hgd:o.guard=none)(d s:Operand)(ho:o.op = .call { callee:=.builtin .copy,args:=#[d,s],argTypes:=#[28,28] })(g n dLen dCap cap:Nat)(so:Option Addr)(D xs:List Int)(hd:a.eval d = .slice (some ⟨g,0,none⟩) dLen dCap)(hs:a.eval s = .slice so n cap)(hk:Blk w g D)(hD:D.length=dLen)(hr:Row w so n cap xs)(hle:n≤dLen)(h:∀ w',Hid (Blk w' g (xs ++ D.drop n))→Below g w w'→wpList Tryz.prog ops Q rest (a.put o.dst (goInt n)) w'):wpList Tryz.prog ops Q (o :: rest) a w:=by
 have hl:=hr.len;(have hcl:((xs.map (Value.int .i64)).length:Int)=n:=by simp[hl]);refine wpList_copy_splice hgd d s _ _ ho 3 Tryz.underlying28 Tryz.sizeInt (some ⟨g,0,none⟩) so dLen dCap n cap hd hs g 0 (D.map (Value.int .i64)) 3 hk (xs.map (Value.int .i64)) (by rw[List.length_map,hl];exact (Nat.min_eq_left hle).symm) ?_ (by simp;omega) ?_ g w (Below.refl _ _) (Nat.le_refl _) ?_
 ·intro hp;obtain ⟨b,off,e,_⟩:=hr.head (by simpa [hl] using hp);refine ⟨rfl,⟨b,off,none⟩,e,fun j v hv=>?_⟩
  have hj:j<n:=by
   have:=(List.getElem?_eq_some_iff.1 hv).1
   simpa [hl] using this
  have:=hr.cell b off e j hj;rw[show (⟨b,off,none⟩:Addr).add j=⟨b,off+j,none⟩ by simp[Addr.add],this];rw[← hv];unfold lm;simp[show j<xs.length by omega]
 ·intro v hv;obtain ⟨x,_,rfl⟩:=List.mem_map.1 hv;rfl
 ·intro w' hk' hb;rw[hcl];refine h w' ?_ hb;have:=hk'.out;unfold splice at this;show w'.heap[g]? = _;rw[this];simp[hl]
theorem jDD (ao:Option Addr)(n cap:Nat)(xs:List Int)(w:World)(hr:Row w ao n cap xs)(hn:n≤60000):Calls Tryz.prog 146 #[.agg #[.slice ao n cap]] w fun e w'=>∃ g,e = .returned (.slice (some ⟨g,0,none⟩) (n+1:Nat) (n+1:Nat))∧w.heap.size≤g∧Blk w' g (xs ++ [0])∧Below w.heap.size w w':=by
 have X0:=hid (jAC w #[.slice ao n cap] 116);have hb0:=hid ((Below.refl _ w).alloc (Nat.le_refl _) (.cells #[.slice ao n cap] 116));have HR:=hid (hr.below hb0.out);clear hr;go_enter Tryz.func146,Tryz.ntmps146;go_wp2_with (at_make;refine jAf _ rfl _ _ rfl _ _ (n+1) rfl rfl (by omega) (by omega) (by omega) ?_);intro w1 hk1 hb1 hz1;have X1:=hid (X0.out.below hb1 (by omega));have k1:=X1.out.cell 0 _ rfl;have HR1:=hid (HR.out.below (hb1.mono (by simp)));have HB1:=hid hb1;have HK1:=hid hk1;clear hb1 hk1;go_wp2_with (refine jDq _ rfl (.tmp 9) (.tmp 11) rfl (w.heap.size+1) n (n+1) (n+1) cap ao (List.replicate (n+1) 0) xs rfl rfl HK1.out (by simp) HR1.out (by omega) ?_);intro w2 hk2 hb2;have HB2:=hid hb2;clear hb2;go_wp2;go_ret;refine ⟨w.heap.size+1,rfl,by omega,?_,hb0.out.trans ((HB1.out.mono (by omega)).trans (HB2.out.mono (by omega)))⟩;exact hk2.out
theorem jLb (xs:List Int)(n:Nat)(h:xs.length=n):lm (xs ++ [0]) n=0:=by subst h;unfold lm;simp
theorem jKc (xs:List Int):val (xs ++ [0])=val xs:=by rw[jCk];simp[val]
theorem jKE {xs:List Int}(h:Lim xs):Lim (xs ++ [0]):=by
 intro x hx;rcases List.mem_append.1 hx with hx | hx
 ·exact h x hx
 ·have:=List.mem_singleton.1 hx;omega
theorem jJf {B:List Int}(h:Topped B)(hL:Lim B)(n:Nat)(hn:B.length=n+1):1≤lm B n:=by
 have:=jAN hL n
 have h2:lm B n≠0:=by
  intro hc;apply h;rw[List.getLast?_eq_getElem?,hn,Nat.add_sub_cancel];unfold lm at hc;rw[List.getElem?_eq_getElem (by omega)]
  simpa [show n<B.length by omega] using hc
 omega
theorem jCr (g n capb m:Nat)(bo:Option Addr)(x y:Nat)(w:World)(hk:Blk w g (limbs x ++ [0]))(hl:(limbs x).length=n)(hs:Row w bo m capb (limbs y))(hne:∀ b o',bo=some ⟨b,o',none⟩→0<m→b≠g)(hn:n≤40000)(hm:m≤40000):Calls Tryz.prog 147 #[.slice (some ⟨g,0,none⟩) (n+1:Nat) (n+1:Nat),.slice bo m capb] w fun e w'=>∃ (qo:Option Addr) (qn qcap:Nat) (Q Z':List Int),e = .returned (.slice qo qn qcap)∧qn≤n+1∧Lim Q∧Lim Z'∧Z'.length=n+1∧(val Q).toNat=x / y∧(val Z').toNat=x % y∧Row w' qo qn qcap Q∧Blk w' g Z'∧w.grownBy w' (some g):=by
 have l2:=hs.len;have hZL:=jKE (jAI x);(have hv:val (limbs x ++ [0])=(x:Int):=by rw[jKc,jAb]);by_cases h:m=0∨n+1≤m
 ·refine (jDr g (n+1) capb m bo w h (by omega) (by omega)).mono ?_;rintro e w' ⟨rfl,rfl⟩
  have hq:x / y=0∧x % y=x:=by
   by_cases hy:y=0
   ·subst hy;simp
   ·(have hm0:m≠0:=by intro hc;apply jBt hy;apply List.eq_nil_of_length_eq_zero;omega);(have hlt:x<y:=by have h1:=jCJ (jAI x) (jAI y) (jBW y) (by omega);rw[jAb,jAb] at h1;omega);exact ⟨Nat.div_eq_of_lt hlt,Nat.mod_eq_of_lt hlt⟩
  refine ⟨none,0,0,[],_,rfl,by omega,by simp[Lim],hZL,by simp[hl],by rw[hq.1];rfl,by rw[hq.2,hv];omega,Row.nil _,hk,World.grownBy.refl _ _⟩
 ·obtain ⟨k,rfl⟩:∃ k,m=k+1:=⟨m - 1,by omega⟩;have htop:=jJf (jBW y) (jAI y) k l2;refine (jEH g (n+1) capb k bo _ (limbs y) w hk (by simp[hl]) hs (fun b o' e=>hne b o' e (by omega)) hZL (jAI y) htop (by rw[Nat.add_sub_cancel];exact jLb _ n hl) (by omega) (by omega)).mono ?_;rintro e w' ⟨qo,qn,qcap,Q,Z',rfl,hqn,hd,hrow,hb,hg⟩;have h1:=hd.sum;have h2:=hd.small;rw[hv,jAb] at h1;rw[jAb] at h2;have n1:=jAY hd.limQ;have n2:=jAY hd.limZ;(have e1:x=(val Q).toNat*y+(val Z').toNat:=by have a1:((val Q).toNat:Int)=val Q:=Int.toNat_of_nonneg n1;have a2:((val Z').toNat:Int)=val Z':=Int.toNat_of_nonneg n2;(have a3:(((val Q).toNat*y+(val Z').toNat:Nat):Int)=x:=by rw[Int.natCast_add,Int.natCast_mul,a1,a2];exact h1);omega);obtain ⟨d1,d2⟩:=jJM x y _ _ e1 (by omega);exact ⟨qo,qn,qcap,Q,Z',rfl,hqn,hd.limQ,hd.limZ,by rw[hd.len];simp[hl],d1,d2,hrow,hb,hg⟩
theorem jBZ (ao bo:Option Addr)(n capa m capb:Nat)(x y:Nat)(w:World)(hr:Row w ao n capa (limbs x))(hs:Row w bo m capb (limbs y))(hn:n≤40000)(hm:m≤40000):Calls Tryz.prog 129 #[.agg #[.slice ao n capa],.agg #[.slice bo m capb]] w fun e w'=>∃ v,e = .returned v∧Num w' v (x / y)∧Below w.heap.size w w':=by
 have l1:=hr.len;obtain ⟨c1,c2,c3,c5⟩:=boxes3 w #[.slice ao n capa] #[.slice bo m capb] #[.slice none 0 0] 116 116 116;have hr1:=hid (hr.below c5);have hs1:=hid (hs.below c5);(have hbo:∀ b o',bo=some ⟨b,o',none⟩→0<m→b<w.heap.size:=fun b o e h=>by obtain ⟨b',o',e',hl⟩:=hs.head h;rw[e] at e';cases e';exact hl);have HBO:=hid hbo;have H5:=hid c5;have X2:=hid c2;have X3:=hid c3;clear hr hs c5 c1 c2 c3 hbo;go_enter Tryz.func129,Tryz.ntmps129;go_wp2_with fail;refine (jDD ao n capa (limbs x) _ hr1.out (by omega)).mono ?_;rintro e w2 ⟨g,rfl,hg0,hk2,hb2⟩;simp only[World.size_alloc] at hg0;have Y2:=hid (X2.out.below hb2 X2.out.lt);have Y3:=hid (X3.out.below hb2 X3.out.lt);have y2:=Y2.out.cell 0 _ rfl;have hs2:=hid (hs1.out.below hb2);have HB2:Hid (Below w.heap.size w w2):=H5.out.trans (hb2.mono (by simp;omega));have HK2:=hid hk2;have hgw:g<w2.heap.size:=hk2.lt;clear hb2 hk2 hr1 hs1 H5 X2 X3;go_wp2_with fail;refine (jCr g n capb m bo x y _ HK2.out l1 hs2.out (fun b o' e h=>by have:=HBO.out b o' e h;omega) hn hm).mono ?_;rintro e w3 ⟨qo,qn,qcap,Q,Z',rfl,hqn,hQL,hZL,hzl,hq,hz,hrow,hbk,hg⟩;have W2:=hid ((hg.block _ Y2.out.lt (by intro e;cases e;omega)).trans Y2.out);have W3:Hid (Bx w3 (w.heap.size+1+1) #[.slice none 0 0] 116):=(hg.block _ Y3.out.lt (by intro e;cases e;omega)).trans Y3.out;have HB3:Hid (Below w.heap.size w w3):=(HB2.out).grown hg (by have:=HB2.out.size;omega) (fun k e=>by cases e;omega);have HR3:=hid hrow;have HQ:=hid hq;have hsz:w.heap.size+1+1<w3.heap.size:=W3.out.lt;clear hrow hbk hg hq hz W2;go_wp2_with fail;refine (jCf qo qn qcap Q _ HR3.out hQL (by omega)).mono ?_;rintro e w4 ⟨j,hj,hj2,rfl,hb4⟩;have Z4:=hid (W3.out.below hb4 hsz);have z1:=Z4.out.cell 0 _ rfl;have z2:=Z4.out.frozen 0;have HR4:=hid (jBR HR3.out hj hj2 HQ.out hb4);have HB4:Hid (Below w.heap.size w w4):=HB3.out.trans (hb4.mono (by omega));clear hb4 hj2;go_wp2;refine bodyPost_ret (v:=.agg #[.slice qo j qcap]) (by simp[results,Tryz.results129,go_sem,z1]) rfl ⟨_,rfl,⟨_,_,_,rfl,HR4.out.other _ _ _ Z4.out (by decide)⟩,?_⟩;exact HB4.out.setCell (by simp;omega) _
theorem jBh (ao bo:Option Addr)(n capa m capb:Nat)(x y:Nat)(w:World)(hr:Row w ao n capa (limbs x))(hs:Row w bo m capb (limbs y))(hn:n≤40000)(hm:m≤40000):Calls Tryz.prog 130 #[.agg #[.slice ao n capa],.agg #[.slice bo m capb]] w fun e w'=>∃ v,e = .returned v∧Num w' v (x % y)∧Below w.heap.size w w':=by
 have l1:=hr.len;obtain ⟨c1,c2,c3,c5⟩:=boxes3 w #[.slice ao n capa] #[.slice bo m capb] #[.slice none 0 0] 116 116 116;have hr1:=hid (hr.below c5);have hs1:=hid (hs.below c5);(have hbo:∀ b o',bo=some ⟨b,o',none⟩→0<m→b<w.heap.size:=fun b o e h=>by obtain ⟨b',o',e',hl⟩:=hs.head h;rw[e] at e';cases e';exact hl);have HBO:=hid hbo;have H5:=hid c5;have X2:=hid c2;have X3:=hid c3;clear hr hs c5 c1 c2 c3 hbo;go_enter Tryz.func130,Tryz.ntmps130;go_wp2_with fail;refine (jDD ao n capa (limbs x) _ hr1.out (by omega)).mono ?_;rintro e w2 ⟨g,rfl,hg0,hk2,hb2⟩;simp only[World.size_alloc] at hg0;have Y2:=hid (X2.out.below hb2 X2.out.lt);have Y3:=hid (X3.out.below hb2 X3.out.lt);have y2:=Y2.out.cell 0 _ rfl;have hs2:=hid (hs1.out.below hb2);have HB2:Hid (Below w.heap.size w w2):=H5.out.trans (hb2.mono (by simp;omega));have HK2:=hid hk2;have hgw:g<w2.heap.size:=hk2.lt;clear hb2 hk2 hr1 hs1 H5 X2 X3;go_wp2_with fail;refine (jCr g n capb m bo x y _ HK2.out l1 hs2.out (fun b o' e h=>by have:=HBO.out b o' e h;omega) hn hm).mono ?_;rintro e w3 ⟨qo,qn,qcap,Q,Z',rfl,hqn,hQL,hZL,hzl,hq,hz,hrow,hbk,hg⟩;have W3:Hid (Bx w3 (w.heap.size+1+1) #[.slice none 0 0] 116):=(hg.block _ Y3.out.lt (by intro e;cases e;omega)).trans Y3.out;have HB3:Hid (Below w.heap.size w w3):=(HB2.out).grown hg (by have:=HB2.out.size;omega) (fun k e=>by cases e;omega);have HR3:=hid (Blk.row0 hbk (n+1) (n+1) hzl.symm (Nat.le_refl _) (by unfold maxLen;omega));have HQ:=hid hz;have hsz:w.heap.size+1+1<w3.heap.size:=W3.out.lt;clear hrow hbk hg hq hz;go_wp2_with fail;refine (jCf _ (n+1) (n+1) Z' _ HR3.out hZL (by omega)).mono ?_;rintro e w4 ⟨j,hj,hj2,rfl,hb4⟩;have Z4:=hid (W3.out.below hb4 hsz);have z1:=Z4.out.cell 0 _ rfl;have z2:=Z4.out.frozen 0;have HR4:=hid (jBR HR3.out hj hj2 HQ.out hb4);have HB4:Hid (Below w.heap.size w w4):=HB3.out.trans (hb4.mono (by omega));clear hb4 hj2;go_wp2;refine bodyPost_ret (v:=.agg #[.slice (some ⟨g,0,none⟩) j (n+1)]) (by simp[results,Tryz.results130,go_sem,z1]) rfl ⟨_,rfl,⟨_,_,_,rfl,HR4.out.other _ _ _ Z4.out (by decide)⟩,?_⟩;exact HB4.out.setCell (by simp;omega) _
theorem Bx.set {w:World}{b:Nat}{v:Value}{T:TypeId}(h:Bx w b #[v] T)(u:Value):Bx (w.setCell ⟨b,0,none⟩ u) b #[u] T:=by
 unfold Bx;rw[heap_setCell_same w b 0 _ _ _ h];rfl
theorem Row.alloc {w:World}{ao:Option Addr}{n cap:Nat}{xs:List Int}(h:Row w ao n cap xs)(o:Obj):Row (w.alloc o) ao n cap xs:=h.below ((Below.refl _ _).alloc (Nat.le_refl _) _)
theorem jIR (ao bo:Option Addr)(n capa m capb:Nat)(x y:Nat)(w:World)(hr:Row w ao n capa (limbs x))(hs:Row w bo m capb (limbs y))(hn:n≤40000)(hm:m≤40000):Calls Tryz.prog 144 #[.agg #[.slice ao n capa],.agg #[.slice bo m capb]] w fun e w'=>∃ v,e = .returned v∧Num w' v (Nat.gcd x y)∧Below w.heap.size w w':=by
  obtain ⟨c1,c2,c3,c5⟩:=boxes3 w #[.slice ao n capa] #[.slice bo m capb] #[.slice none 0 0] 116 116 116;have hr1:=hid (hr.below c5);have hs1:=hid (hs.below c5);have H5:=hid c5;have X1:=hid c1;have X2:=hid c2;have X3:=hid c3;clear hr hs c5 c1 c2 c3;go_enter Tryz.func144,Tryz.ntmps144;go_wp2
  go_loopg [5] y (fun k _ wr => ∃ (ao bo : Option Addr) (n capa m capb a b : Nat), k = b ∧ n ≤ 40000 ∧ m ≤ 40000 ∧ Hid (Nat.gcd a b = Nat.gcd x y) ∧ Hid (Row wr ao n capa (limbs a)) ∧ Hid (Row wr bo m capb (limbs b)) ∧
      Hid (Bx wr w.heap.size #[.slice ao n capa] 116) ∧ Hid (Bx wr (w.heap.size + 1) #[.slice bo m capb] 116) ∧ Hid (Bx wr (w.heap.size + 1 + 1) #[.slice none 0 0] 116) ∧ Hid (Below w.heap.size w wr))
  case atStart=>exact ⟨ao,bo,n,capa,m,capb,x,y,rfl,hn,hm,rfl,hr1.out,hs1.out,X1.out,X2.out,X3.out,H5.out⟩
  case round=>
    obtain ⟨ao,bo,n,capa,m,capb,a,b,hgk,hn,hm,hgcd,hra,hrb,B1,B2,B3,hB⟩:=hrel;have HG:=hid hgk;clear hgk hr1 hs1 X1 X2 X3 H5;have hsz:w.heap.size+1+1<wr.heap.size:=B3.out.lt;have b1:=B1.out.cell 0 _ rfl;have b2:=B2.out.cell 0 _ rfl;have b3:=B3.out.cell 0 _ rfl;have fz:=B3.out.frozen 0;by_cases hb0:b=0
    · (have hz:isZ b=true:=by simp[isZ,hb0]);go_wp2_with fail;refine (jAT bo m capb b _ hrb.out (by omega)).mono ?_;rintro e w2 ⟨rfl,hb2⟩;have C1:=hid (B1.out.below hb2 (by omega));have C3:=hid (B3.out.below hb2 (by omega));have c1:=C1.out.cell 0 _ rfl;have c3:=C3.out.cell 0 _ rfl;have f3:=C3.out.frozen 0;have HR2:=hid (hra.out.below hb2);have HB2:Hid (Below w.heap.size w w2):=hB.out.trans (hb2.mono (by omega));(have HE:Hid (a=Nat.gcd x y):=by have:=hgcd.out;rw[hb0,Nat.gcd_zero_right] at this;exact this);clear hb2;go_wp2;refine bodyPost_ret (v:=.agg #[.slice ao n capa]) (by simp[results,Tryz.results144,go_sem,c3]) rfl ⟨_,rfl,⟨_,_,_,rfl,?_⟩,HB2.out.setCell (by simp;omega) _⟩;rw[← HE.out];exact HR2.out.other _ _ _ C3.out (by decide)
    · (have hz:isZ b=false:=by simp[isZ,hb0]);go_wp2_with fail;refine (jAT bo m capb b _ hrb.out (by omega)).mono ?_;rintro e w2 ⟨rfl,hb2⟩;have hsz2:=hb2.size;have C1:=hid (B1.out.below hb2 (by omega));have C2:=hid (B2.out.below hb2 (by omega));have C3:=hid (B3.out.below hb2 (by omega));have c1:=C1.out.cell 0 _ rfl;have c2:=C2.out.cell 0 _ rfl;have HR2:=hid (hra.out.below hb2);have HS2:=hid (hrb.out.below hb2);have HB2:Hid (Below w.heap.size w w2):=hB.out.trans (hb2.mono (by omega));clear hb2;go_wp2_with fail;refine (jBh ao bo n capa m capb a b _ HR2.out HS2.out hn hm).mono ?_;rintro e w3 ⟨v,rfl,⟨ro,rn,rcap,rfl,hr3⟩,hb3⟩;have hsz3:=hb3.size;have D1:=hid (C1.out.below hb3 (by omega));have D2:=hid (C2.out.below hb3 (by omega));have D3:=hid (C3.out.below hb3 (by omega));have d1:=D1.out.cell 0 _ rfl;have d2:=D2.out.cell 0 _ rfl;have f1:=D1.out.frozen 0;have f2:=D2.out.frozen 0;have HS3:=hid (HS2.out.below hb3);have HR3:=hid hr3;have HB3:Hid (Below w.heap.size w w3):=HB2.out.trans (hb3.mono (by omega));(have hp0:w.heap.size<w3.heap.size:=by omega);(have hp1:w.heap.size+1<w3.heap.size:=by omega);clear hb3 hr3 c1 c2 b1 b2 b3 fz hsz hsz2 hsz3;(have hrn:rn≤40000:=by have h1:=HR3.out.len;have h2:=HS3.out.len;have:=@jAh (a % b) b (Nat.le_of_lt (Nat.mod_lt a (by omega)));omega);go_wp2;go_roundg (a % b);case measure=>rw[HG.out];exact Nat.mod_lt a (by omega)
      case rel=>
        have E2:=D2.out.other ⟨w.heap.size,0,none⟩ (.slice bo m capb) (by show w.heap.size≠w.heap.size+1;omega);have E1:=(D1.out.set (.slice bo m capb)).other ⟨w.heap.size+1,0,none⟩ (.slice ro rn rcap) (by show w.heap.size+1≠w.heap.size;omega);have E3:=(D3.out.other ⟨w.heap.size,0,none⟩ (.slice bo m capb) (by show w.heap.size≠w.heap.size+1+1;omega)).other ⟨w.heap.size+1,0,none⟩ (.slice ro rn rcap) (by show w.heap.size+1≠w.heap.size+1+1;omega);refine ⟨bo,ro,m,capb,rn,rcap,b,a % b,rfl,hm,hrn,?_,?_,?_,?_,?_,?_,?_⟩
        · exact ((Nat.gcd_comm b (a % b)).trans ((Nat.gcd_rec b a).symm.trans (Nat.gcd_comm b a))).trans hgcd.out
        · exact ((HS3.out.other _ _ _ D1.out (by decide)).other _ _ _ E2 (by decide)).alloc _
        · exact ((HR3.out.other _ _ _ D1.out (by decide)).other _ _ _ E2 (by decide)).alloc _
        · exact jAB E1 _
        · exact jAB (E2.set _) _
        · exact jAB E3 _
        · exact ((HB3.out.setCell (Nat.le_refl _) _).setCell (by show w.heap.size≤w.heap.size+1;omega) _).alloc (by simp[World.setCell];omega) _
end Go.Proofs.YtigokanoflkinabGreatDoor
