/- WRd, WExA, WExB, WExC, joined. -/
import Derived.Test.YtigokanoflkinabGreatDoorWPrs
import Derived.Test.YtigokanoflkinabGreatDoorWTxt
import Derived.Test.YtigokanoflkinabGreatDoorPure
import Derived.Test.YtigokanoflkinabGreatDoorWRat
set_option maxHeartbeats 2000000
set_option maxRecDepth 20000
namespace Go.Proofs.YtigokanoflkinabGreatDoor
set_option linter.unusedSimpArgs false
set_option linter.unusedVariables false
open Go.RowKit Por
def Sm (q:Rat)(L:Nat):Prop:=(limbs q.num.natAbs).length≤L∧(limbs q.den).length≤L
theorem jDf {neg:Bool}{t:List UInt8}{q:Rat}(h:parseU neg t=some q)(ht:t.length≤300):Sm q 300:=by
 unfold parseU at h
 cases hw:wholeB (t.take (slashAt t)) with
 | false=>rw[hw,if_neg (by simp)] at h;cases h
 | true=>
  rw[hw,if_pos rfl] at h;have hu:=jAm hw;have hul:(t.take (slashAt t)).length≤t.length:=List.length_take_le' _ _
  cases hz:zeroB neg (dv (t.take (slashAt t))) with
  | true=>rw[hz,if_pos rfl] at h;cases h
  | false=>
   rw[hz,if_neg (by simp)] at h;by_cases hk:slashAt t=t.length
   ·rw[if_pos hk] at h
    cases h
    obtain ⟨e1,e2,_⟩:=jB4 neg (dv (t.take (slashAt t))) 1 (by omega) (Nat.gcd_one_right _) hz;refine ⟨by rw[e1];omega,by rw[e2,jA0];decide⟩
   ·rw[if_neg hk] at h
    cases hv:wholeB (t.drop (slashAt t+1)) with
    | false=>rw[hv,if_neg (by simp)] at h;cases h
    | true=>
     rw[hv,if_pos rfl] at h;have hd:=jAm hv;rw[List.length_drop] at hd
     cases hl:lowB (dv (t.take (slashAt t))) (dv (t.drop (slashAt t+1))) with
     | false=>rw[hl,if_neg (by simp)] at h;cases h
     | true=>
      rw[hl,if_pos rfl] at h
      cases h
      (have hg:1<dv (t.drop (slashAt t+1))∧Nat.gcd (dv (t.take (slashAt t))) (dv (t.drop (slashAt t+1)))=1:=by unfold lowB at hl;simpa using hl);obtain ⟨e1,e2,_⟩:=jB4 neg _ _ (by omega) hg.2 hz;refine ⟨by rw[e1];omega,by rw[e2];omega⟩
theorem jGW {l:List UInt8}{q:Rat}(h:readL l=some q):Sm q 300:=by
 unfold readL at h;by_cases hl:l.length≤300
 ·rw[if_pos hl] at h;unfold parseL at h;by_cases hh:l.head? = some 45
  ·rw[if_pos hh] at h;exact jDf h (by rw[List.length_tail];omega)
  ·rw[if_neg hh] at h;exact jDf h hl
 ·rw[if_neg hl] at h;cases h
theorem jFs {s:ByteArray}{q:Rat}(h:readL s.data.toList=some q):s.size≤300∧parseL s.data.toList=some q:=by
 unfold readL at h;have e:s.data.toList.length=s.size:=(by simp);by_cases hl:s.data.toList.length≤300
 ·rw[if_pos hl] at h;exact ⟨by omega,h⟩
 ·rw[if_neg hl] at h;cases h
theorem jHh (s:ByteArray)(w:World)(q:Rat)(hs:s.size≤300)(hq:Hid (parseL s.data.toList=some q)):Calls Tryz.prog 128 #[.string s] w fun e w'=>∃ v,e = .returned (.tuple #[v,.bool true])∧Frac w' v q∧Below w.heap.size w w':=by
 have XR_0:=hid (jAC w #[.bool false,.slice none 0 0,.slice none 0 0] 118);have HB_0:=hid ((Below.refl _ w).alloc (Nat.le_refl _) (.cells #[.bool false,.slice none 0 0,.slice none 0 0] 118));go_enter Tryz.func128,Tryz.ntmps128;go_wp2_with fail;refine (jE6 s _ hs).mono ?_;rintro e0 w0 hpe;rw[hq.out] at hpe;obtain ⟨v,rfl,⟨uo,un,uc,yo,yn,yc,rfl,hr1,hr2⟩,hb0⟩:=hpe;have XR_1:=hid (XR_0.out.keep hb0);have HB_1:Hid (Below w.heap.size w w0):=HB_0.out.trans (hb0.mono HB_0.out.size);have ltR:=XR_1.out.lt;have cR0:=XR_1.out.cell 0 _ rfl;have zR0:=XR_1.out.frozen 0;have cR1:=XR_1.out.cell 1 _ rfl;have zR1:=XR_1.out.frozen 1;have cR2:=XR_1.out.cell 2 _ rfl;have zR2:=XR_1.out.frozen 2;have H1:=hid hr1;have H2:=hid hr2;clear hb0 hr1 hr2;go_wp2;have Z:=XR_1.out.put3 (.bool (negB q)) (.slice uo un uc) (.slice yo yn yc);have z0:=Z.cell 0 _ rfl;have z1:=Z.cell 1 _ rfl;have z2:=Z.cell 2 _ rfl;unfold wput3 at z0 z1 z2;have BB:=jAD HB_1.out (Nat.le_refl _) (.bool (negB q)) (.slice uo un uc) (.slice yo yn yc);refine bodyPost_ret (v:=.tuple #[.agg #[.bool (negB q),.slice uo un uc,.slice yo yn yc],.bool true]) (by simp[results,Tryz.results128,go_sem,z0,z1,z2]) rfl ⟨_,rfl,⟨uo,un,uc,yo,yn,yc,rfl,?_,?_⟩,BB⟩
 ·exact (H1.out.put3 XR_1.out (by decide) _ _ _)
 ·exact (H2.out.put3 XR_1.out (by decide) _ _ _)
theorem jJa (s:ByteArray) (w:World) (q:Rat) (hq:readL s.data.toList=some q) :
    Calls Tryz.prog 128 #[.string s] w fun e w'=>∃ v,e = .returned (.tuple #[v,.bool true])∧Frac w' v q∧Below w.heap.size w w':=
  jHh s w q (jFs hq).1 (jFs hq).2
theorem jHr (n:Int)(h0:-9223372036854775808≤n)(h1:n≤9223372036854775807)(w:World)(ht:Tab w)(hs:Hid ((⟨(Go.Lib.itoa n).toArray⟩:ByteArray).size≤300))(hq:Hid (parseL (⟨(Go.Lib.itoa n).toArray⟩:ByteArray).data.toList=some (n:Rat))):Calls Tryz.prog 90 #[.int .i64 n] w fun e w'=>∃ v,e = .returned v∧Frac w' v (n:Rat)∧Below w.heap.size w w':=by
 have HT:=hid (ht.below ((Below.refl _ w).alloc (Nat.le_refl _) (.cells #[.bool false,.slice none 0 0,.slice none 0 0] 118)));clear ht;have XR_0:=hid (jAC w #[.bool false,.slice none 0 0,.slice none 0 0] 118);have HB_0:=hid ((Below.refl _ w).alloc (Nat.le_refl _) (.cells #[.bool false,.slice none 0 0,.slice none 0 0] 118));go_enter Tryz.func90,Tryz.ntmps90;go_wp2_with fail;refine (jHZ n h0 h1 _ HT.out).mono ?_;rintro e0 w0 ⟨rfl,hb0⟩;have XR_1:=hid (XR_0.out.keep hb0);have HB_1:Hid (Below w.heap.size w w0):=HB_0.out.trans (hb0.mono HB_0.out.size);have ltR:=XR_1.out.lt;have cR0:=XR_1.out.cell 0 _ rfl;have zR0:=XR_1.out.frozen 0;have cR1:=XR_1.out.cell 1 _ rfl;have zR1:=XR_1.out.frozen 1;have cR2:=XR_1.out.cell 2 _ rfl;have zR2:=XR_1.out.frozen 2;clear hb0;go_wp2_with fail;refine (jE6 _ _ hs.out).mono ?_;rintro e1 w1 hpe;rw[hq.out] at hpe;obtain ⟨v,rfl,⟨uo,un,uc,yo,yn,yc,rfl,hr1,hr2⟩,hb1⟩:=hpe;have XR_2:=hid (XR_1.out.keep hb1);have HB_2:Hid (Below w.heap.size w w1):=HB_1.out.trans (hb1.mono HB_1.out.size);clear ltR cR0 zR0 cR1 zR1 cR2 zR2;have ltR:=XR_2.out.lt;have cR0:=XR_2.out.cell 0 _ rfl;have zR0:=XR_2.out.frozen 0;have cR1:=XR_2.out.cell 1 _ rfl;have zR1:=XR_2.out.frozen 1;have cR2:=XR_2.out.cell 2 _ rfl;have zR2:=XR_2.out.frozen 2;have H1:=hid hr1;have H2:=hid hr2;clear hb1 hr1 hr2;have YR_2:=hid (jAB XR_2.out (.cells #[.bool (negB (n:Rat)),.slice uo un uc,.slice yo yn yc] 118));have YP_2:=hid (jAC w1 #[.bool (negB (n:Rat)),.slice uo un uc,.slice yo yn yc] 118);have HC_2:Hid (Below w.heap.size w (w1.alloc (.cells #[.bool (negB (n:Rat)),.slice uo un uc,.slice yo yn yc] 118))):=HB_2.out.alloc HB_2.out.size (.cells #[.bool (negB (n:Rat)),.slice uo un uc,.slice yo yn yc] 118);go_wp2;have Z:=jAB (XR_2.out.put3 (.bool (negB (n:Rat))) (.slice uo un uc) (.slice yo yn yc)) (.cells #[.bool (negB (n:Rat)),.slice uo un uc,.slice yo yn yc] 118);have z0:=Z.cell 0 _ rfl;have z1:=Z.cell 1 _ rfl;have z2:=Z.cell 2 _ rfl;unfold wput3 at z0 z1 z2;have BB:=jAD HB_2.out (Nat.le_refl _) (.bool (negB (n:Rat))) (.slice uo un uc) (.slice yo yn yc);refine bodyPost_ret (v:=.agg #[.bool (negB (n:Rat)),.slice uo un uc,.slice yo yn yc]) (by simp[results,Tryz.results90,go_sem,z0,z1,z2]) rfl ⟨_,rfl,⟨uo,un,uc,yo,yn,yc,rfl,?_,?_⟩,BB.alloc BB.size _⟩
 ·exact (H1.out.put3 XR_2.out (by decide) _ _ _).alloc _
 ·exact (H2.out.put3 XR_2.out (by decide) _ _ _).alloc _
theorem jAo (n:Int)(h0:-9223372036854775808≤n)(h1:n≤9223372036854775807)(w:World)(ht:Tab w):Calls Tryz.prog 90 #[.int .i64 n] w fun e w'=>∃ v,e = .returned v∧Frac w' v (n:Rat)∧Below w.heap.size w w':=by
 have h3:=(Dg.int n h0 h1).txt (by decide);rw[jIq] at h3;refine jHr n h0 h1 w ht ?_ ?_
 ·show (Go.Lib.itoa n).toArray.size≤300;rw[List.size_toArray];omega
 ·show parseL (Go.Lib.itoa n).toArray.toList=some (n:Rat);rw[List.toList_toArray,← jIq];exact jE5 _
theorem read_yes' (s:ByteArray)(w:World)(q:Rat)(hq:Hid (readL s.data.toList=some q)):Calls Tryz.prog 102 #[.string s] w fun e w'=>∃ v,e = .returned (.tuple #[v,.int .i64 0])∧Frac w' v q∧Below w.heap.size w w':=by
 have XR_0:=hid (jAC w #[.bool false,.slice none 0 0,.slice none 0 0] 118);have HB_0:=hid ((Below.refl _ w).alloc (Nat.le_refl _) (.cells #[.bool false,.slice none 0 0,.slice none 0 0] 118));go_enter Tryz.func102,Tryz.ntmps102;go_wp2_with fail;refine (jJa s _ q hq.out).mono ?_;rintro e0 w0 ⟨v,rfl,⟨uo,un,uc,yo,yn,yc,rfl,hr1,hr2⟩,hb0⟩;have XR_1:=hid (XR_0.out.keep hb0);have HB_1:Hid (Below w.heap.size w w0):=HB_0.out.trans (hb0.mono HB_0.out.size);have ltR:=XR_1.out.lt;have cR0:=XR_1.out.cell 0 _ rfl;have zR0:=XR_1.out.frozen 0;have cR1:=XR_1.out.cell 1 _ rfl;have zR1:=XR_1.out.frozen 1;have cR2:=XR_1.out.cell 2 _ rfl;have zR2:=XR_1.out.frozen 2;have H1:=hid hr1;have H2:=hid hr2;clear hb0 hr1 hr2;have YR_1:=hid (jAB XR_1.out (.cells #[.bool (negB q),.slice uo un uc,.slice yo yn yc] 118));have YP_1:=hid (jAC w0 #[.bool (negB q),.slice uo un uc,.slice yo yn yc] 118);have HC_1:Hid (Below w.heap.size w (w0.alloc (.cells #[.bool (negB q),.slice uo un uc,.slice yo yn yc] 118))):=HB_1.out.alloc HB_1.out.size (.cells #[.bool (negB q),.slice uo un uc,.slice yo yn yc] 118);go_wp2;have Z:=jAB (XR_1.out.put3 (.bool (negB q)) (.slice uo un uc) (.slice yo yn yc)) (.cells #[.bool (negB q),.slice uo un uc,.slice yo yn yc] 118);have z0:=Z.cell 0 _ rfl;have z1:=Z.cell 1 _ rfl;have z2:=Z.cell 2 _ rfl;unfold wput3 at z0 z1 z2;have BB:=jAD HB_1.out (Nat.le_refl _) (.bool (negB q)) (.slice uo un uc) (.slice yo yn yc);refine bodyPost_ret (v:=.tuple #[.agg #[.bool (negB q),.slice uo un uc,.slice yo yn yc],.int .i64 0]) (by simp[results,Tryz.results102,go_sem,z0,z1,z2]) rfl ⟨_,rfl,⟨uo,un,uc,yo,yn,yc,rfl,?_,?_⟩,BB.alloc BB.size _⟩
 ·exact (H1.out.put3 XR_1.out (by decide) _ _ _).alloc _
 ·exact (H2.out.put3 XR_1.out (by decide) _ _ _).alloc _
theorem jJ5 (s:ByteArray) (w:World) (q:Rat) (hq:readL s.data.toList=some q) :
    Calls Tryz.prog 102 #[.string s] w fun e w'=>∃ v,e = .returned (.tuple #[v,.int .i64 0])∧Frac w' v q∧Below w.heap.size w w':=
  read_yes' s w q hq
theorem jFG (n:Int)(d:Nat)(hd:d≠0):(limbs (mkRat n d).num.natAbs).length≤(limbs n.natAbs).length∧(limbs (mkRat n d).den).length≤(limbs d).length:=by
 (have e:mkRat n d=Rat.normalize n d hd:=by unfold mkRat;rw[dif_neg hd]);rw[e,Rat.normalize_eq];constructor
 ·apply jAh;show (n / ((n.natAbs.gcd d:Nat):Int)).natAbs≤n.natAbs;exact Int.natAbs_ediv_le_natAbs _ _
 ·apply jAh;exact Nat.div_le_self _ _
theorem Sm.mono {q:Rat}{a b:Nat}(h:Sm q a)(hab:a≤b):Sm q b:=⟨Nat.le_trans h.1 hab,Nat.le_trans h.2 hab⟩
theorem Sm.add {x y:Rat}{a b:Nat}(hx:Sm x a)(hy:Sm y b):Sm (x+y) (a+b+1):=by
 rw[jF2];obtain ⟨h1,h2⟩:=jFG (sg (negB x) (x.num.natAbs*y.den)+sg (negB y) (y.num.natAbs*x.den)) (x.den*y.den) (Nat.mul_ne_zero x.den_nz y.den_nz);have l1:=jCU x.num.natAbs y.den;have l2:=jCU y.num.natAbs x.den;have l3:=jCU x.den y.den
 have l4:(limbs (sg (negB x) (x.num.natAbs*y.den)+sg (negB y) (y.num.natAbs*x.den)).natAbs).length≤(limbs (x.num.natAbs*y.den+y.num.natAbs*x.den)).length:=by
  apply jAh;have:=Int.natAbs_add_le (sg (negB x) (x.num.natAbs*y.den)) (sg (negB y) (y.num.natAbs*x.den))
  rwa [jCT,jCT] at this
 have l5:=jI2 (x.num.natAbs*y.den) (y.num.natAbs*x.den);obtain ⟨a1,a2⟩:=hx;obtain ⟨b1,b2⟩:=hy;exact ⟨by omega,by omega⟩
theorem Sm.neg {x:Rat}{a:Nat}(hx:Sm x a):Sm (-x) a:=by
 have e1:(-x).num = -x.num:=rfl;have e2:(-x).den=x.den:=rfl;unfold Sm;rw[e1,e2,Int.natAbs_neg];exact hx
theorem Sm.sub {x y:Rat}{a b:Nat}(hx:Sm x a)(hy:Sm y b):Sm (x - y) (a+b+1):=by rw[Rat.sub_eq_add_neg];exact hx.add hy.neg
theorem Sm.mul {x y:Rat}{a b:Nat}(hx:Sm x a)(hy:Sm y b):Sm (x*y) (a+b):=by
 rw[jIX];obtain ⟨h1,h2⟩:=jFG (sg (negB x != negB y) (x.num.natAbs*y.num.natAbs)) (x.den*y.den) (Nat.mul_ne_zero x.den_nz y.den_nz);rw[jCT] at h1;have l1:=jCU x.num.natAbs y.num.natAbs;have l3:=jCU x.den y.den;obtain ⟨a1,a2⟩:=hx;obtain ⟨b1,b2⟩:=hy;exact ⟨by omega,by omega⟩
theorem Sm.div {x y:Rat}{a b:Nat}(hx:Sm x a)(hy:Sm y b)(h0:y≠0):Sm (x / y) (a+b):=by
 rw[jI8 x y h0];obtain ⟨h1,h2⟩:=jFG (sg (negB x != negB y) (x.num.natAbs*y.den)) (x.den*y.num.natAbs) (Nat.mul_ne_zero x.den_nz (fun h=>h0 ((jDu y).1 h)));rw[jCT] at h1;have l1:=jCU x.num.natAbs y.den;have l3:=jCU x.den y.num.natAbs;obtain ⟨a1,a2⟩:=hx;obtain ⟨b1,b2⟩:=hy;exact ⟨by omega,by omega⟩
end Go.Proofs.YtigokanoflkinabGreatDoor
