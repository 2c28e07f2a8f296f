/- WRd, WExA, WExB, WExC, joined. -/
import Derived.Test.YtigokanoflkinabGreatDoorWPrs
set_option maxHeartbeats 2000000
set_option maxRecDepth 20000
namespace Go.Proofs.YtigokanoflkinabGreatDoor
set_option linter.unusedSimpArgs false
set_option linter.unusedVariables false
open Go.RowKit Por
def Sm (q:Rat)(L:Nat):Prop:=(zA q.num.natAbs).length<=L/\(zA q.den).length<=L
theorem jEK {neg:Bool}{t:List UInt8}{q:Rat}(h:xH neg t=some q)(ht:t.length<=300):Sm q 300:=by
 unfold xH at h
 cases f:zO (t.take (zH t)) with
 | false=>rw[f,if_neg (by simp)] at h;cases h
 | true=>
  rw[f,if_pos rfl] at h;have l:=jAt f;have k:(t.take (zH t)).length<=t.length:=List.length_take_le' _ _
  cases b:zeroB neg (dv (t.take (zH t))) with
  | true=>rw[b,if_pos rfl] at h;cases h
  | false=>
   rw[b,if_neg (by simp)] at h;by_cases g:zH t=t.length
   ·rw[if_pos g] at h
    cases h
    obtain ⟨c,d,_⟩:=jCC neg (dv (t.take (zH t))) 1 (by omega) (Nat.gcd_one_right _) b;refine ⟨by rw[c];omega,by rw[d,jA8];decide⟩
   ·rw[if_neg g] at h
    cases e:zO (t.drop (zH t+1)) with
    | false=>rw[e,if_neg (by simp)] at h;cases h
    | true=>
     rw[e,if_pos rfl] at h;have i:=jAt e;rw[List.length_drop] at i
     cases a:xc (dv (t.take (zH t))) (dv (t.drop (zH t+1))) with
     | false=>rw[a,if_neg (by simp)] at h;cases h
     | true=>
      rw[a,if_pos rfl] at h
      cases h
      (have j:1<dv (t.drop (zH t+1))/\Nat.gcd (dv (t.take (zH t))) (dv (t.drop (zH t+1)))=1:=by unfold xc at a;simpa using a);obtain ⟨c,d,_⟩:=jCC neg _ _ (by omega) j.2 b;refine ⟨by rw[c];omega,by rw[d];omega⟩
theorem jG1 {l:List UInt8}{q:Rat}(h:xF l=some q):Sm q 300:=by
 unfold xF at h;by_cases a:l.length<=300
 ·rw[if_pos a] at h;unfold xR at h;by_cases b:l.head? = some 45
  ·rw[if_pos b] at h;exact jEK h (by rw[List.length_tail];omega)
  ·rw[if_neg b] at h;exact jEK h a
 ·rw[if_neg a] at h;cases h
theorem jGa {s:ByteArray}{q:Rat}(h:xF s.data.toList=some q):s.size<=300/\xR s.data.toList=some q:=by
 unfold xF at h;have e:s.data.toList.length=s.size:=(by simp);by_cases a:s.data.toList.length<=300
 ·rw[if_pos a] at h;exact ⟨by omega,h⟩
 ·rw[if_neg a] at h;cases h
theorem jIi (s:ByteArray)(w:World)(q:Rat)(hs:s.size<=300)(hq:Hid (xR s.data.toList=some q)):Calls Tryz.prog 128 #[.string s] w fun e w'=>∃ v,e = .returned (.tuple #[v,.bool true])/\Frac w' v q/\Below w.heap.size w w':=by
 have f:=hid (jAC w #[.bool false,.slice none 0 0,.slice none 0 0] 118);have b:=hid ((Below.refl _ w).alloc (Nat.le_refl _) (.cells #[.bool false,.slice none 0 0,.slice none 0 0] 118));go_enter Tryz.func128,Tryz.ntmps128;go_wp2_with fail;refine (jFf s _ hs).mono ?_;rintro G C g;rw[hq.out] at g;obtain ⟨v,rfl,⟨l,k,j,o,n,m,rfl,h,i⟩,c⟩:=g;have a:=hid (f.out.keep c);have d:Hid (Below w.heap.size w C):=b.out.trans (c.mono b.out.size);have B:=a.out.lt;have y:=a.out.cell 0 _ rfl;have D:=a.out.frozen 0;have z:=a.out.cell 1 _ rfl;have E:=a.out.frozen 1;have A:=a.out.cell 2 _ rfl;have F:=a.out.frozen 2;have u:=hid h;have x:=hid i;clear c h i;go_wp2;have Z:=a.out.put3 (.bool (negB q)) (.slice l k j) (.slice o n m);have p:=Z.cell 0 _ rfl;have r:=Z.cell 1 _ rfl;have t:=Z.cell 2 _ rfl;unfold zW at p r t;have BB:=jAD d.out (Nat.le_refl _) (.bool (negB q)) (.slice l k j) (.slice o n m);refine bodyPost_ret (v:=.tuple #[.agg #[.bool (negB q),.slice l k j,.slice o n m],.bool true]) (by simp[results,Tryz.results128,go_sem,p,r,t]) rfl ⟨_,rfl,⟨l,k,j,o,n,m,rfl,?_,?_⟩,BB⟩
 ·exact (u.out.put3 a.out (by decide) _ _ _)
 ·exact (x.out.put3 a.out (by decide) _ _ _)
theorem jJz (s:ByteArray) (w:World) (q:Rat) (hq:xF s.data.toList=some q) :
    Calls Tryz.prog 128 #[.string s] w fun e w'=>∃ v,e = .returned (.tuple #[v,.bool true])/\Frac w' v q/\Below w.heap.size w w':=
  jIi s w q (jGa hq).1 (jGa hq).2
theorem jIa (n:Int)(h0:-9223372036854775808<=n)(h1:n<=9223372036854775807)(w:World)(ht:Tab w)(hs:Hid ((⟨(Go.Lib.itoa n).toArray⟩:ByteArray).size<=300))(hq:Hid (xR (⟨(Go.Lib.itoa n).toArray⟩:ByteArray).data.toList=some (n:Rat))):Calls Tryz.prog 90 #[.int .i64 n] w fun e w'=>∃ v,e = .returned v/\Frac w' v (n:Rat)/\Below w.heap.size w w':=by
 have L:=hid (ht.below ((Below.refl _ w).alloc (Nat.le_refl _) (.cells #[.bool false,.slice none 0 0,.slice none 0 0] 118)));clear ht;have p:=hid (jAC w #[.bool false,.slice none 0 0,.slice none 0 0] 118);have k:=hid ((Below.refl _ w).alloc (Nat.le_refl _) (.cells #[.bool false,.slice none 0 0,.slice none 0 0] 118));go_enter Tryz.func90,Tryz.ntmps90;go_wp2_with fail;refine (jH0 n h0 h1 _ L.out).mono ?_;rintro N M ⟨rfl,m⟩;have b:=hid (p.out.keep m);have l:Hid (Below w.heap.size w M):=k.out.trans (m.mono k.out.size);have y:=b.out.lt;have q:=b.out.cell 0 _ rfl;have z:=b.out.frozen 0;have r:=b.out.cell 1 _ rfl;have A:=b.out.frozen 1;have s:=b.out.cell 2 _ rfl;have B:=b.out.frozen 2;clear m;go_wp2_with fail;refine (jFf _ _ hs.out).mono ?_;rintro O C t;rw[hq.out] at t;obtain ⟨v,rfl,⟨g,f,d,j,i,h,rfl,u,x⟩,o⟩:=t;have a:=hid (b.out.keep o);have c:Hid (Below w.heap.size w C):=l.out.trans (o.mono l.out.size);clear y q z r A s B;have y:=a.out.lt;have q:=a.out.cell 0 _ rfl;have z:=a.out.frozen 0;have r:=a.out.cell 1 _ rfl;have A:=a.out.frozen 1;have s:=a.out.cell 2 _ rfl;have B:=a.out.frozen 2;have J:=hid u;have K:=hid x;clear o u x;have F:=hid (jAB a.out (.cells #[.bool (negB (n:Rat)),.slice g f d,.slice j i h] 118));have E:=hid (jAC C #[.bool (negB (n:Rat)),.slice g f d,.slice j i h] 118);have D:Hid (Below w.heap.size w (C.alloc (.cells #[.bool (negB (n:Rat)),.slice g f d,.slice j i h] 118))):=c.out.alloc c.out.size (.cells #[.bool (negB (n:Rat)),.slice g f d,.slice j i h] 118);go_wp2;have Z:=jAB (a.out.put3 (.bool (negB (n:Rat))) (.slice g f d) (.slice j i h)) (.cells #[.bool (negB (n:Rat)),.slice g f d,.slice j i h] 118);have G:=Z.cell 0 _ rfl;have H:=Z.cell 1 _ rfl;have I:=Z.cell 2 _ rfl;unfold zW at G H I;have BB:=jAD c.out (Nat.le_refl _) (.bool (negB (n:Rat))) (.slice g f d) (.slice j i h);refine bodyPost_ret (v:=.agg #[.bool (negB (n:Rat)),.slice g f d,.slice j i h]) (by simp[results,Tryz.results90,go_sem,G,H,I]) rfl ⟨_,rfl,⟨g,f,d,j,i,h,rfl,?_,?_⟩,BB.alloc BB.size _⟩
 ·exact (J.out.put3 a.out (by decide) _ _ _).alloc _
 ·exact (K.out.put3 a.out (by decide) _ _ _).alloc _
theorem jAv (n:Int)(h0:-9223372036854775808<=n)(h1:n<=9223372036854775807)(w:World)(ht:Tab w):Calls Tryz.prog 90 #[.int .i64 n] w fun e w'=>∃ v,e = .returned v/\Frac w' v (n:Rat)/\Below w.heap.size w w':=by
 have a:=(Dg.int n h0 h1).txt (by decide);rw[jKE] at a;refine jIa n h0 h1 w ht ?_ ?_
 ·show (Go.Lib.itoa n).toArray.size<=300;rw[List.size_toArray];omega
 ·show xR (Go.Lib.itoa n).toArray.toList=some (n:Rat);rw[List.toList_toArray,<- jKE];exact jFQ _
theorem read_yes' (s:ByteArray)(w:World)(q:Rat)(hq:Hid (xF s.data.toList=some q)):Calls Tryz.prog 102 #[.string s] w fun e w'=>∃ v,e = .returned (.tuple #[v,.int .i64 0])/\Frac w' v q/\Below w.heap.size w w':=by
 have l:=hid (jAC w #[.bool false,.slice none 0 0,.slice none 0 0] 118);have j:=hid ((Below.refl _ w).alloc (Nat.le_refl _) (.cells #[.bool false,.slice none 0 0,.slice none 0 0] 118));go_enter Tryz.func102,Tryz.ntmps102;go_wp2_with fail;refine (jJz s _ q hq.out).mono ?_;rintro I o ⟨v,rfl,⟨f,d,c,i,h,g,rfl,m,n⟩,k⟩;have a:=hid (l.out.keep k);have b:Hid (Below w.heap.size w o):=j.out.trans (k.mono j.out.size);have E:=a.out.lt;have B:=a.out.cell 0 _ rfl;have F:=a.out.frozen 0;have C:=a.out.cell 1 _ rfl;have G:=a.out.frozen 1;have D:=a.out.cell 2 _ rfl;have H:=a.out.frozen 2;have z:=hid m;have A:=hid n;clear k m n;have t:=hid (jAB a.out (.cells #[.bool (negB q),.slice f d c,.slice i h g] 118));have r:=hid (jAC o #[.bool (negB q),.slice f d c,.slice i h g] 118);have p:Hid (Below w.heap.size w (o.alloc (.cells #[.bool (negB q),.slice f d c,.slice i h g] 118))):=b.out.alloc b.out.size (.cells #[.bool (negB q),.slice f d c,.slice i h g] 118);go_wp2;have Z:=jAB (a.out.put3 (.bool (negB q)) (.slice f d c) (.slice i h g)) (.cells #[.bool (negB q),.slice f d c,.slice i h g] 118);have u:=Z.cell 0 _ rfl;have x:=Z.cell 1 _ rfl;have y:=Z.cell 2 _ rfl;unfold zW at u x y;have BB:=jAD b.out (Nat.le_refl _) (.bool (negB q)) (.slice f d c) (.slice i h g);refine bodyPost_ret (v:=.tuple #[.agg #[.bool (negB q),.slice f d c,.slice i h g],.int .i64 0]) (by simp[results,Tryz.results102,go_sem,u,x,y]) rfl ⟨_,rfl,⟨f,d,c,i,h,g,rfl,?_,?_⟩,BB.alloc BB.size _⟩
 ·exact (z.out.put3 a.out (by decide) _ _ _).alloc _
 ·exact (A.out.put3 a.out (by decide) _ _ _).alloc _
theorem jLT (s:ByteArray) (w:World) (q:Rat) (hq:xF s.data.toList=some q) :
    Calls Tryz.prog 102 #[.string s] w fun e w'=>∃ v,e = .returned (.tuple #[v,.int .i64 0])/\Frac w' v q/\Below w.heap.size w w':=
  read_yes' s w q hq
theorem jF1 (n:Int)(d:Nat)(hd:d≠0):(zA (mkRat n d).num.natAbs).length<=(zA n.natAbs).length/\(zA (mkRat n d).den).length<=(zA d).length:=by
 (have e:mkRat n d=Rat.normalize n d hd:=by unfold mkRat;rw[dif_neg hd]);rw[e,Rat.normalize_eq];constructor
 ·apply jAl;show (n / ((n.natAbs.gcd d:Nat):Int)).natAbs<=n.natAbs;exact Int.natAbs_ediv_le_natAbs _ _
 ·apply jAl;exact Nat.div_le_self _ _
theorem Sm.mono {q:Rat}{a b:Nat}(h:Sm q a)(hab:a<=b):Sm q b:=⟨Nat.le_trans h.1 hab,Nat.le_trans h.2 hab⟩
theorem Sm.add {x y:Rat}{a b:Nat}(hx:Sm x a)(hy:Sm y b):Sm (x+y) (a+b+1):=by
 rw[jGo];obtain ⟨g,h⟩:=jF1 (sg (negB x) (x.num.natAbs*y.den)+sg (negB y) (y.num.natAbs*x.den)) (x.den*y.den) (Nat.mul_ne_zero x.den_nz y.den_nz);have i:=jCk x.num.natAbs y.den;have j:=jCk y.num.natAbs x.den;have k:=jCk x.den y.den
 have l:(zA (sg (negB x) (x.num.natAbs*y.den)+sg (negB y) (y.num.natAbs*x.den)).natAbs).length<=(zA (x.num.natAbs*y.den+y.num.natAbs*x.den)).length:=by
  apply jAl;have:=Int.natAbs_add_le (sg (negB x) (x.num.natAbs*y.den)) (sg (negB y) (y.num.natAbs*x.den))
  rwa [jCo,jCo] at this
 have m:=jI8 (x.num.natAbs*y.den) (y.num.natAbs*x.den);obtain ⟨c,d⟩:=hx;obtain ⟨e,f⟩:=hy;exact ⟨by omega,by omega⟩
theorem Sm.neg {x:Rat}{a:Nat}(hx:Sm x a):Sm (-x) a:=by
 have b:(-x).num = -x.num:=rfl;have c:(-x).den=x.den:=rfl;unfold Sm;rw[b,c,Int.natAbs_neg];exact hx
theorem Sm.sub {x y:Rat}{a b:Nat}(hx:Sm x a)(hy:Sm y b):Sm (x - y) (a+b+1):=by rw[Rat.sub_eq_add_neg];exact hx.add hy.neg
theorem Sm.mul {x y:Rat}{a b:Nat}(hx:Sm x a)(hy:Sm y b):Sm (x*y) (a+b):=by
 rw[jKJ];obtain ⟨c,h⟩:=jF1 (sg (negB x != negB y) (x.num.natAbs*y.num.natAbs)) (x.den*y.den) (Nat.mul_ne_zero x.den_nz y.den_nz);rw[jCo] at c;have i:=jCk x.num.natAbs y.num.natAbs;have j:=jCk x.den y.den;obtain ⟨d,e⟩:=hx;obtain ⟨f,g⟩:=hy;exact ⟨by omega,by omega⟩
theorem Sm.div {x y:Rat}{a b:Nat}(hx:Sm x a)(hy:Sm y b)(h0:y≠0):Sm (x / y) (a+b):=by
 rw[jKa x y h0];obtain ⟨c,i⟩:=jF1 (sg (negB x != negB y) (x.num.natAbs*y.den)) (x.den*y.num.natAbs) (Nat.mul_ne_zero x.den_nz (fun h=>h0 ((jEQ y).1 h)));rw[jCo] at c;have j:=jCk x.num.natAbs y.den;have k:=jCk x.den y.num.natAbs;obtain ⟨d,e⟩:=hx;obtain ⟨f,g⟩:=hy;exact ⟨by omega,by omega⟩
end Go.Proofs.YtigokanoflkinabGreatDoor
