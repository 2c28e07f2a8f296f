/- BkT, BkS, BkV, BkTl, joined. -/
import Derived.Test.YtigokanoflkinabGreatDoorBkAD
namespace Go.Proofs.YtigokanoflkinabGreatDoor
set_option linter.unusedSimpArgs false
set_option linter.unusedVariables false
open Go.RowKit Por
abbrev Lst:=TypeId×Value×List Value
structure Lists (base:Nat)(w:World)(L:List Lst):Prop where
  own:∀ p,p∈L->w.ownsRow base p.1 1 p.2.1 p.2.2.length p.2.2
  apart:L.Pairwise (fun p q=>Apart p.2.1 q.2.1)
theorem Lists.perm {base:Nat} {w:World} {L L':List Lst} (h:Lists base w L) (hp:L.Perm L'):Lists base w L':=
  ⟨fun p hm=>h.own p (hp.mem_iff.2 hm),hp.pairwise h.apart (fun ha=>Apart.symm ha)⟩
theorem Lists.below {base:Nat}{w w':World}{L:List Lst}(h:Lists base w L)(hb:Below w.heap.size w w'):Lists base w' L:=⟨fun p hp=>jAT (h.own p hp) hb,h.apart⟩
theorem Lists.nil (base:Nat)(w:World):Lists base w []:=⟨fun p hp=>by (cases hp),.nil⟩
theorem Lists.cons {base:Nat} {w:World} {L:List Lst} (h:Lists base w L) (T:TypeId):Lists base w ((T,.slice none 0 0,[]) :: L):=
  ⟨fun p hp=>by
    rcases List.mem_cons.1 hp with e | e
    · subst e;exact World.ownsRow_nil _ _ _ _
    · exact h.own p e,.cons (fun q _ g hg=>by cases hg) h.apart⟩
theorem Lists.boxset {base:Nat} {w:World} {L:List Lst} (h:Lists base w L) {b:Nat} {cs:Array Value} {T':TypeId} (hx:Bx w b cs T') (hT:∀ p,p∈L->p.1≠T') (o:Nat) (u:Value):Lists base (w.setCell ⟨b,o,none⟩ u) L:=
  ⟨fun p hp=>jAh (h.own p hp) hx (hT p hp) o u,h.apart⟩
theorem Lists.app {base:Nat}{w w':World}{L:List Lst}{T:TypeId}{v v':Value}{xs ys:List Value}(h:Lists base w ((T,v,xs) :: L))(g1:w'.ownsRow base T 1 v' (xs.length+ys.length) (xs ++ ys))(hg:w.grownBy w' v.ownBlock)(ha:v'.ownBlock=v.ownBlock∨v'.ownBlock=some w.heap.size):Lists base w' ((T,v',xs ++ ys) :: L):=by
 have a:=List.pairwise_cons.1 h.apart;refine ⟨fun p hp=>?_,.cons (fun q hq=>?_) a.2⟩
 ·rcases List.mem_cons.1 hp with e | e
  ·subst e;show w'.ownsRow base T 1 v' (xs ++ ys).length (xs ++ ys);rw[List.length_append];exact g1
  ·exact jAH (h.own p (List.mem_cons_of_mem _ e)) hg (Apart.keptv (a.1 p e))
 ·exact Apart.app (w:=w) (base:=base) (a.1 q hq) (h.own q (List.mem_cons_of_mem _ hq)) ha
theorem Lists.appAt {base:Nat} {w w':World} (A:List Lst) {L:List Lst} {T:TypeId} {v v':Value} {xs ys:List Value} (h:Lists base w (A ++ (T,v,xs) :: L)) (g1:w'.ownsRow base T 1 v' (xs.length+ys.length) (xs ++ ys)) (hg:w.grownBy w' v.ownBlock) (ha:v'.ownBlock=v.ownBlock∨v'.ownBlock=some w.heap.size):Lists base w' (A ++ (T,v',xs ++ ys) :: L):=
  ((h.perm List.perm_middle).app g1 hg ha).perm List.perm_middle.symm
theorem Lists.at {base:Nat}{w:World}(A:List Lst){L:List Lst}{T:TypeId}{v:Value}{xs:List Value}(h:Lists base w (A ++ (T,v,xs) :: L)):w.ownsRow base T 1 v xs.length xs:=h.own (T,v,xs) (by simp)
theorem jAZ {base T size n:Nat}{w w':World}{v:Value}{xs:List Value}(h:w.ownsRow base T size v n xs)(hg:w.grownBy w' v.ownBlock)(hb:base<=w.heap.size):Below base w w':=jEU hg hb (fun k hk=>(World.ownsRow.lt h k hk).1)
def Above (B:Nat)(w w':World):Prop:=w.heap.size<=w'.heap.size/\∀ k,B<=k->k<w.heap.size->w'.heap[k]? = w.heap[k]?
theorem Above.trans {B:Nat}{x y z:World}(h:Above B x y)(k:Above B y z):Above B x z:=⟨Nat.le_trans h.1 k.1,fun i h1 h2=>(k.2 i h1 (Nat.lt_of_lt_of_le h2 h.1)).trans (h.2 i h1 h2)⟩
theorem Above.of_below {B:Nat}{w w':World}(h:Below w.heap.size w w'):Above B w w':=⟨h.size,fun k _ hk=>h.block k hk⟩
theorem jBT {base T size n:Nat}{w w':World}{v:Value}{xs:List Value}(h:w.ownsRow base T size v n xs)(ha:Above base w w'):w'.ownsRow base T size v n xs:=by
 refine ⟨h.1,?_⟩;rcases h.2 with c | ⟨g,a,b,c,d,e,f⟩
 ·exact .inl c
 ·exact .inr ⟨g,a,b,c,d,(ha.2 g d (Array.getElem?_eq_some_iff.1 e).1).trans e,f⟩
def yL (F:Flt)(x y:Int):Int:=if zJ F x && zi F y then F.m.on x.toNat y.toNat else 0
def yK (F:Flt)(x y:Int):Int:=if zX F x && zh F y then F.used x.toNat y.toNat else 0
def ym (F:Flt)(x:Int):Int:=if zJ F x then F.m.wait x.toNat else 0
def dueV (F:Flt)(x:Int):ByteArray:=if zJ F x then F.due x.toNat else ⟨#[]⟩
def yW (F:Flt)(x:Int):Int:=if zX F x then F.m.rev x.toNat else 0
def yq (F:Flt)(y:Int):Int:=if zh F y then F.idle y.toNat else 0
def zw (c:Bool):Int:=if c then 0 else 7
def xi (F:Flt)(u n:Nat):List Int:=(List.range n).map fun (m:Nat)=>yL F u m
def yw (F:Flt)(u n:Nat):List Int:=(List.range n).map fun (r:Nat)=>yK F u r
def yZ (F:Flt)(n:Nat):List Int:=(List.range n).map fun (u:Nat)=>ym F u
def xB (F:Flt)(n:Nat):List ByteArray:=(List.range n).map fun (u:Nat)=>dueV F u
def xQ (F:Flt)(n:Nat):List Int:=(List.range n).map fun (u:Nat)=>yW F u
def xJ (F:Flt)(n:Nat):List Int:=(List.range n).map fun (r:Nat)=>yq F r
def reL (F:Flt)(u n:Nat):List Int:=(List.range n).map fun (m:Nat)=>zw (zJ F u && zi F m)
def ueL (F:Flt)(u n:Nat):List Int:=(List.range n).map fun (r:Nat)=>zw (zX F u && zh F r)
def ieL (F:Flt)(n:Nat):List Int:=(List.range n).map fun (r:Nat)=>zw (zh F r)
def yi (F:Flt):Nat->List Int
  | 0=>[]
  | u+1=>yi F u ++ reL F u 9 ++ ueL F u 5 ++ [zw (zJ F u),zw (zJ F u),zw (zX F u)]
theorem jAX {α:Type}(f:Nat->α)(n:Nat):(List.range (n+1)).map f=(List.range n).map f ++ [f n]:=by rw[List.range_succ,List.map_append];rfl
theorem jAI {α:Type}(f:Nat->α)(n:Nat):((List.range n).map f).length=n:=by simp
theorem jCt {α:Type}(f:Nat->α){n i:Nat}(h:i<n):((List.range n).map f)[i]? = some (f i):=by rw[List.getElem?_map,List.getElem?_range h];rfl
abbrev iv (l:List Int):List Value:=l.map (Value.int .i64)
abbrev sv' (l:List ByteArray):List Value:=l.map Value.string
abbrev tcells (rv wv dv ov uv jv:Value)(tm:Int)(ev:Value):Array Value:=#[rv,wv,dv,ov,uv,jv,.int .i64 tm,ev]
def RowsL (base:Nat)(w:World)(rs:List Value)(f:Nat->List Int):Prop:=∀ (u:Nat) (v:Value),rs[u]? = some v->Li base w v (f u)
structure ToldM (base:Nat)(w:World)(sb:Nat)(F:Flt)(rv wv dv ov uv jv ev:Value)(rs us:List Value)(el:List Int):Prop where
  elq:el=yi F 7 ++ ieL F 5
  box:Bx w sb (tcells rv wv dv ov uv jv F.ck ev) 51
  low:base<=sb
  run:w.ownsRow base 28 1 rv 7 rs
  wait:Li base w wv (yZ F 7)
  due:w.ownsRow base 9 1 dv 7 (sv' (xB F 7))
  off:Li base w ov (xQ F 7)
  used:w.ownsRow base 28 1 uv 7 us
  idle:Li base w jv (xJ F 5)
  errs:w.ownsRow base 31 1 ev el.length (iv el)
  rrow:RowsL base w rs (fun u=>xi F u 9)
  urow:RowsL base w us (fun u=>yw F u 5)
def Told (base:Nat)(w:World)(sb:Nat)(F:Flt):Prop:=∃ rv wv dv ov uv jv ev rs us el,ToldM base w sb F rv wv dv ov uv jv ev rs us el
theorem Told.above {base:Nat}{w w':World}{sb:Nat}{F:Flt}(h:Told base w sb F)(ha:Above base w w'):Told base w' sb F:=by
  obtain ⟨g,k,dv,d,j,c,b,f,i,a,h⟩:=h
  exact ⟨g, k, dv, d, j, c, b, f, i, a, { h with
    box := (ha.2 sb h.low h.box.lt).trans h.box
    run := jBT h.run ha
    wait := jBT h.wait ha
    due := jBT h.due ha
    off := jBT h.off ha
    used := jBT h.used ha
    idle := jBT h.idle ha
    errs := jBT h.errs ha
    rrow := fun u v e => jBT (h.rrow u v e) ha
    urow := fun u v e => jBT (h.urow u v e) ha }⟩
theorem Told.below {base:Nat}{w w':World}{sb:Nat}{F:Flt}(h:Told base w sb F)(hb:Below w.heap.size w w'):Told base w' sb F:=h.above (Above.of_below hb)
structure OpV where
  kind:Int
  a:Int
  b:Int
  c:Int
  l:List Int
  oth:Bool
def In64 (x:Int):Prop:=-9223372036854775808<=x/\x<=9223372036854775807
structure OpI4 (o:OpV):Prop where
  kind:In64 o.kind
  a:In64 o.a
  b:In64 o.b
  c:In64 o.c
structure OpIn (o:OpV):Prop extends OpI4 o where
  l:o.l.length<=17592186044416
abbrev OpV.usr (o:OpV):Usr:=⟨o.l,o.a,o.b⟩
inductive Acts (F:Flt) (o:OpV):Flt->Prop
  | mach (h:o.kind=1) (hs:xU F.k o.l=true) (hg:F.mg<8):Acts F o (addMF F o.l)
  | brk (h:o.kind=2) (i:Nat) (e:o.a=i) (hi:i<8) (ht:F.mt i=true):Acts F o (yb F i)
  | user (h:o.kind=3) (hs:yN F.k o.usr=true) (hg:F.ug<6):Acts F o (ye F o.usr)
  | leave (h:o.kind=4) (u:Nat) (e:o.a=u) (hu:u<6) (ht:F.ut u=true):Acts F o (yr F u)
  | chg (h:o.kind=5) (u:Nat) (e:o.a=u) (hu:u<6) (ht:F.ut u=true) (hw:1<=o.b/\o.b<=100) (hc:0<=o.c/\o.c<=1000):Acts F o (chgF F u o.b o.c)
  | sub (h:o.kind=6) (u:Nat) (e:o.a=u) (hu:u<6) (ht:F.ut u=true) (h1:1<=o.b) (h2:F.m.wait u+runs F.m u+o.b<=40):Acts F o (subF F u o.b)
  | can (h:o.kind=7) (u:Nat) (e:o.a=u) (hu:u<6) (ht:F.ut u=true) (h1:1<=o.b) (h2:o.b<=F.m.wait u):Acts F o (subF F u (-o.b))
  | fin (h:o.kind=8) (u m:Nat) (e:o.a=u) (e2:o.b=m) (hu:u<6) (hm:m<8) (ht:F.ut u=true) (h1:1<=F.m.on u m):Acts F o (finF F u m)
def Step (F:Flt)(o:OpV)(er:Int)(G:Flt):Prop:=(er≠0/\G=F)∨(er=0/\((∃ F1,Acts F o F1/\Settled F1 G)∨(o.kind=9/\1<=o.a/\o.a<=1000/\F.ck+o.a<=1000000/\G=yk F o.a)))
theorem Acts.wf {R:Int}{F F1:Flt}{o:OpV}(h:Acts F o F1)(hw:FWf R F)(hR:0<=R):FWf R F1:=by
 cases h with
 | mach h hs hg=>obtain ⟨a,b⟩:=jCh hs;exact hw.addM hg a b
 | brk h i e hi ht=>exact hw.dropM hi
 | user h hs hg=>exact hw.addU hR hg hs
 | leave h u e hu ht=>exact hw.dropU hu
 | chg h u e hu ht a b=>exact hw.chg hu ht a b
 | sub h u e hu ht a b=>exact hw.sub hu ht (by have:=hw.wait u hu;omega) (by omega)
 | can h u e hu ht a b=>exact hw.sub hu ht (by omega) (by have:=hw.tot u hu;omega)
 | fin h u m e e2 hu hm ht a=>exact hw.fin hu hm a
theorem Step.rest {R R':Int}{F G:Flt}{o:OpV}{er:Int}(h:Step F o er G)(hw:FWf R F)(hR:0<=R)(hr:Rest F)(hG:FWf R' G):Rest G:=by
 rcases h with ⟨_,rfl⟩ | ⟨_,⟨c,a,b⟩ | ⟨_,_,_,_,rfl⟩⟩
 ·exact hr
 ·exact b.rest (a.wf hw hR) hG
 ·exact hr.tick _
def yh (F:Flt)(o:OpV)(u:Nat):Int:=if o.kind=2/\0<=o.a/\o.a<9 then yL F u o.a else if o.kind=8/\o.a=u then 1 else 0
def hadV (F:Flt)(o:OpV)(u:Nat):Int:=Por.sumI (fun m=>yL F u m) 9 - yh F o u
theorem jMe {R:Int}{F:Flt}(h:FWf R F){u:Nat}(hu:u<6):Por.sumI (fun m=>yL F u m) 9=if F.ut u then runs F.m u else 0:=by
 (have b:yL F u ((8:Nat):Int)=0:=by unfold yL zi;rw[decide_eq_false (show ¬ (((8:Nat):Int)<8) by omega)];simp);show Por.sumI (fun m=>yL F u m) 8+yL F u ((8:Nat):Int)=_;rw[b,Int.add_zero]
 cases e:F.ut u with
 | false=>rw[if_neg (by simp)];refine jAY (fun m hm=>?_);unfold yL zJ;rw[show ((u:Nat):Int).toNat=u from rfl,e];simp
 | true=>
  rw[if_pos rfl];refine jAp (fun m hm=>?_);unfold yL zJ zi;rw[show ((u:Nat):Int).toNat=u from rfl,show ((m:Nat):Int).toNat=m from rfl,e,decide_eq_true (show (0:Int)<=(u:Int) by omega),decide_eq_true (show ((u:Nat):Int)<6 by omega),decide_eq_true (show (0:Int)<=(m:Int) by omega),decide_eq_true (show ((m:Nat):Int)<8 by omega)];simp only[Bool.true_and]
  cases a:F.mt m with
  | true=>rfl
  | false=>rw[h.gone m hm a u hu];rfl
theorem jMS {R:Int}{F F1:Flt}{o:OpV}(h:Acts F o F1)(hw:FWf R F){u:Nat}(hu:u<6)(ht:F1.ut u=true):hadV F o u=runs F1.m u/\yW F u=F1.m.rev u:=by
 have j:=jMe hw hu;(have b:F.ut u=true->yW F u=F.m.rev u:=fun c=>by unfold yW zX;have:=hw.ut u hu c;rw[decide_eq_true (show (0:Int)<=(u:Int) by omega),decide_eq_true (show ((u:Nat):Int)<F.ug by omega)];rfl);(have a:o.kind≠2->o.kind≠8->yh F o u=0:=fun c h2=>by unfold yh;rw[if_neg (fun h3=>c h3.1),if_neg (fun h3=>h2 h3.1)]);unfold hadV;rw[j]
 cases h with
 | mach h hs hg=>have ht:F.ut u=true:=ht;rw[ht,a (by omega) (by omega)];exact ⟨by simp;rfl,b ht⟩
 | brk h i e hi hti=>have ht:F.ut u=true:=ht;rw[ht,if_pos rfl];refine ⟨?_,b ht⟩;show _=runs (offM F.m i 6) u;rw[jEd hi hu];unfold yh;rw[if_pos ⟨h,by omega,by omega⟩,e];unfold yL zJ zi;rw[show ((u:Nat):Int).toNat=u from rfl,show ((i:Nat):Int).toNat=i from rfl,ht,hti,decide_eq_true (show (0:Int)<=(u:Int) by omega),decide_eq_true (show ((u:Nat):Int)<6 by omega),decide_eq_true (show (0:Int)<=(i:Int) by omega),decide_eq_true (show ((i:Nat):Int)<8 by omega)];rfl
 | user h hs hg=>
  rw[a (by omega) (by omega)]
  have g:runs (ye F o.usr).m u=if u=F.ug then 0 else runs F.m u:=by
   show Por.sumI (yI F.m.on F.ug (fun _=>0) u) 8=_;by_cases e:u=F.ug
   ·rw[if_pos e,e,jA6];exact jAY (fun _ _=>rfl)
   ·rw[if_neg e,jAV _ _ e];rfl
  rw[g];by_cases e:u=F.ug
  ·have c:F.ut u=false:=by
    cases d:F.ut u with
    | false=>rfl
    | true=>have:=hw.ut u hu d;omega
   rw[c,if_pos e];refine ⟨rfl,?_⟩;show yW F u=zF F.m.rev F.ug 0 u;rw[e,jAU];unfold yW zX;rw[decide_eq_false (show ¬ (((F.ug:Nat):Int)<F.ug) by omega)];simp
  ·(have c:F.ut u=true:=by have ht:yy F.ut F.ug true u=true:=ht;rw[jAe _ _ e] at ht;exact ht);rw[c,if_neg e,if_pos rfl];refine ⟨Int.sub_zero _,?_⟩;show yW F u=zF F.m.rev F.ug 0 u;rw[jAL _ _ e];exact b c
 | leave h v e hv htv=>rw[a (by omega) (by omega)];have ht:yy F.ut v false u=true:=ht;(have d:u≠v:=fun d=>by rw[d,jBd] at ht;cases ht);rw[jAe _ _ d] at ht;rw[ht,if_pos rfl];refine ⟨?_,b ht⟩;show runs F.m u - 0=Por.sumI (yI F.m.on v (fun _=>0) u) 8;rw[jAV _ _ d,Int.sub_zero];rfl
 | chg h v e hv htv c h2=>have ht:F.ut u=true:=ht;rw[ht,a (by omega) (by omega)];exact ⟨by simp;rfl,b ht⟩
 | sub h v e hv htv c h2=>have ht:F.ut u=true:=ht;rw[ht,a (by omega) (by omega)];exact ⟨by simp;rfl,b ht⟩
 | can h v e hv htv c h2=>have ht:F.ut u=true:=ht;rw[ht,a (by omega) (by omega)];exact ⟨by simp;rfl,b ht⟩
 | fin h v m e d hv hm htv c=>
  have ht:F.ut u=true:=ht;rw[ht,if_pos rfl,jIF F hm];refine ⟨?_,b ht⟩;unfold yh;rw[if_neg (fun h3=>by have:=h3.1;omega)];by_cases f:u=v
  ·rw[if_pos ⟨h,by omega⟩,if_pos f,f]
  ·rw[if_neg (fun h3=>by have:=h3.2;omega),if_neg f,Int.sub_zero]
structure GentB (F:Flt)(o:OpV)(G:Flt):Prop where
  rev:∀ u,u<6->G.ut u=true->yW F u<=G.m.rev u
  low:∀ u,u<6->G.ut u=true->hadV F o u<=runs G.m u∨zG G (zB G 8) u<=runs G.m u
  way:∀ u,u<6->G.ut u=true->yW F u<G.m.rev u->zG G (zB G 8) u<=runs G.m u
  kept:∀ u,u<6->G.ut u=true->yW F u=G.m.rev u->hadV F o u<=runs G.m u
  gain:(∃ u,u<6/\G.ut u=true/\yW F u<G.m.rev u)->∃ v,v<6/\G.ut v=true/\hadV F o v<zG G (zB G 8) v/\hadV F o v<runs G.m v
theorem Acts.gentle {R:Int}{F F1 G:Flt}{o:OpV}(h:Acts F o F1)(hw:FWf R F)(hR:0<=R)(hs:Settled F1 G):GentB F o G:=by
 have g:=h.wf hw hR;obtain ⟨z,rfl,j⟩:=hs;have f:=j.gentle g.fok g.finv;(have c:∀ u,zG (zR (yA F1 (xL F1 (zB F1 8))) z) (zB F1 8) u=zG F1 (zB F1 8) u:=fun u=>by rw[jCa g j]);(have b:∀ u,u<6->F1.ut u=true->hadV F o u=runs F1.m u/\yW F u=F1.m.rev u:=fun u hu ht=>jMS h hw hu ht);refine ⟨fun u hu ht=>?_,fun u hu ht=>?_,fun u hu ht h2=>?_,fun u hu ht h2=>?_,fun ⟨u,hu,ht,h2⟩=>?_⟩
 ·rw[(b u hu ht).2];exact f.rev u hu
 ·rw[(b u hu ht).1];rcases f.low u hu with a | a
  ·exact .inl a
  ·right;exact Int.le_trans (Int.le_of_eq (c u)) a
 ·rw[(b u hu ht).2] at h2;exact Int.le_trans (Int.le_of_eq (c u)) (f.way u hu h2)
 ·rw[(b u hu ht).2] at h2;rw[(b u hu ht).1];exact f.kept u hu h2
 ·rw[(b u hu ht).2] at h2;obtain ⟨v,i,a,k⟩:=f.gain ⟨u,hu,h2⟩
  have d:F1.ut v=true:=by
   have a:runs F1.m v<zG F1 (zB F1 8) v:=a;unfold zG at a;by_cases e:v<6/\F1.ut v=true
   ·exact e.2
   ·rw[if_neg e] at a;have:=g.runs0 i;omega
  refine ⟨v,i,d,?_,?_⟩
  ·rw[(b v i d).1];exact Int.lt_of_lt_of_le a (Int.le_of_eq (c v).symm)
  ·rw[(b v i d).1];exact k
theorem jBB {base T size n:Nat}{w:World}{v:Value}{xs:List Value}(h:w.ownsRow base T size v n xs):∃ so sc,v = .slice so n sc/\n<=sc/\sc<=maxLen/\(∀ (i:Nat) (x:Value),xs[i]? = some x->∃ g o,so=some ⟨g,o,none⟩/\g<w.heap.size/\w.cell? ⟨g,o+i,none⟩=some x):=by
 rcases h.2 with ⟨rfl,d⟩ | ⟨g,b,c,rfl,l,a,e,f,m,j⟩
 ·subst d;have:xs = []:=List.eq_nil_of_length_eq_zero (by simpa using h.1);subst this;exact ⟨none,0,rfl,Nat.le_refl _,Nat.zero_le _,fun i x hx=>by simp at hx⟩
 ·refine ⟨_,_,rfl,e,f,fun i x hx=>⟨g,0,rfl,(Array.getElem?_eq_some_iff.1 a).1,?_⟩⟩;(have k:i<n*size:=by have:=(List.getElem?_eq_some_iff.1 hx).1;have:=h.1;omega);rw[Nat.zero_add,cell_of_row w g i _ _ _ a,<- Array.getElem?_toList];rw[<- j,List.getElem?_take,if_pos k] at hx;exact hx
theorem Li.cells {base k:Nat}{w:World}{v:Value}{l:List Int}(h:Li base w v l)(hk:l.length=k)(h0:1<=k):∃ d o dc,v = .slice (some ⟨d,o,none⟩) k dc/\d<w.heap.size/\∀ r,r<k->w.cell? ⟨d,o+r,none⟩=some (.int .i64 (lm l r)):=by
 subst hk;obtain ⟨z,p,n,s,t,b⟩:=jBB h;(have c:∀ r,r<l.length->(l.map (Value.int .i64))[r]? = some (.int .i64 (lm l r)):=fun r hr=>by rw[List.getElem?_map,List.getElem?_eq_getElem hr];unfold lm;rw[List.getD_eq_getElem?_getD,List.getElem?_eq_getElem hr];rfl);obtain ⟨g,o,e,j,u⟩:=b 0 _ (c 0 (by omega));refine ⟨g,o,p,by rw[n,e],j,fun r hr=>?_⟩;obtain ⟨q,y,a,x,m⟩:=b r _ (c r hr);(rw[e] at a;injection a with a;injection a with f i;subst f;subst i);exact m
structure Vw (w:World)(b fb:Nat)(F:Flt)(sp:List Int)(so:Option Addr)(sc:Nat)(uo:Option Addr)(uc:Nat)(ho:Option Addr)(hc:Nat)(lo:Option Addr)(lc:Nat)(po:Option Addr)(pc:Nat):Prop where
  box:Bx w b #[.pointer (some ⟨fb,0,none⟩),.int .i64 F.k,.slice so F.mg sc,.slice uo F.ug uc,.slice ho F.ug hc,.slice lo F.ug lc,.int .i64 F.ck,.slice po F.k pc,.bool false] 39
  fl:FL w fb F
  up:∀ m,m<F.mg->F.mt m=true->∃ g o d e dc,so=some ⟨g,o,none⟩/\g<w.heap.size/\w.cell? ⟨g,o+m,none⟩=some (.slice (some ⟨d,e,none⟩) F.k dc)/\d<w.heap.size/\∀ r,r<F.k->w.cell? ⟨d,e+r,none⟩=some (.int .i64 (F.ms m r))
  down:∀ m,m<F.mg->F.mt m=false->∃ g o,so=some ⟨g,o,none⟩/\g<w.heap.size/\w.cell? ⟨g,o+m,none⟩=some (.slice none 0 0)
  here:∀ u,u<F.ug->∃ g o,ho=some ⟨g,o,none⟩/\g<w.heap.size/\w.cell? ⟨g,o+u,none⟩=some (.bool (F.ut u))
  user:∀ u,u<F.ug->∃ g o d e dc,uo=some ⟨g,o,none⟩/\g<w.heap.size/\w.cell? ⟨g,o+u*3,none⟩=some (.slice (some ⟨d,e,none⟩) F.k dc)/\d<w.heap.size/\(∀ r,r<F.k->∃ x,w.cell? ⟨d,e+r,none⟩=some (.int .i64 x)/\0<=x/\x<=10000/\(F.ut u=true->x=F.ud u r))/\(F.ut u=true->w.cell? ⟨g,o+u*3+1,none⟩=some (.int .i64 (F.uw u))/\w.cell? ⟨g,o+u*3+2,none⟩=some (.int .i64 (F.uc u)))
  dcap:∀ u,u<F.ug->∀ g o d e dc,uo=some ⟨g,o,none⟩->w.cell? ⟨g,o+u*3,none⟩=some (.slice (some ⟨d,e,none⟩) F.k dc)->F.k<=dc/\dc<=maxLen
  live:∀ u,u<F.ug->F.ut u=true->∃ g o,lo=some ⟨g,o,none⟩/\g<w.heap.size/\w.cell? ⟨g,o+u,none⟩=some (.int .i64 (F.m.wait u+runs F.m u))
  sp:∀ r,r<F.k->∃ g o,po=some ⟨g,o,none⟩/\g<w.heap.size/\w.cell? ⟨g,o+r,none⟩=some (.int .i64 (lm sp r))
theorem Vw.below {w w':World}{b fb:Nat}{F:Flt}{sp:List Int}{so:Option Addr}{sc:Nat}{uo:Option Addr}{uc:Nat}{ho:Option Addr}{hc:Nat}{lo:Option Addr}{lc:Nat}{po:Option Addr}{pc:Nat}(h:Vw w b fb F sp so sc uo uc ho hc lo lc po pc)(hb:Below w.heap.size w w'):Vw w' b fb F sp so sc uo uc ho hc lo lc po pc:=by
 (have j:∀ {g:Nat},g<w.heap.size->g<w'.heap.size:=fun h=>Nat.lt_of_lt_of_le h hb.size);(have i:∀ {g o:Nat} {v:Value},g<w.heap.size->w.cell? ⟨g,o,none⟩=some v->w'.cell? ⟨g,o,none⟩=some v:=fun c a=>(hb.cell (p:=⟨_,_,none⟩) c).trans a);refine ⟨h.box.keep hb,h.fl.below hb,fun m hm ht=>?_,fun m hm ht=>?_,fun u hu=>?_,fun u hu=>?_,fun u hu g o d e k e1 e2=>?_,fun u hu ht=>?_,fun r hr=>?_⟩
 ·obtain ⟨g,o,d,e,k,c,a,f,l,n⟩:=h.up m hm ht;exact ⟨g,o,d,e,k,c,j a,i a f,j l,fun r hr=>i l (n r hr)⟩
 ·obtain ⟨g,o,c,a,f⟩:=h.down m hm ht;exact ⟨g,o,c,j a,i a f⟩
 ·obtain ⟨g,o,c,a,f⟩:=h.here u hu;exact ⟨g,o,c,j a,i a f⟩
 ·obtain ⟨g,o,d,e,k,c,a,f,l,n,q⟩:=h.user u hu;refine ⟨g,o,d,e,k,c,j a,i a f,j l,fun r hr=>?_,fun ht=>⟨i a (q ht).1,i a (q ht).2⟩⟩;obtain ⟨x,t,y⟩:=n r hr;exact ⟨x,i l t,y⟩
 ·obtain ⟨D,E,B,C,s,c,a,f,_⟩:=h.user u hu;rw[e1] at c;(injection c with c;injection c with z A;subst z;subst A);exact h.dcap u hu g o d e k e1 ((hb.cell (p:=⟨g,_,none⟩) a).symm.trans e2)
 ·obtain ⟨g,o,c,a,f⟩:=h.live u hu ht;exact ⟨g,o,c,j a,i a f⟩
 ·obtain ⟨g,o,c,a,f⟩:=h.sp r hr;exact ⟨g,o,c,j a,i a f⟩
theorem Vw.alloc {w:World}{b fb:Nat}{F:Flt}{sp:List Int}{so:Option Addr}{sc:Nat}{uo:Option Addr}{uc:Nat}{ho:Option Addr}{hc:Nat}{lo:Option Addr}{lc:Nat}{po:Option Addr}{pc:Nat}(h:Vw w b fb F sp so sc uo uc ho hc lo lc po pc)(x:Obj):Vw (w.alloc x) b fb F sp so sc uo uc ho hc lo lc po pc:=h.below (brf.alloc (Nat.le_refl _) x)
theorem Vw.drew {w:World}{b fb:Nat}{F:Flt}{sp:List Int}{so:Option Addr}{sc:Nat}{uo:Option Addr}{uc:Nat}{ho:Option Addr}{hc:Nat}{lo:Option Addr}{lc:Nat}{po:Option Addr}{pc:Nat}(h:Vw w b fb F sp so sc uo uc ho hc lo lc po pc):Vw w.drew b fb F sp so sc uo uc ho hc lo lc po pc:=h.below brf.drew
def VW (w:World)(b fb:Nat)(F:Flt)(sp:List Int):Prop:=∃ so sc uo uc ho hc lo lc po pc,Vw w b fb F sp so sc uo uc ho hc lo lc po pc
theorem VW.below {w w':World}{b fb:Nat}{F:Flt}{sp:List Int}(h:VW w b fb F sp)(hb:Below w.heap.size w w'):VW w' b fb F sp:=by
 obtain ⟨i,g,k,j,c,a,e,d,f,pc,h⟩:=h;exact ⟨i,g,k,j,c,a,e,d,f,pc,h.below hb⟩
theorem VW.alloc {w:World}{b fb:Nat}{F:Flt}{sp:List Int}(h:VW w b fb F sp)(x:Obj):VW (w.alloc x) b fb F sp:=h.below (brf.alloc (Nat.le_refl _) x)
theorem VW.drew {w:World}{b fb:Nat}{F:Flt}{sp:List Int}(h:VW w b fb F sp):VW w.drew b fb F sp:=h.below brf.drew
theorem Vw.vw {w:World}{b fb:Nat}{F:Flt}{sp:List Int}{so:Option Addr}{sc:Nat}{uo:Option Addr}{uc:Nat}{ho:Option Addr}{hc:Nat}{lo:Option Addr}{lc:Nat}{po:Option Addr}{pc:Nat}(h:Vw w b fb F sp so sc uo uc ho hc lo lc po pc):VW w b fb F sp:=⟨_,_,_,_,_,_,_,_,_,_,h⟩
theorem jHD {l:List Int}{r:Nat}{x:Int}(h:l[r]? = some x):lm l r=x:=by unfold lm;rw[List.getD_eq_getElem?_getD,h];rfl
theorem jLb {l:List Int}{r:Nat}(h:r<l.length):l[r]? = some (lm l r):=by rw[List.getElem?_eq_getElem h];unfold lm;rw[List.getD_eq_getElem?_getD,List.getElem?_eq_getElem h];rfl
theorem BkM.vw0 {base:Nat}{w:World}{b fb:Nat}{S:Bk}{sv uv hv lv pv:Value}{ss:List Value}{ps:List (Value×Usr)}(h:BkM base w b fb S sv uv hv lv pv ss ps){R:Int}{F:Flt}(hf:FL w fb F)(a:Agree0 S F)(hw:FWf R F):∃ so sc uo uc ho hc lo lc po pc,sv = .slice so F.mg sc/\uv = .slice uo F.ug uc/\hv = .slice ho F.ug hc/\lv = .slice lo F.ug lc/\pv = .slice po F.k pc/\Vw w b fb F S.sp so sc uo uc ho hc lo lc po pc:=by
 obtain ⟨so,sc,A,_,_,h1⟩:=jBB h.size;obtain ⟨uo,uc,B,_,_,J⟩:=jBB h.users.1;obtain ⟨ho,hc,L,_,_,h3⟩:=jBB h.here;obtain ⟨lo,lc,M,_,_,h4⟩:=jBB h.live;obtain ⟨po,pc,N,_,_,h5⟩:=jBB h.sp;rw[h.sl,a.szl] at A;(have t:ps.length=S.us.length:=by rw[<- h.us,List.length_map]);rw[t,a.usl] at B;rw[a.hl] at L;rw[a.ll] at M;rw[a.spl] at N;refine ⟨so,sc,uo,uc,ho,hc,lo,lc,po,pc,A,B,L,M,N,?_⟩;have i:=h.box;unfold bcells at i;rw[A,B,L,M,N,a.k,a.ck] at i;have C:=hw.k1;refine ⟨i,hf,fun m hm ht=>?_,fun m hm ht=>?_,fun u hu=>?_,fun u hu=>?_,fun u hu g o d e I A B=>?_,fun u hu ht=>?_,fun r hr=>?_⟩
 ·cases q:S.sz[m]? with
  | none=>rw[List.getElem?_eq_none_iff,a.szl] at q;omega
  | some y=>
   cases y with
   | none=>rw[a.down m q] at ht;cases ht
   | some l=>obtain ⟨_,hl,Y⟩:=a.up m l q;obtain ⟨v,Z,aa⟩:=h.sz m l q;obtain ⟨d,e,I,O,X,s⟩:=aa.cells hl C;obtain ⟨g,o,j,K,x⟩:=h1 m v Z;exact ⟨g,o,d,e,I,j,K,by rw[x,O],X,fun r hr=>by rw[s r hr,Y r hr]⟩
 ·cases q:S.sz[m]? with
  | none=>rw[List.getElem?_eq_none_iff,a.szl] at q;omega
  | some y=>
   cases y with
   | some l=>rw[(a.up m l q).1] at ht;cases ht
   | none=>exact h1 m _ (h.sn m q)
 ·exact h3 u _ (by rw[List.getElem?_map,a.here u hu];rfl)
 ·(have z:u<ps.length:=by rw[t,a.usl];exact hu);(have V:S.us[u]? = some ps[u].2:=by rw[<- h.us,List.getElem?_map,List.getElem?_eq_getElem z];rfl);have c:=a.uok u _ V;(have D:ps[u].2.dem.length=F.k:=by unfold yN at c;simp only[Bool.and_eq_true,decide_eq_true_eq] at c;exact c.1.1.1);(have W:xC ps[u].2.dem=true:=by unfold yN at c;simp only[Bool.and_eq_true,decide_eq_true_eq] at c;exact c.1.2);obtain ⟨d,e,I,O,X,s⟩:=(h.users.2 ps[u] (List.getElem_mem z)).cells D C;obtain ⟨q0,q1,q2⟩:=jD1 ps z;obtain ⟨g,o,j,K,x⟩:=J _ _ q0;obtain ⟨g1,o1,n,ab,T⟩:=J _ _ q1;obtain ⟨g2,o2,p,ad,U⟩:=J _ _ q2;rw[j] at n p;(injection n with n;injection n with G H;subst G;subst H);(injection p with p;injection p with G H;subst G;subst H);refine ⟨g,o,d,e,I,j,K,by rw[x,O],X,fun r hr=>?_,fun ht=>?_⟩
  ·have f:=jGq W r;unfold yE at f;have f:=of_decide_eq_true f;refine ⟨_,s r hr,f.1,f.2,fun ht=>?_⟩;have:=(a.user u _ V ht).1;rw[this];exact jHD (jCe _ hr)
  ·have f:=a.user u _ V ht;rw[<- f.2.1,<- f.2.2];exact ⟨by rw[Nat.add_assoc];exact T,by rw[Nat.add_assoc];exact U⟩
 ·(have z:u<ps.length:=by rw[t,a.usl];exact hu);obtain ⟨q0,_,_⟩:=jD1 ps z;obtain ⟨g',o',j,K,x⟩:=J _ _ q0;rw[A] at j;(injection j with j;injection j with G H;subst G;subst H);rw[B] at x;have f:=Option.some.inj x;obtain ⟨af,ae,E,P,Q,_⟩:=jBB (h.users.2 ps[u] (List.getElem_mem z));rw[<- f] at E;(injection E with y1 y2 y3);rw[y2,y3];exact ⟨P,Q⟩
 ·have f:=a.live u hu ht;exact h4 u _ (by rw[List.getElem?_map,f];rfl)
 ·exact h5 r _ (by rw[List.getElem?_map,jLb (by rw[a.spl];exact hr)];rfl)
theorem BkM.vw {base:Nat}{w:World}{b fb:Nat}{S:Bk}{sv uv hv lv pv:Value}{ss:List Value}{ps:List (Value×Usr)}(h:BkM base w b fb S sv uv hv lv pv ss ps){R:Int}{F:Flt}(hf:FL w fb F)(a:Agree S F)(hw:FWf R F):∃ so sc uo uc ho hc lo lc po pc,sv = .slice so F.mg sc/\uv = .slice uo F.ug uc/\hv = .slice ho F.ug hc/\lv = .slice lo F.ug lc/\pv = .slice po F.k pc/\Vw w b fb F S.sp so sc uo uc ho hc lo lc po pc:=h.vw0 hf a.toAgree0 hw
structure Tel (base:Nat)(w:World)(tb:Nat)(rv wv dv ov uv jv ev rn un:Value)(R W D O U J E RN UN:List Value)(I:List Lst):Prop where
  box:Bx w tb (tcells rv wv dv ov uv jv 0 ev) 51
  low:base<=tb
  ls:Lists base w ([(31,ev,E),(28,rv,R),(28,uv,U),(3,wv,W),(9,dv,D),(3,ov,O),(3,jv,J),(3,rn,RN),(3,un,UN)] ++ I)
  ty:∀ p,p∈I->p.1=3
section
variable {base:Nat} {w w':World} {tb:Nat} {rv wv dv ov uv jv ev rn un v':Value} {R W D O U J E RN UN ys:List Value} {I:List Lst}
theorem Tel.below (h:Tel base w tb rv wv dv ov uv jv ev rn un R W D O U J E RN UN I)(hb:Below w.heap.size w w'):Tel base w' tb rv wv dv ov uv jv ev rn un R W D O U J E RN UN I:=⟨h.box.keep hb,h.low,h.ls.below hb,h.ty⟩
theorem Tel.alloc (h:Tel base w tb rv wv dv ov uv jv ev rn un R W D O U J E RN UN I)(x:Obj):Tel base (w.alloc x) tb rv wv dv ov uv jv ev rn un R W D O U J E RN UN I:=h.below (brf.alloc (Nat.le_refl _) x)
theorem jEJ {L I:List Lst} (hI:∀ p,p∈I->p.1=3) (e:L.map (·.1) = [31,28,28,3,9,3,3,3,3] ++ I.map (·.1)):∀ p,p∈L->p.1≠51:=fun p hp=>by
  have h:p.1∈L.map (·.1):=List.mem_map_of_mem hp
  rw[e] at h
  rcases List.mem_append.1 h with h1 | h1
  · simp only[List.mem_cons,List.not_mem_nil,or_false] at h1
    rcases h1 with e | e | e | e | e | e | e | e | e <;> (rw[e];decide)
  · obtain ⟨q,hq,e⟩:=List.mem_map.1 h1;rw[<- e,hI q hq];decide
theorem Tel.at_err (h:Tel base w tb rv wv dv ov uv jv ev rn un R W D O U J E RN UN I):w.ownsRow base 31 1 ev E.length E:=Lists.at ([]) h.ls
theorem Tel.app_err (h:Tel base w tb rv wv dv ov uv jv ev rn un R W D O U J E RN UN I)(g1:w'.ownsRow base 31 1 v' (E.length+ys.length) (E ++ ys))(hg:w.grownBy w' ev.ownBlock)(ha:v'.ownBlock=ev.ownBlock∨v'.ownBlock=some w.heap.size):Tel base (w'.setCell ⟨tb,7,none⟩ v') tb rv wv dv ov uv jv v' rn un R W D O U J (E ++ ys) RN UN I:=by
 have a:=jAO h.box hg (jAa h.at_err h.box (by decide));have b:=Lists.appAt ([]) h.ls g1 hg ha;exact ⟨jAE a 7 v',h.low,b.boxset a (jEJ h.ty rfl) 7 v',h.ty⟩
theorem Tel.at_run (h:Tel base w tb rv wv dv ov uv jv ev rn un R W D O U J E RN UN I):w.ownsRow base 28 1 rv R.length R:=Lists.at ([(31,ev,E)]) h.ls
theorem Tel.app_run (h:Tel base w tb rv wv dv ov uv jv ev rn un R W D O U J E RN UN I)(g1:w'.ownsRow base 28 1 v' (R.length+ys.length) (R ++ ys))(hg:w.grownBy w' rv.ownBlock)(ha:v'.ownBlock=rv.ownBlock∨v'.ownBlock=some w.heap.size):Tel base (w'.setCell ⟨tb,0,none⟩ v') tb v' wv dv ov uv jv ev rn un (R ++ ys) W D O U J E RN UN I:=by
 have a:=jAO h.box hg (jAa h.at_run h.box (by decide));have b:=Lists.appAt ([(31,ev,E)]) h.ls g1 hg ha;exact ⟨jAE a 0 v',h.low,b.boxset a (jEJ h.ty rfl) 0 v',h.ty⟩
theorem Tel.at_used (h:Tel base w tb rv wv dv ov uv jv ev rn un R W D O U J E RN UN I):w.ownsRow base 28 1 uv U.length U:=Lists.at ([(31,ev,E),(28,rv,R)]) h.ls
theorem Tel.app_used (h:Tel base w tb rv wv dv ov uv jv ev rn un R W D O U J E RN UN I)(g1:w'.ownsRow base 28 1 v' (U.length+ys.length) (U ++ ys))(hg:w.grownBy w' uv.ownBlock)(ha:v'.ownBlock=uv.ownBlock∨v'.ownBlock=some w.heap.size):Tel base (w'.setCell ⟨tb,4,none⟩ v') tb rv wv dv ov v' jv ev rn un R W D O (U ++ ys) J E RN UN I:=by
 have a:=jAO h.box hg (jAa h.at_used h.box (by decide));have b:=Lists.appAt ([(31,ev,E),(28,rv,R)]) h.ls g1 hg ha;exact ⟨jAE a 4 v',h.low,b.boxset a (jEJ h.ty rfl) 4 v',h.ty⟩
theorem Tel.at_wait (h:Tel base w tb rv wv dv ov uv jv ev rn un R W D O U J E RN UN I):w.ownsRow base 3 1 wv W.length W:=Lists.at ([(31,ev,E),(28,rv,R),(28,uv,U)]) h.ls
theorem Tel.app_wait (h:Tel base w tb rv wv dv ov uv jv ev rn un R W D O U J E RN UN I)(g1:w'.ownsRow base 3 1 v' (W.length+ys.length) (W ++ ys))(hg:w.grownBy w' wv.ownBlock)(ha:v'.ownBlock=wv.ownBlock∨v'.ownBlock=some w.heap.size):Tel base (w'.setCell ⟨tb,1,none⟩ v') tb rv v' dv ov uv jv ev rn un R (W ++ ys) D O U J E RN UN I:=by
 have a:=jAO h.box hg (jAa h.at_wait h.box (by decide));have b:=Lists.appAt ([(31,ev,E),(28,rv,R),(28,uv,U)]) h.ls g1 hg ha;exact ⟨jAE a 1 v',h.low,b.boxset a (jEJ h.ty rfl) 1 v',h.ty⟩
theorem Tel.at_due (h:Tel base w tb rv wv dv ov uv jv ev rn un R W D O U J E RN UN I):w.ownsRow base 9 1 dv D.length D:=Lists.at ([(31,ev,E),(28,rv,R),(28,uv,U),(3,wv,W)]) h.ls
theorem Tel.app_due (h:Tel base w tb rv wv dv ov uv jv ev rn un R W D O U J E RN UN I)(g1:w'.ownsRow base 9 1 v' (D.length+ys.length) (D ++ ys))(hg:w.grownBy w' dv.ownBlock)(ha:v'.ownBlock=dv.ownBlock∨v'.ownBlock=some w.heap.size):Tel base (w'.setCell ⟨tb,2,none⟩ v') tb rv wv v' ov uv jv ev rn un R W (D ++ ys) O U J E RN UN I:=by
 have a:=jAO h.box hg (jAa h.at_due h.box (by decide));have b:=Lists.appAt ([(31,ev,E),(28,rv,R),(28,uv,U),(3,wv,W)]) h.ls g1 hg ha;exact ⟨jAE a 2 v',h.low,b.boxset a (jEJ h.ty rfl) 2 v',h.ty⟩
theorem Tel.at_off (h:Tel base w tb rv wv dv ov uv jv ev rn un R W D O U J E RN UN I):w.ownsRow base 3 1 ov O.length O:=Lists.at ([(31,ev,E),(28,rv,R),(28,uv,U),(3,wv,W),(9,dv,D)]) h.ls
theorem Tel.app_off (h:Tel base w tb rv wv dv ov uv jv ev rn un R W D O U J E RN UN I)(g1:w'.ownsRow base 3 1 v' (O.length+ys.length) (O ++ ys))(hg:w.grownBy w' ov.ownBlock)(ha:v'.ownBlock=ov.ownBlock∨v'.ownBlock=some w.heap.size):Tel base (w'.setCell ⟨tb,3,none⟩ v') tb rv wv dv v' uv jv ev rn un R W D (O ++ ys) U J E RN UN I:=by
 have a:=jAO h.box hg (jAa h.at_off h.box (by decide));have b:=Lists.appAt ([(31,ev,E),(28,rv,R),(28,uv,U),(3,wv,W),(9,dv,D)]) h.ls g1 hg ha;exact ⟨jAE a 3 v',h.low,b.boxset a (jEJ h.ty rfl) 3 v',h.ty⟩
theorem Tel.at_idle (h:Tel base w tb rv wv dv ov uv jv ev rn un R W D O U J E RN UN I):w.ownsRow base 3 1 jv J.length J:=Lists.at ([(31,ev,E),(28,rv,R),(28,uv,U),(3,wv,W),(9,dv,D),(3,ov,O)]) h.ls
theorem Tel.app_idle (h:Tel base w tb rv wv dv ov uv jv ev rn un R W D O U J E RN UN I)(g1:w'.ownsRow base 3 1 v' (J.length+ys.length) (J ++ ys))(hg:w.grownBy w' jv.ownBlock)(ha:v'.ownBlock=jv.ownBlock∨v'.ownBlock=some w.heap.size):Tel base (w'.setCell ⟨tb,5,none⟩ v') tb rv wv dv ov uv v' ev rn un R W D O U (J ++ ys) E RN UN I:=by
 have a:=jAO h.box hg (jAa h.at_idle h.box (by decide));have b:=Lists.appAt ([(31,ev,E),(28,rv,R),(28,uv,U),(3,wv,W),(9,dv,D),(3,ov,O)]) h.ls g1 hg ha;exact ⟨jAE a 5 v',h.low,b.boxset a (jEJ h.ty rfl) 5 v',h.ty⟩
theorem Tel.at_rn (h:Tel base w tb rv wv dv ov uv jv ev rn un R W D O U J E RN UN I):w.ownsRow base 3 1 rn RN.length RN:=Lists.at ([(31,ev,E),(28,rv,R),(28,uv,U),(3,wv,W),(9,dv,D),(3,ov,O),(3,jv,J)]) h.ls
theorem Tel.app_rn (h:Tel base w tb rv wv dv ov uv jv ev rn un R W D O U J E RN UN I) (g1:w'.ownsRow base 3 1 v' (RN.length+ys.length) (RN ++ ys)) (hg:w.grownBy w' rn.ownBlock) (ha:v'.ownBlock=rn.ownBlock∨v'.ownBlock=some w.heap.size):Tel base w' tb rv wv dv ov uv jv ev v' un R W D O U J E (RN ++ ys) UN I:=
  ⟨jAO h.box hg (jAa h.at_rn h.box (by decide)),h.low,Lists.appAt ([(31,ev,E),(28,rv,R),(28,uv,U),(3,wv,W),(9,dv,D),(3,ov,O),(3,jv,J)]) h.ls g1 hg ha,h.ty⟩
theorem Tel.at_un (h:Tel base w tb rv wv dv ov uv jv ev rn un R W D O U J E RN UN I):w.ownsRow base 3 1 un UN.length UN:=Lists.at ([(31,ev,E),(28,rv,R),(28,uv,U),(3,wv,W),(9,dv,D),(3,ov,O),(3,jv,J),(3,rn,RN)]) h.ls
theorem Tel.app_un (h:Tel base w tb rv wv dv ov uv jv ev rn un R W D O U J E RN UN I) (g1:w'.ownsRow base 3 1 v' (UN.length+ys.length) (UN ++ ys)) (hg:w.grownBy w' un.ownBlock) (ha:v'.ownBlock=un.ownBlock∨v'.ownBlock=some w.heap.size):Tel base w' tb rv wv dv ov uv jv ev rn v' R W D O U J E RN (UN ++ ys) I:=
  ⟨jAO h.box hg (jAa h.at_un h.box (by decide)),h.low,Lists.appAt ([(31,ev,E),(28,rv,R),(28,uv,U),(3,wv,W),(9,dv,D),(3,ov,O),(3,jv,J),(3,rn,RN)]) h.ls g1 hg ha,h.ty⟩
theorem Tel.next (h:Tel base w tb rv wv dv ov uv jv ev rn un R W D O U J E RN UN I):Tel base w tb rv wv dv ov uv jv ev (.slice none 0 0) (.slice none 0 0) R W D O U J E [] [] (I ++ [(3,rn,RN),(3,un,UN)]):=by
 refine ⟨h.box,h.low,?_,fun p hp=>?_⟩
 ·have a:Lists base w ([(31,ev,E),(28,rv,R),(28,uv,U),(3,wv,W),(9,dv,D),(3,ov,O),(3,jv,J)] ++ ([(3,rn,RN),(3,un,UN)] ++ I)):=h.ls;have b:=a.perm (List.Perm.append_left [(31,ev,E),(28,rv,R),(28,uv,U),(3,wv,W),(9,dv,D),(3,ov,O),(3,jv,J)] List.perm_append_comm);have c:=((b.cons 3).perm (List.perm_middle (l₁:=[(31,ev,E),(28,rv,R),(28,uv,U),(3,wv,W),(9,dv,D),(3,ov,O),(3,jv,J)])).symm);have d:=((c.cons 3).perm (List.perm_middle (l₁:=[(31,ev,E),(28,rv,R),(28,uv,U),(3,wv,W),(9,dv,D),(3,ov,O),(3,jv,J)])).symm);exact d
 ·rcases List.mem_append.1 hp with a | a
  ·exact h.ty p a
  ·simp only[List.mem_cons,List.not_mem_nil,or_false] at a;rcases a with e | e <;> (rw[e])
structure InR (I:List Lst)(rs us:List Value)(F:Flt)(k:Nat):Prop where
  rl:rs.length=k
  ul:us.length=k
  r:∀ (u:Nat) (v:Value),rs[u]? = some v->(3,v,iv (xi F u 9))∈I
  u:∀ (u:Nat) (v:Value),us[u]? = some v->(3,v,iv (yw F u 5))∈I
theorem InR.nil (F:Flt):InR [] [] [] F 0:=⟨rfl,rfl,fun u v h=>by (simp at h),fun u v h=>by (simp at h)⟩
theorem InR.next {F:Flt} {k:Nat} {rs us:List Value} (h:InR I rs us F k):InR (I ++ [(3,rn,iv (xi F k 9)),(3,un,iv (yw F k 5))]) (rs ++ [rn]) (us ++ [un]) F (k+1):=
  ⟨by rw[List.length_append,h.rl];rfl,by rw[List.length_append,h.ul];rfl,fun u v e=>by
    rcases jCg e with ⟨h1,h2⟩ | ⟨h1,h2⟩
    · rw[h.rl] at h1;subst h1;subst h2;simp
    · exact List.mem_append_left _ (h.r u v h2),fun u v e=>by
    rcases jCg e with ⟨h1,h2⟩ | ⟨h1,h2⟩
    · rw[h.ul] at h1;subst h1;subst h2;simp
    · exact List.mem_append_left _ (h.u u v h2)⟩
theorem jCD (l:List Int):(iv l).length=l.length:=List.length_map _
theorem jDB (F:Flt):∀ u,(yi F u).length=17*u:=by
 intro u
 induction u with
 | zero=>rfl
 | succ u ih=>show (yi F u ++ reL F u 9 ++ ueL F u 5 ++ [_,_,_]).length=_;rw[List.length_append,List.length_append,List.length_append,ih];unfold reL ueL;rw[jAI,jAI];simp only[List.length_cons,List.length_nil];omega
theorem Tel.told {F:Flt}{el:List Int}(hel:el=yi F 7 ++ ieL F 5)(h:Tel base w tb rv wv dv ov uv jv ev rn un R (iv (yZ F 7)) (sv' (xB F 7)) (iv (xQ F 7)) U (iv (xJ F 5)) (iv el) RN UN I)(hR:InR I R U F 7):Told base (w.setCell ⟨tb,6,none⟩ (.int .i64 F.ck)) tb F:=by
 have n:=h.ls.boxset h.box (jEJ h.ty rfl) 6 (.int .i64 F.ck);have m:=jAE h.box 6 (.int .i64 F.ck);have k:∀ p,p∈[(31,ev,iv el),(28,rv,R),(28,uv,U),(3,wv,iv (yZ F 7)),(9,dv,sv' (xB F 7)),(3,ov,iv (xQ F 7)),(3,jv,iv (xJ F 5)),(3,rn,RN),(3,un,UN)] ++ I->_:=n.own;have c:=k (31,ev,iv el) (by simp);have d:=k (28,rv,R) (by simp);have f:=k (28,uv,U) (by simp);have g:=k (3,wv,iv (yZ F 7)) (by simp);have b:=k (9,dv,sv' (xB F 7)) (by simp);have i:=k (3,ov,iv (xQ F 7)) (by simp);have j:=k (3,jv,iv (xJ F 5)) (by simp);(have a:∀ (v:Value) (l:List Int),World.ownsRow (w.setCell ⟨tb,6,none⟩ (.int .i64 F.ck)) base 3 1 v (iv l).length (iv l)->Li base (w.setCell ⟨tb,6,none⟩ (.int .i64 F.ck)) v l:=fun v l h=>by rw[jCD] at h;exact h);(have o:∀ (v:Value) (l:List Int),World.ownsRow (w.setCell ⟨tb,6,none⟩ (.int .i64 F.ck)) base 31 1 v (iv l).length (iv l)->World.ownsRow (w.setCell ⟨tb,6,none⟩ (.int .i64 F.ck)) base 31 1 v l.length (iv l):=fun v l h=>by rw[jCD] at h;exact h);refine ⟨rv,wv,dv,ov,uv,jv,ev,R,U,el,⟨hel,m,h.low,?_,a _ _ g,?_,a _ _ i,?_,a _ _ j,?_,fun u v e=>a _ _ (k _ (List.mem_append_right _ (hR.r u v e))),fun u v e=>a _ _ (k _ (List.mem_append_right _ (hR.u u v e)))⟩⟩
 ·have:=d;rw[hR.rl] at this;exact this
 ·(have e:(sv' (xB F 7)).length=7:=by unfold xB;rw[List.length_map,jAI]);rw[e] at b;exact b
 ·have:=f;rw[hR.ul] at this;exact this
 ·exact o _ _ c
theorem Tel.new (w:World):Tel w.heap.size (w.alloc (.cells (tcells (.slice none 0 0) (.slice none 0 0) (.slice none 0 0) (.slice none 0 0) (.slice none 0 0) (.slice none 0 0) 0 (.slice none 0 0)) 51)) w.heap.size (.slice none 0 0) (.slice none 0 0) (.slice none 0 0) (.slice none 0 0) (.slice none 0 0) (.slice none 0 0) (.slice none 0 0) (.slice none 0 0) (.slice none 0 0) [] [] [] [] [] [] [] [] [] []:=
  ⟨jAC w _ _,Nat.le_refl _,(Lists.cons (Lists.cons (Lists.cons (Lists.cons (Lists.cons (Lists.cons (Lists.cons (Lists.cons (Lists.cons (Lists.nil _ _) 3) 3) 3) 3) 9) 3) 28) 28) 31),fun p hp=>by (cases hp)⟩
theorem jDe (c:Bool)(x:Int):xG c (.int .i64 x) (.int .i64 0) = .tuple #[.int .i64 (if c then x else 0),.int .i64 (zw c)]:=by cases c <;> rfl
theorem jLD (c:Bool)(x:ByteArray):xG c (.string x) (.string ⟨#[]⟩) = .tuple #[.string (if c then x else ⟨#[]⟩),.int .i64 (zw c)]:=by cases c <;> rfl
end
end Go.Proofs.YtigokanoflkinabGreatDoor
