/- BkT, BkS, BkV, BkTl, joined. -/
import Derived.Test.YtigokanoflkinabGreatDoorBkAD
namespace Go.Proofs.YtigokanoflkinabGreatDoor
set_option linter.unusedSimpArgs false
set_option linter.unusedVariables false
open Go.RowKit Por
abbrev Lst:=TypeId×Value×List Value
structure Lists (base:Nat)(w:World)(L:List Lst):Prop where
  own:∀ p,p∈L→w.ownsRow base p.1 1 p.2.1 p.2.2.length p.2.2
  apart:L.Pairwise (fun p q=>Apart p.2.1 q.2.1)
theorem Lists.perm {base:Nat} {w:World} {L L':List Lst} (h:Lists base w L) (hp:L.Perm L'):Lists base w L':=
  ⟨fun p hm=>h.own p (hp.mem_iff.2 hm),hp.pairwise h.apart (fun ha=>Apart.symm ha)⟩
theorem Lists.below {base:Nat}{w w':World}{L:List Lst}(h:Lists base w L)(hb:Below w.heap.size w w'):Lists base w' L:=⟨fun p hp=>jAz (h.own p hp) hb,h.apart⟩
theorem Lists.nil (base:Nat)(w:World):Lists base w []:=⟨fun p hp=>by (cases hp),.nil⟩
theorem Lists.cons {base:Nat} {w:World} {L:List Lst} (h:Lists base w L) (T:TypeId):Lists base w ((T,.slice none 0 0,[]) :: L):=
  ⟨fun p hp=>by
    rcases List.mem_cons.1 hp with e | e
    · subst e;exact World.ownsRow_nil _ _ _ _
    · exact h.own p e,.cons (fun q _ g hg=>by cases hg) h.apart⟩
theorem Lists.boxset {base:Nat} {w:World} {L:List Lst} (h:Lists base w L) {b:Nat} {cs:Array Value} {T':TypeId} (hx:Bx w b cs T') (hT:∀ p,p∈L→p.1≠T') (o:Nat) (u:Value):Lists base (w.setCell ⟨b,o,none⟩ u) L:=
  ⟨fun p hp=>jAd (h.own p hp) hx (hT p hp) o u,h.apart⟩
theorem Lists.app {base:Nat}{w w':World}{L:List Lst}{T:TypeId}{v v':Value}{xs ys:List Value}(h:Lists base w ((T,v,xs) :: L))(g1:w'.ownsRow base T 1 v' (xs.length+ys.length) (xs ++ ys))(hg:w.grownBy w' v.ownBlock)(ha:v'.ownBlock=v.ownBlock∨v'.ownBlock=some w.heap.size):Lists base w' ((T,v',xs ++ ys) :: L):=by
 have h0:=List.pairwise_cons.1 h.apart;refine ⟨fun p hp=>?_,.cons (fun q hq=>?_) h0.2⟩
 ·rcases List.mem_cons.1 hp with e | e
  ·subst e;show w'.ownsRow base T 1 v' (xs ++ ys).length (xs ++ ys);rw[List.length_append];exact g1
  ·exact jAH (h.own p (List.mem_cons_of_mem _ e)) hg (Apart.keptv (h0.1 p e))
 ·exact Apart.app (w:=w) (base:=base) (h0.1 q hq) (h.own q (List.mem_cons_of_mem _ hq)) ha
theorem Lists.appAt {base:Nat} {w w':World} (A:List Lst) {L:List Lst} {T:TypeId} {v v':Value} {xs ys:List Value} (h:Lists base w (A ++ (T,v,xs) :: L)) (g1:w'.ownsRow base T 1 v' (xs.length+ys.length) (xs ++ ys)) (hg:w.grownBy w' v.ownBlock) (ha:v'.ownBlock=v.ownBlock∨v'.ownBlock=some w.heap.size):Lists base w' (A ++ (T,v',xs ++ ys) :: L):=
  ((h.perm List.perm_middle).app g1 hg ha).perm List.perm_middle.symm
theorem Lists.at {base:Nat}{w:World}(A:List Lst){L:List Lst}{T:TypeId}{v:Value}{xs:List Value}(h:Lists base w (A ++ (T,v,xs) :: L)):w.ownsRow base T 1 v xs.length xs:=h.own (T,v,xs) (by simp)
theorem jAe {base T size n:Nat}{w w':World}{v:Value}{xs:List Value}(h:w.ownsRow base T size v n xs)(hg:w.grownBy w' v.ownBlock)(hb:base≤w.heap.size):Below base w w':=jEE hg hb (fun k hk=>(World.ownsRow.lt h k hk).1)
def Above (B:Nat)(w w':World):Prop:=w.heap.size≤w'.heap.size∧∀ k,B≤k→k<w.heap.size→w'.heap[k]? = w.heap[k]?
theorem Above.trans {B:Nat}{x y z:World}(h:Above B x y)(k:Above B y z):Above B x z:=⟨Nat.le_trans h.1 k.1,fun i h1 h2=>(k.2 i h1 (Nat.lt_of_lt_of_le h2 h.1)).trans (h.2 i h1 h2)⟩
theorem Above.of_below {B:Nat}{w w':World}(h:Below w.heap.size w w'):Above B w w':=⟨h.size,fun k _ hk=>h.block k hk⟩
theorem jBH {base T size n:Nat}{w w':World}{v:Value}{xs:List Value}(h:w.ownsRow base T size v n xs)(ha:Above base w w'):w'.ownsRow base T size v n xs:=by
 refine ⟨h.1,?_⟩;rcases h.2 with h1 | ⟨g,cap,cur,h1,h2,h3,h4⟩
 ·exact .inl h1
 ·exact .inr ⟨g,cap,cur,h1,h2,(ha.2 g h2 (Array.getElem?_eq_some_iff.1 h3).1).trans h3,h4⟩
def runV (F:Flt)(x y:Int):Int:=if hasU F x && hasM F y then F.m.on x.toNat y.toNat else 0
def usedV (F:Flt)(x y:Int):Int:=if hadU F x && hasK F y then F.used x.toNat y.toNat else 0
def waitV (F:Flt)(x:Int):Int:=if hasU F x then F.m.wait x.toNat else 0
def dueV (F:Flt)(x:Int):ByteArray:=if hasU F x then F.due x.toNat else ⟨#[]⟩
def offV (F:Flt)(x:Int):Int:=if hadU F x then F.m.rev x.toNat else 0
def idleV (F:Flt)(y:Int):Int:=if hasK F y then F.idle y.toNat else 0
def ern (c:Bool):Int:=if c then 0 else 7
def runL (F:Flt)(u n:Nat):List Int:=(List.range n).map fun (m:Nat)=>runV F u m
def usedL (F:Flt)(u n:Nat):List Int:=(List.range n).map fun (r:Nat)=>usedV F u r
def waitL (F:Flt)(n:Nat):List Int:=(List.range n).map fun (u:Nat)=>waitV F u
def dueL (F:Flt)(n:Nat):List ByteArray:=(List.range n).map fun (u:Nat)=>dueV F u
def offL (F:Flt)(n:Nat):List Int:=(List.range n).map fun (u:Nat)=>offV F u
def idleL (F:Flt)(n:Nat):List Int:=(List.range n).map fun (r:Nat)=>idleV F r
def reL (F:Flt)(u n:Nat):List Int:=(List.range n).map fun (m:Nat)=>ern (hasU F u && hasM F m)
def ueL (F:Flt)(u n:Nat):List Int:=(List.range n).map fun (r:Nat)=>ern (hadU F u && hasK F r)
def ieL (F:Flt)(n:Nat):List Int:=(List.range n).map fun (r:Nat)=>ern (hasK F r)
def errL (F:Flt):Nat→List Int
  | 0=>[]
  | u+1=>errL F u ++ reL F u 9 ++ ueL F u 5 ++ [ern (hasU F u),ern (hasU F u),ern (hadU F u)]
theorem jAR {α:Type}(f:Nat→α)(n:Nat):(List.range (n+1)).map f=(List.range n).map f ++ [f n]:=by rw[List.range_succ,List.map_append];rfl
theorem jAJ {α:Type}(f:Nat→α)(n:Nat):((List.range n).map f).length=n:=by simp
abbrev iv (l:List Int):List Value:=l.map (Value.int .i64)
abbrev sv' (l:List ByteArray):List Value:=l.map Value.string
abbrev tcells (rv wv dv ov uv jv:Value)(tm:Int)(ev:Value):Array Value:=#[rv,wv,dv,ov,uv,jv,.int .i64 tm,ev]
def RowsL (base:Nat)(w:World)(rs:List Value)(f:Nat→List Int):Prop:=∀ (u:Nat) (v:Value),rs[u]? = some v→Li base w v (f u)
structure ToldM (base:Nat)(w:World)(sb:Nat)(F:Flt)(rv wv dv ov uv jv ev:Value)(rs us:List Value)(el:List Int):Prop where
  elq:el=errL F 7 ++ ieL F 5
  box:Bx w sb (tcells rv wv dv ov uv jv F.ck ev) 51
  low:base≤sb
  run:w.ownsRow base 28 1 rv 7 rs
  wait:Li base w wv (waitL F 7)
  due:w.ownsRow base 9 1 dv 7 (sv' (dueL F 7))
  off:Li base w ov (offL F 7)
  used:w.ownsRow base 28 1 uv 7 us
  idle:Li base w jv (idleL F 5)
  errs:w.ownsRow base 31 1 ev el.length (iv el)
  rrow:RowsL base w rs (fun u=>runL F u 9)
  urow:RowsL base w us (fun u=>usedL F u 5)
def Told (base:Nat)(w:World)(sb:Nat)(F:Flt):Prop:=∃ rv wv dv ov uv jv ev rs us el,ToldM base w sb F rv wv dv ov uv jv ev rs us el
theorem Told.above {base:Nat}{w w':World}{sb:Nat}{F:Flt}(h:Told base w sb F)(ha:Above base w w'):Told base w' sb F:=by
  obtain ⟨rv,wv,dv,ov,uv,jv,ev,rs,us,el,h⟩:=h
  exact ⟨rv, wv, dv, ov, uv, jv, ev, rs, us, el, { h with
    box := (ha.2 sb h.low h.box.lt).trans h.box
    run := jBH h.run ha
    wait := jBH h.wait ha
    due := jBH h.due ha
    off := jBH h.off ha
    used := jBH h.used ha
    idle := jBH h.idle ha
    errs := jBH h.errs ha
    rrow := fun u v e => jBH (h.rrow u v e) ha
    urow := fun u v e => jBH (h.urow u v e) ha }⟩
theorem Told.below {base:Nat}{w w':World}{sb:Nat}{F:Flt}(h:Told base w sb F)(hb:Below w.heap.size w w'):Told base w' sb F:=h.above (Above.of_below hb)
structure OpV where
  kind:Int
  a:Int
  b:Int
  c:Int
  l:List Int
  oth:Bool
def In64 (x:Int):Prop:=-9223372036854775808≤x∧x≤9223372036854775807
structure OpI4 (o:OpV):Prop where
  kind:In64 o.kind
  a:In64 o.a
  b:In64 o.b
  c:In64 o.c
structure OpIn (o:OpV):Prop extends OpI4 o where
  l:o.l.length≤17592186044416
abbrev OpV.usr (o:OpV):Usr:=⟨o.l,o.a,o.b⟩
inductive Acts (F:Flt) (o:OpV):Flt→Prop
  | mach (h:o.kind=1) (hs:sizeB F.k o.l=true) (hg:F.mg<8):Acts F o (addMF F o.l)
  | brk (h:o.kind=2) (i:Nat) (e:o.a=i) (hi:i<8) (ht:F.mt i=true):Acts F o (dropMF F i)
  | user (h:o.kind=3) (hs:usrB F.k o.usr=true) (hg:F.ug<6):Acts F o (addUF F o.usr)
  | leave (h:o.kind=4) (u:Nat) (e:o.a=u) (hu:u<6) (ht:F.ut u=true):Acts F o (dropUF F u)
  | chg (h:o.kind=5) (u:Nat) (e:o.a=u) (hu:u<6) (ht:F.ut u=true) (hw:1≤o.b∧o.b≤100) (hc:0≤o.c∧o.c≤1000):Acts F o (chgF F u o.b o.c)
  | sub (h:o.kind=6) (u:Nat) (e:o.a=u) (hu:u<6) (ht:F.ut u=true) (h1:1≤o.b) (h2:F.m.wait u+runs F.m u+o.b≤40):Acts F o (subF F u o.b)
  | can (h:o.kind=7) (u:Nat) (e:o.a=u) (hu:u<6) (ht:F.ut u=true) (h1:1≤o.b) (h2:o.b≤F.m.wait u):Acts F o (subF F u (-o.b))
  | fin (h:o.kind=8) (u m:Nat) (e:o.a=u) (e2:o.b=m) (hu:u<6) (hm:m<8) (ht:F.ut u=true) (h1:1≤F.m.on u m):Acts F o (finF F u m)
def Step (F:Flt)(o:OpV)(er:Int)(G:Flt):Prop:=(er≠0∧G=F)∨(er=0∧((∃ F1,Acts F o F1∧Settled F1 G)∨(o.kind=9∧1≤o.a∧o.a≤1000∧F.ck+o.a≤1000000∧G=tickF F o.a)))
theorem Acts.wf {R:Int}{F F1:Flt}{o:OpV}(h:Acts F o F1)(hw:FWf R F)(hR:0≤R):FWf R F1:=by
 cases h with
 | mach h hs hg=>obtain ⟨h1,h2⟩:=jCS hs;exact hw.addM hg h1 h2
 | brk h i e hi ht=>exact hw.dropM hi
 | user h hs hg=>exact hw.addU hR hg hs
 | leave h u e hu ht=>exact hw.dropU hu
 | chg h u e hu ht h1 h2=>exact hw.chg hu ht h1 h2
 | sub h u e hu ht h1 h2=>exact hw.sub hu ht (by have:=hw.wait u hu;omega) (by omega)
 | can h u e hu ht h1 h2=>exact hw.sub hu ht (by omega) (by have:=hw.tot u hu;omega)
 | fin h u m e e2 hu hm ht h1=>exact hw.fin hu hm h1
theorem Step.rest {R R':Int}{F G:Flt}{o:OpV}{er:Int}(h:Step F o er G)(hw:FWf R F)(hR:0≤R)(hr:Rest F)(hG:FWf R' G):Rest G:=by
 rcases h with ⟨_,rfl⟩ | ⟨_,⟨F1,h1,h2⟩ | ⟨_,_,_,_,rfl⟩⟩
 ·exact hr
 ·exact h2.rest (h1.wf hw hR) hG
 ·exact hr.tick _
def goneV (F:Flt)(o:OpV)(u:Nat):Int:=if o.kind=2∧0≤o.a∧o.a<9 then runV F u o.a else if o.kind=8∧o.a=u then 1 else 0
def hadV (F:Flt)(o:OpV)(u:Nat):Int:=Por.sumI (fun m=>runV F u m) 9 - goneV F o u
theorem jLm {R:Int}{F:Flt}(h:FWf R F){u:Nat}(hu:u<6):Por.sumI (fun m=>runV F u m) 9=if F.ut u then runs F.m u else 0:=by
 (have h8:runV F u ((8:Nat):Int)=0:=by unfold runV hasM;rw[decide_eq_false (show ¬ (((8:Nat):Int)<8) by omega)];simp);show Por.sumI (fun m=>runV F u m) 8+runV F u ((8:Nat):Int)=_;rw[h8,Int.add_zero]
 cases e:F.ut u with
 | false=>rw[if_neg (by simp)];refine jAq (fun m hm=>?_);unfold runV hasU;rw[show ((u:Nat):Int).toNat=u from rfl,e];simp
 | true=>
  rw[if_pos rfl];refine jAs (fun m hm=>?_);unfold runV hasU hasM;rw[show ((u:Nat):Int).toNat=u from rfl,show ((m:Nat):Int).toNat=m from rfl,e,decide_eq_true (show (0:Int)≤(u:Int) by omega),decide_eq_true (show ((u:Nat):Int)<6 by omega),decide_eq_true (show (0:Int)≤(m:Int) by omega),decide_eq_true (show ((m:Nat):Int)<8 by omega)];simp only[Bool.true_and]
  cases e2:F.mt m with
  | true=>rfl
  | false=>rw[h.gone m hm e2 u hu];rfl
theorem jK7 {R:Int}{F F1:Flt}{o:OpV}(h:Acts F o F1)(hw:FWf R F){u:Nat}(hu:u<6)(ht:F1.ut u=true):hadV F o u=runs F1.m u∧offV F u=F1.m.rev u:=by
 have h0:=jLm hw hu;(have hoff:F.ut u=true→offV F u=F.m.rev u:=fun h1=>by unfold offV hadU;have:=hw.ut u hu h1;rw[decide_eq_true (show (0:Int)≤(u:Int) by omega),decide_eq_true (show ((u:Nat):Int)<F.ug by omega)];rfl);(have hgone:o.kind≠2→o.kind≠8→goneV F o u=0:=fun h1 h2=>by unfold goneV;rw[if_neg (fun h3=>h1 h3.1),if_neg (fun h3=>h2 h3.1)]);unfold hadV;rw[h0]
 cases h with
 | mach h hs hg=>have ht:F.ut u=true:=ht;rw[ht,hgone (by omega) (by omega)];exact ⟨by simp;rfl,hoff ht⟩
 | brk h i e hi hti=>have ht:F.ut u=true:=ht;rw[ht,if_pos rfl];refine ⟨?_,hoff ht⟩;show _=runs (offM F.m i 6) u;rw[jEG hi hu];unfold goneV;rw[if_pos ⟨h,by omega,by omega⟩,e];unfold runV hasU hasM;rw[show ((u:Nat):Int).toNat=u from rfl,show ((i:Nat):Int).toNat=i from rfl,ht,hti,decide_eq_true (show (0:Int)≤(u:Int) by omega),decide_eq_true (show ((u:Nat):Int)<6 by omega),decide_eq_true (show (0:Int)≤(i:Int) by omega),decide_eq_true (show ((i:Nat):Int)<8 by omega)];rfl
 | user h hs hg=>
  rw[hgone (by omega) (by omega)]
  have hru:runs (addUF F o.usr).m u=if u=F.ug then 0 else runs F.m u:=by
   show Por.sumI (updR F.m.on F.ug (fun _=>0) u) 8=_;by_cases e:u=F.ug
   ·rw[if_pos e,e,jBG];exact jAq (fun _ _=>rfl)
   ·rw[if_neg e,jAW _ _ e];rfl
  rw[hru];by_cases e:u=F.ug
  ·have h1:F.ut u=false:=by
    cases e2:F.ut u with
    | false=>rfl
    | true=>have:=hw.ut u hu e2;omega
   rw[h1,if_pos e];refine ⟨rfl,?_⟩;show offV F u=updI F.m.rev F.ug 0 u;rw[e,jAS];unfold offV hadU;rw[decide_eq_false (show ¬ (((F.ug:Nat):Int)<F.ug) by omega)];simp
  ·(have h1:F.ut u=true:=by have ht:updT F.ut F.ug true u=true:=ht;rw[jAX _ _ e] at ht;exact ht);rw[h1,if_neg e,if_pos rfl];refine ⟨Int.sub_zero _,?_⟩;show offV F u=updI F.m.rev F.ug 0 u;rw[jAK _ _ e];exact hoff h1
 | leave h v e hv htv=>rw[hgone (by omega) (by omega)];have ht:updT F.ut v false u=true:=ht;(have e2:u≠v:=fun e2=>by rw[e2,jBX] at ht;cases ht);rw[jAX _ _ e2] at ht;rw[ht,if_pos rfl];refine ⟨?_,hoff ht⟩;show runs F.m u - 0=Por.sumI (updR F.m.on v (fun _=>0) u) 8;rw[jAW _ _ e2,Int.sub_zero];rfl
 | chg h v e hv htv h1 h2=>have ht:F.ut u=true:=ht;rw[ht,hgone (by omega) (by omega)];exact ⟨by simp;rfl,hoff ht⟩
 | sub h v e hv htv h1 h2=>have ht:F.ut u=true:=ht;rw[ht,hgone (by omega) (by omega)];exact ⟨by simp;rfl,hoff ht⟩
 | can h v e hv htv h1 h2=>have ht:F.ut u=true:=ht;rw[ht,hgone (by omega) (by omega)];exact ⟨by simp;rfl,hoff ht⟩
 | fin h v m e e2 hv hm htv h1=>
  have ht:F.ut u=true:=ht;rw[ht,if_pos rfl,jG6 F hm];refine ⟨?_,hoff ht⟩;unfold goneV;rw[if_neg (fun h3=>by have:=h3.1;omega)];by_cases e3:u=v
  ·rw[if_pos ⟨h,by omega⟩,if_pos e3,e3]
  ·rw[if_neg (fun h3=>by have:=h3.2;omega),if_neg e3,Int.sub_zero]
structure GentB (F:Flt)(o:OpV)(G:Flt):Prop where
  rev:∀ u,u<6→G.ut u=true→offV F u≤G.m.rev u
  low:∀ u,u<6→G.ut u=true→hadV F o u≤runs G.m u∨goalI G (poolF G 8) u≤runs G.m u
  way:∀ u,u<6→G.ut u=true→offV F u<G.m.rev u→goalI G (poolF G 8) u≤runs G.m u
  kept:∀ u,u<6→G.ut u=true→offV F u=G.m.rev u→hadV F o u≤runs G.m u
  gain:(∃ u,u<6∧G.ut u=true∧offV F u<G.m.rev u)→∃ v,v<6∧G.ut v=true∧hadV F o v<goalI G (poolF G 8) v∧hadV F o v<runs G.m v
theorem Acts.gentle {R:Int}{F F1 G:Flt}{o:OpV}(h:Acts F o F1)(hw:FWf R F)(hR:0≤R)(hs:Settled F1 G):GentB F o G:=by
 have h1:=h.wf hw hR;obtain ⟨z,rfl,hz⟩:=hs;have hg:=hz.gentle h1.fok h1.finv;(have hgo:∀ u,goalI (withM (withD F1 (dueB F1 (poolF F1 8))) z) (poolF F1 8) u=goalI F1 (poolF F1 8) u:=fun u=>by rw[jCG h1 hz]);(have ha:∀ u,u<6→F1.ut u=true→hadV F o u=runs F1.m u∧offV F u=F1.m.rev u:=fun u hu ht=>jK7 h hw hu ht);refine ⟨fun u hu ht=>?_,fun u hu ht=>?_,fun u hu ht h2=>?_,fun u hu ht h2=>?_,fun ⟨u,hu,ht,h2⟩=>?_⟩
 ·rw[(ha u hu ht).2];exact hg.rev u hu
 ·rw[(ha u hu ht).1];rcases hg.low u hu with h3 | h3
  ·exact .inl h3
  ·right;exact Int.le_trans (Int.le_of_eq (hgo u)) h3
 ·rw[(ha u hu ht).2] at h2;exact Int.le_trans (Int.le_of_eq (hgo u)) (hg.way u hu h2)
 ·rw[(ha u hu ht).2] at h2;rw[(ha u hu ht).1];exact hg.kept u hu h2
 ·rw[(ha u hu ht).2] at h2;obtain ⟨v,hv,h3,h4⟩:=hg.gain ⟨u,hu,h2⟩
  have htv:F1.ut v=true:=by
   have h3:runs F1.m v<goalI F1 (poolF F1 8) v:=h3;unfold goalI at h3;by_cases e:v<6∧F1.ut v=true
   ·exact e.2
   ·rw[if_neg e] at h3;have:=h1.runs0 hv;omega
  refine ⟨v,hv,htv,?_,?_⟩
  ·rw[(ha v hv htv).1];exact Int.lt_of_lt_of_le h3 (Int.le_of_eq (hgo v).symm)
  ·rw[(ha v hv htv).1];exact h4
theorem jBk {base T size n:Nat}{w:World}{v:Value}{xs:List Value}(h:w.ownsRow base T size v n xs):∃ so sc,v = .slice so n sc∧n≤sc∧sc≤maxLen∧(∀ (i:Nat) (x:Value),xs[i]? = some x→∃ g o,so=some ⟨g,o,none⟩∧g<w.heap.size∧w.cell? ⟨g,o+i,none⟩=some x):=by
 rcases h.2 with ⟨rfl,h0⟩ | ⟨g,cap,cur,rfl,h2,h3,h4,h5,h6,h7⟩
 ·subst h0;have:xs = []:=List.eq_nil_of_length_eq_zero (by simpa using h.1);subst this;exact ⟨none,0,rfl,Nat.le_refl _,Nat.zero_le _,fun i x hx=>by simp at hx⟩
 ·refine ⟨_,_,rfl,h4,h5,fun i x hx=>⟨g,0,rfl,(Array.getElem?_eq_some_iff.1 h3).1,?_⟩⟩;(have hi:i<n*size:=by have:=(List.getElem?_eq_some_iff.1 hx).1;have:=h.1;omega);rw[Nat.zero_add,cell_of_row w g i _ _ _ h3,← Array.getElem?_toList];rw[← h7,List.getElem?_take,if_pos hi] at hx;exact hx
theorem Li.cells {base k:Nat}{w:World}{v:Value}{l:List Int}(h:Li base w v l)(hk:l.length=k)(h0:1≤k):∃ d o dc,v = .slice (some ⟨d,o,none⟩) k dc∧d<w.heap.size∧∀ r,r<k→w.cell? ⟨d,o+r,none⟩=some (.int .i64 (lm l r)):=by
 subst hk;obtain ⟨so,sc,hv,h1,h2,h3⟩:=jBk h;(have hg:∀ r,r<l.length→(l.map (Value.int .i64))[r]? = some (.int .i64 (lm l r)):=fun r hr=>by rw[List.getElem?_map,List.getElem?_eq_getElem hr];unfold lm;rw[List.getD_eq_getElem?_getD,List.getElem?_eq_getElem hr];rfl);obtain ⟨g,o,e,h4,h5⟩:=h3 0 _ (hg 0 (by omega));refine ⟨g,o,sc,by rw[hv,e],h4,fun r hr=>?_⟩;obtain ⟨g',o',e',h6,h7⟩:=h3 r _ (hg r hr);(rw[e] at e';injection e' with e';injection e' with e1 e2;subst e1;subst e2);exact h7
structure Vw (w:World)(b fb:Nat)(F:Flt)(sp:List Int)(so:Option Addr)(sc:Nat)(uo:Option Addr)(uc:Nat)(ho:Option Addr)(hc:Nat)(lo:Option Addr)(lc:Nat)(po:Option Addr)(pc:Nat):Prop where
  box:Bx w b #[.pointer (some ⟨fb,0,none⟩),.int .i64 F.k,.slice so F.mg sc,.slice uo F.ug uc,.slice ho F.ug hc,.slice lo F.ug lc,.int .i64 F.ck,.slice po F.k pc,.bool false] 39
  fl:FL w fb F
  up:∀ m,m<F.mg→F.mt m=true→∃ g o d e dc,so=some ⟨g,o,none⟩∧g<w.heap.size∧w.cell? ⟨g,o+m,none⟩=some (.slice (some ⟨d,e,none⟩) F.k dc)∧d<w.heap.size∧∀ r,r<F.k→w.cell? ⟨d,e+r,none⟩=some (.int .i64 (F.ms m r))
  down:∀ m,m<F.mg→F.mt m=false→∃ g o,so=some ⟨g,o,none⟩∧g<w.heap.size∧w.cell? ⟨g,o+m,none⟩=some (.slice none 0 0)
  here:∀ u,u<F.ug→∃ g o,ho=some ⟨g,o,none⟩∧g<w.heap.size∧w.cell? ⟨g,o+u,none⟩=some (.bool (F.ut u))
  user:∀ u,u<F.ug→∃ g o d e dc,uo=some ⟨g,o,none⟩∧g<w.heap.size∧w.cell? ⟨g,o+u*3,none⟩=some (.slice (some ⟨d,e,none⟩) F.k dc)∧d<w.heap.size∧(∀ r,r<F.k→∃ x,w.cell? ⟨d,e+r,none⟩=some (.int .i64 x)∧0≤x∧x≤10000∧(F.ut u=true→x=F.ud u r))∧(F.ut u=true→w.cell? ⟨g,o+u*3+1,none⟩=some (.int .i64 (F.uw u))∧w.cell? ⟨g,o+u*3+2,none⟩=some (.int .i64 (F.uc u)))
  live:∀ u,u<F.ug→F.ut u=true→∃ g o,lo=some ⟨g,o,none⟩∧g<w.heap.size∧w.cell? ⟨g,o+u,none⟩=some (.int .i64 (F.m.wait u+runs F.m u))
  sp:∀ r,r<F.k→∃ g o,po=some ⟨g,o,none⟩∧g<w.heap.size∧w.cell? ⟨g,o+r,none⟩=some (.int .i64 (lm sp r))
theorem Vw.below {w w':World}{b fb:Nat}{F:Flt}{sp:List Int}{so:Option Addr}{sc:Nat}{uo:Option Addr}{uc:Nat}{ho:Option Addr}{hc:Nat}{lo:Option Addr}{lc:Nat}{po:Option Addr}{pc:Nat}(h:Vw w b fb F sp so sc uo uc ho hc lo lc po pc)(hb:Below w.heap.size w w'):Vw w' b fb F sp so sc uo uc ho hc lo lc po pc:=by
 (have lt:∀ {g:Nat},g<w.heap.size→g<w'.heap.size:=fun h=>Nat.lt_of_lt_of_le h hb.size);(have ce:∀ {g o:Nat} {v:Value},g<w.heap.size→w.cell? ⟨g,o,none⟩=some v→w'.cell? ⟨g,o,none⟩=some v:=fun h1 h2=>(hb.cell (p:=⟨_,_,none⟩) h1).trans h2);refine ⟨h.box.keep hb,h.fl.below hb,fun m hm ht=>?_,fun m hm ht=>?_,fun u hu=>?_,fun u hu=>?_,fun u hu ht=>?_,fun r hr=>?_⟩
 ·obtain ⟨g,o,d,e,dc,h1,h2,h3,h4,h5⟩:=h.up m hm ht;exact ⟨g,o,d,e,dc,h1,lt h2,ce h2 h3,lt h4,fun r hr=>ce h4 (h5 r hr)⟩
 ·obtain ⟨g,o,h1,h2,h3⟩:=h.down m hm ht;exact ⟨g,o,h1,lt h2,ce h2 h3⟩
 ·obtain ⟨g,o,h1,h2,h3⟩:=h.here u hu;exact ⟨g,o,h1,lt h2,ce h2 h3⟩
 ·obtain ⟨g,o,d,e,dc,h1,h2,h3,h4,h5,h6⟩:=h.user u hu;refine ⟨g,o,d,e,dc,h1,lt h2,ce h2 h3,lt h4,fun r hr=>?_,fun ht=>⟨ce h2 (h6 ht).1,ce h2 (h6 ht).2⟩⟩;obtain ⟨x,h7,h8⟩:=h5 r hr;exact ⟨x,ce h4 h7,h8⟩
 ·obtain ⟨g,o,h1,h2,h3⟩:=h.live u hu ht;exact ⟨g,o,h1,lt h2,ce h2 h3⟩
 ·obtain ⟨g,o,h1,h2,h3⟩:=h.sp r hr;exact ⟨g,o,h1,lt h2,ce h2 h3⟩
theorem Vw.alloc {w:World}{b fb:Nat}{F:Flt}{sp:List Int}{so:Option Addr}{sc:Nat}{uo:Option Addr}{uc:Nat}{ho:Option Addr}{hc:Nat}{lo:Option Addr}{lc:Nat}{po:Option Addr}{pc:Nat}(h:Vw w b fb F sp so sc uo uc ho hc lo lc po pc)(x:Obj):Vw (w.alloc x) b fb F sp so sc uo uc ho hc lo lc po pc:=h.below ((Below.refl _ _).alloc (Nat.le_refl _) x)
theorem Vw.drew {w:World}{b fb:Nat}{F:Flt}{sp:List Int}{so:Option Addr}{sc:Nat}{uo:Option Addr}{uc:Nat}{ho:Option Addr}{hc:Nat}{lo:Option Addr}{lc:Nat}{po:Option Addr}{pc:Nat}(h:Vw w b fb F sp so sc uo uc ho hc lo lc po pc):Vw w.drew b fb F sp so sc uo uc ho hc lo lc po pc:=h.below (Below.refl _ _).drew
def VW (w:World)(b fb:Nat)(F:Flt)(sp:List Int):Prop:=∃ so sc uo uc ho hc lo lc po pc,Vw w b fb F sp so sc uo uc ho hc lo lc po pc
theorem VW.below {w w':World}{b fb:Nat}{F:Flt}{sp:List Int}(h:VW w b fb F sp)(hb:Below w.heap.size w w'):VW w' b fb F sp:=by
 obtain ⟨so,sc,uo,uc,ho,hc,lo,lc,po,pc,h⟩:=h;exact ⟨so,sc,uo,uc,ho,hc,lo,lc,po,pc,h.below hb⟩
theorem VW.alloc {w:World}{b fb:Nat}{F:Flt}{sp:List Int}(h:VW w b fb F sp)(x:Obj):VW (w.alloc x) b fb F sp:=h.below ((Below.refl _ _).alloc (Nat.le_refl _) x)
theorem VW.drew {w:World}{b fb:Nat}{F:Flt}{sp:List Int}(h:VW w b fb F sp):VW w.drew b fb F sp:=h.below (Below.refl _ _).drew
theorem Vw.vw {w:World}{b fb:Nat}{F:Flt}{sp:List Int}{so:Option Addr}{sc:Nat}{uo:Option Addr}{uc:Nat}{ho:Option Addr}{hc:Nat}{lo:Option Addr}{lc:Nat}{po:Option Addr}{pc:Nat}(h:Vw w b fb F sp so sc uo uc ho hc lo lc po pc):VW w b fb F sp:=⟨_,_,_,_,_,_,_,_,_,_,h⟩
theorem jL5 {l:List Int}{r:Nat}{x:Int}(h:l[r]? = some x):lm l r=x:=by unfold lm;rw[List.getD_eq_getElem?_getD,h];rfl
theorem jLv {l:List Int}{r:Nat}(h:r<l.length):l[r]? = some (lm l r):=by rw[List.getElem?_eq_getElem h];unfold lm;rw[List.getD_eq_getElem?_getD,List.getElem?_eq_getElem h];rfl
theorem BkM.vw {base:Nat}{w:World}{b fb:Nat}{S:Bk}{sv uv hv lv pv:Value}{ss:List Value}{ps:List (Value×Usr)}(h:BkM base w b fb S sv uv hv lv pv ss ps){R:Int}{F:Flt}(hf:FL w fb F)(a:Agree S F)(hw:FWf R F):∃ so sc uo uc ho hc lo lc po pc,sv = .slice so F.mg sc∧uv = .slice uo F.ug uc∧hv = .slice ho F.ug hc∧lv = .slice lo F.ug lc∧pv = .slice po F.k pc∧Vw w b fb F S.sp so sc uo uc ho hc lo lc po pc:=by
 obtain ⟨so,sc,e1,_,_,h1⟩:=jBk h.size;obtain ⟨uo,uc,e2,_,_,h2⟩:=jBk h.users.1;obtain ⟨ho,hc,e3,_,_,h3⟩:=jBk h.here;obtain ⟨lo,lc,e4,_,_,h4⟩:=jBk h.live;obtain ⟨po,pc,e5,_,_,h5⟩:=jBk h.sp;rw[h.sl,a.szl] at e1;(have hpl:ps.length=S.us.length:=by rw[← h.us,List.length_map]);rw[hpl,a.usl] at e2;rw[a.hl] at e3;rw[a.ll] at e4;rw[a.spl] at e5;refine ⟨so,sc,uo,uc,ho,hc,lo,lc,po,pc,e1,e2,e3,e4,e5,?_⟩;have hbox:=h.box;unfold bcells at hbox;rw[e1,e2,e3,e4,e5,a.k,a.ck] at hbox;have hk1:=hw.k1;refine ⟨hbox,hf,fun m hm ht=>?_,fun m hm ht=>?_,fun u hu=>?_,fun u hu=>?_,fun u hu ht=>?_,fun r hr=>?_⟩
 ·cases es:S.sz[m]? with
  | none=>rw[List.getElem?_eq_none_iff,a.szl] at es;omega
  | some y=>
   cases y with
   | none=>rw[a.down m es] at ht;cases ht
   | some l=>obtain ⟨_,hl,hms⟩:=a.up m l es;obtain ⟨v,hv1,hv2⟩:=h.sz m l es;obtain ⟨d,e,dc,ev,hd,hc2⟩:=hv2.cells hl hk1;obtain ⟨g,o,h6,h7,h8⟩:=h1 m v hv1;exact ⟨g,o,d,e,dc,h6,h7,by rw[h8,ev],hd,fun r hr=>by rw[hc2 r hr,hms r hr]⟩
 ·cases es:S.sz[m]? with
  | none=>rw[List.getElem?_eq_none_iff,a.szl] at es;omega
  | some y=>
   cases y with
   | some l=>rw[(a.up m l es).1] at ht;cases ht
   | none=>exact h1 m _ (h.sn m es)
 ·exact h3 u _ (by rw[List.getElem?_map,a.here u hu];rfl)
 ·(have hp:u<ps.length:=by rw[hpl,a.usl];exact hu);(have hU:S.us[u]? = some ps[u].2:=by rw[← h.us,List.getElem?_map,List.getElem?_eq_getElem hp];rfl);have hok:=a.uok u _ hU;(have hlen:ps[u].2.dem.length=F.k:=by unfold usrB at hok;simp only[Bool.and_eq_true,decide_eq_true_eq] at hok;exact hok.1.1.1);(have ham:amtsB ps[u].2.dem=true:=by unfold usrB at hok;simp only[Bool.and_eq_true,decide_eq_true_eq] at hok;exact hok.1.2);obtain ⟨d,e,dc,ev,hd,hc2⟩:=(h.users.2 ps[u] (List.getElem_mem hp)).cells hlen hk1;obtain ⟨q0,q1,q2⟩:=jFC ps hp;obtain ⟨g,o,h6,h7,h8⟩:=h2 _ _ q0;obtain ⟨g1,o1,h61,h71,h81⟩:=h2 _ _ q1;obtain ⟨g2,o2,h62,h72,h82⟩:=h2 _ _ q2;rw[h6] at h61 h62;(injection h61 with h61;injection h61 with x1 x2;subst x1;subst x2);(injection h62 with h62;injection h62 with x1 x2;subst x1;subst x2);refine ⟨g,o,d,e,dc,h6,h7,by rw[h8,ev],hd,fun r hr=>?_,fun ht=>?_⟩
  ·have h9:=jFr ham r;unfold amtB at h9;have h9:=of_decide_eq_true h9;refine ⟨_,hc2 r hr,h9.1,h9.2,fun ht=>?_⟩;have:=(a.user u _ hU ht).1;rw[this];exact jL5 (jHc _ hr)
  ·have h9:=a.user u _ hU ht;rw[← h9.2.1,← h9.2.2];exact ⟨by rw[Nat.add_assoc];exact h81,by rw[Nat.add_assoc];exact h82⟩
 ·have h9:=a.live u hu ht;exact h4 u _ (by rw[List.getElem?_map,h9];rfl)
 ·exact h5 r _ (by rw[List.getElem?_map,jLv (by rw[a.spl];exact hr)];rfl)
structure Tel (base:Nat)(w:World)(tb:Nat)(rv wv dv ov uv jv ev rn un:Value)(R W D O U J E RN UN:List Value)(I:List Lst):Prop where
  box:Bx w tb (tcells rv wv dv ov uv jv 0 ev) 51
  low:base≤tb
  ls:Lists base w ([(31,ev,E),(28,rv,R),(28,uv,U),(3,wv,W),(9,dv,D),(3,ov,O),(3,jv,J),(3,rn,RN),(3,un,UN)] ++ I)
  ty:∀ p,p∈I→p.1=3
section
variable {base:Nat} {w w':World} {tb:Nat} {rv wv dv ov uv jv ev rn un v':Value} {R W D O U J E RN UN ys:List Value} {I:List Lst}
theorem Tel.below (h:Tel base w tb rv wv dv ov uv jv ev rn un R W D O U J E RN UN I)(hb:Below w.heap.size w w'):Tel base w' tb rv wv dv ov uv jv ev rn un R W D O U J E RN UN I:=⟨h.box.keep hb,h.low,h.ls.below hb,h.ty⟩
theorem Tel.alloc (h:Tel base w tb rv wv dv ov uv jv ev rn un R W D O U J E RN UN I)(x:Obj):Tel base (w.alloc x) tb rv wv dv ov uv jv ev rn un R W D O U J E RN UN I:=h.below ((Below.refl _ _).alloc (Nat.le_refl _) x)
theorem jDm {L I:List Lst} (hI:∀ p,p∈I→p.1=3) (e:L.map (·.1) = [31,28,28,3,9,3,3,3,3] ++ I.map (·.1)):∀ p,p∈L→p.1≠51:=fun p hp=>by
  have h:p.1∈L.map (·.1):=List.mem_map_of_mem hp
  rw[e] at h
  rcases List.mem_append.1 h with h1 | h1
  · simp only[List.mem_cons,List.not_mem_nil,or_false] at h1
    rcases h1 with e | e | e | e | e | e | e | e | e <;> (rw[e];decide)
  · obtain ⟨q,hq,e⟩:=List.mem_map.1 h1;rw[← e,hI q hq];decide
theorem Tel.at_err (h:Tel base w tb rv wv dv ov uv jv ev rn un R W D O U J E RN UN I):w.ownsRow base 31 1 ev E.length E:=Lists.at ([]) h.ls
theorem Tel.app_err (h:Tel base w tb rv wv dv ov uv jv ev rn un R W D O U J E RN UN I)(g1:w'.ownsRow base 31 1 v' (E.length+ys.length) (E ++ ys))(hg:w.grownBy w' ev.ownBlock)(ha:v'.ownBlock=ev.ownBlock∨v'.ownBlock=some w.heap.size):Tel base (w'.setCell ⟨tb,7,none⟩ v') tb rv wv dv ov uv jv v' rn un R W D O U J (E ++ ys) RN UN I:=by
 have hb:=jAP h.box hg (jAV h.at_err h.box (by decide));have hl:=Lists.appAt ([]) h.ls g1 hg ha;exact ⟨jAE hb 7 v',h.low,hl.boxset hb (jDm h.ty rfl) 7 v',h.ty⟩
theorem Tel.at_run (h:Tel base w tb rv wv dv ov uv jv ev rn un R W D O U J E RN UN I):w.ownsRow base 28 1 rv R.length R:=Lists.at ([(31,ev,E)]) h.ls
theorem Tel.app_run (h:Tel base w tb rv wv dv ov uv jv ev rn un R W D O U J E RN UN I)(g1:w'.ownsRow base 28 1 v' (R.length+ys.length) (R ++ ys))(hg:w.grownBy w' rv.ownBlock)(ha:v'.ownBlock=rv.ownBlock∨v'.ownBlock=some w.heap.size):Tel base (w'.setCell ⟨tb,0,none⟩ v') tb v' wv dv ov uv jv ev rn un (R ++ ys) W D O U J E RN UN I:=by
 have hb:=jAP h.box hg (jAV h.at_run h.box (by decide));have hl:=Lists.appAt ([(31,ev,E)]) h.ls g1 hg ha;exact ⟨jAE hb 0 v',h.low,hl.boxset hb (jDm h.ty rfl) 0 v',h.ty⟩
theorem Tel.at_used (h:Tel base w tb rv wv dv ov uv jv ev rn un R W D O U J E RN UN I):w.ownsRow base 28 1 uv U.length U:=Lists.at ([(31,ev,E),(28,rv,R)]) h.ls
theorem Tel.app_used (h:Tel base w tb rv wv dv ov uv jv ev rn un R W D O U J E RN UN I)(g1:w'.ownsRow base 28 1 v' (U.length+ys.length) (U ++ ys))(hg:w.grownBy w' uv.ownBlock)(ha:v'.ownBlock=uv.ownBlock∨v'.ownBlock=some w.heap.size):Tel base (w'.setCell ⟨tb,4,none⟩ v') tb rv wv dv ov v' jv ev rn un R W D O (U ++ ys) J E RN UN I:=by
 have hb:=jAP h.box hg (jAV h.at_used h.box (by decide));have hl:=Lists.appAt ([(31,ev,E),(28,rv,R)]) h.ls g1 hg ha;exact ⟨jAE hb 4 v',h.low,hl.boxset hb (jDm h.ty rfl) 4 v',h.ty⟩
theorem Tel.at_wait (h:Tel base w tb rv wv dv ov uv jv ev rn un R W D O U J E RN UN I):w.ownsRow base 3 1 wv W.length W:=Lists.at ([(31,ev,E),(28,rv,R),(28,uv,U)]) h.ls
theorem Tel.app_wait (h:Tel base w tb rv wv dv ov uv jv ev rn un R W D O U J E RN UN I)(g1:w'.ownsRow base 3 1 v' (W.length+ys.length) (W ++ ys))(hg:w.grownBy w' wv.ownBlock)(ha:v'.ownBlock=wv.ownBlock∨v'.ownBlock=some w.heap.size):Tel base (w'.setCell ⟨tb,1,none⟩ v') tb rv v' dv ov uv jv ev rn un R (W ++ ys) D O U J E RN UN I:=by
 have hb:=jAP h.box hg (jAV h.at_wait h.box (by decide));have hl:=Lists.appAt ([(31,ev,E),(28,rv,R),(28,uv,U)]) h.ls g1 hg ha;exact ⟨jAE hb 1 v',h.low,hl.boxset hb (jDm h.ty rfl) 1 v',h.ty⟩
theorem Tel.at_due (h:Tel base w tb rv wv dv ov uv jv ev rn un R W D O U J E RN UN I):w.ownsRow base 9 1 dv D.length D:=Lists.at ([(31,ev,E),(28,rv,R),(28,uv,U),(3,wv,W)]) h.ls
theorem Tel.app_due (h:Tel base w tb rv wv dv ov uv jv ev rn un R W D O U J E RN UN I)(g1:w'.ownsRow base 9 1 v' (D.length+ys.length) (D ++ ys))(hg:w.grownBy w' dv.ownBlock)(ha:v'.ownBlock=dv.ownBlock∨v'.ownBlock=some w.heap.size):Tel base (w'.setCell ⟨tb,2,none⟩ v') tb rv wv v' ov uv jv ev rn un R W (D ++ ys) O U J E RN UN I:=by
 have hb:=jAP h.box hg (jAV h.at_due h.box (by decide));have hl:=Lists.appAt ([(31,ev,E),(28,rv,R),(28,uv,U),(3,wv,W)]) h.ls g1 hg ha;exact ⟨jAE hb 2 v',h.low,hl.boxset hb (jDm h.ty rfl) 2 v',h.ty⟩
theorem Tel.at_off (h:Tel base w tb rv wv dv ov uv jv ev rn un R W D O U J E RN UN I):w.ownsRow base 3 1 ov O.length O:=Lists.at ([(31,ev,E),(28,rv,R),(28,uv,U),(3,wv,W),(9,dv,D)]) h.ls
theorem Tel.app_off (h:Tel base w tb rv wv dv ov uv jv ev rn un R W D O U J E RN UN I)(g1:w'.ownsRow base 3 1 v' (O.length+ys.length) (O ++ ys))(hg:w.grownBy w' ov.ownBlock)(ha:v'.ownBlock=ov.ownBlock∨v'.ownBlock=some w.heap.size):Tel base (w'.setCell ⟨tb,3,none⟩ v') tb rv wv dv v' uv jv ev rn un R W D (O ++ ys) U J E RN UN I:=by
 have hb:=jAP h.box hg (jAV h.at_off h.box (by decide));have hl:=Lists.appAt ([(31,ev,E),(28,rv,R),(28,uv,U),(3,wv,W),(9,dv,D)]) h.ls g1 hg ha;exact ⟨jAE hb 3 v',h.low,hl.boxset hb (jDm h.ty rfl) 3 v',h.ty⟩
theorem Tel.at_idle (h:Tel base w tb rv wv dv ov uv jv ev rn un R W D O U J E RN UN I):w.ownsRow base 3 1 jv J.length J:=Lists.at ([(31,ev,E),(28,rv,R),(28,uv,U),(3,wv,W),(9,dv,D),(3,ov,O)]) h.ls
theorem Tel.app_idle (h:Tel base w tb rv wv dv ov uv jv ev rn un R W D O U J E RN UN I)(g1:w'.ownsRow base 3 1 v' (J.length+ys.length) (J ++ ys))(hg:w.grownBy w' jv.ownBlock)(ha:v'.ownBlock=jv.ownBlock∨v'.ownBlock=some w.heap.size):Tel base (w'.setCell ⟨tb,5,none⟩ v') tb rv wv dv ov uv v' ev rn un R W D O U (J ++ ys) E RN UN I:=by
 have hb:=jAP h.box hg (jAV h.at_idle h.box (by decide));have hl:=Lists.appAt ([(31,ev,E),(28,rv,R),(28,uv,U),(3,wv,W),(9,dv,D),(3,ov,O)]) h.ls g1 hg ha;exact ⟨jAE hb 5 v',h.low,hl.boxset hb (jDm h.ty rfl) 5 v',h.ty⟩
theorem Tel.at_rn (h:Tel base w tb rv wv dv ov uv jv ev rn un R W D O U J E RN UN I):w.ownsRow base 3 1 rn RN.length RN:=Lists.at ([(31,ev,E),(28,rv,R),(28,uv,U),(3,wv,W),(9,dv,D),(3,ov,O),(3,jv,J)]) h.ls
theorem Tel.app_rn (h:Tel base w tb rv wv dv ov uv jv ev rn un R W D O U J E RN UN I) (g1:w'.ownsRow base 3 1 v' (RN.length+ys.length) (RN ++ ys)) (hg:w.grownBy w' rn.ownBlock) (ha:v'.ownBlock=rn.ownBlock∨v'.ownBlock=some w.heap.size):Tel base w' tb rv wv dv ov uv jv ev v' un R W D O U J E (RN ++ ys) UN I:=
  ⟨jAP h.box hg (jAV h.at_rn h.box (by decide)),h.low,Lists.appAt ([(31,ev,E),(28,rv,R),(28,uv,U),(3,wv,W),(9,dv,D),(3,ov,O),(3,jv,J)]) h.ls g1 hg ha,h.ty⟩
theorem Tel.at_un (h:Tel base w tb rv wv dv ov uv jv ev rn un R W D O U J E RN UN I):w.ownsRow base 3 1 un UN.length UN:=Lists.at ([(31,ev,E),(28,rv,R),(28,uv,U),(3,wv,W),(9,dv,D),(3,ov,O),(3,jv,J),(3,rn,RN)]) h.ls
theorem Tel.app_un (h:Tel base w tb rv wv dv ov uv jv ev rn un R W D O U J E RN UN I) (g1:w'.ownsRow base 3 1 v' (UN.length+ys.length) (UN ++ ys)) (hg:w.grownBy w' un.ownBlock) (ha:v'.ownBlock=un.ownBlock∨v'.ownBlock=some w.heap.size):Tel base w' tb rv wv dv ov uv jv ev rn v' R W D O U J E RN (UN ++ ys) I:=
  ⟨jAP h.box hg (jAV h.at_un h.box (by decide)),h.low,Lists.appAt ([(31,ev,E),(28,rv,R),(28,uv,U),(3,wv,W),(9,dv,D),(3,ov,O),(3,jv,J),(3,rn,RN)]) h.ls g1 hg ha,h.ty⟩
theorem Tel.next (h:Tel base w tb rv wv dv ov uv jv ev rn un R W D O U J E RN UN I):Tel base w tb rv wv dv ov uv jv ev (.slice none 0 0) (.slice none 0 0) R W D O U J E [] [] (I ++ [(3,rn,RN),(3,un,UN)]):=by
 refine ⟨h.box,h.low,?_,fun p hp=>?_⟩
 ·have h1:Lists base w ([(31,ev,E),(28,rv,R),(28,uv,U),(3,wv,W),(9,dv,D),(3,ov,O),(3,jv,J)] ++ ([(3,rn,RN),(3,un,UN)] ++ I)):=h.ls;have h2:=h1.perm (List.Perm.append_left [(31,ev,E),(28,rv,R),(28,uv,U),(3,wv,W),(9,dv,D),(3,ov,O),(3,jv,J)] List.perm_append_comm);have h3:=((h2.cons 3).perm (List.perm_middle (l₁:=[(31,ev,E),(28,rv,R),(28,uv,U),(3,wv,W),(9,dv,D),(3,ov,O),(3,jv,J)])).symm);have h4:=((h3.cons 3).perm (List.perm_middle (l₁:=[(31,ev,E),(28,rv,R),(28,uv,U),(3,wv,W),(9,dv,D),(3,ov,O),(3,jv,J)])).symm);exact h4
 ·rcases List.mem_append.1 hp with h1 | h1
  ·exact h.ty p h1
  ·simp only[List.mem_cons,List.not_mem_nil,or_false] at h1;rcases h1 with e | e <;> (rw[e])
structure InR (I:List Lst)(rs us:List Value)(F:Flt)(k:Nat):Prop where
  rl:rs.length=k
  ul:us.length=k
  r:∀ (u:Nat) (v:Value),rs[u]? = some v→(3,v,iv (runL F u 9))∈I
  u:∀ (u:Nat) (v:Value),us[u]? = some v→(3,v,iv (usedL F u 5))∈I
theorem InR.nil (F:Flt):InR [] [] [] F 0:=⟨rfl,rfl,fun u v h=>by (simp at h),fun u v h=>by (simp at h)⟩
theorem InR.next {F:Flt} {k:Nat} {rs us:List Value} (h:InR I rs us F k):InR (I ++ [(3,rn,iv (runL F k 9)),(3,un,iv (usedL F k 5))]) (rs ++ [rn]) (us ++ [un]) F (k+1):=
  ⟨by rw[List.length_append,h.rl];rfl,by rw[List.length_append,h.ul];rfl,fun u v e=>by
    rcases jCQ e with ⟨h1,h2⟩ | ⟨h1,h2⟩
    · rw[h.rl] at h1;subst h1;subst h2;simp
    · exact List.mem_append_left _ (h.r u v h2),fun u v e=>by
    rcases jCQ e with ⟨h1,h2⟩ | ⟨h1,h2⟩
    · rw[h.ul] at h1;subst h1;subst h2;simp
    · exact List.mem_append_left _ (h.u u v h2)⟩
theorem jBz (l:List Int):(iv l).length=l.length:=List.length_map _
theorem jDw (F:Flt):∀ u,(errL F u).length=17*u:=by
 intro u
 induction u with
 | zero=>rfl
 | succ u ih=>show (errL F u ++ reL F u 9 ++ ueL F u 5 ++ [_,_,_]).length=_;rw[List.length_append,List.length_append,List.length_append,ih];unfold reL ueL;rw[jAJ,jAJ];simp only[List.length_cons,List.length_nil];omega
theorem Tel.told {F:Flt}{el:List Int}(hel:el=errL F 7 ++ ieL F 5)(h:Tel base w tb rv wv dv ov uv jv ev rn un R (iv (waitL F 7)) (sv' (dueL F 7)) (iv (offL F 7)) U (iv (idleL F 5)) (iv el) RN UN I)(hR:InR I R U F 7):Told base (w.setCell ⟨tb,6,none⟩ (.int .i64 F.ck)) tb F:=by
 have hl:=h.ls.boxset h.box (jDm h.ty rfl) 6 (.int .i64 F.ck);have hb:=jAE h.box 6 (.int .i64 F.ck);have k:∀ p,p∈[(31,ev,iv el),(28,rv,R),(28,uv,U),(3,wv,iv (waitL F 7)),(9,dv,sv' (dueL F 7)),(3,ov,iv (offL F 7)),(3,jv,iv (idleL F 5)),(3,rn,RN),(3,un,UN)] ++ I→_:=hl.own;have h1:=k (31,ev,iv el) (by simp);have h2:=k (28,rv,R) (by simp);have h3:=k (28,uv,U) (by simp);have h4:=k (3,wv,iv (waitL F 7)) (by simp);have h5:=k (9,dv,sv' (dueL F 7)) (by simp);have h6:=k (3,ov,iv (offL F 7)) (by simp);have h7:=k (3,jv,iv (idleL F 5)) (by simp);(have li:∀ (v:Value) (l:List Int),World.ownsRow (w.setCell ⟨tb,6,none⟩ (.int .i64 F.ck)) base 3 1 v (iv l).length (iv l)→Li base (w.setCell ⟨tb,6,none⟩ (.int .i64 F.ck)) v l:=fun v l h=>by rw[jBz] at h;exact h);(have le:∀ (v:Value) (l:List Int),World.ownsRow (w.setCell ⟨tb,6,none⟩ (.int .i64 F.ck)) base 31 1 v (iv l).length (iv l)→World.ownsRow (w.setCell ⟨tb,6,none⟩ (.int .i64 F.ck)) base 31 1 v l.length (iv l):=fun v l h=>by rw[jBz] at h;exact h);refine ⟨rv,wv,dv,ov,uv,jv,ev,R,U,el,⟨hel,hb,h.low,?_,li _ _ h4,?_,li _ _ h6,?_,li _ _ h7,?_,fun u v e=>li _ _ (k _ (List.mem_append_right _ (hR.r u v e))),fun u v e=>li _ _ (k _ (List.mem_append_right _ (hR.u u v e)))⟩⟩
 ·have:=h2;rw[hR.rl] at this;exact this
 ·(have e:(sv' (dueL F 7)).length=7:=by unfold dueL;rw[List.length_map,jAJ]);rw[e] at h5;exact h5
 ·have:=h3;rw[hR.ul] at this;exact this
 ·exact le _ _ h1
theorem Tel.new (w:World):Tel w.heap.size (w.alloc (.cells (tcells (.slice none 0 0) (.slice none 0 0) (.slice none 0 0) (.slice none 0 0) (.slice none 0 0) (.slice none 0 0) 0 (.slice none 0 0)) 51)) w.heap.size (.slice none 0 0) (.slice none 0 0) (.slice none 0 0) (.slice none 0 0) (.slice none 0 0) (.slice none 0 0) (.slice none 0 0) (.slice none 0 0) (.slice none 0 0) [] [] [] [] [] [] [] [] [] []:=
  ⟨jAC w _ _,Nat.le_refl _,(Lists.cons (Lists.cons (Lists.cons (Lists.cons (Lists.cons (Lists.cons (Lists.cons (Lists.cons (Lists.cons (Lists.nil _ _) 3) 3) 3) 3) 9) 3) 28) 28) 31),fun p hp=>by (cases hp)⟩
theorem jC8 (c:Bool)(x:Int):getV c (.int .i64 x) (.int .i64 0) = .tuple #[.int .i64 (if c then x else 0),.int .i64 (ern c)]:=by cases c <;> rfl
theorem jKK (c:Bool)(x:ByteArray):getV c (.string x) (.string ⟨#[]⟩) = .tuple #[.string (if c then x else ⟨#[]⟩),.int .i64 (ern c)]:=by cases c <;> rfl
end
end Go.Proofs.YtigokanoflkinabGreatDoor
