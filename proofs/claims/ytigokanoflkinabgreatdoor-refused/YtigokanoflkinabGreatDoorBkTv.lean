/- What a fleet told, as it is read. -/
import Derived.Test.YtigokanoflkinabGreatDoorBkTV
namespace Go.Proofs.YtigokanoflkinabGreatDoor
set_option linter.unusedSimpArgs false
set_option linter.unusedVariables false
open Go.RowKit Por
def CellsF (w:World)(ao:Option Addr)(n:Nat)(f:Nat->Value):Prop:=∀ i,i<n->∃ g o,ao=some ⟨g,o,none⟩/\g<w.heap.size/\w.cell? ⟨g,o+i,none⟩=some (f i)
def RowsF (w:World)(ao:Option Addr)(n k:Nat)(f:Nat->Nat->Int):Prop:=∀ u,u<n->∃ g o d e c,ao=some ⟨g,o,none⟩/\g<w.heap.size/\w.cell? ⟨g,o+u,none⟩=some (.slice (some ⟨d,e,none⟩) k c)/\d<w.heap.size/\∀ m,m<k->w.cell? ⟨d,e+m,none⟩=some (.int .i64 (f u m))
theorem CellsF.below {w w':World} {ao:Option Addr} {n:Nat} {f:Nat->Value} (h:CellsF w ao n f) (hb:Below w.heap.size w w'):CellsF w' ao n f:=fun i hi=>by
  obtain ⟨g,o,h1,h2,h3⟩:=h i hi
  exact ⟨g,o,h1,Nat.lt_of_lt_of_le h2 hb.size,(hb.cell (p:=⟨g,_,none⟩) h2).trans h3⟩
theorem RowsF.below {w w':World} {ao:Option Addr} {n k:Nat} {f:Nat->Nat->Int} (h:RowsF w ao n k f) (hb:Below w.heap.size w w'):RowsF w' ao n k f:=fun u hu=>by
  obtain ⟨g,o,d,e,c,h1,h2,h3,h4,h5⟩:=h u hu
  exact ⟨g,o,d,e,c,h1,Nat.lt_of_lt_of_le h2 hb.size,(hb.cell (p:=⟨g,_,none⟩) h2).trans h3,Nat.lt_of_lt_of_le h4 hb.size,fun m hm=>(hb.cell (p:=⟨d,_,none⟩) h4).trans (h5 m hm)⟩
structure Tv (w:World)(sb:Nat)(F:Flt)(ro:Option Addr)(rc:Nat)(wo:Option Addr)(wc:Nat)(so:Option Addr)(sc:Nat)(oo:Option Addr)(oc:Nat)(uo:Option Addr)(uc:Nat)(jo:Option Addr)(jc:Nat)(eo:Option Addr)(en ec:Nat)(el:List Int):Prop where
  box:Bx w sb #[.slice ro 7 rc,.slice wo 7 wc,.slice so 7 sc,.slice oo 7 oc,.slice uo 7 uc,.slice jo 5 jc,.int .i64 F.ck,.slice eo en ec] 51
  run:RowsF w ro 7 9 (fun u m=>yL F u m)
  wait:CellsF w wo 7 (fun u=>.int .i64 (ym F u))
  due:CellsF w so 7 (fun u=>.string (dueV F u))
  off:CellsF w oo 7 (fun u=>.int .i64 (yW F u))
  used:RowsF w uo 7 5 (fun u r=>yK F u r)
  idle:CellsF w jo 5 (fun r=>.int .i64 (yq F r))
  elq:el=yi F 7 ++ ieL F 5
  enq:en=el.length
  errs:CellsF w eo en (fun i=>.int .i64 (lm el i))
def TV (w:World)(sb:Nat)(F:Flt):Prop:=∃ ro rc wo wc so sc oo oc uo uc jo jc eo en ec el,Tv w sb F ro rc wo wc so sc oo oc uo uc jo jc eo en ec el
theorem Tv.below {w w':World} {sb:Nat} {F:Flt} {ro:Option Addr} {rc:Nat} {wo:Option Addr} {wc:Nat} {so:Option Addr} {sc:Nat} {oo:Option Addr} {oc:Nat} {uo:Option Addr} {uc:Nat} {jo:Option Addr} {jc:Nat} {eo:Option Addr} {en ec:Nat} {el:List Int} (h:Tv w sb F ro rc wo wc so sc oo oc uo uc jo jc eo en ec el) (hb:Below w.heap.size w w'):Tv w' sb F ro rc wo wc so sc oo oc uo uc jo jc eo en ec el:=
  ⟨h.box.keep hb,h.run.below hb,h.wait.below hb,h.due.below hb,h.off.below hb,h.used.below hb,h.idle.below hb,h.elq,h.enq,h.errs.below hb⟩
theorem TV.below {w w':World}{sb:Nat}{F:Flt}(h:TV w sb F)(hb:Below w.heap.size w w'):TV w' sb F:=by
 obtain ⟨k,j,q,p,m,l,i,g,o,n,f,e,d,c,a,b,h⟩:=h;exact ⟨k,j,q,p,m,l,i,g,o,n,f,e,d,c,a,b,h.below hb⟩
theorem jKY {base T n:Nat}{w:World}{v:Value}{xs:List Value}{f:Nat->Value}(h:w.ownsRow base T 1 v n xs)(hf:∀ i,i<n->xs[i]? = some (f i)):∃ so sc,v = .slice so n sc/\CellsF w so n f:=by
 obtain ⟨so,sc,b,_,_,a⟩:=jBB h;exact ⟨so,sc,b,fun i hi=>a i _ (hf i hi)⟩
theorem Told.tv {base:Nat}{w:World}{sb:Nat}{F:Flt}(h:Told base w sb F):TV w sb F:=by
 obtain ⟨rv,wv,dv,ov,uv,Z,Y,rs,us,z,h⟩:=h;(have a:∀ (g:Nat->Int) (n:Nat) {v:Value},Li base w v ((List.range n).map g)->∃ b c,v = .slice b n c/\CellsF w b n (fun u=>.int .i64 (g u)):=fun g n v l=>by (have C:w.ownsRow base 3 1 v n (((List.range n).map g).map (Value.int .i64)):=by have:=l;unfold Li at this;rw[jAI] at this;exact this);exact jKY C (fun i a=>by rw[List.getElem?_map,jCt g a];rfl));(have D:∀ (f:Nat->Nat->Int) (k:Nat) {v:Value} {xs:List Value},1<=k->w.ownsRow base 28 1 v 7 xs->RowsL base w xs (fun u=>(List.range k).map (f u))->∃ b c,v = .slice b 7 c/\RowsF w b 7 k f:=fun f k v xs hk j A=>by obtain ⟨b,c,N,_,_,B⟩:=jBB j;refine ⟨b,c,N,fun u hu=>?_⟩;(have l:u<xs.length:=by have:=j.1;omega);obtain ⟨g,o,p,q,s⟩:=B u _ (List.getElem?_eq_getElem l);obtain ⟨d,e,E,t,x,y⟩:=(A u _ (List.getElem?_eq_getElem l)).cells (jAI _ _) hk;exact ⟨g,o,d,e,E,p,q,by rw[s,t],x,fun m hm=>by rw[y m hm,jHD (jCt _ hm)]⟩);obtain ⟨T,S,p,j⟩:=D (fun u m=>yL F u m) 9 (by omega) h.run h.rrow;obtain ⟨V,U,q,A⟩:=D (fun u r=>yK F u r) 5 (by omega) h.used h.urow;obtain ⟨X,W,s,B⟩:=a (fun u=>ym F u) 7 h.wait;obtain ⟨R,Q,t,J⟩:=a (fun u=>yW F u) 7 h.off;obtain ⟨P,O,x,K⟩:=a (fun u=>yq F u) 5 h.idle;obtain ⟨b,c,y,L⟩:=jKY (f:=fun u=>.string (dueV F u)) h.due (fun i a=>by show ((xB F 7).map Value.string)[i]? = _;unfold xB;rw[List.getElem?_map,jCt _ a];rfl);obtain ⟨I,H,G,M⟩:=jKY (f:=fun i=>.int .i64 (lm z i)) h.errs (fun i a=>by show (z.map (Value.int .i64))[i]? = _;rw[List.getElem?_map,jLb a];rfl);subst p;subst q;subst s;subst t;subst x;subst y;subst G;exact ⟨T,S,X,W,b,c,R,Q,V,U,P,O,I,_,H,z,⟨h.box,j,B,L,J,A,K,h.elq,rfl,M⟩⟩
end Go.Proofs.YtigokanoflkinabGreatDoor
