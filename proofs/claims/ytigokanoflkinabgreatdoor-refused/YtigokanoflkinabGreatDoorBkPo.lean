/- portionkeep: pool. (Laid by mkbkpo.py.) -/
import Derived.Test.YtigokanoflkinabGreatDoorBkCo
set_option maxHeartbeats 8000000
set_option maxRecDepth 20000
namespace Go.Proofs.YtigokanoflkinabGreatDoor
set_option linter.unusedSimpArgs false
set_option linter.unusedVariables false
open Go.RowKit Por
theorem jLH (F:Flt)(k:Nat):zj (zB F 0) k=List.replicate k 0:=by
 unfold zj;rw[List.eq_replicate_iff];refine ⟨by simp,fun x hx=>?_⟩;obtain ⟨r,_,rfl⟩:=List.mem_map.1 hx;rfl
theorem jJc (f:Nat->Int)(k r:Nat)(x:Int):(zj f k).set r x=zj (fun j=>if j=r then x else f j) k:=by
 apply List.ext_getElem?;intro i;rw[List.getElem?_set,jAS];by_cases a:i<k
 ·rw[jCe _ a,jCe _ a];by_cases e:r=i
  ·subst e;rw[if_pos rfl,if_pos a,if_pos rfl]
  ·rw[if_neg e,if_neg (fun h=>e h.symm)]
 ·rw[List.getElem?_eq_none (by rw[jAS];omega),List.getElem?_eq_none (by rw[jAS];omega)];split
  ·rw[if_neg (by omega)]
  ·rfl
theorem jAn {f g:Nat->Int}{k:Nat}(h:∀ r,r<k->f r=g r):zj f k=zj g k:=by
 unfold zj;exact List.map_congr_left (fun r hr=>h r (List.mem_range.1 hr))
def xS (F:Flt)(m r j:Nat):Int:=if j<r then zB F (m+1) j else zB F m j
theorem jMu {R:Int} {F:Flt} (h:FWf R F) {r:Nat} (hr:r<4):zB F F.mg r=zB F 8 r:=(jCq h.mg (fun i h1 h2=>by
  have:F.mt i=false:=by
    cases e:F.mt i with
    | false=>rfl
    | true=>have:=h.mt i h2 e;omega
  exact h.msz i h2 this r hr)).symm
theorem jLN {R:Int}{F:Flt}(h:FWf R F){m r:Nat}(hm:m<8)(hr:r<4)(ht:F.mt m=false):zB F (m+1) r=zB F m r:=by
 show Por.sumI (fun m=>F.ms m r) m+F.ms m r=_;rw[h.msz m hm ht r hr,Int.add_zero];rfl
theorem jGW (b fb:Nat)(R:Int)(F:Flt)(sp:List Int)(w:World)(hv:VW w b fb F sp)(hw:FWf R F):Calls Tryz.prog 53 #[.pointer (some ⟨b,0,none⟩)] w fun e w'=>∃ v,e = .returned v/\Li w.heap.size w' v (zj (zB F 8) F.k)/\Below w.heap.size w w':=by
 obtain ⟨so,sc,uo,uc,ho,hc,lo,lc,po,pc,hv⟩:=hv;have lb:=hv.box.lt;have G:=hid hv;have t:=hid hw;clear hv hw;have u:Hid (F.k<=4):=t.out.k4;have J:Hid (F.mg<=8):=t.out.mg;go_enter Tryz.func53,Tryz.ntmps53;have c1:=G.out.box.cell 1 _ rfl;have ae:=u.out;go_wp2_with (at_make;refine jBw _ rfl _ _ rfl _ _ F.k rfl rfl rfl rfl (by omega) ?_);intro w1 B C;(have o:Hid (Li w.heap.size w1 (.slice (some ⟨w.heap.size,0,none⟩) F.k F.k) (zj (zB F 0) F.k)):=by have I:Li w.heap.size w1 (.slice (some ⟨w.heap.size,0,none⟩) (List.replicate F.k (0:Int)).length (List.replicate F.k (0:Int)).length) (List.replicate F.k 0):=B.li (Nat.le_refl _) (by simp;unfold maxLen;omega);rw[List.length_replicate] at I;unfold Hid;rw[jLH];exact I);have x:=hid C;clear B C c1;obtain ⟨g,n⟩:∃ g:Nat,Hid (g=w.heap.size):=⟨_,rfl⟩;obtain ⟨z,K⟩:∃ z:Nat,Hid (z=0):=⟨_,rfl⟩;have HG:Hid (w.heap.size<=g):=Nat.le_of_eq n.out.symm;(have E:Value.slice (some ⟨w.heap.size,0,none⟩) F.k F.k=Value.slice (some ⟨g,z,none⟩) F.k F.k:=by rw[n.out,K.out]);rw[E] at o ⊢;clear E n;go_wp2
 go_loopg[4] F.mg (fun gg ix wr=>∃ (m:Nat),gg=F.mg - m/\m<=F.mg/\ix = .int .i64 m/\Hid (Li w.heap.size wr (.slice (some ⟨g,z,none⟩) F.k F.k) (zj (zB F m) F.k))/\Hid (Below w.heap.size w wr))
 case atStart=>exact ⟨0,rfl,Nat.zero_le _,rfl,o.out,x.out⟩
 case round=>
  clear o x;obtain ⟨m,ad,hm,rfl,h,f⟩:=hrel;have af:=J.out;have a:=hid (G.out.below f.out);have l:=a.out.box.lt;have A:=a.out.box.cell 2 _ rfl;by_cases D:m<F.mg
  ·have U:(m:Int)<(F.mg:Int):=by omega
   cases s:F.mt m with
   | false=>
    go_wp2;clear A l a
    go_loopg[5] 0 (fun gg ix wq=>∃ r:Nat,gg=0 - r/\r<=0/\ix = .int .i64 r/\Hid (Li w.heap.size wq (.slice (some ⟨g,z,none⟩) F.k F.k) (zj (xS F m r) F.k))/\Hid (Below w.heap.size w wq))
    (case atStart=>exact ⟨0,rfl,Nat.zero_le _,rfl,(by rw[show zj (xS F m 0) F.k=zj (zB F m) F.k from jAn (fun r _=>if_neg (Nat.not_lt_zero r))];exact h.out),f.out⟩);case round=>clear h f;obtain ⟨r,T,hr,rfl,h,f⟩:=hrel;have a:=hid (G.out.below f.out);have l:=a.out.box.lt;have A:=a.out.box.cell 2 _ rfl;obtain ⟨g3,o3,rfl,S,W⟩:=a.out.down m D s;(obtain rfl:r=0:=by omega);(have c:Hid (Li w.heap.size wr (.slice (some ⟨g,z,none⟩) F.k F.k) (zj (zB F (m+1)) F.k)):=by unfold Hid;rw[show zj (zB F (m+1)) F.k=zj (xS F m 0) F.k from jAn (fun j hj=>by unfold xS;rw[if_neg (Nat.not_lt_zero j)];exact jLN t.out (by omega) (by omega) s)];exact h.out);go_wp2;go_roundg (F.mg - (m+1));(case measure=>omega);case rel=>exact ⟨m+1,rfl,by omega,by go_num,c.out,f.out⟩
   | true=>
    go_wp2;clear A l a
    go_loopg[5] F.k (fun gg ix wq=>∃ r:Nat,gg=F.k - r/\r<=F.k/\ix = .int .i64 r/\Hid (Li w.heap.size wq (.slice (some ⟨g,z,none⟩) F.k F.k) (zj (xS F m r) F.k))/\Hid (Below w.heap.size w wq))
    case atStart=>exact ⟨0,rfl,Nat.zero_le _,rfl,(by rw[show zj (xS F m 0) F.k=zj (zB F m) F.k from jAn (fun r _=>if_neg (Nat.not_lt_zero r))];exact h.out),f.out⟩
    case round=>
     clear h f;obtain ⟨r,T,hr,rfl,h,f⟩:=hrel;have a:=hid (G.out.below f.out);have l:=a.out.box.lt;have A:=a.out.box.cell 2 _ rfl;obtain ⟨g3,o3,d3,e3,aa,rfl,S,W,ab,X⟩:=a.out.up m D s;by_cases d:r<F.k
     ·(have V:(r:Int)<(F.k:Int):=by omega);have c7:=X r d;clear X;have p1:=jDg t.out.sm (show m<=8 by omega) (show r<4 by omega);have p2:=t.out.ms m (by omega) r (by omega);obtain ⟨g9,Y,e9,Q,lg,H,fp⟩:=jBJ h.out (i:=r) (by rw[Nat.mul_one,jAS];exact d);obtain ⟨q,M,N⟩:=jAQ e9;(injection q with q);(injection q with O P);subst O;rw[<- K.out] at H fp;rw[List.getElem?_map,jCe _ d] at H;(have L:wr.cell? ⟨g,z+r,none⟩=some (.int .i64 (zB F m r)):=by rw[H];show some (Value.int .i64 (xS F m r r))=_;unfold xS;rw[if_neg (Nat.lt_irrefl r)]);clear H e9 Q M N P;(go_upto_region 8 with fail);go_region;clear L fp W c7 A;(have c:Hid (Li w.heap.size (wr.setCell ⟨g,z+r,none⟩ (.int .i64 (zB F m r+F.ms m r))) (.slice (some ⟨g,z,none⟩) F.k F.k) (zj (xS F m (r+1)) F.k)):=by have I:=K.out;subst I;have h8:=h.out.put (i:=r) (by rw[jAS];exact d) (by rw[jAS]) (zB F m r+F.ms m r);rw[jJc] at h8;unfold Hid;rw[Nat.zero_add,show zj (xS F m (r+1)) F.k=zj (fun j=>if j=r then (zB F m r+F.ms m r) else xS F m r j) F.k from jAn (fun j _=>by unfold xS;by_cases e:j=r;(subst e;rw[if_pos (Nat.lt_succ_self _),if_pos rfl];rfl);(rw[if_neg e];by_cases Z:j<r;(rw[if_pos Z,if_pos (by omega)]);(rw[if_neg Z,if_neg (by omega)])))];exact h8);have y:Hid (Below w.heap.size w (wr.setCell ⟨g,z+r,none⟩ (.int .i64 (zB F m r+F.ms m r)))):=f.out.setCell (p:=⟨g,z+r,none⟩) HG.out _;go_wp2;go_roundg (F.k - (r+1));(case measure=>omega);case rel=>exact ⟨r+1,rfl,by omega,by go_num,by first | exact c.out | exact c.out.below brf.drew,by first | exact y.out | exact y.out.drew⟩
     ·(obtain rfl:r=F.k:=by omega);(have V:¬ (F.k:Int)<(F.k:Int):=by omega);(have c:Hid (Li w.heap.size wr (.slice (some ⟨g,z,none⟩) F.k F.k) (zj (zB F (m+1)) F.k)):=by unfold Hid;rw[show zj (zB F (m+1)) F.k=zj (xS F m F.k) F.k from jAn (fun j hj=>(if_pos hj).symm)];exact h.out);go_wp2;go_roundg (F.mg - (m+1));(case measure=>omega);case rel=>exact ⟨m+1,rfl,by omega,by go_num,c.out,f.out⟩
  ·(obtain rfl:m=F.mg:=by omega);(have U:¬ (F.mg:Int)<(F.mg:Int):=by omega);(have c:Hid (Li w.heap.size wr (.slice (some ⟨g,z,none⟩) F.k F.k) (zj (zB F 8) F.k)):=by unfold Hid;rw[show zj (zB F 8) F.k=zj (zB F F.mg) F.k from jAn (fun r hr=>(jMu t.out (by have:=u.out;omega)).symm)];exact h.out);go_wp2;go_ret;exact ⟨(.slice (some ⟨g,z,none⟩) F.k F.k),rfl,c.out,f.out⟩
end Go.Proofs.YtigokanoflkinabGreatDoor
