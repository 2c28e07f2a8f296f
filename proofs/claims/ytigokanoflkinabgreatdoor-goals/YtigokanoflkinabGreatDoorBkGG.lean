/- BkG, BkGo, joined. -/
import Derived.Test.YtigokanoflkinabGreatDoorBkWX
set_option maxHeartbeats 2000000
set_option maxRecDepth 20000
namespace Go.Proofs.YtigokanoflkinabGreatDoor
set_option linter.unusedSimpArgs false
set_option linter.unusedVariables false
open Go.RowKit Por
theorem jMk {R:Int}{F:Flt}(h:FWf R F){r:Nat}(hr:r<F.k):zZ (fun i=>(yl (zj (zB F 8) F.k) (xE F)).ts i*((lm (ug (xE F) i).dem r:Int):Rat)) (xE F).length<=((zB F 8 r:Int):Rat):=by
 obtain ⟨d,f,b,c,g,j⟩:=jCB h.err;have a:=(jEi b c).1.pool r (by show r<(zj (zB F 8) F.k).length;rw[jAS];exact hr);(have e:(xP (zj (zB F 8) F.k) (xE F)).P r=((zB F 8 r:Int):Rat):=by show ((lm (zj (zB F 8) F.k) r:Int):Rat)=_;unfold lm;rw[List.getD_eq_getElem?_getD,jCe _ hr];rfl);rw[e] at a;exact a
theorem jNC (q:Rat):((flZ q:Int):Rat)<=q:=by
 rw[Rat.le_iff,Rat.num_intCast,Rat.den_intCast];unfold flZ;(have a:(q.den:Int)≠0:=by have:=q.den_nz;omega);have:=Int.ediv_mul_le q.num a;omega
theorem jMG (t:Nat->Bool)(g:Nat->Rat):∀ n,zZ g (zS t n)=zZ (fun u=>if t u then g (zS t u) else 0) n:=by
 intro n
 induction n with
 | zero=>rfl
 | succ n ih=>
  show zZ g (zS t n+if t n then 1 else 0)=zZ (fun u=>if t u then g (zS t u) else 0) n+(if t n then g (zS t n) else 0);rw[<- ih]
  cases t n with
  | true=>rfl
  | false=>show zZ g (zS t n)=zZ g (zS t n)+0;rw[Rat.add_zero]
theorem jJ0 (f:Nat->Int):∀ n,zZ (fun i=>((f i:Int):Rat)) n=((Por.sumI f n:Int):Rat):=by
 intro n
 induction n with
 | zero=>rfl
 | succ n ih=>show zZ (fun i=>((f i:Int):Rat)) n+((f n:Int):Rat)=((Por.sumI f n+f n:Int):Rat);rw[ih,Rat.intCast_add]
theorem jH8 {R:Int}{F:Flt}(h:FWf R F){r:Nat}(hr:r<F.k):Por.sumI (fun u=>F.ud u r*zG F (zB F 8) u) 6<=zB F 8 r:=by
 have b:=jMk h hr;rw[jCw,jMG] at b
 have c:zZ (fun u=>((F.ud u r*zG F (zB F 8) u:Int):Rat)) 6<=((zB F 8 r:Int):Rat):=by
  refine Rat.le_trans (jE0 (fun u hu=>?_)) b;have d:=(h.ud u hu r (by have:=h.k4;omega)).1
  cases a:F.ut u with
  | false=>unfold zG;rw[if_neg (fun e=>by rw[a] at e;cases e.2),Int.mul_zero];simp
  | true=>unfold zG;rw[if_pos ⟨hu,a⟩,if_pos rfl,jJK hu a,Rat.intCast_mul];(have e:lm (yj F u).dem r=F.ud u r:=by show lm (zj (F.ud u) F.k) r=_;unfold lm;rw[List.getD_eq_getElem?_getD,jCe _ hr];rfl);rw[e];have f:=jNC (zr F (zB F 8) u);have g:(0:Rat)<=((F.ud u r:Int):Rat):=Rat.intCast_nonneg.2 d;have i:=Rat.mul_le_mul_of_nonneg_right f g;rw[Rat.mul_comm];exact i
 rw[jJ0] at c;exact Rat.intCast_le_intCast.1 c
noncomputable def xV (F:Flt)(u m j:Nat):Int:=if j=u then 0 else max 0 (min (F.m.on j m) (runs F.m j - zG F (zB F 8) j))
noncomputable def helpR (F:Flt)(u m r:Nat):Int:=F.ms m r - Por.sumI (fun v=>F.ud v r*F.m.on v m) 6+Por.sumI (fun j=>xV F u m j*F.ud j r) 6
theorem jHx {R:Int}{F:Flt}(h:FWf R F)(hq:Rest F){u:Nat}(hu:u<6)(ht:F.ut u=true)(hlt:runs F.m u<zG F (zB F 8) u){m:Nat}(hm:m<8)(hmt:F.mt m=true):∃ r,r<F.k/\helpR F u m r<F.ud u r:=by
 obtain ⟨x,d,r,b,a⟩:=jIO h.finv hm (hq.goal u hu ht hlt m hm hmt);have e:Por.sumI (fun j=>x j*(cF F).ud j r) 6=Por.sumI (fun j=>xV F u m j*F.ud j r) 6:=jAp (fun j hj=>by rw[d j hj];rfl);rw[e] at a;have a:helpR F u m r<F.ud u r:=a;refine ⟨r,?_,a⟩;by_cases c:r<F.k
 ·exact c
 ·exfalso;have f:=h.room m hm r b;have g:0<=Por.sumI (fun j=>xV F u m j*F.ud j r) 6:=jAK (fun j hj=>Int.mul_nonneg (by unfold xV;split <;> omega) (h.ud j hj r b).1);rw[h.udk u hu r b (by omega)] at a;unfold helpR at a;omega
theorem jJT {R:Int}{F:Flt}(h:FWf R F)(hq:Rest F){u:Nat}(hu:u<6)(ht:F.ut u=true)(hlt:runs F.m u<zG F (zB F 8) u){m:Nat}(hm:m<8)(hmt:F.mt m=true):zN (helpR F u m) (F.ud u) F.k=false:=by
 obtain ⟨r,a,b⟩:=jHx h hq hu ht hlt hm hmt
 cases e:zN (helpR F u m) (F.ud u) F.k with
 | false=>rfl
 | true=>have:=jAz.1 e r a;omega
theorem jLS {F:Flt}{m:Nat}(hm:m<8)(r:Nat)(h0:∀ i,i<8->i≠m->F.ms i r=0):zB F 8 r=F.ms m r:=by
 have:=jA2 (f:=fun i=>F.ms i r) (g:=fun _=>0) hm (fun i hi hne=>h0 i hi hne);have a:Por.sumI (fun _:Nat=>(0:Int)) 8=0:=jAY (fun _ _=>rfl);show Por.sumI (fun i=>F.ms i r) 8=_;rw[this,a];omega
theorem jNJ {R:Int}{F:Flt}(h:FWf R F)(hq:Rest F){u:Nat}(hu:u<6)(ht:F.ut u=true)(hlt:runs F.m u<zG F (zB F 8) u):∃ i j,i<j/\j<8/\F.mt i=true/\F.mt j=true:=by
  have E:=h.runs0 hu;(have p:∀ v,v<6->0<=zG F (zB F 8) v:=fun v hv=>(h.goal hv).1);by_cases A:∃ m,m<8/\F.mt m=true
  · obtain ⟨m,s,l⟩:=A;by_cases t:∃ i,i<8/\i≠m/\F.mt i=true
    · obtain ⟨i,b,a,q⟩:=t;by_cases D:i<m
      · exact ⟨i,m,D,s,q,l⟩
      · exact ⟨m,i,by omega,b,l,q⟩
    · exfalso
      have c:∀ i,i<8->i≠m->F.mt i=false:=fun i b a=>by
        cases e:F.mt i with
        | false=>rfl
        | true=>exact absurd ⟨i,b,a,e⟩ t
      (have k:∀ v,v<6->runs F.m v=F.m.on v m:=fun v hv=>by have:=jA2 (f:=F.m.on v) (g:=fun _=>0) s (fun i b a=>h.gone i b (c i b a) v hv);have o:Por.sumI (fun _:Nat=>(0:Int)) 8=0:=jAY (fun _ _=>rfl);show Por.sumI (F.m.on v) 8=_;rw[this,o];omega);obtain ⟨r,z,o⟩:=jHx h hq hu ht hlt s l;(have d:r<4:=by have:=h.k4;omega);have y:=jLS s r (fun i b a=>h.msz i b (c i b a) r d);have x:=jH8 h z;rw[y] at x
      have w : Por.sumI (fun v => F.ud v r * F.m.on v m - xV F u m v * F.ud v r) 6 <= Por.sumI (fun v => F.ud v r * zG F (zB F 8) v - if v = u then F.ud u r else 0) 6 := jD0 (fun v hv => by
        have B := (h.ud v hv r d).1
        have G := p v hv
        have H := h.on v hv m s
        rw [show F.ud v r * F.m.on v m - xV F u m v * F.ud v r = F.ud v r * (F.m.on v m - xV F u m v) by rw [Int.mul_sub, Int.mul_comm (xV F u m v)]]
        by_cases e : v = u
        · subst e
          rw [if_pos rfl, show F.ud v r * zG F (zB F 8) v - F.ud v r = F.ud v r * (zG F (zB F 8) v - 1) by rw [Int.mul_sub, Int.mul_one]]
          refine Int.mul_le_mul_of_nonneg_left ?_ B
          have : xV F v m v = 0 := if_pos rfl
          rw [this]
          have := k v hv
          omega
        · rw [if_neg e, Int.sub_zero]
          refine Int.mul_le_mul_of_nonneg_left ?_ B
          have : xV F u m v = max 0 (min (F.m.on v m) (runs F.m v - zG F (zB F 8) v)) := if_neg e
          rw [this, k v hv]
          omega)
      rw[jH9,jH9] at w;(have C:Por.sumI (fun v=>if v=u then F.ud u r else 0) 6=F.ud u r:=by have:=jA2 (f:=fun v=>if v=u then F.ud u r else 0) (g:=fun _=>0) hu (fun i _ a=>if_neg a);have o:Por.sumI (fun _:Nat=>(0:Int)) 6=0:=jAY (fun _ _=>rfl);rw[this,o,if_pos rfl];omega);rw[C] at w;unfold helpR at o;omega
  · exfalso
    have c:∀ i,i<8->F.mt i=false:=fun i b=>by
      cases e:F.mt i with
      | false=>rfl
      | true=>exact absurd ⟨i,b,e⟩ A
    obtain ⟨r,z,t⟩:=h.want u hu ht;(have d:r<4:=by have:=h.k4;omega);have x:=jH8 h z;have y:zB F 8 r=0:=jAY (fun i b=>h.msz i b (c i b) r d);rw[y] at x;have o:=jBu (f:=fun v=>F.ud v r*zG F (zB F 8) v) (n:=6) (fun v hv=>Int.mul_nonneg (h.ud v hv r d).1 (p v hv)) hu;have w:0<F.ud u r*zG F (zB F 8) u:=Int.mul_pos t (by omega);omega
open Go.Lib (decDigits)
theorem jE3 (b fb:Nat)(R:Int)(F:Flt)(sp:List Int)(u:Nat)(w:World)(hv:VW w b fb F sp)(hw:FWf R F)(hq:Rest F)(htb:Tab w)(hu:u<6)(ht:F.ut u=true):Calls Tryz.prog 60 #[.pointer (some ⟨b,0,none⟩),.int .i64 u] w fun e w'=>e = .returned (.int .i64 (zG F (zB F 8) u))/\Below w.heap.size w w':=by
  obtain ⟨so,sc,uo,uc,ho,hc,lo,lc,po,pc,hv⟩:=hv;have lb:=hv.box.lt;have A:=hid hv;have Z:=hid hw;have L:=hid htb;have j:=hid (hq.due u hu ht);obtain ⟨n,q⟩:∃ n:Nat,zG F (zB F 8) u=n:=⟨(zG F (zB F 8) u).toNat,by have:=(hw.goal hu).1;omega⟩;(have D:n<=40:=by have:=(hw.goal hu).2.1;omega);have J:=hid q;(have m:Hid (flZ (zr F (zB F 8) u)=(n:Int)):=by unfold Hid;have p:=q;unfold zG at p;rw[if_pos ⟨hu,ht⟩] at p;exact p);(have M:Hid (xF (F.due u).data.toList=some (zr F (zB F 8) u)):=by unfold Hid;rw[j.out];exact jHk hw.err hu ht);(have I:Hid (xG (zJ F (u:Int)) (.string (F.due (u:Int).toNat)) (.string ⟨#[]⟩) = .tuple #[.string (F.due u),.int .i64 0]):=by unfold Hid;rw[jFo hu ht];rfl);clear hv hw htb hq q;go_enter Tryz.func60,Tryz.ntmps60;have N:=A.out.box.cell 0 _ rfl;go_wp2_with fail;refine (Due_any fb F (u:Int) _ A.out.fl).mono ?_;rintro e0 w0 ⟨C,t⟩;obtain rfl:=t.symm;rw[I.out] at C;subst C;clear N;go_wp2_with fail;refine (jFX (F.due u) _ (zr F (zB F 8) u) M L.out).mono ?_;rintro e1 w1 ⟨rfl,c⟩;have H:=hid c;clear c;obtain ⟨s,hs⟩:∃ s:ByteArray,s=⟨(txt (flQ (zr F (zB F 8) u))).toArray⟩:=⟨_,rfl⟩;rw[<- hs];(have a:s.data.toList=decDigits n:=by rw[hs];show txt (flQ (zr F (zB F 8) u))=_;unfold flQ;rw[m.out];exact jJt n);have T:s.size<=4:=by (have g:s.size=s.data.toList.length:=by simp);rw[g,a];exact jBa (by omega) (by omega)
  have S:1<=s.size:=by
    (have g:s.size=s.data.toList.length:=by simp);rw[g,a];have B:=jFc n;have h3:=(jCH n)
    cases e:decDigits n with
    | nil=>exact absurd e (by have:=(jCH n).1;first | exact this | (intro h;simp[h] at this))
    | cons x r=>simp
  (have Q:((s.size:Int) == 0)=false:=by rw[beq_eq_false_iff_ne];omega);(have y:¬ (4:Int)<(s.size:Int):=by omega);have G:decide ((4:Int)<(s.size:Int))=false:=decide_eq_false y;(have z:Hid (s.data.toList.all yx=true):=by unfold Hid;rw[a];exact (jCH n).2.1);(have o:Hid (dv s.data.toList=n):=by unfold Hid;rw[a];exact jFc n);clear hs a;go_wp2
  go_loop[9,10] (fun v i=>∃ k:Nat,k<=s.size/\i = .int .i64 k/\v = .int .i64 (dv (s.data.toList.take k):Nat)) (fun _ i=>s.size - (intOf i).toNat)
  case atStart=>exact ⟨0,Nat.zero_le _,rfl,rfl⟩
  case round=>
    obtain ⟨k,hk,rfl,rfl⟩:=hrel;by_cases d:k<s.size
    · have f:=jCl s k d;have K:=hid f;(have O:48<=s[k].toNat/\s[k].toNat<=57:=by have:=List.all_eq_true.1 z.out s[k] (List.getElem_mem (l:=s.data.toList) (n:=k) (by simpa using d));exact (jBF _).1 this);obtain ⟨P,c⟩:=O
      have hv:dv (s.data.toList.take k)<10000:=by
        have g := jI7 (s.data.toList.take k) (by
          rw [List.all_eq_true]; intro x U; exact List.all_eq_true.1 z.out x (List.mem_of_mem_take U))
        (have B:(s.data.toList.take k).length<=4:=by rw[List.length_take];simp;omega);have:(10:Nat) ^ (s.data.toList.take k).length<=10 ^ 4:=Nat.pow_le_pow_right (by omega) B;omega
      have E:=hid (jF4 (s.data.toList.take k) s[k]);(have V:¬ ((s[k].toNat:Nat):Int)<48:=by omega);(have X:¬ (57:Int)<((s[k].toNat:Nat):Int):=by omega);have W:decide (((s[k].toNat:Nat):Int)<48)=false:=decide_eq_false V;have Y:decide ((57:Int)<((s[k].toNat:Nat):Int))=false:=decide_eq_false X;clear f;go_wp2;exact ⟨⟨k+1,by omega,by go_num,by rw[K.out,E.out];congr 1;omega⟩,by simp[intOf];omega⟩
    · go_wp2;go_ret;exact ⟨by rw[List.take_of_length_le (by simp;omega),o.out,J.out];rfl,H.out⟩
noncomputable def abV (F:Flt)(j m:Nat):Int:=max 0 (min (F.m.on j m) (runs F.m j - zG F (zB F 8) j))
theorem jIc (b fb:Nat)(R:Int)(F:Flt)(sp:List Int)(u m:Nat)(w:World)(hv:VW w b fb F sp)(hw:FWf R F)(hq:Rest F)(htb:Tab w)(hu:u<6)(ht:F.ut u=true)(hm:m<8)(hmt:F.mt m=true):Calls Tryz.prog 61 #[.pointer (some ⟨b,0,none⟩),.int .i64 u,.int .i64 m] w fun e w'=>e = .returned (.int .i64 (abV F u m))/\Below w.heap.size w w':=by
 obtain ⟨U,T,W,V,N,M,Q,P,S,pc,hv⟩:=hv;have O:=hv.box.lt;have p:=hid hv;have h:=hid hw;have z:=hid htb;have y:=hid hq;have r:=hw.goal hu;have G:=hw.runs0 hu;have s:=hw.tot u hu;have H:=hw.wait u hu;have E:=hw.on40 hu hm;obtain ⟨g,i⟩:∃ g,zG F (zB F 8) u=g:=⟨_,rfl⟩;obtain ⟨n,l⟩:∃ n,runs F.m u=n:=⟨_,rfl⟩;obtain ⟨k,j⟩:∃ k,F.m.on u m=k:=⟨_,rfl⟩;(have o:Hid (abV F u m=max 0 (min k (n - g))):=by unfold Hid abV;rw[i,l,j]);rw[i] at r;rw[l] at G s;rw[j] at E;have t:=hid i;have x:=hid l;have v:=hid j;obtain ⟨A,B,_⟩:=r;clear hv hw hq htb i l j H;(have D:n<=40:=by have:=h.out.wait u hu;omega);clear s;go_enter Tryz.func61,Tryz.ntmps61;go_wp2_with fail;refine (jCJ b fb R F sp u _ p.out.vw h.out hu ht).mono ?_;rintro I X ⟨rfl,d⟩;obtain rfl:=d.symm;rw[x.out];go_wp2_with fail;refine (jE3 b fb R F sp u _ p.out.vw h.out y.out z.out hu ht).mono ?_;rintro J Y ⟨rfl,c⟩;rw[t.out];have a:=hid c;have q:=hid (p.out.below c);clear c;go_wp2_with fail;refine (jDq b fb R F sp u m _ q.out.vw h.out hu ht hm hmt).mono ?_;rintro K Z ⟨rfl,d⟩;obtain rfl:=d.symm;rw[v.out];by_cases L:n - g<k
 ·by_cases C:n - g<0
  ·(have f:Hid (abV F u m=0):=by unfold Hid;rw[o.out];omega);go_wp2;go_ret;exact ⟨by rw[f.out];(first | done | rfl),a.out⟩
  ·(have f:Hid (abV F u m=n - g):=by unfold Hid;rw[o.out];omega);go_wp2;go_ret;exact ⟨by rw[f.out];(first | done | rfl),a.out⟩
 ·(have C:¬ k<0:=by omega);(have f:Hid (abV F u m=k):=by unfold Hid;rw[o.out];omega);go_wp2;go_ret;exact ⟨by rw[f.out];(first | done | rfl),a.out⟩
end Go.Proofs.YtigokanoflkinabGreatDoor
