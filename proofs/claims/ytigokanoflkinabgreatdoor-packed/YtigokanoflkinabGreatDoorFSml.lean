/- FBrg, FBrgB, WSolve, joined. -/
import Derived.Test.YtigokanoflkinabGreatDoorWRise
import Derived.Test.YtigokanoflkinabGreatDoorWStart
import Derived.Test.YtigokanoflkinabGreatDoorWHg
import Derived.Test.YtigokanoflkinabGreatDoorWFeas
set_option maxHeartbeats 2000000
set_option maxRecDepth 20000
namespace Go.Proofs.YtigokanoflkinabGreatDoor
set_option linter.unusedSimpArgs false
set_option linter.unusedVariables false
open Go.RowKit Por
def prb (pool:List Int)(us:List Usr):Prob:=⟨us.length,pool.length,fun r=>((lm pool r:Int):Rat),fun i r=>dm us i r,fun i=>(((ug us i).wt:Int):Rat),fun i=>(((ug us i).cap:Int):Rat)⟩
theorem jCl {n:Int}(h:0≤n):(0:Rat)≤(n:Rat):=Rat.intCast_nonneg.2 h
theorem jDh {a b:Int}:(a:Rat)≤(b:Rat)↔a≤b:=Rat.intCast_le_intCast
theorem jL0 {a b:Int}:(a:Rat)<(b:Rat)↔a<b:=Rat.intCast_lt_intCast
theorem jDP {n:Int}:(0:Rat)<(n:Rat)↔0<n:=by
 have e:(0:Rat)=((0:Int):Rat):=rfl;rw[e];exact jL0
theorem jFw {pool:List Int}{us:List Usr}(hg:Good us pool.length)(hpa:∀ i,amtB (lm pool i)=true):(prb pool us).Ok:=by
 refine ⟨fun r hr=>jCl (jBI (hpa r)).1,fun i r hi hr=>jCl (jBI (hg.dem hi r)).1,fun i hi=>jDP.2 (by have:=(hg.wt (i:=i) hi).1;omega),fun i hi=>jCl (hg.cap (i:=i) hi).1⟩
theorem jJl {f:Nat→Rat}{dem:List Int}{v:Rat}:∀ k,v∈enL f dem k↔∃ r,r<k∧lm dem r≠0∧v=f r / ((lm dem r:Int):Rat):=by
 intro k
 induction k with
 | zero=>simp[enL]
 | succ k ih=>
  simp only[enL];split
  ·rename_i e;rw[ih];constructor
   ·rintro ⟨i,h1,h2⟩;exact ⟨i,by omega,h2⟩
   ·rintro ⟨i,h1,h2,h3⟩;by_cases e2:i=k
    ·subst e2;exact absurd e h2
    ·exact ⟨i,by omega,h2,h3⟩
  ·rename_i e;rw[List.mem_append,ih,List.mem_singleton];constructor
   ·rintro (⟨i,h1,h2⟩ | h)
    ·exact ⟨i,by omega,h2⟩
    ·exact ⟨k,by omega,e,h⟩
   ·rintro ⟨i,h1,h2,h3⟩;by_cases e2:i=k
    ·subst e2;exact Or.inr h3
    ·exact Or.inl ⟨i,by omega,h2,h3⟩
theorem jHA (pool:List Int)(us:List Usr)(kk i:Nat):rateU pool us kk i=leastL (enL (wholeF pool) (ug us i).dem kk)*(((ug us i).wt:Int):Rat):=by
 unfold rateU rateQ;rw[jFq];rfl
theorem jDE {pool:List Int}{us:List Usr}(hg:Good us pool.length){i:Nat}(hi:i<us.length):∃ r,r<pool.length∧0<lm (ug us i).dem r∧rateU pool us pool.length i*dm us i r=(((ug us i).wt:Int):Rat)*((lm pool r:Int):Rat):=by
 obtain ⟨r0,hr0,hd0⟩:=hg.some hi;have hne:enL (wholeF pool) (ug us i).dem pool.length≠[]:=List.length_pos_iff.1 (jJA hd0 _ hr0);obtain ⟨r,hr,hd,he⟩:=(jJl _).1 (jEr hne);have hdm:=jBI (hg.dem hi r);refine ⟨r,hr,by omega,?_⟩;rw[jHA,he];have hz:=jBr hd;unfold wholeF
 grind
theorem jC0 {pool:List Int}{us:List Usr}(hg:Good us pool.length)(hpa:∀ i,amtB (lm pool i)=true):Rate (prb pool us) (rateU pool us pool.length):=by
 have ho:=jFw hg hpa;refine ⟨fun i hi=>?_,fun i r hi hr hD=>?_,fun i hi=>?_⟩
 ·obtain ⟨r,hr,hd,he⟩:=jDE hg hi;have h1:(0:Rat)<dm us i r:=jDP.2 hd;apply jB3 (c:=dm us i r) _ h1;rw[he,Rat.zero_mul];exact Rat.mul_nonneg (by have:=ho.W0 i hi;exact Rat.le_of_lt this) (ho.P0 r hr)
 ·have hd:0<lm (ug us i).dem r:=jDP.1 hD;(have hne:lm (ug us i).dem r≠0:=by omega);have h1:=jEY (l:=enL (wholeF pool) (ug us i).dem pool.length) ((jJl _).2 ⟨r,hr,hne,rfl⟩);have h2:=jBU h1 (show (0:Rat)≤dm us i r from jCl (by omega));have h3:wholeF pool r / ((lm (ug us i).dem r:Int):Rat)*dm us i r=wholeF pool r:=jCw (jBr hne);rw[h3] at h2;have h4:=jA1 h2 (show (0:Rat)≤(((ug us i).wt:Int):Rat) from Rat.le_of_lt (ho.W0 i hi));show rateU pool us pool.length i*dm us i r≤(((ug us i).wt:Int):Rat)*((lm pool r:Int):Rat);rw[jHA];(have e:leastL (enL (wholeF pool) (ug us i).dem pool.length)*(((ug us i).wt:Int):Rat)*dm us i r=(((ug us i).wt:Int):Rat)*(leastL (enL (wholeF pool) (ug us i).dem pool.length)*dm us i r):=by grind);rw[e];exact h4
 ·obtain ⟨r,hr,hd,he⟩:=jDE hg hi;exact ⟨r,hr,jDP.2 hd,he⟩
theorem jIu {pool:List Int}{us:List Usr}(hg:Good us pool.length)(hpa:∀ i,amtB (lm pool i)=true){i:Nat}(hi:i<us.length):rateU pool us pool.length i≤((1000000:Nat):Rat):=by
 obtain ⟨r,hr,hd,he⟩:=jDE hg hi;have h0:=(jC0 hg hpa).pos i hi;have h1:((1:Int):Rat)≤dm us i r:=jDh.2 (by omega);have h2:=jA1 h1 h0;have hw:=hg.wt hi;have hp:=jBI (hpa r);rw[he] at h2;have h3:(((ug us i).wt:Int):Rat)*((lm pool r:Int):Rat)=(((ug us i).wt*lm pool r:Int):Rat):=(Rat.intCast_mul _ _).symm;rw[h3] at h2;(have h4:(ug us i).wt*lm pool r≤1000000:=by have h5:=Int.mul_le_mul hw.2 hp.2 hp.1 (by omega);omega);have h6:=jDh.2 h4;have e1:((1:Int):Rat)=1:=rfl;have e2:((1000000:Int):Rat)=((1000000:Nat):Rat):=rfl;rw[e1] at h2;rw[e2] at h6
 grind
theorem jJF {x:Rat}{Q M:Nat}(hQ:0<Q)(h:isInt (Q*x))(h0:0≤x)(h1:x≤(M:Rat)):x.num.natAbs≤Q*M∧x.den≤Q:=by
 obtain ⟨z,hz⟩:=h;(have hQr:(Q:Rat)≠0:=by have:=jKI hQ;grind);(have e:x=mkRat z Q:=by rw[Rat.mkRat_eq_div];(have:x=(z:Rat) / ((Q:Nat):Rat):=by rw[← hz];grind);exact this);have hk:=jJx z Q (by omega);rw[← e] at hk;refine ⟨Nat.le_trans hk.1 ?_,hk.2⟩;(have h2:(0:Rat)≤(z:Rat):=by rw[← hz];exact Rat.mul_nonneg (jEh _) h0);(have h3:(z:Rat)≤((Q*M:Nat):Rat):=by rw[← hz,jHG];exact jA1 h1 (jEh _));have h4:(0:Int)≤z:=Rat.intCast_nonneg.1 h2;(have h5:z≤((Q*M:Nat):Int):=by have e3:(((Q*M:Nat):Int):Rat)=((Q*M:Nat):Rat):=rfl;exact jDh.1 (by rw[e3];exact h3));omega
def prodN (e:Nat→Nat):Nat→Nat
  | 0=>1
  | n+1=>prodN e n*e n
theorem jJH {e:Nat→Nat}{n:Nat}(h:∀ i,i<n→0<e i):0<prodN e n:=by
 induction n with
 | zero=>exact Nat.one_pos
 | succ n ih=>exact Nat.mul_pos (ih (fun i hi=>h i (by omega))) (h n (by omega))
theorem jKj {e:Nat→Nat}{n B:Nat}(h:∀ i,i<n→e i≤B):prodN e n≤B ^ n:=by
 induction n with
 | zero=>exact Nat.le_refl _
 | succ n ih=>rw[Nat.pow_succ];exact Nat.mul_le_mul (ih (fun i hi=>h i (by omega))) (h n (by omega))
theorem jIw {e:Nat→Nat}{g:Nat→Rat}{n:Nat}(h:∀ i,i<n→isInt (e i*g i)):∀ i,i<n→isInt (prodN e n*g i):=by
 induction n with
 | zero=>intro i hi;omega
 | succ n ih=>
  intro i hi;have ec:((prodN e (n+1):Nat):Rat)=(prodN e n:Rat)*(e n:Rat):=jHG _ _;rw[ec];by_cases h2:i=n
  ·subst h2;have:=(isInt.nat (prodN e i)).mul (h i (by omega));(have e2:(prodN e i:Rat)*(e i:Rat)*g i=prodN e i*(e i*g i):=by grind);rw[e2];exact this
  ·have:=(ih (fun i hi=>h i (by omega)) i (by omega)).mul (isInt.nat (e n));(have e2:(prodN e n:Rat)*(e n:Rat)*g i=prodN e n*g i*e n:=by grind);rw[e2];exact this
theorem jGO {pool:List Int}{us:List Usr}(hg:Good us pool.length)(hn:us.length≤6):∃ G:Nat,0<G∧G≤10000 ^ 6∧(∀ i,i<us.length→isInt (G*rateU pool us pool.length i))∧∀ i,i<us.length→∃ q:Nat,0<q∧q≤10000∧isInt (q*rateU pool us pool.length i):=by
 classical
 have key:∀ i,i<us.length→∃ q:Nat,0<q∧q≤10000∧isInt (q*rateU pool us pool.length i):=fun i hi=>by obtain ⟨r,hr,hd,he⟩:=jDE hg hi;have hdm:=jBI (hg.dem hi r);refine ⟨(lm (ug us i).dem r).toNat,by omega,by omega,?_⟩;(have e1:(((lm (ug us i).dem r).toNat:Nat):Rat)=dm us i r:=by (have:(((lm (ug us i).dem r).toNat:Nat):Int)=lm (ug us i).dem r:=by omega);show ((((lm (ug us i).dem r).toNat:Nat):Int):Rat)=_;rw[this]);rw[e1,Rat.mul_comm,he];exact isInt.mul ⟨_,rfl⟩ ⟨_,rfl⟩
 let e:Nat→Nat:=fun i=>if h:i<us.length then (key i h).choose else 1
 (have he:∀ i,i<us.length→0<e i∧e i≤10000∧isInt (e i*rateU pool us pool.length i):=fun i hi=>by simp only[e];rw[dif_pos hi];exact (key i hi).choose_spec);refine ⟨prodN e us.length,jJH (fun i hi=>(he i hi).1),?_,jIw (fun i hi=>(he i hi).2.2),key⟩;exact Nat.le_trans (jKj (fun i hi=>(he i hi).2.1)) (Nat.pow_le_pow_right (by decide) hn)
theorem jJd {pool:List Int}{us:List Usr}(hg:Good us pool.length)(hpa:∀ i,amtB (lm pool i)=true)(hn:us.length≤6){r:Nat}(hr:r<pool.length):sumN (fun i=>(prb pool us).W i*(prb pool us).P r) (prb pool us).n≤((6000000:Nat):Rat):=by
 have h1:∀ m,m≤us.length→sumN (fun i=>(prb pool us).W i*(prb pool us).P r) m≤((m*1000000:Nat):Rat):=by
  intro m
  induction m with
  | zero=>intro _;exact Rat.le_refl
  | succ m ih=>
   intro hm;have h2:=ih (by omega);have hw:=hg.wt (i:=m) (by omega);have hp:=jBI (hpa r);(have h3:(prb pool us).W m*(prb pool us).P r≤((1000000:Nat):Rat):=by show (((ug us m).wt:Int):Rat)*((lm pool r:Int):Rat)≤_;rw[← Rat.intCast_mul];have h5:=Int.mul_le_mul hw.2 hp.2 hp.1 (by omega);exact jDh.2 (show (ug us m).wt*lm pool r≤1000000 by omega));(have e:(((m+1)*1000000:Nat):Rat)=((m*1000000:Nat):Rat)+((1000000:Nat):Rat):=by (have e0:(m+1)*1000000=m*1000000+1000000:=by omega);rw[e0,Rat.natCast_add]);simp only[sumN];rw[e]
   grind
 refine Rat.le_trans (h1 us.length (Nat.le_refl _)) (jJL.2 (by omega))
structure FD.Of (d:FD)(pool:List Int)(us:List Usr):Prop where
  n:d.n=us.length
  us:d.us=us
  kk:d.kk=pool.length
  room:d.room=wholeF pool
theorem jDt {pool:List Int}{us:List Usr}{d:FD}(h:d.Of pool us)(f:Nat→Rat)(r:Nat):totF d.us f r d.n=used (prb pool us) f r:=by
 rw[h.us,h.n];rfl
theorem jL6 {pool:List Int}{us:List Usr}{d:FD}(h:d.Of pool us)(s:St):∀ k,suL d s k=stU (prb pool us) s k:=by
 intro k
 induction k with
 | zero=>rfl
 | succ k ih=>simp only[suL,stU];rw[ih,h.us];rfl
theorem jL8 {pool:List Int}{us:List Usr}{d:FD}(h:d.Of pool us)(s:St)(l:List Rat):∀ k,skL d s l k=stK (prb pool us) s l k:=by
 intro k
 induction k with
 | zero=>rfl
 | succ k ih=>simp only[skL,stK];rw[ih,jDt h,jDt h,h.room];rfl
theorem jJQ {pool:List Int}{us:List Usr}{d:FD}(h:d.Of pool us)(s:St):stepsF d s=stepsL (prb pool us) s:=by
 unfold stepsF stepsL;rw[jL8 h,jL6 h,h.n,h.kk];rfl
theorem jJI {dem:List Int}{f:Nat→Bool}:∀ k,wantB dem f k=true↔∃ r,r<k∧0<lm dem r∧f r=true:=by
 intro k;constructor
 ·induction k with
  | zero=>intro h;cases h
  | succ k ih=>
   intro h;simp only[wantB,Bool.or_eq_true,Bool.and_eq_true,decide_eq_true_eq] at h;rcases h with h | h
   ·obtain ⟨r,h1,h2⟩:=ih h;exact ⟨r,by omega,h2⟩
   ·exact ⟨k,by omega,h⟩
 ·rintro ⟨r,h1,h2,h3⟩;exact jEz h1 h2 h3
theorem jLA {pool:List Int}{us:List Usr}{d:FD}(h:d.Of pool us)(ts:Nat→Rat)(i:Nat):stB d ts i=true↔stopsB (prb pool us) ts i:=by
 unfold stB stopsB capB;rw[Bool.or_eq_true,jJI,decide_eq_true_eq,h.us,h.kk];constructor
 ·rintro (h1 | ⟨r,h1,h2,h3⟩)
  ·exact Or.inl h1
  ·refine Or.inr ⟨r,h1,jDP.2 h2,?_⟩;unfold upB at h3;rw[decide_eq_true_eq,jDt h,h.room] at h3;exact h3
 ·rintro (h1 | ⟨r,h1,h2,h3⟩)
  ·exact Or.inl h1
  ·refine Or.inr ⟨r,h1,jDP.1 h2,?_⟩;unfold upB;rw[decide_eq_true_eq,jDt h,h.room];exact h3
theorem jLJ {pool:List Int}{us:List Usr}{d:FD}(h:d.Of pool us){w0 w:World}{s:St}(hf:FS w0 d w (riseF d s (stepsF d s))):FS w0 d w (riseS (prb pool us) s):=by
 classical
 rw[jJQ h] at hf;unfold riseF at hf;unfold riseS;by_cases e:stepsL (prb pool us) s = []
 ·rw[if_pos (by rw[e];rfl)] at hf;rw[if_pos e];exact hf
 ·rw[if_neg (fun h5=>e (List.length_eq_zero_iff.1 h5)),jFq] at hf;rw[if_neg e];refine hf.congr rfl (fun i hi=>?_) (fun i hi=>rfl) (fun i hi=>rfl);show midRt d (upS s (leastL (stepsL (prb pool us) s))) d.n i=upRt (prb pool us) s (leastL (stepsL (prb pool us) s)) i;unfold midRt upRt;have hb:=jLA h (upTs s (leastL (stepsL (prb pool us) s))) i;by_cases e2:stopsB (prb pool us) (upTs s (leastL (stepsL (prb pool us) s))) i
  ·rw[if_pos e2,if_pos ⟨hi,hb.2 e2⟩];rfl
  ·rw[if_neg e2,if_neg (fun h5=>e2 (hb.1 h5.2))];rfl
def st0 (pool:List Int)(us:List Usr):St:=⟨((0:Int):Rat),rateU pool us pool.length,zeroF,zeroF⟩
theorem jGU {pool:List Int} {us:List Usr} (hg:Good us pool.length) (hpa:∀ i,amtB (lm pool i)=true):Inv (prb pool us) (rateU pool us pool.length) (st0 pool us):=
  Inv.first (jFw hg hpa) (jC0 hg hpa) _ (fun i hi=>Or.inl rfl)
theorem jIh:(10000 ^ 6*6000000) ^ 6*1000<10000 ^ 60:=by decide
theorem jJO {G m:Nat}(hG:0<G)(h:G≤10000 ^ 6)(hm:m≤6):(G*6000000) ^ m≤(10000 ^ 6*6000000) ^ 6:=by
 have h1:(G*6000000) ^ m≤(G*6000000) ^ 6:=Nat.pow_le_pow_right (by omega) hm;have h2:(G*6000000) ^ 6≤(10000 ^ 6*6000000) ^ 6:=Nat.pow_le_pow_left (Nat.mul_le_mul_right _ h) 6;exact Nat.le_trans h1 h2
theorem jJY {x:Rat}{Q M:Nat}(hQ:0<Q)(hQb:Q≤(10000 ^ 6*6000000) ^ 6)(h:isInt (Q*x))(h0:0≤x)(h1:x≤(M:Rat))(hM:M≤1000):Sm x 60:=by
 obtain ⟨h2,h3⟩:=jJF hQ h h0 h1;have hb:=jIh;generalize (10000 ^ 6*6000000) ^ 6=B at hQb hb;have h4:Q*M≤B*1000:=Nat.mul_le_mul hQb hM;have h5:B≤B*1000:=Nat.le_mul_of_pos_right B (by decide);exact ⟨jAM (by omega),jAM (by omega)⟩
theorem jEP {pool:List Int}{us:List Usr}{d:FD}(h:d.Of pool us)(hg:Good us pool.length)(hpa:∀ i,amtB (lm pool i)=true)(hn:us.length≤6){m:Nat}(hm:m≤6):Small d (risesN (prb pool us) (st0 pool us) m) 60:=by
 obtain ⟨G,hG0,hGb,hGi,hq⟩:=jGO hg hn;have ho:=jFw hg hpa;have hr:=jC0 hg hpa;have hi0:=jGU hg hpa;(have hW:∀ i,i<(prb pool us).n→1≤(prb pool us).W i:=fun i hi=>(jDh (a:=1)).2 (hg.wt hi).1);(have hC:∀ i,i<(prb pool us).n→isInt ((prb pool us).C i):=fun i hi=>⟨_,rfl⟩);(have hD:∀ i r,i<(prb pool us).n→r<(prb pool us).k→isInt ((prb pool us).D i r):=fun i r hi hr=>⟨_,rfl⟩);(have hP:∀ r,r<(prb pool us).k→isInt ((prb pool us).P r):=fun r hr=>⟨_,rfl⟩);(have hgM:∀ i,i<(prb pool us).n→rateU pool us pool.length i≤((6000000:Nat):Rat):=fun i hi=>Rat.le_trans (jIu hg hpa hi) (jJL.2 (by decide)));have z0:isInt (((1:Nat):Rat)*((0:Int):Rat)):=(isInt.nat 1).mul ⟨0,rfl⟩;obtain ⟨hl,Q,hQ0,hQb,hd⟩:=jH8 ho hr hW hC hD hP G 6000000 hG0 hGi (fun r hr=>jJd hg hpa hn hr) hgM (by decide) hi0 (by show ((0:Int):Rat)≤((1:Int):Rat);exact jDh.2 (by decide)) ⟨fun i hi=>z0,fun i hi=>z0,z0⟩ m;have hI:=jCR ho hr hi0 m;have hQB:=Nat.le_trans hQb (jJO hG0 hGb hm);have one:((1:Nat):Rat)=1:=rfl;generalize risesN (prb pool us) (st0 pool us) m=s at hl hd hI;refine ⟨jJY (M:=1) hQ0 hQB hd.lev hI.lev0 (by rw[one];exact hl) (by decide),fun i hi=>?_,fun i hi=>?_,fun i hi=>?_⟩
 ·rw[h.n] at hi;by_cases e:s.rt i=0
  ·rw[e];exact (Sm.zero5:Sm ((0:Int):Rat) 5) |> fun _=>⟨jAM (by decide),jAM (by decide)⟩
  ·rw[(hI.grow i hi e).1];obtain ⟨q,hq0,hqb,hqi⟩:=hq i hi;obtain ⟨h2,h3⟩:=jJF hq0 hqi (hr.pos i hi) (jIu hg hpa hi);have h4:=Nat.mul_le_mul_right 1000000 hqb;exact ⟨jAM (by omega),jAM (by omega)⟩
 ·rw[h.n] at hi;have hc:=hg.cap (i:=i) hi;refine jJY (M:=1000) hQ0 hQB (hd.ts i hi) (hI.borne.low i hi) (Rat.le_trans (hI.borne.cap i hi) ?_) (Nat.le_refl _);exact (jDh (b:=1000)).2 hc.2
 ·rw[h.n] at hi;exact jJY (M:=1) hQ0 hQB (hd.lv i hi) (hI.lvs i hi).2.1 (by rw[one];exact jFi ho hr hW hI hi) (by decide)
noncomputable def endS (pool:List Int)(us:List Usr):St:=risesN (prb pool us) (st0 pool us) us.length
theorem jGC {pool:List Int}{us:List Usr}(hg:Good us pool.length)(hpa:∀ i,amtB (lm pool i)=true):FairFill (prb pool us) (rateU pool us pool.length) (endS pool us).ts∧∀ i,i<us.length→(endS pool us).lv i=(endS pool us).ts i / rateU pool us pool.length i:=by
 have ho:=jFw hg hpa;have hr:=jC0 hg hpa;have hi:=jCR ho hr (jGU hg hpa) us.length;exact hi.last hr (jIf ho hr (jGU hg hpa))
structure Solved (w w':World)(pool:List Int)(us:List Usr)(g:Nat)(d:FD):Prop where
  of:d.Of pool us
  low:w.heap.size≤g
  sh:ShB w' g us.length us.length (endS pool us).ts (endS pool us).lv (stopV d (endS pool us))
  bel:Below w.heap.size w w'
def SolveEnd (w w':World)(e:Ending)(pool:List Int)(us:List Usr):Prop:=
  if errOf pool us=0 then ∃ g d,e = .returned (.tuple #[.slice (some ⟨g,0,none⟩) us.length us.length,.int .i64 0])∧Solved w w' pool us g d
  else e = .returned (.tuple #[.slice none 0 0,.int .i64 (errOf pool us)])∧Below w.heap.size w w'
theorem jIg (po:Option Addr)(pn pc:Nat)(pool:List Int)(ao:Option Addr)(n cap:Nat)(us:List Usr)(w:World)(hp:Arr w 1 po pn pc (ints pool))(hu:Users w ao n cap us)(ht:Tab w):Calls Tryz.prog 59 #[.slice po pn pc,.slice ao n cap] w fun e w'=>SolveEnd w w' e pool us:=by
 have hpl:=hp.len;rw[jAG] at hpl;have hul:=hu.1;subst hpl;(have hnm:n≤maxLen:=by obtain ⟨_,vs,h1,_⟩:=hu;exact Nat.le_trans h1.le h1.cm);unfold maxLen at hnm;have HP:=hid hp;have HU:=hid hu;have HT:=hid ht;clear hp hu ht;have HB_0:=hid (Below.refl w.heap.size w);go_enter Tryz.func59,Tryz.ntmps59;go_wp2_with fail;refine (jJG po pool.length pc pool ao n cap us _ HP.out HU.out).mono ?_;rintro e10 w10 ⟨rfl,hb10⟩;have HB_11:Hid (Below w.heap.size w w10):=HB_0.out.trans (hb10.mono HB_0.out.size);clear HB_0;clear hb10;by_cases he:errOf pool us=0
 ·obtain ⟨hpb,hn6,hgood,hpa,hp1,hp4⟩:=jCc he;have HG:=hid hgood;have HPA:=hid hpa;have HE:=hid he;clear hgood hpa hpb;rw[he];clear he;go_wp2_with fail;refine (jFI po pc pool ao n cap us pool.length _ (HP.out.below HB_11.out) HPA.out (HU.out.below HB_11.out) HG.out (by omega) hp4 hp1 (HT.out.of HB_11.out)).mono ?_;rintro e2 w2 ⟨d,rfl,⟨hd1,hd2,hd3,hd4⟩,hok,hfs⟩;have HOF:=hid (show d.Of pool us from ⟨by omega,hd2,hd3,hd4⟩);have HOK:=hid hok;have HFS:=hid (show FS _ d w2 (st0 pool us) from hfs);clear hd1 hd2 hd3 hd4 hok hfs;go_wp2
  go_loopg[19] n (fun g ix wr=>∃ k:Nat,g=n - k∧k≤n∧ix = .int .i64 k∧Hid (FS w10 d wr (risesN (prb pool us) (st0 pool us) k)))
  case atStart=>exact ⟨0,rfl,Nat.zero_le _,rfl,HFS.out⟩
  case round=>
   clear HFS;obtain ⟨k,hgk,hk,rfl,hF⟩:=hrel;by_cases hlt:k<n
   ·go_wp2_with fail;refine (jI3 w10 d (risesN (prb pool us) (st0 pool us) k) _ hF.out HOK.out (jEP HOF.out HG.out HPA.out hn6 (by omega)) _ _ rfl rfl).mono ?_;rintro e3 w3 ⟨rfl,hf3⟩;have HF3:Hid (FS w10 d w3 (risesN (prb pool us) (st0 pool us) (k+1))):=jLJ HOF.out hf3;clear hf3;go_wp2;go_roundg (n - (k+1));(case measure=>omega);case rel=>exact ⟨k+1,rfl,by omega,by go_num,HF3.out⟩
   ·(obtain rfl:k=n:=by omega);(have hFE:Hid (FS w10 d wr (endS pool us)):=by have h9:=hF.out;rw[← hul] at h9;exact h9);have HSME:Hid (Small d (endS pool us) 60):=jEP HOF.out HG.out HPA.out hn6 hn6;go_wp2_with fail;refine (jHl w10 d (endS pool us) _ hFE.out HOK.out HSME.out).mono ?_;rintro e4 w4 ⟨g,hg,rfl,hsh,hb4⟩;have HB4:Hid (Below w10.heap.size w10 w4):=hFE.out.bel.trans (hb4.mono hFE.out.bel.size);have HB5:Hid (Below w.heap.size w w4):=HB_11.out.trans (HB4.out.mono HB_11.out.size);have hgl:w.heap.size≤g:=Nat.le_trans (Nat.le_trans HB_11.out.size hFE.out.bel.size) hg;have HSH:=hid hsh;clear hsh hb4;go_wp2;go_ret2;unfold SolveEnd;rw[if_pos HE.out];have hdn:d.n=us.length:=HOF.out.n;refine ⟨g,d,?_,HOF.out,hgl,?_,HB5.out⟩
    ·rw[hdn];rfl
    ·have h9:=HSH.out;rw[hdn] at h9;exact h9
 ·have HE:=hid he;have h34:=jGp pool us;generalize hq:errOf pool us=c at he h34;have HQ:=hid hq;clear hq;(have he2:(c == 0)=false:=by rw[beq_eq_false_iff_ne];omega);go_wp2;go_ret2;unfold SolveEnd;rw[if_neg HE.out];exact ⟨by rw[HQ.out];rfl,HB_11.out⟩
end Go.Proofs.YtigokanoflkinabGreatDoor
