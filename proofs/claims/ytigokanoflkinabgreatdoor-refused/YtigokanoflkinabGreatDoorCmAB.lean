/- CmA, CmB, joined. -/
import Derived.Test.YtigokanoflkinabGreatDoorFlWY
set_option maxHeartbeats 2000000
set_option maxRecDepth 20000
namespace Go.Proofs.YtigokanoflkinabGreatDoor
set_option linter.unusedSimpArgs false
set_option linter.unusedVariables false
open Go.RowKit Por
def yy (f:Nat->Bool)(i:Nat)(x:Bool):Nat->Bool:=fun j=>if j=i then x else f j
def yI (f:Nat->Nat->Int)(i:Nat)(g:Nat->Int):Nat->Nat->Int:=fun j=>if j=i then g else f j
theorem jBd (f:Nat->Bool)(i:Nat)(x:Bool):yy f i x i=x:=if_pos rfl
theorem jAe (f:Nat->Bool){i j:Nat}(x:Bool)(h:j≠i):yy f i x j=f j:=if_neg h
theorem jA6 (f:Nat->Nat->Int)(i:Nat)(g:Nat->Int):yI f i g i=g:=if_pos rfl
theorem jAV (f:Nat->Nat->Int){i j:Nat}(g:Nat->Int)(h:j≠i):yI f i g j=f j:=if_neg h
def zm (xs:List Int)(r:Nat):Int:=lm xs r
theorem jKM {xs:List Int}{r:Nat}(h:xs.length<=r):lm xs r=0:=by unfold lm;rw[List.getD_eq_getElem?_getD,List.getElem?_eq_none h];rfl
def subF (F:Flt)(u:Nat)(n:Int):Flt:={ F with m:={ F.m with wait:=zF F.m.wait u (F.m.wait u+n) } }
def finF (F:Flt)(u m:Nat):Flt:={ F with m:={ F.m with on:=yR F.m.on u m (F.m.on u m - 1) } }
def chgF (F:Flt)(u:Nat)(wt cp:Int):Flt:={ F with uw:=zF F.uw u wt,uc:=zF F.uc u cp }
def addMF (F:Flt)(xs:List Int):Flt:={ F with mt:=yy F.mt F.mg true,ms:=yI F.ms F.mg (zm xs),mg:=F.mg+1 }
def ye (F:Flt)(U:Usr):Flt:={ F with ut:=yy F.ut F.ug true,ud:=yI F.ud F.ug (zm U.dem),uw:=zF F.uw F.ug U.wt,uc:=zF F.uc F.ug U.cap,m:=⟨zF F.m.wait F.ug 0,yI F.m.on F.ug (fun _=>0),zF F.m.rev F.ug 0⟩,due:=updB F.due F.ug ⟨#[]⟩,used:=yI F.used F.ug (fun _=>0),ug:=F.ug+1 }
def yr (F:Flt)(u:Nat):Flt:={ F with ut:=yy F.ut u false,ud:=yI F.ud u (fun _=>0),uw:=zF F.uw u 0,uc:=zF F.uc u 0,m:=⟨zF F.m.wait u 0,yI F.m.on u (fun _=>0),F.m.rev⟩,due:=updB F.due u ⟨#[]⟩ }
def offM (s:FM)(m k:Nat):FM:=⟨fun u=>if u<k then s.wait u+s.on u m else s.wait u,fun u l=>if u<k/\l=m then 0 else s.on u l,s.rev⟩
def yb (F:Flt)(m:Nat):Flt:={ F with mt:=yy F.mt m false,ms:=yI F.ms m (fun _=>0),m:=offM F.m m 6 }
def yk (F:Flt)(n:Int):Flt:={ F with ck:=F.ck+n,used:=fun u r=>F.used u r+F.ud u r*runs F.m u*n,idle:=fun r=>F.idle r+(zB F 8 r - Por.sumI (fun u=>F.ud u r*runs F.m u) 6)*n }
theorem FWf.sub {R:Int}{F:Flt}(h:FWf R F){u:Nat}(hu:u<6)(ht:F.ut u=true){n:Int}(h0:0<=F.m.wait u+n)(h1:F.m.wait u+n+runs F.m u<=40):FWf R (subF F u n):=by
  (have b:∀ v,runs (subF F u n).m v=runs F.m v:=fun v=>rfl);have a:∀ v,(subF F u n).m.wait v=if v=u then F.m.wait u+n else F.m.wait v:=fun v=>rfl
  exact { h with
    wait := fun v hv => by
      rw [a]; split
      · exact h0
      · exact h.wait v hv
    none := fun v hv hn => by
      rw [a, b, if_neg (fun e => by subst e; rw [show (subF F v n).ut v = F.ut v from rfl, ht] at hn; cases hn)]; exact h.none v hv hn
    tot := fun v hv => by
      rw [a, b]; split
      · rename_i e; subst e; exact h1
      · exact h.tot v hv }
theorem FWf.fin {R:Int}{F:Flt}(h:FWf R F){u m:Nat}(hu:u<6)(hm:m<8)(h0:1<=F.m.on u m):FWf R (finF F u m):=by
  have a:∀ v l,(finF F u m).m.on v l=if v=u/\l=m then F.m.on u m - 1 else F.m.on v l:=fun v l=>rfl
  have c:∀ v,runs (finF F u m).m v=if v=u then runs F.m u - 1 else runs F.m v:=fun v=>by
    by_cases e:v=u
    · subst e;rw[if_pos rfl];have:=jA2 (f:=(finF F v m).m.on v) (g:=F.m.on v) hm (fun i _ hne=>by rw[a,if_neg (fun h5=>hne h5.2)]);show Por.sumI ((finF F v m).m.on v) 8=_;rw[this,a,if_pos ⟨rfl,rfl⟩];show Por.sumI (F.m.on v) 8 + _=Por.sumI (F.m.on v) 8 - 1;omega
    · rw[if_neg e];exact jAp (fun i _=>by rw[a,if_neg (fun h5=>e h5.1)])
  exact { h with
    on := fun v hv l hl => by
      rw [a]; split
      · omega
      · exact h.on v hv l hl
    none := fun v hv hn => by
      have b := h.none v hv hn
      have k := h.wait v hv
      have d := h.runs0 hv
      have e : v ≠ u := fun e => by
        subst e
        have := jBu (f := F.m.on v) (n := 8) (fun j hj => h.on v hv j hj) hm
        unfold runs at b d; omega
      rw [c, if_neg e]; exact b
    gone := fun l hl hg v hv => by
      rw [a, if_neg (fun h5 => by have := h.gone l hl hg v hv; rw [h5.1, h5.2] at this; omega)]; exact h.gone l hl hg v hv
    room := fun l hl r hr' => by
      refine Int.le_trans (jD0 (fun v hv => ?_)) (h.room l hl r hr')
      refine Int.mul_le_mul_of_nonneg_left ?_ (h.ud v hv r hr').1
      rw [a]; split
      · rename_i e; rw [e.1, e.2]; omega
      · exact Int.le_refl _
    tot := fun v hv => by
      rw [c]
      have := h.tot v hv
      split
      · rename_i e; subst e; show F.m.wait v + _ <= _; omega
      · exact this }
theorem FWf.chg {R:Int} {F:Flt} (h:FWf R F) {u:Nat} (hu:u<6) (ht:F.ut u=true) {wt cp:Int} (hw:1<=wt/\wt<=100) (hc:0<=cp/\cp<=1000):FWf R (chgF F u wt cp):=
  { h with
    uw:=fun v hv=>by
      show 0<=zF F.uw u wt v/\zF F.uw u wt v<=100
      unfold zF;split
      · omega
      · exact h.uw v hv
    uw1:=fun v hv hn=>by
      show 1<=zF F.uw u wt v
      unfold zF;split
      · omega
      · exact h.uw1 v hv hn
    uc:=fun v hv=>by
      show 0<=zF F.uc u cp v/\zF F.uc u cp v<=1000
      unfold zF;split
      · omega
      · exact h.uc v hv }
theorem FWf.addM {R:Int}{F:Flt}(h:FWf R F)(hg:F.mg<8){xs:List Int}(hl:xs.length=F.k)(hx:∀ r,r<F.k->0<=lm xs r/\lm xs r<=1000):FWf R (addMF F xs):=by
  have g:F.mt F.mg=false:=by
    cases e:F.mt F.mg with
    | false=>rfl
    | true=>have:=h.mt F.mg hg e;omega
  (have a:∀ i,(addMF F xs).ms i=if i=F.mg then zm xs else F.ms i:=fun i=>rfl);have c:∀ i,(addMF F xs).mt i=if i=F.mg then true else F.mt i:=fun i=>rfl
  have f:∀ r,0<=zm xs r/\zm xs r<=1000:=fun r=>by
    unfold zm;by_cases b:r<F.k
    · exact hx r b
    · rw[jKM (by omega)];omega
  exact { h with
    mg := by show F.mg + 1 <= 8; omega
    mt := fun i hi ht => by
      show i < F.mg + 1
      rw [c] at ht; split at ht
      · omega
      · have := h.mt i hi ht; omega
    ms := fun i hi r b => by
      rw [a]; split
      · exact f r
      · exact h.ms i hi r b
    msz := fun i hi ht r b => by
      rw [c] at ht; split at ht
      · cases ht
      · rename_i e; rw [a, if_neg e]; exact h.msz i hi ht r b
    msk := fun i hi r b d => by
      have d : F.k <= r := d
      rw [a]; split
      · exact jKM (by omega)
      · exact h.msk i hi r b d
    gone := fun m hm ht u hu => by
      rw [c] at ht; split at ht
      · cases ht
      · exact h.gone m hm ht u hu
    room := fun m hm r b => by
      rw [a]; split
      · rename_i e
        refine Int.le_trans (Int.le_of_eq (jAY (fun u hu => ?_))) (f r).1
        show F.ud u r * F.m.on u m = 0
        rw [h.gone m hm (by rw [e]; exact g) u hu, Int.mul_zero]
      · exact h.room m hm r b }
theorem FWf.addU {R:Int}{F:Flt}(h:FWf R F)(hR:0<=R)(hg:F.ug<6){U:Usr}(hU:yN F.k U=true):FWf R (ye F U):=by
  unfold yN at hU;simp only[Bool.and_eq_true,decide_eq_true_eq] at hU;obtain ⟨⟨⟨H,I⟩,w⟩,d⟩:=hU
  have l:F.ut F.ug=false:=by
    cases e:F.ut F.ug with
    | false=>rfl
    | true=>have:=h.ut F.ug hg e;omega
  (have b:∀ v,(ye F U).ud v=if v=F.ug then zm U.dem else F.ud v:=fun v=>rfl);(have c:∀ v,(ye F U).ut v=if v=F.ug then true else F.ut v:=fun v=>rfl);(have g:∀ v,(ye F U).m.wait v=if v=F.ug then 0 else F.m.wait v:=fun v=>rfl);(have a:∀ v,(ye F U).m.on v=if v=F.ug then (fun _=>0) else F.m.on v:=fun v=>rfl);(have q:∀ v,(ye F U).m.rev v=if v=F.ug then 0 else F.m.rev v:=fun v=>rfl);have s:∀ v,(ye F U).used v=if v=F.ug then (fun _=>0) else F.used v:=fun v=>rfl
  have o:∀ v,runs (ye F U).m v=if v=F.ug then 0 else runs F.m v:=fun v=>by
    unfold runs;rw[a];by_cases e:v=F.ug
    · rw[if_pos e,if_pos e];exact jAY (fun _ _=>rfl)
    · rw[if_neg e,if_neg e]
  have B:=h.none F.ug hg l;(have u:∀ m,m<8->F.m.on F.ug m=0:=fun m hm=>by have C:=h.wait F.ug hg;have D:=h.on F.ug hg m hm;have E:=jBu (f:=F.m.on F.ug) (n:=8) (fun j hj=>h.on F.ug hg j hj) hm;unfold runs at B;omega);have y:∀ r,0<=zm U.dem r/\zm U.dem r<=10000:=fun r=>by unfold zm;have:=jGq w r;unfold yE at this;exact of_decide_eq_true this
  exact { h with
    ug := by show F.ug + 1 <= 6; omega
    ut := fun v hv ht => by
      show v < F.ug + 1
      rw [c] at ht; split at ht
      · omega
      · have := h.ut v hv ht; omega
    ud := fun v hv r hr => by
      rw [b]; split
      · exact y r
      · exact h.ud v hv r hr
    udk := fun v hv r hr p => by
      have p : F.k <= r := p
      rw [b]; split
      · exact jKM (by omega)
      · exact h.udk v hv r hr p
    want := fun v hv ht => by
      rw [b]; rw [c] at ht
      by_cases e : v = F.ug
      · rw [if_pos e]
        unfold xN at d
        rw [List.any_eq_true] at d
        obtain ⟨x, A, t⟩ := d
        obtain ⟨i, z, rfl⟩ := List.getElem_of_mem A
        refine ⟨i, by show i < F.k; omega, ?_⟩
        unfold zm lm
        rw [List.getD_eq_getElem?_getD, List.getElem?_eq_getElem z]
        exact of_decide_eq_true t
      · rw [if_neg e]; rw [if_neg e] at ht; exact h.want v hv ht
    uw := fun v hv => by
      show 0 <= zF F.uw F.ug U.wt v /\ zF F.uw F.ug U.wt v <= 100
      unfold zF; split
      · omega
      · exact h.uw v hv
    uw1 := fun v hv l => by
      show 1 <= zF F.uw F.ug U.wt v
      rw [c] at l
      unfold zF; split
      · omega
      · rename_i e; rw [if_neg e] at l; exact h.uw1 v hv l
    uc := fun v hv => by
      show 0 <= zF F.uc F.ug U.cap v /\ zF F.uc F.ug U.cap v <= 1000
      unfold zF; split
      · omega
      · exact h.uc v hv
    on := fun v hv m hm => by
      rw [a]; split
      · exact Int.le_refl _
      · exact h.on v hv m hm
    wait := fun v hv => by
      rw [g]; split
      · exact Int.le_refl _
      · exact h.wait v hv
    none := fun v hv ht => by
      rw [c] at ht
      rw [g, o]
      by_cases e : v = F.ug
      · rw [if_pos e] at ht; cases ht
      · rw [if_neg e] at ht; rw [if_neg e, if_neg e]; exact h.none v hv ht
    gone := fun m hm ht v hv => by
      rw [a]; split
      · rfl
      · exact h.gone m hm ht v hv
    room := fun m hm r hr => by
      refine Int.le_trans (Int.le_of_eq (jAp (fun v hv => ?_))) (h.room m hm r hr)
      show (ye F U).ud v r * (ye F U).m.on v m = F.ud v r * F.m.on v m
      rw [b, a]
      by_cases e : v = F.ug
      · rw [if_pos e, if_pos e, e, u m hm]; simp
      · rw [if_neg e, if_neg e]
    tot := fun v hv => by
      rw [g, o]
      by_cases e : v = F.ug
      · rw [if_pos e, if_pos e]; omega
      · rw [if_neg e, if_neg e]; exact h.tot v hv
    rev := fun v hv => by
      rw [q]; split
      · omega
      · exact h.rev v hv
    used := fun v hv r hr => by
      rw [s]
      have G : 0 <= F.ck := h.ck.1
      split
      · show (0 : Int) <= 0 /\ (0 : Int) <= 400000 * F.ck
        omega
      · exact h.used v hv r hr }
theorem FWf.dropU {R:Int}{F:Flt}(h:FWf R F){u:Nat}(hu:u<6):FWf R (yr F u):=by
  (have b:∀ v,(yr F u).ud v=if v=u then (fun _=>0) else F.ud v:=fun v=>rfl);(have c:∀ v,(yr F u).ut v=if v=u then false else F.ut v:=fun v=>rfl);(have d:∀ v,(yr F u).m.wait v=if v=u then 0 else F.m.wait v:=fun v=>rfl);have a:∀ v,(yr F u).m.on v=if v=u then (fun _=>0) else F.m.on v:=fun v=>rfl
  have f:∀ v,runs (yr F u).m v=if v=u then 0 else runs F.m v:=fun v=>by
    unfold runs;rw[a];by_cases e:v=u
    · rw[if_pos e,if_pos e];exact jAY (fun _ _=>rfl)
    · rw[if_neg e,if_neg e]
  exact { h with
    ut := fun v hv ht => by
      rw [c] at ht; split at ht
      · cases ht
      · exact h.ut v hv ht
    ud := fun v hv r hr => by
      rw [b]; split
      · show (0 : Int) <= 0 /\ (0 : Int) <= 10000; omega
      · exact h.ud v hv r hr
    udk := fun v hv r hr hk => by
      rw [b]; split
      · rfl
      · exact h.udk v hv r hr hk
    want := fun v hv ht => by
      rw [b]; rw [c] at ht
      by_cases e : v = u
      · rw [if_pos e] at ht; cases ht
      · rw [if_neg e]; rw [if_neg e] at ht; exact h.want v hv ht
    uw := fun v hv => by
      show 0 <= zF F.uw u 0 v /\ zF F.uw u 0 v <= 100
      unfold zF; split
      · omega
      · exact h.uw v hv
    uw1 := fun v hv hn => by
      show 1 <= zF F.uw u 0 v
      rw [c] at hn
      unfold zF; split
      · rename_i e; rw [if_pos e] at hn; cases hn
      · rename_i e; rw [if_neg e] at hn; exact h.uw1 v hv hn
    uc := fun v hv => by
      show 0 <= zF F.uc u 0 v /\ zF F.uc u 0 v <= 1000
      unfold zF; split
      · omega
      · exact h.uc v hv
    on := fun v hv m hm => by
      rw [a]; split
      · exact Int.le_refl _
      · exact h.on v hv m hm
    wait := fun v hv => by
      rw [d]; split
      · exact Int.le_refl _
      · exact h.wait v hv
    none := fun v hv ht => by
      rw [c] at ht
      rw [d, f]
      by_cases e : v = u
      · rw [if_pos e, if_pos e]; rfl
      · rw [if_neg e] at ht; rw [if_neg e, if_neg e]; exact h.none v hv ht
    gone := fun m hm ht v hv => by
      rw [a]; split
      · rfl
      · exact h.gone m hm ht v hv
    room := fun m hm r hr => by
      refine Int.le_trans (jD0 (fun v hv => ?_)) (h.room m hm r hr)
      show (yr F u).ud v r * (yr F u).m.on v m <= F.ud v r * F.m.on v m
      rw [b, a]
      by_cases e : v = u
      · rw [if_pos e, if_pos e]
        show (0 : Int) * 0 <= _
        rw [Int.mul_zero]; exact Int.mul_nonneg (h.ud v hv r hr).1 (h.on v hv m hm)
      · rw [if_neg e, if_neg e]; exact Int.le_refl _
    tot := fun v hv => by
      rw [d, f]
      by_cases e : v = u
      · rw [if_pos e, if_pos e]; omega
      · rw [if_neg e, if_neg e]; exact h.tot v hv }
theorem jEd {s:FM}{m:Nat}(hm:m<8){u:Nat}(hu:u<6):runs (offM s m 6) u=runs s u - s.on u m:=by
 have:=jA2 (f:=(offM s m 6).on u) (g:=s.on u) hm (fun i _ hne=>by show (if u<6/\i=m then 0 else s.on u i)=_;rw[if_neg (fun h5=>hne h5.2)]);show Por.sumI ((offM s m 6).on u) 8=Por.sumI (s.on u) 8 - s.on u m;rw[this];show Por.sumI (s.on u) 8+((if u<6/\m=m then 0 else s.on u m) - s.on u m)=_;rw[if_pos ⟨hu,rfl⟩];omega
theorem FWf.dropM {R:Int}{F:Flt}(h:FWf R F){m:Nat}(hm:m<8):FWf R (yb F m):=by
  (have a:∀ i,(yb F m).ms i=if i=m then (fun _=>0) else F.ms i:=fun i=>rfl);(have c:∀ i,(yb F m).mt i=if i=m then false else F.mt i:=fun i=>rfl);have d:∀ v,v<6->(yb F m).m.wait v=F.m.wait v+F.m.on v m:=fun v hv=>if_pos hv
  have b:∀ v,v<6->∀ l,(yb F m).m.on v l=if l=m then 0 else F.m.on v l:=fun v hv l=>by
    show (if v<6/\l=m then 0 else F.m.on v l)=_;by_cases e:l=m
    · rw[if_pos ⟨hv,e⟩,if_pos e]
    · rw[if_neg (fun h5=>e h5.2),if_neg e]
  have f:∀ v,v<6->runs (yb F m).m v=runs F.m v - F.m.on v m:=fun v hv=>jEd hm hv
  exact { h with
    mt := fun i hi ht => by
      rw [c] at ht; split at ht
      · cases ht
      · exact h.mt i hi ht
    ms := fun i hi r hr => by
      rw [a]; split
      · show (0 : Int) <= 0 /\ (0 : Int) <= 1000; omega
      · exact h.ms i hi r hr
    msz := fun i hi ht r hr => by
      rw [a]; rw [c] at ht
      by_cases e : i = m
      · rw [if_pos e]
      · rw [if_neg e] at ht; rw [if_neg e]; exact h.msz i hi ht r hr
    msk := fun i hi r hr hk => by
      rw [a]; split
      · rfl
      · exact h.msk i hi r hr hk
    on := fun v hv l hl => by
      rw [b v hv]; split
      · exact Int.le_refl _
      · exact h.on v hv l hl
    wait := fun v hv => by
      rw [d v hv]; have := h.wait v hv; have := h.on v hv m hm; omega
    none := fun v hv ht => by
      rw [d v hv, f v hv]; have := h.none v hv ht; omega
    gone := fun l hl ht v hv => by
      rw [b v hv]; rw [c] at ht
      by_cases e : l = m
      · rw [if_pos e]
      · rw [if_neg e] at ht; rw [if_neg e]; exact h.gone l hl ht v hv
    room := fun l hl r hr => by
      rw [a]
      by_cases e : l = m
      · rw [if_pos e]
        refine Int.le_of_eq (jAY (fun v hv => ?_))
        show F.ud v r * (yb F m).m.on v l = 0
        rw [b v hv, if_pos e, Int.mul_zero]
      · rw [if_neg e]
        refine Int.le_trans (Int.le_of_eq (jAp (fun v hv => ?_))) (h.room l hl r hr)
        show F.ud v r * (yb F m).m.on v l = F.ud v r * F.m.on v l
        rw [b v hv, if_neg e]
    tot := fun v hv => by
      rw [d v hv, f v hv]; have := h.tot v hv; omega }
theorem FWf.spare {R:Int}{F:Flt}(h:FWf R F){r:Nat}(hr:r<4):0<=zB F 8 r - Por.sumI (fun u=>F.ud u r*runs F.m u) 6:=by
 (have a:Por.sumI (fun u=>F.ud u r*runs F.m u) 6=Por.sumI (fun m=>Por.sumI (fun u=>F.ud u r*F.m.on u m) 6) 8:=by have b:Por.sumI (fun u=>F.ud u r*runs F.m u) 6=Por.sumI (fun u=>Por.sumI (fun m=>F.ud u r*F.m.on u m) 8) 6:=jAp (fun u _=>by show _=Por.sumI (fun m=>F.ud u r*F.m.on u m) 8;rw[jH1];rfl);rw[b,jJD]);have c:=jD0 (f:=fun m=>Por.sumI (fun u=>F.ud u r*F.m.on u m) 6) (g:=fun m=>F.ms m r) (n:=8) (fun m hm=>h.room m hm r hr);rw[a];change Por.sumI _ 8<=zB F 8 r at c;omega
theorem FWf.tick {R:Int} {F:Flt} (h:FWf R F) {n:Int} (h0:0<=n) (h1:F.ck+n<=1000000):FWf R (yk F n):=
  { h with
    ck:=by have:=h.ck.1;show 0<=F.ck+n/\F.ck+n<=1000000;omega
    used:=fun u hu r hr=>by
      show 0<=F.used u r+F.ud u r*runs F.m u*n/\F.used u r+F.ud u r*runs F.m u*n<=400000*(F.ck+n)
      have b:=h.used u hu r hr
      have a:=jBE (h.ud u hu r hr) (show 0<=runs F.m u/\runs F.m u<=40 from ⟨h.runs0 hu,by have:=h.tot u hu;have:=h.wait u hu;omega⟩)
      have c:=Int.mul_nonneg a.1 h0
      have d:=Int.mul_le_mul_of_nonneg_right a.2 h0
      rw[Int.mul_add]
      omega
    idle:=fun r hr=>by
      show 0<=F.idle r+(zB F 8 r - Por.sumI (fun u=>F.ud u r*runs F.m u) 6)*n/\F.idle r+(zB F 8 r - Por.sumI (fun u=>F.ud u r*runs F.m u) 6)*n<=8000*(F.ck+n)
      have b:=h.idle r hr
      have a:=h.spare hr
      have c:=h.stat.pool r hr
      have d:0<=Por.sumI (fun u=>F.ud u r*runs F.m u) 6:=jAK (fun u hu=>Int.mul_nonneg (h.ud u hu r hr).1 (h.runs0 hu))
      have e:=Int.mul_nonneg a h0
      have f:(zB F 8 r - Por.sumI (fun u=>F.ud u r*runs F.m u) 6)*n<=8000*n:=Int.mul_le_mul_of_nonneg_right (by omega) h0
      rw[Int.mul_add]
      omega }
def Ends (b:Nat)(R:Int)(F F1:Flt)(er:Int)(w w':World):Prop:=∃ G,FL w' b G/\FWf (R+9600) G/\Tab w'/\Only w.heap.size b w w'/\((er=0/\Settled F1 G)∨(er≠0/\G=F))
theorem Ends.refused {b:Nat} {R:Int} {F F1:Flt} {er:Int} {w w':World} (hf:FL w b F) (hr:FWf R F) (ht:Tab w) (hb:Below w.heap.size w w') (he:er≠0):Ends b R F F1 er w w':=
  ⟨F,hf.below hb,hr.mono (by omega),ht.below hb,Only.of_below b hb,.inr ⟨he,rfl⟩⟩
theorem Enc.setUw {M:Nat->Value}{F:Flt}(h:Enc M F){u:Nat}(hu:u<6)(x:Int):Enc (xM M (43+u*22+5) (.int .i64 x)) { F with uw:=zF F.uw u x }:=by
 refine ⟨?_,?_,?_,fun i hi=>?_,fun i hi r hr=>?_,fun v hv=>?_,fun v hv r hr=>?_,fun v hv=>?_,fun v hv=>?_,fun v hv=>?_,fun v hv m hm=>?_,fun v hv=>?_,fun v hv=>?_,fun v hv r hr=>?_,?_,fun r hr=>?_⟩
 ·rw[jAA _ _ (by omega)];exact h.k
 ·rw[jAA _ _ (by omega)];exact h.mg
 ·rw[jAA _ _ (by omega)];exact h.ug
 ·rw[jAA _ _ (by omega)];exact h.mt i hi
 ·rw[jAA _ _ (by omega)];exact h.ms i hi r hr
 ·rw[jAA _ _ (by omega)];exact h.ut v hv
 ·rw[jAA _ _ (by omega)];exact h.ud v hv r hr
 ·by_cases e:v=u
  ·subst e;rw[jAs];show _=Value.int .i64 (zF F.uw v x v);rw[jAU]
  ·rw[jAA _ _ (by omega)];show _=Value.int .i64 (zF F.uw u x v);rw[jAL _ _ e];exact h.uw v hv
 ·rw[jAA _ _ (by omega)];exact h.uc v hv
 ·rw[jAA _ _ (by omega)];exact h.wait v hv
 ·rw[jAA _ _ (by omega)];exact h.on v hv m hm
 ·rw[jAA _ _ (by omega)];exact h.due v hv
 ·rw[jAA _ _ (by omega)];exact h.rev v hv
 ·rw[jAA _ _ (by omega)];exact h.used v hv r hr
 ·rw[jAA _ _ (by omega)];exact h.ck
 ·rw[jAA _ _ (by omega)];exact h.idle r hr
theorem FL.setUw {w:World}{b:Nat}{F:Flt}(h:FL w b F){u:Nat}(hu:u<6)(x:Int):FL (w.setCell ⟨b,43+u*22+5,none⟩ (.int .i64 x)) b { F with uw:=zF F.uw u x }:=by
 obtain ⟨M,a,c⟩:=h;exact ⟨_,a.set _ _,c.setUw hu x⟩
theorem FL.cUw {w:World}{b:Nat}{F:Flt}(h:FL w b F){u:Nat}(hu:u<6):w.cell? ⟨b,43+u*22+5,none⟩=some (.int .i64 (F.uw u))/\w.frozen? ⟨b,43+u*22+5,none⟩=false:=by
 obtain ⟨M,a,c⟩:=h;rw[a.cell (by omega),c.uw u hu];exact ⟨rfl,a.frozen _⟩
theorem Enc.setUc {M:Nat->Value}{F:Flt}(h:Enc M F){u:Nat}(hu:u<6)(x:Int):Enc (xM M (43+u*22+6) (.int .i64 x)) { F with uc:=zF F.uc u x }:=by
 refine ⟨?_,?_,?_,fun i hi=>?_,fun i hi r hr=>?_,fun v hv=>?_,fun v hv r hr=>?_,fun v hv=>?_,fun v hv=>?_,fun v hv=>?_,fun v hv m hm=>?_,fun v hv=>?_,fun v hv=>?_,fun v hv r hr=>?_,?_,fun r hr=>?_⟩
 ·rw[jAA _ _ (by omega)];exact h.k
 ·rw[jAA _ _ (by omega)];exact h.mg
 ·rw[jAA _ _ (by omega)];exact h.ug
 ·rw[jAA _ _ (by omega)];exact h.mt i hi
 ·rw[jAA _ _ (by omega)];exact h.ms i hi r hr
 ·rw[jAA _ _ (by omega)];exact h.ut v hv
 ·rw[jAA _ _ (by omega)];exact h.ud v hv r hr
 ·rw[jAA _ _ (by omega)];exact h.uw v hv
 ·by_cases e:v=u
  ·subst e;rw[jAs];show _=Value.int .i64 (zF F.uc v x v);rw[jAU]
  ·rw[jAA _ _ (by omega)];show _=Value.int .i64 (zF F.uc u x v);rw[jAL _ _ e];exact h.uc v hv
 ·rw[jAA _ _ (by omega)];exact h.wait v hv
 ·rw[jAA _ _ (by omega)];exact h.on v hv m hm
 ·rw[jAA _ _ (by omega)];exact h.due v hv
 ·rw[jAA _ _ (by omega)];exact h.rev v hv
 ·rw[jAA _ _ (by omega)];exact h.used v hv r hr
 ·rw[jAA _ _ (by omega)];exact h.ck
 ·rw[jAA _ _ (by omega)];exact h.idle r hr
theorem FL.setUc {w:World}{b:Nat}{F:Flt}(h:FL w b F){u:Nat}(hu:u<6)(x:Int):FL (w.setCell ⟨b,43+u*22+6,none⟩ (.int .i64 x)) b { F with uc:=zF F.uc u x }:=by
 obtain ⟨M,a,c⟩:=h;exact ⟨_,a.set _ _,c.setUc hu x⟩
theorem FL.cUc {w:World}{b:Nat}{F:Flt}(h:FL w b F){u:Nat}(hu:u<6):w.cell? ⟨b,43+u*22+6,none⟩=some (.int .i64 (F.uc u))/\w.frozen? ⟨b,43+u*22+6,none⟩=false:=by
 obtain ⟨M,a,c⟩:=h;rw[a.cell (by omega),c.uc u hu];exact ⟨rfl,a.frozen _⟩
def subE (F:Flt)(x n:Int):Int:=if zJ F x then (if n<1∨40 - (F.m.wait x.toNat+runs F.m x.toNat)<n then 8 else 0) else 7
def canE (F:Flt)(x n:Int):Int:=if zJ F x then (if n<1∨F.m.wait x.toNat<n then 8 else 0) else 7
def finE (F:Flt)(x y:Int):Int:=if zJ F x && zi F y then (if F.m.on x.toNat y.toNat<1 then 8 else 0) else 7
def xK (F:Flt)(x wt cp:Int):Int:=if zJ F x then (if yt 1 100 wt && yt 0 1000 cp then 0 else 4) else 7
theorem jLG (b:Nat) (F:Flt) (u:Nat) (w:World) (hf:FL w b F) (hu:u<6) (hw:0<=F.m.wait u/\F.m.wait u<=1000000) (ho:∀ m,m<8->0<=F.m.on u m/\F.m.on u m<=1000000) :
    Calls Tryz.prog 71 #[.pointer (some ⟨b,43+u*22,none⟩)] w fun e w'=>e = .returned (.int .i64 (F.m.wait u+runs F.m u))/\Below w.heap.size w w':=
  jGG b (43+u*22) (F.m.wait u) (F.m.on u) w hf.lt (hf.cWait hu).1 (fun m hm=>(hf.cOn hu hm).1) hw ho
theorem Ends.of {b:Nat} {R:Int} {F F1 G:Flt} {er:Int} {w V w':World} (h0:Only w.heap.size b w V) (h1:FL w' b G) (h2:Settled F1 G) (h3:FWf (R+9600) G) (h4:Tab w') (h5:Only V.heap.size b V w') (he:er=0):Ends b R F F1 er w w':=
  ⟨G,h1,h3,h4,h0.trans (h5.mono h0.size),.inl ⟨he,h2⟩⟩
theorem Submit_any (b:Nat)(R:Int)(F:Flt)(x n:Int)(w:World)(hf:FL w b F)(hr:FWf R F)(hR:R<=999999999999990000)(ht:Tab w):Calls Tryz.prog 51 #[.pointer (some ⟨b,0,none⟩),.int .i64 x,.int .i64 n] w fun e w'=>e = .returned (.int .i64 (subE F x n))/\Ends b R F (subF F x.toNat n) (subE F x n) w w':=by
 have a:=hid hf;have i:=hid hr;have Q:=hid ht;have s:=hid (brw w);clear hf hr ht;go_enter Tryz.func51,Tryz.ntmps51;go_wp2_with fail;refine (jBA b F x _ a.out).mono ?_;rintro e1 w1 ⟨rfl,J⟩;obtain rfl:=J.symm
 cases H:zJ F x with
 | false=>(have d:Hid (subE F x n=7):=by unfold Hid subE;rw[H];rfl);clear H;go_wp2;go_ret;exact ⟨by rw[d.out];rfl,by rw[d.out];exact Ends.refused a.out i.out Q.out s.out (by decide)⟩
 | true=>
  obtain ⟨u,rfl,j,N⟩:=jBC H;(have ad:(u:Int)<6:=by omega);have Y:=hid N;have U:=hid H;clear N H;(have M:(u:Int).toNat=u:=by omega);have k:=hid M;clear M;have lb:=a.out.lt;by_cases S:n<1
  ·(have d:Hid (subE F u n=8):=by unfold Hid subE;rw[U.out];simp only[if_true];rw[if_pos (.inl S)]);have d1:decide (n<1)=true:=decide_eq_true S;go_wp2;go_ret;exact ⟨by rw[d.out];rfl,by rw[d.out];exact Ends.refused a.out i.out Q.out s.out (by decide)⟩
  ·have d1:decide (n<1)=false:=decide_eq_false S;have f:=hid (i.out.wait40 j);have X:=hid (i.out.runs0 j);have C:=hid (i.out.tot u j);go_wp2_with fail;refine (jLG b F u _ a.out j (by have:=f.out;omega) (fun m hm=>by have:=i.out.on40 j hm;omega)).mono ?_;rintro e2 P ⟨rfl,D⟩;have g:=hid D;clear D;obtain ⟨ts,p⟩:∃ t,F.m.wait u+runs F.m u=t:=⟨_,rfl⟩;rw[p];(have ab:0<=ts/\ts<=40:=by have S:=f.out;have h2:=X.out;have h3:=C.out;omega);have l:=hid p;clear p;by_cases h2:40 - ts<n
   ·(have d:Hid (subE F u n=8):=by unfold Hid subE;rw[U.out];simp only[if_true];rw[k.out,l.out];rw[if_pos (.inr h2)]);go_wp2;go_ret;exact ⟨by rw[d.out];rfl,by rw[d.out];exact Ends.refused a.out i.out Q.out g.out (by decide)⟩
   ·(have d:Hid (subE F u n=0):=by unfold Hid subE;rw[U.out];simp only[if_true];rw[k.out,l.out];rw[if_neg (by omega)]);(go_upto_region 5 with fail);have h:=hid (a.out.below g.out);have Z:=hid (Q.out.below g.out);have W:=hid (Only.of_below b g.out);obtain ⟨r,q⟩:∃ t,F.m.wait u=t:=⟨_,rfl⟩;obtain ⟨c0,z0⟩:=h.out.cWait j;have aa:=f.out;rw[q] at c0 aa;have o:=hid q;clear q;have ae:=h.out.lt;go_region;clear c0 z0;(have v:Hid (FL (P.setCell ⟨b,43+u*22+7,none⟩ (.int .i64 (r+n))) b (subF F u n)):=by have h9:=h.out.setWait j (r+n);rw[<- o.out] at h9 ⊢;exact h9);have c:=hid (W.out.setCell _ (43+u*22+7) (.int .i64 (r+n)));have A:Hid (Tab (P.setCell ⟨b,43+u*22+7,none⟩ (.int .i64 (r+n)))):=Z.out.only h.out ((Only.refl P.heap.size b P).setCell _ (43+u*22+7) (.int .i64 (r+n))) (Nat.le_refl _);(go_upto_region 6 with fail);obtain ⟨V3,hV⟩:∃ V,V=(P.setCell ⟨b,43+u*22+7,none⟩ (.int .i64 (r+n))):=⟨_,rfl⟩;rw[<- hV] at v c A ⊢;clear hV;have y:Hid (FL V3.drew b _):=v.out;have z:Hid (Only w.heap.size b w V3.drew):=⟨c.out.os,c.out.tape,c.out.output,c.out.size,c.out.block⟩;have B:Hid (Tab V3.drew):=A.out.drew;go_wp2_with fail;refine (jBf b R (subF F u n) _ y.out (i.out.sub j Y.out (by have h3:=o.out;have h4:=f.out;omega) (by have h3:=l.out;have h4:=o.out;have h5:=f.out;have h6:=C.out;omega)) hR B.out).mono ?_;rintro e9 w9 ⟨rfl,G,E,K,O,L,I⟩;have T:=hid (Ends.of (F:=F) (er:=0) z.out E K O L I rfl);clear E K O L I;go_wp2;go_ret;exact ⟨by rw[d.out];rfl,by rw[d.out,k.out];exact T.out⟩
theorem Cancel_any (b:Nat)(R:Int)(F:Flt)(x n:Int)(w:World)(hf:FL w b F)(hr:FWf R F)(hR:R<=999999999999990000)(ht:Tab w):Calls Tryz.prog 50 #[.pointer (some ⟨b,0,none⟩),.int .i64 x,.int .i64 n] w fun e w'=>e = .returned (.int .i64 (canE F x n))/\Ends b R F (subF F x.toNat (-n)) (canE F x n) w w':=by
 have a:=hid hf;have i:=hid hr;have L:=hid ht;have f:=hid (brw w);clear hf hr ht;go_enter Tryz.func50,Tryz.ntmps50;go_wp2_with fail;refine (jBA b F x _ a.out).mono ?_;rintro e1 w1 ⟨rfl,D⟩;obtain rfl:=D.symm
 cases B:zJ F x with
 | false=>(have d:Hid (canE F x n=7):=by unfold Hid canE;rw[B];rfl);clear B;go_wp2;go_ret;exact ⟨by rw[d.out];rfl,by rw[d.out];exact Ends.refused a.out i.out L.out f.out (by decide)⟩
 | true=>
  obtain ⟨u,rfl,p,J⟩:=jBC B;(have ab:(u:Int)<6:=by omega);have Q:=hid J;have N:=hid B;clear J B;(have I:(u:Int).toNat=u:=by omega);have g:=hid I;clear I;have lb:=a.out.lt;by_cases U:n<1
  ·(have d:Hid (canE F u n=8):=by unfold Hid canE;rw[N.out];simp only[if_true];rw[if_pos (.inl U)]);have d1:decide (n<1)=true:=decide_eq_true U;go_wp2;go_ret;exact ⟨by rw[d.out];rfl,by rw[d.out];exact Ends.refused a.out i.out L.out f.out (by decide)⟩
  ·have d1:decide (n<1)=false:=decide_eq_false U;have k:=hid (i.out.wait40 p);have aa:=hid (i.out.runs0 p);have P:=hid (i.out.tot u p);obtain ⟨o,l⟩:∃ t,F.m.wait u=t:=⟨_,rfl⟩;obtain ⟨Y,z0⟩:=a.out.cWait p;have X:=k.out;rw[l] at Y X;have h:=hid l;clear l;by_cases h2:o<n
   ·(have d:Hid (canE F u n=8):=by unfold Hid canE;rw[N.out];simp only[if_true];rw[g.out,h.out];rw[if_pos (.inr h2)]);go_wp2;go_ret;exact ⟨by rw[d.out];rfl,by rw[d.out];exact Ends.refused a.out i.out L.out f.out (by decide)⟩
   ·(have d:Hid (canE F u n=0):=by unfold Hid canE;rw[N.out];simp only[if_true];rw[g.out,h.out];rw[if_neg (by omega)]);(go_upto_region 5 with fail);have s:=a;have S:=L;have O:=hid (Only.refl w.heap.size b w);have j:=h;go_region;clear Y z0;(have q:Hid (FL (w.setCell ⟨b,43+u*22+7,none⟩ (.int .i64 (o - n))) b (subF F u (-n))):=by have W:=s.out.setWait p (o - n);rw[<- j.out] at W ⊢;rw[show F.m.wait u - n=F.m.wait u + -n by omega] at W ⊢;exact W);have c:=hid (O.out.setCell _ (43+u*22+7) (.int .i64 (o - n)));have y:Hid (Tab (w.setCell ⟨b,43+u*22+7,none⟩ (.int .i64 (o - n)))):=S.out.only s.out ((Only.refl w.heap.size b w).setCell _ (43+u*22+7) (.int .i64 (o - n))) (Nat.le_refl _);(go_upto_region 6 with fail);obtain ⟨T,Z⟩:∃ V,V=(w.setCell ⟨b,43+u*22+7,none⟩ (.int .i64 (o - n))):=⟨_,rfl⟩;rw[<- Z] at q c y ⊢;clear Z;have r:Hid (FL T.drew b _):=q.out;have v:Hid (Only w.heap.size b w T.drew):=⟨c.out.os,c.out.tape,c.out.output,c.out.size,c.out.block⟩;have z:Hid (Tab T.drew):=y.out.drew;go_wp2_with fail;refine (jBf b R (subF F u (-n)) _ r.out (i.out.sub p Q.out (by have h3:=j.out;have h4:=k.out;omega) (by have h3:=P.out;have h4:=j.out;have h5:=k.out;omega)) hR z.out).mono ?_;rintro e9 w9 ⟨rfl,G,A,E,K,H,C⟩;have M:=hid (Ends.of (F:=F) (er:=0) v.out A E K H C rfl);clear A E K H C;go_wp2;go_ret;exact ⟨by rw[d.out];rfl,by rw[d.out,g.out];exact M.out⟩
theorem Finish_any (b:Nat)(R:Int)(F:Flt)(x y:Int)(w:World)(hf:FL w b F)(hr:FWf R F)(hR:R<=999999999999990000)(ht:Tab w):Calls Tryz.prog 49 #[.pointer (some ⟨b,0,none⟩),.int .i64 x,.int .i64 y] w fun e w'=>e = .returned (.int .i64 (finE F x y))/\Ends b R F (finF F x.toNat y.toNat) (finE F x y) w w':=by
 have a:=hid hf;have s:=hid hr;have K:=hid ht;have h:=hid (brw w);clear hf hr ht;go_enter Tryz.func49,Tryz.ntmps49;go_wp2_with fail;refine (jBA b F x _ a.out).mono ?_;rintro e1 w1 ⟨rfl,B⟩;obtain rfl:=B.symm
 cases k:zJ F x with
 | false=>(have d:Hid (finE F x y=7):=by unfold Hid finE;rw[k];rfl);clear k;go_wp2;go_ret;exact ⟨by rw[d.out];rfl,by rw[d.out];exact Ends.refused a.out s.out K.out h.out (by decide)⟩
 | true=>
  go_wp2_with fail;refine (jB6 b F y _ a.out).mono ?_;rintro e2 w2 ⟨rfl,C⟩;obtain rfl:=C.symm
  cases z:zi F y with
  | false=>(have d:Hid (finE F x y=7):=by unfold Hid finE;rw[k,z];rfl);clear k z;go_wp2;go_ret;exact ⟨by rw[d.out];rfl,by rw[d.out];exact Ends.refused a.out s.out K.out h.out (by decide)⟩
  | true=>
   obtain ⟨u,rfl,L,T⟩:=jBC k;obtain ⟨m,rfl,f,g⟩:=jC5 z;(have ab:(u:Int)<6:=by omega);(have aa:(m:Int)<8:=by omega);have U:=hid k;have W:=hid z;clear T g k z;(have H:(u:Int).toNat=u:=by omega);(have g:(m:Int).toNat=m:=by omega);have j:=hid H;have i:=hid g;clear H g;have lb:=a.out.lt;have N:=hid (s.out.on40 L f);obtain ⟨q,Q⟩:∃ t,F.m.on u m=t:=⟨_,rfl⟩;obtain ⟨X,z0⟩:=a.out.cOn L f;have S:=N.out;rw[Q] at X S;have J:=hid Q;clear Q;by_cases Y:q<1
   ·(have d:Hid (finE F u m=8):=by unfold Hid finE;rw[U.out,W.out];simp only[Bool.and_self,if_true];rw[j.out,i.out,J.out,if_pos Y]);go_wp2;go_ret;exact ⟨by rw[d.out];rfl,by rw[d.out];exact Ends.refused a.out s.out K.out h.out (by decide)⟩
   ·(have d:Hid (finE F u m=0):=by unfold Hid finE;rw[U.out,W.out];simp only[Bool.and_self,if_true];rw[j.out,i.out,J.out,if_neg Y]);(go_upto_region 5 with fail);have O:=hid (Only.refl w.heap.size b w);go_region;clear X z0;(have l:Hid (FL (w.setCell ⟨b,43+u*22+8+m,none⟩ (.int .i64 (q - 1))) b (finF F u m)):=by have Z:=a.out.setOn L f (q - 1);rw[<- J.out] at Z ⊢;exact Z);have c:=hid (O.out.setCell _ (43+u*22+8+m) (.int .i64 (q - 1)));have p:Hid (Tab (w.setCell ⟨b,43+u*22+8+m,none⟩ (.int .i64 (q - 1)))):=K.out.only a.out ((Only.refl w.heap.size b w).setCell _ (43+u*22+8+m) (.int .i64 (q - 1))) (Nat.le_refl _);(go_upto_region 6 with fail);obtain ⟨P,hV⟩:∃ V,V=(w.setCell ⟨b,43+u*22+8+m,none⟩ (.int .i64 (q - 1))):=⟨_,rfl⟩;rw[<- hV] at l c p ⊢;clear hV;have n:Hid (FL P.drew b _):=l.out;have o:Hid (Only w.heap.size b w P.drew):=⟨c.out.os,c.out.tape,c.out.output,c.out.size,c.out.block⟩;have r:Hid (Tab P.drew):=p.out.drew;go_wp2_with fail;refine (jBf b R (finF F u m) _ n.out (s.out.fin L f (by have h3:=J.out;omega)) hR r.out).mono ?_;rintro e9 w9 ⟨rfl,G,v,D,I,E,A⟩;have M:=hid (Ends.of (F:=F) (er:=0) o.out v D I E A rfl);clear v D I E A;go_wp2;go_ret;exact ⟨by rw[d.out];rfl,by rw[d.out,j.out,i.out];exact M.out⟩
theorem Change_any (b:Nat)(R:Int)(F:Flt)(x wt cp:Int)(w:World)(hf:FL w b F)(hr:FWf R F)(hR:R<=999999999999990000)(ht:Tab w):Calls Tryz.prog 47 #[.pointer (some ⟨b,0,none⟩),.int .i64 x,.int .i64 wt,.int .i64 cp] w fun e w'=>e = .returned (.int .i64 (xK F x wt cp))/\Ends b R F (chgF F x.toNat wt cp) (xK F x wt cp) w w':=by
 have a:=hid hf;have H:=hid hr;have E:=hid ht;have h:=hid (brw w);clear hf hr ht;go_enter Tryz.func47,Tryz.ntmps47;go_wp2_with fail;refine (jBA b F x _ a.out).mono ?_;rintro U w1 ⟨rfl,s⟩;obtain rfl:=s.symm
 cases f:zJ F x with
 | false=>(have c:Hid (xK F x wt cp=7):=by unfold Hid xK;rw[f];rfl);clear f;go_wp2;go_ret;exact ⟨by rw[c.out];rfl,by rw[c.out];exact Ends.refused a.out H.out E.out h.out (by decide)⟩
 | true=>
  go_wp2_with fail;refine (jB2 wt _).mono ?_;rintro W w2 ⟨rfl,t⟩;obtain rfl:=t.symm
  cases g:yt 1 100 wt with
  | false=>(have c:Hid (xK F x wt cp=4):=by unfold Hid xK;rw[f,g];rfl);clear f g;go_wp2;go_ret;exact ⟨by rw[c.out];rfl,by rw[c.out];exact Ends.refused a.out H.out E.out h.out (by decide)⟩
  | true=>
   go_wp2_with fail;refine (jE4 cp _).mono ?_;rintro X w3 ⟨rfl,v⟩;obtain rfl:=v.symm
   cases i:yt 0 1000 cp with
   | false=>(have c:Hid (xK F x wt cp=4):=by unfold Hid xK;rw[f,g,i];rfl);clear f g i;go_wp2;go_ret;exact ⟨by rw[c.out];rfl,by rw[c.out];exact Ends.refused a.out H.out E.out h.out (by decide)⟩
   | true=>(have c:Hid (xK F x wt cp=0):=by unfold Hid xK;rw[f,g,i];rfl);(have N:Hid (1<=wt/\wt<=100):=by unfold yt at g;unfold Hid;simpa using g);(have I:Hid (0<=cp/\cp<=1000):=by unfold yt at i;unfold Hid;simpa using i);obtain ⟨u,rfl,C,B⟩:=jBC f;have M:=hid B;(have Q:(u:Int)<6:=by omega);clear B f g i;(have A:(u:Int).toNat=u:=by omega);have L:=hid A;clear A;have Z:=a.out.lt;obtain ⟨O,P⟩:=a.out.cUw C;have K:=hid (Only.refl w.heap.size b w);have d:Hid (FL (w.setCell ⟨b,43+u*22+5,none⟩ (.int .i64 wt)) b ({ F with uw:=zF F.uw u wt })):=a.out.setUw C wt;have k:=hid (K.out.setCell _ (43+u*22+5) (.int .i64 wt));have m:Hid (Tab (w.setCell ⟨b,43+u*22+5,none⟩ (.int .i64 wt))):=E.out.only a.out ((Only.refl w.heap.size b w).setCell _ (43+u*22+5) (.int .i64 wt)) (Nat.le_refl _);(go_upto_region 6 with fail);clear O P;obtain ⟨o,p⟩:∃ V,V=(w.setCell ⟨b,43+u*22+5,none⟩ (.int .i64 wt)):=⟨_,rfl⟩;rw[<- p] at d k m ⊢;clear p;have S:=d.out.lt;obtain ⟨O,P⟩:=d.out.cUc C;have j:Hid (FL (o.setCell ⟨b,43+u*22+6,none⟩ (.int .i64 cp)) b (chgF F u wt cp)):=d.out.setUc C cp;have l:=hid (k.out.setCell _ (43+u*22+6) (.int .i64 cp));have n:Hid (Tab (o.setCell ⟨b,43+u*22+6,none⟩ (.int .i64 cp))):=m.out.only d.out ((Only.refl o.heap.size b o).setCell _ (43+u*22+6) (.int .i64 cp)) (Nat.le_refl _);(go_upto_region 7 with fail);clear O P;obtain ⟨T,p⟩:∃ V,V=(o.setCell ⟨b,43+u*22+6,none⟩ (.int .i64 cp)):=⟨_,rfl⟩;rw[<- p] at j l n ⊢;clear p;go_wp2_with fail;refine (jBf b R (chgF F u wt cp) _ j.out (H.out.chg C M.out N.out I.out) hR n.out).mono ?_;rintro Y w9 ⟨rfl,G,q,y,D,z,r⟩;have J:=hid (Ends.of (F:=F) (er:=0) l.out q y D z r rfl);clear q y D z r;go_wp2;go_ret;exact ⟨by rw[c.out];rfl,by rw[c.out,L.out];exact J.out⟩
end Go.Proofs.YtigokanoflkinabGreatDoor
