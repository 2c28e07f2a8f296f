/- BkA, BkB, BkC, BkD, joined. -/
import Derived.Test.YtigokanoflkinabGreatDoorCmFI
namespace Go.Proofs.YtigokanoflkinabGreatDoor
set_option linter.unusedSimpArgs false
set_option linter.unusedVariables false
open Go.RowKit Por
structure Bk where
  k:Nat
  sz:List (Option (List Int))
  us:List Usr
  here:List Bool
  live:List Int
  ck:Int
  sp:List Int
def Apart (a c:Value):Prop:=∀ g,a.ownBlock=some g->c.ownBlock≠some g
theorem Apart.symm {a c:Value}(h:Apart a c):Apart c a:=fun g hg h2=>h g h2 hg
abbrev bcells (fb:Nat)(S:Bk)(sv uv hv lv pv:Value):Array Value:=#[.pointer (some ⟨fb,0,none⟩),.int .i64 S.k,sv,uv,hv,lv,.int .i64 S.ck,pv,.bool false]
structure BkM (base:Nat)(w:World)(b fb:Nat)(S:Bk)(sv uv hv lv pv:Value)(ss:List Value)(ps:List (Value×Usr)):Prop where
  box:Bx w b (bcells fb S sv uv hv lv pv) 39
  low:base<=b
  size:w.ownsRow base 28 1 sv ss.length ss
  sl:ss.length=S.sz.length
  sz:∀ (i:Nat) (l:List Int),S.sz[i]? = some (some l)->∃ v,ss[i]? = some v/\Li base w v l
  sn:∀ (i:Nat),S.sz[i]? = some none->ss[i]? = some (.slice none 0 0)
  users:UOw base w uv ps
  us:ps.map (·.2)=S.us
  here:w.ownsRow base 4 1 hv S.here.length (S.here.map Value.bool)
  live:Li base w lv S.live
  sp:Li base w pv S.sp
  lp:Apart lv pv
  ls:∀ v,v∈ss->Apart lv v
  ld:∀ p,p∈ps->Apart lv p.1
  psz:∀ v,v∈ss->Apart pv v
  pd:∀ p,p∈ps->Apart pv p.1
def BK (base:Nat)(w:World)(b fb:Nat)(S:Bk):Prop:=∃ sv uv hv lv pv ss ps,BkM base w b fb S sv uv hv lv pv ss ps
theorem jCR {base T size n B fb:Nat}{w w':World}{F:Flt}{v:Value}{xs:List Value}(h:w.ownsRow base T size v n xs)(hf:FL w fb F)(hT:T≠77)(ho:Only B fb w w')(hB:w.heap.size<=B):w'.ownsRow base T size v n xs:=by
 refine ⟨h.1,?_⟩;rcases h.2 with c | ⟨g,a,b,c,e,d,f⟩
 ·exact .inl c
 ·have i:=(Array.getElem?_eq_some_iff.1 d).1;exact .inr ⟨g,a,b,c,e,(ho.block g (by omega) (hf.ne_of d hT)).trans d,f⟩
theorem UOw.onlyF {base B fb:Nat} {w w':World} {F:Flt} {v:Value} {ps:List (Value×Usr)} (h:UOw base w v ps) (hf:FL w fb F) (ho:Only B fb w w') (hB:w.heap.size<=B):UOw base w' v ps:=
  ⟨jCR h.1 hf (by decide) ho hB,fun p hp=>jCR (h.2 p hp) hf (by decide) ho hB⟩
theorem BkM.below {base:Nat} {w w':World} {b fb:Nat} {S:Bk} {sv uv hv lv pv:Value} {ss:List Value} {ps:List (Value×Usr)} (h:BkM base w b fb S sv uv hv lv pv ss ps) (hb:Below w.heap.size w w'):BkM base w' b fb S sv uv hv lv pv ss ps:=
  { h with
    box:=h.box.keep hb
    size:=jAT h.size hb
    sz:=fun i l e=>by obtain ⟨v,h1,h2⟩:=h.sz i l e;exact ⟨v,h1,h2.below hb⟩
    users:=h.users.below hb
    here:=jAT h.here hb
    live:=h.live.below hb
    sp:=h.sp.below hb }
theorem BkM.only {base B:Nat} {w w':World} {b fb:Nat} {F:Flt} {S:Bk} {sv uv hv lv pv:Value} {ss:List Value} {ps:List (Value×Usr)} (h:BkM base w b fb S sv uv hv lv pv ss ps) (hf:FL w fb F) (ho:Only B fb w w') (hB:w.heap.size<=B):BkM base w' b fb S sv uv hv lv pv ss ps:=
  { h with
    box:=h.box.onlyF hf (by decide) ho (Nat.lt_of_lt_of_le h.box.lt hB)
    size:=jCR h.size hf (by decide) ho hB
    sz:=fun i l e=>by obtain ⟨v,h1,h2⟩:=h.sz i l e;exact ⟨v,h1,jCR h2 hf (by decide) ho hB⟩
    users:=h.users.onlyF hf ho hB
    here:=jCR h.here hf (by decide) ho hB
    live:=jCR h.live hf (by decide) ho hB
    sp:=jCR h.sp hf (by decide) ho hB }
theorem BK.below {base:Nat}{w w':World}{b fb:Nat}{S:Bk}(h:BK base w b fb S)(hb:Below w.heap.size w w'):BK base w' b fb S:=by
 obtain ⟨sv,g,a,c,e,f,d,h⟩:=h;exact ⟨sv,g,a,c,e,f,d,h.below hb⟩
theorem BK.only {base B:Nat}{w w':World}{b fb:Nat}{F:Flt}{S:Bk}(h:BK base w b fb S)(hf:FL w fb F)(ho:Only B fb w w')(hB:w.heap.size<=B):BK base w' b fb S:=by
 obtain ⟨sv,g,a,c,e,f,d,h⟩:=h;exact ⟨sv,g,a,c,e,f,d,h.only hf ho hB⟩
structure Agree0 (S:Bk)(F:Flt):Prop where
  k:S.k=F.k
  szl:S.sz.length=F.mg
  up:∀ (i:Nat) (l:List Int),S.sz[i]? = some (some l)->F.mt i=true/\l.length=F.k/\∀ r,r<F.k->F.ms i r=lm l r
  down:∀ (i:Nat),S.sz[i]? = some none->F.mt i=false
  usl:S.us.length=F.ug
  hl:S.here.length=F.ug
  ll:S.live.length=F.ug
  here:∀ (u:Nat),u<F.ug->S.here[u]? = some (F.ut u)
  user:∀ (u:Nat) (U:Usr),S.us[u]? = some U->F.ut u=true->U.dem=zj (F.ud u) F.k/\U.wt=F.uw u/\U.cap=F.uc u
  live:∀ (u:Nat),u<F.ug->F.ut u=true->S.live[u]? = some (F.m.wait u+runs F.m u)
  ck:S.ck=F.ck
  spl:S.sp.length=F.k
  uok:∀ (u:Nat) (U:Usr),S.us[u]? = some U->yN F.k U=true
structure Agree (S:Bk)(F:Flt):Prop extends Agree0 S F where
  bal:∀ (r:Nat),r<F.k->S.sp[r]? = some (F.idle r+Por.sumI (fun u=>F.used u r) F.ug)
def bMach (S:Bk)(l:List Int):Bk:={ S with sz:=S.sz ++ [some l] }
def bUser (S:Bk)(Y:Usr):Bk:={ S with us:=S.us ++ [Y],here:=S.here ++ [true],live:=S.live ++ [0] }
def bBreak (S:Bk)(i:Nat):Bk:={ S with sz:=S.sz.set i none }
def bLeave (S:Bk)(u:Nat):Bk:={ S with here:=S.here.set u false,live:=S.live.set u 0 }
def bChg (S:Bk)(u:Nat)(d:List Int)(wt cp:Int):Bk:={ S with us:=S.us.set u ⟨d,wt,cp⟩ }
def bLive (S:Bk)(u:Nat)(x:Int):Bk:={ S with live:=S.live.set u x }
def bTick (S:Bk)(n:Int)(xs:List Int):Bk:={ S with ck:=S.ck+n,sp:=xs }
theorem jNB {xs:List Int}{k:Nat}(h:xs.length=k):xs=zj (zm xs) k:=by
 subst h;apply List.ext_getElem?;intro i;by_cases a:i<xs.length
 ·rw[jCe _ a,List.getElem?_eq_getElem a];unfold zm lm;rw[List.getD_eq_getElem?_getD,List.getElem?_eq_getElem a];rfl
 ·rw[List.getElem?_eq_none (by omega),List.getElem?_eq_none (by rw[jAS];omega)]
theorem jDs {α:Type}{l:List α}{i j:Nat}{x y:α}(h:(l.set i x)[j]? = some y):(j=i/\y=x/\i<l.length)∨(j≠i/\l[j]? = some y):=by
 rw[List.getElem?_set] at h;by_cases e:i=j
 ·subst e;rw[if_pos rfl] at h;by_cases a:i<l.length
  ·rw[if_pos a] at h;exact .inl ⟨rfl,(Option.some.inj h).symm,a⟩
  ·rw[if_neg a] at h;cases h
 ·rw[if_neg e] at h;exact .inr ⟨fun h2=>e h2.symm,h⟩
theorem jCg {α:Type}{l:List α}{j:Nat}{x y:α}(h:(l ++ [x])[j]? = some y):(j=l.length/\y=x)∨(j<l.length/\l[j]? = some y):=by
 have b:=(List.getElem?_eq_some_iff.1 h).1;simp at b;by_cases e:j<l.length
 ·rw[List.getElem?_append_left e] at h;exact .inr ⟨e,h⟩
 ·(have a:j=l.length:=by omega);rw[a,List.getElem?_append_right (Nat.le_refl _)] at h;simp at h;exact .inl ⟨a,h.symm⟩
theorem Agree.addM {R:Int}{S:Bk}{F:Flt}(a:Agree S F)(h:FWf R F)(hg:F.mg<8){xs:List Int}(hx:xU F.k xs=true):Agree (bMach S xs) (addMF F xs):=by
  obtain ⟨d,_⟩:=jCh hx;have e:=a.szl
  exact { a with
    szl := by show (S.sz ++ [some xs]).length = F.mg + 1; rw [List.length_append, a.szl]; rfl
    up := fun i l hi => by
      show yy F.mt F.mg true i = true /\ l.length = F.k /\ ∀ r, r < F.k -> yI F.ms F.mg (zm xs) i r = lm l r
      rcases jCg hi with ⟨c, b⟩ | ⟨c, b⟩
      · rw [e] at c; subst c
        rw [jBd, jA6]
        cases b
        exact ⟨rfl, d, fun r _ => rfl⟩
      · rw [jAe _ _ (by omega), jAV _ _ (by omega)]
        exact a.up i l b
    down := fun i hi => by
      show yy F.mt F.mg true i = false
      rcases jCg hi with ⟨c, b⟩ | ⟨c, b⟩
      · cases b
      · rw [jAe _ _ (by omega)]; exact a.down i b }
theorem Agree.addU {R:Int}{S:Bk}{F:Flt}(a:Agree S F)(h:FWf R F)(hg:F.ug<6){Y:Usr}(hY:yN F.k Y=true):Agree (bUser S Y) (ye F Y):=by
  (have p:Y.dem.length=F.k:=by unfold yN at hY;simp only[Bool.and_eq_true,decide_eq_true_eq] at hY;exact hY.1.1.1);have j:=a.usl;have n:=a.hl;have o:=a.ll
  have i:∀ v,runs (ye F Y).m v=if v=F.ug then 0 else runs F.m v:=fun v=>by
    show Por.sumI (yI F.m.on F.ug (fun _=>0) v) 8=_;by_cases e:v=F.ug
    · rw[if_pos e,e,jA6];exact jAY (fun _ _=>rfl)
    · rw[if_neg e,jAV _ _ e];rfl
  have l:∀ v,(ye F Y).m.wait v=if v=F.ug then 0 else F.m.wait v:=fun v=>rfl
  exact { a with
    usl := by show (S.us ++ [Y]).length = F.ug + 1; rw [List.length_append, j]; rfl
    hl := by show (S.here ++ [true]).length = F.ug + 1; rw [List.length_append, n]; rfl
    ll := by show (S.live ++ [0]).length = F.ug + 1; rw [List.length_append, o]; rfl
    here := fun u b => by
      show (S.here ++ [true])[u]? = some (yy F.ut F.ug true u)
      have b : u < F.ug + 1 := b
      by_cases e : u = F.ug
      · subst e; rw [jBd, List.getElem?_append_right (by omega), n]; simp
      · rw [jAe _ _ e, List.getElem?_append_left (by omega)]; exact a.here u (by omega)
    user := fun u U b c => by
      show U.dem = zj (yI F.ud F.ug (zm Y.dem) u) F.k /\ U.wt = zF F.uw F.ug Y.wt u /\ U.cap = zF F.uc F.ug Y.cap u
      have c : yy F.ut F.ug true u = true := c
      rcases jCg b with ⟨f, d⟩ | ⟨f, d⟩
      · rw [j] at f; subst f; subst d
        rw [jA6, jAU, jAU]
        exact ⟨jNB p, rfl, rfl⟩
      · have e : u ≠ F.ug := by omega
        rw [jAe _ _ e] at c
        rw [jAV _ _ e, jAL _ _ e, jAL _ _ e]
        exact a.user u U d c
    live := fun u b c => by
      show (S.live ++ [0])[u]? = some ((ye F Y).m.wait u + runs (ye F Y).m u)
      have b : u < F.ug + 1 := b
      rw [l, i]
      by_cases e : u = F.ug
      · rw [if_pos e, if_pos e, e, List.getElem?_append_right (by omega), o]; simp
      · have c : yy F.ut F.ug true u = true := c
        rw [jAe _ _ e] at c
        rw [if_neg e, if_neg e, List.getElem?_append_left (by omega)]; exact a.live u (by omega) c
    uok := fun u U b => by
      rcases jCg b with ⟨f, d⟩ | ⟨f, d⟩
      · subst d; exact hY
      · exact a.uok u U d
    bal := fun r hr => by
      show S.sp[r]? = some (F.idle r + (Por.sumI (fun u => yI F.used F.ug (fun _ => 0) u r) F.ug + yI F.used F.ug (fun _ => 0) F.ug r))
      rw [jA6, jAp (g := fun u => F.used u r) (fun u j => by rw [jAV _ _ (by omega)]), Int.add_zero]
      exact a.bal r hr }
theorem Agree.brk {S:Bk} {F:Flt} (a:Agree S F) (hg:F.ug<=6) {i:Nat} (hi:i<8):Agree (bBreak S i) (yb F i):=
  { a with
    szl:=by show (S.sz.set i none).length=F.mg;rw[List.length_set];exact a.szl
    up:=fun j l hj=>by
      show yy F.mt i false j=true/\l.length=F.k/\∀ r,r<F.k->yI F.ms i (fun _=>0) j r=lm l r
      rcases jDs hj with ⟨b,c,e⟩ | ⟨b,c⟩
      · cases c
      · rw[jAe _ _ b,jAV _ _ b];exact a.up j l c
    down:=fun j hj=>by
      show yy F.mt i false j=false
      rcases jDs hj with ⟨b,c,e⟩ | ⟨b,c⟩
      · rw[b,jBd]
      · rw[jAe _ _ b];exact a.down j c
    live:=fun u d ht=>by
      show S.live[u]? = some ((yb F i).m.wait u+runs (offM F.m i 6) u)
      have d:u<F.ug:=d
      rw[jEd hi (by omega),show (yb F i).m.wait u=F.m.wait u+F.m.on u i from if_pos (by omega),a.live u d ht]
      congr 1;omega }
theorem Agree.leave {S:Bk} {F:Flt} (a:Agree S F) {u:Nat}:Agree (bLeave S u) (yr F u):=
  { a with
    hl:=by show (S.here.set u false).length=F.ug;rw[List.length_set];exact a.hl
    ll:=by show (S.live.set u 0).length=F.ug;rw[List.length_set];exact a.ll
    here:=fun v hv=>by
      show (S.here.set u false)[v]? = some (yy F.ut u false v)
      rw[List.getElem?_set]
      by_cases e:u=v
      · subst e;rw[if_pos rfl,if_pos (by rw[a.hl];exact hv),jBd]
      · rw[if_neg e,jAe _ _ (fun h=>e h.symm)];exact a.here v hv
    user:=fun v U hv b=>by
      have b:yy F.ut u false v=true:=b
      show U.dem=zj (yI F.ud u (fun _=>0) v) F.k/\U.wt=zF F.uw u 0 v/\U.cap=zF F.uc u 0 v
      by_cases e:v=u
      · rw[e,jBd] at b;cases b
      · rw[jAe _ _ e] at b
        rw[jAV _ _ e,jAL _ _ e,jAL _ _ e];exact a.user v U hv b
    live:=fun v hv b=>by
      have b:yy F.ut u false v=true:=b
      show (S.live.set u 0)[v]? = some (zF F.m.wait u 0 v+Por.sumI (yI F.m.on u (fun _=>0) v) 8)
      by_cases e:v=u
      · rw[e,jBd] at b;cases b
      · rw[jAe _ _ e] at b
        rw[List.getElem?_set,if_neg (fun h=>e h.symm),jAL _ _ e,jAV _ _ e];exact a.live v hv b }
theorem Agree.chg {S:Bk} {F:Flt} (a:Agree S F) {u:Nat} {Y:Usr} (hY:S.us[u]? = some Y) (ht:F.ut u=true) {wt cp:Int} (hw:1<=wt/\wt<=100) (hc:0<=cp/\cp<=1000):Agree (bChg S u Y.dem wt cp) (chgF F u wt cp):=
  { a with
    usl:=by show (S.us.set u _).length=F.ug;rw[List.length_set];exact a.usl
    user:=fun v U hv htv=>by
      show U.dem=zj (F.ud v) F.k/\U.wt=zF F.uw u wt v/\U.cap=zF F.uc u cp v
      rcases jDs hv with ⟨b,c,e⟩ | ⟨b,c⟩
      · subst b;subst c;rw[jAU,jAU];exact ⟨(a.user v Y hY ht).1,rfl,rfl⟩
      · rw[jAL _ _ b,jAL _ _ b];exact a.user v U c htv
    uok:=fun v U hv=>by
      rcases jDs hv with ⟨b,c,e⟩ | ⟨b,c⟩
      · subst b;subst c
        have d:=a.uok v Y hY
        show yN F.k _=true
        unfold yN at d ⊢
        simp only[Bool.and_eq_true,decide_eq_true_eq] at d ⊢
        exact ⟨⟨⟨d.1.1.1,hw.1,hw.2,hc.1,hc.2⟩,d.1.2⟩,d.2⟩
      · exact a.uok v U c }
theorem Agree.sub {S:Bk} {F:Flt} (a:Agree S F) {u:Nat} {n x:Int} (hx:x=F.m.wait u+runs F.m u+n):Agree (bLive S u x) (subF F u n):=
  { a with
    ll:=by show (S.live.set u x).length=F.ug;rw[List.length_set];exact a.ll
    live:=fun v b ht=>by
      show (S.live.set u x)[v]? = some (zF F.m.wait u (F.m.wait u+n) v+runs F.m v)
      have b:v<F.ug:=b
      rw[List.getElem?_set]
      by_cases e:u=v
      · subst e;rw[if_pos rfl,if_pos (by rw[a.ll];exact b),jAU,hx];congr 1;omega
      · rw[if_neg e,jAL _ _ (fun h=>e h.symm)];exact a.live v b ht }
theorem jIF (F:Flt){u m:Nat}(hm:m<8)(v:Nat):runs (finF F u m).m v=if v=u then runs F.m u - 1 else runs F.m v:=by
 (have a:∀ v l,(finF F u m).m.on v l=if v=u/\l=m then F.m.on u m - 1 else F.m.on v l:=fun v l=>rfl);by_cases e:v=u
 ·subst e;rw[if_pos rfl];have:=jA2 (f:=(finF F v m).m.on v) (g:=F.m.on v) hm (fun i _ hne=>by rw[a,if_neg (fun h5=>hne h5.2)]);show Por.sumI ((finF F v m).m.on v) 8=_;rw[this,a,if_pos ⟨rfl,rfl⟩];show Por.sumI (F.m.on v) 8 + _=Por.sumI (F.m.on v) 8 - 1;omega
 ·rw[if_neg e];exact jAp (fun i _=>by rw[a,if_neg (fun h5=>e h5.1)])
theorem Agree.fin {S:Bk} {F:Flt} (a:Agree S F) {u m:Nat} (hm:m<8) {x:Int} (hx:x=F.m.wait u+runs F.m u - 1):Agree (bLive S u x) (finF F u m):=
  { a with
    ll:=by show (S.live.set u x).length=F.ug;rw[List.length_set];exact a.ll
    live:=fun v b ht=>by
      show (S.live.set u x)[v]? = some (F.m.wait v+runs (finF F u m).m v)
      have b:v<F.ug:=b
      rw[List.getElem?_set,jIF F hm]
      by_cases e:u=v
      · subst e;rw[if_pos rfl,if_pos (by rw[a.ll];exact b),if_pos rfl,hx];congr 1;omega
      · rw[if_neg e,if_neg (fun h=>e h.symm)];exact a.live v b ht }
theorem jCq {f:Nat->Int}{n:Nat}:∀ {k:Nat},n<=k->(∀ i,n<=i->i<k->f i=0)->Por.sumI f k=Por.sumI f n:=by
 intro k
 induction k with
 | zero=>(intro h _;have:n=0:=by omega);subst this;rfl
 | succ k ih=>
  intro h a;by_cases e:n=k+1
  ·subst e;rfl
  ·show Por.sumI f k+f k=_;rw[ih (by omega) (fun i h1 h2=>a i h1 (by omega)),a k (by omega) (by omega),Int.add_zero]
theorem Agree.tick {R:Int} {S:Bk} {F:Flt} (a:Agree S F) (h:FWf R F) {n:Int} {xs:List Int} (hl:xs.length=F.k) (hx:∀ r,r<F.k->xs[r]? = some (lm S.sp r+n*zB F 8 r)):Agree (bTick S n xs) (yk F n):=
  { a with
    ck:=by show S.ck+n=F.ck+n;rw[a.ck]
    spl:=hl
    bal:=fun r b=>by
      show xs[r]? = some (F.idle r+(zB F 8 r - Por.sumI (fun u=>F.ud u r*runs F.m u) 6)*n+Por.sumI (fun u=>F.used u r+F.ud u r*runs F.m u*n) F.ug)
      have b:r<F.k:=b
      have d:=a.bal r b
      have f:lm S.sp r=F.idle r+Por.sumI (fun u=>F.used u r) F.ug:=by unfold lm;rw[List.getD_eq_getElem?_getD,d];rfl
      have g:Por.sumI (fun u=>F.ud u r*runs F.m u) 6=Por.sumI (fun u=>F.ud u r*runs F.m u) F.ug:=jCq h.ug (fun i c h5=>by
        have j:F.ut i=false:=by
          cases e:F.ut i with
          | false=>rfl
          | true=>have:=h.ut i h5 e;omega
        have l:=h.none i h5 j
        have o:=h.wait i h5
        have p:=h.runs0 h5
        rw[show runs F.m i=0 by omega,Int.mul_zero])
      have c:Por.sumI (fun u=>F.ud u r*runs F.m u*n) F.ug=n*Por.sumI (fun u=>F.ud u r*runs F.m u) F.ug:=by
        rw[<- jH1];exact jAp (fun i _=>Int.mul_comm _ _)
      rw[hx r b,f,g,jHy,c,Int.sub_mul,Int.mul_comm (Por.sumI (fun u=>F.ud u r*runs F.m u) F.ug) n,Int.mul_comm (zB F 8 r) n]
      congr 1;omega }
def fitK (F:Flt)(u m:Nat):Bool:=zN (fun r=>F.ms m r - Por.sumI (fun v=>F.ud v r*F.m.on v m) 6) (F.ud u) F.k
structure Rest (F:Flt):Prop where
  fill:∀ u,u<6->F.ut u=true->0<F.m.wait u->runs F.m u<F.uc u->∀ m,m<8->F.mt m=true->fitK F u m=false
  goal:∀ u,u<6->F.ut u=true->runs F.m u<zG F (zB F 8) u->∀ m,m<8->F.mt m=true->yB (cF F) F.m u m=none
  due:∀ u,u<6->F.ut u=true->F.due u=⟨(txt (zr F (zB F 8) u)).toArray⟩
theorem jHJ {R:Int}{F:Flt}(h:FWf R F){z:FM}(hs:Settles (cF F) F.m z)(D:Nat->ByteArray)(u:Nat):yj (zR (yA F D) z) u=yj F u:=by
 have a:=hs.tasks h.fok h.finv u;unfold yj yT;show (⟨zj (F.ud u) F.k,F.uw u,if F.uc u<z.wait u+runs z u then F.uc u else z.wait u+runs z u⟩:Usr)=_;rw[a]
theorem jIw {R:Int}{F:Flt}(h:FWf R F){z:FM}(hs:Settles (cF F) F.m z)(D:Nat->ByteArray):xE (zR (yA F D) z)=xE F:=by
 unfold xE;exact List.map_congr_left (fun u _=>jHJ h hs D u)
theorem jEL {R:Int}{F:Flt}(h:FWf R F){z:FM}(hs:Settles (cF F) F.m z)(D:Nat->ByteArray)(P:Nat->Int)(u:Nat):zr (zR (yA F D) z) P u=zr F P u:=by
 unfold zr;rw[jIw h hs D]
theorem jCa {R:Int}{F:Flt}(h:FWf R F){z:FM}(hs:Settles (cF F) F.m z)(D:Nat->ByteArray)(P:Nat->Int):zG (zR (yA F D) z) P=zG F P:=by
 funext u;unfold zG;rw[jEL h hs D P u]
theorem jIK {R:Int}{F:Flt}(h:FWf R F){z:FM}(hs:Settles (cF F) F.m z)(D:Nat->ByteArray):cF (zR (yA F D) z)=cF F:=by
 have a:=jCa h hs D (zB F 8);unfold cF zC;show FC.mk F.mt F.ms F.ud F.uw F.uc (zB F 8) (zG (zR (yA F D) z) (zB F 8))=_;rw[a]
theorem jK7 {R:Int}{F:Flt}(h:FWf R F){u m:Nat}(hu:u<6)(hm:m<8)(ht:F.mt m=true):yX (cF F) F.m u m=fitK F u m:=by
 have c:yX (cF F) F.m u m=true↔fitK F u m=true:=by
  unfold fitK;rw[jES,jAz];constructor
  ·intro a r b;exact a.2 r (by have:=h.k4;omega)
  ·intro a;refine ⟨ht,fun r b=>?_⟩;by_cases f:r<F.k
   ·exact a r f
   ·show F.ud u r<=F.ms m r - Por.sumI (fun v=>F.ud v r*F.m.on v m) 6;rw[h.udk u hu r b (by omega)];have:=h.room m hm r b;omega
 cases e:fitK F u m with
 | true=>exact c.2 e
 | false=>
  cases d:yX (cF F) F.m u m with
  | false=>rfl
  | true=>rw[c.1 d] at e;cases e
theorem Settled.rest {R R':Int}{F G:Flt}(h:FWf R F)(hG:FWf R' G)(hs:Settled F G):Rest G:=by
 obtain ⟨z,rfl,b⟩:=hs;obtain ⟨e,f⟩:=b.fin;have d:=jIK h b (xL F (zB F 8));refine ⟨fun u hu ht hw a m hm hmt=>?_,fun u hu ht a m hm hmt=>?_,fun u hu ht=>?_⟩
 ·rw[<- jK7 hG hu hm hmt,d];exact jKb f hu hw a hm
 ·rw[d];refine jJa e hu ?_ m hm hmt;have c:=jCa h b (xL F (zB F 8)) (zB F 8);have a:runs z u<zG (zR (yA F (xL F (zB F 8))) z) (zB F 8) u:=a;rw[c] at a;exact a
 ·show xL F (zB F 8) u=_;unfold xL;rw[if_pos ⟨hu,ht⟩];have c:zr (zR (yA F (xL F (zB F 8))) z) (zB F 8) u=_:=jEL h b _ _ u;show _=(⟨(txt (zr (zR (yA F (xL F (zB F 8))) z) (zB F 8) u)).toArray⟩:ByteArray);rw[c]
theorem Rest.tick {F:Flt}(h:Rest F)(n:Int):Rest (yk F n):=⟨h.fill,h.goal,h.due⟩
theorem Rest.new (k:Nat):Rest (newF k):=⟨fun u _ h=>by (cases h),fun u _ h=>by (cases h),fun u _ h=>by (cases h)⟩
theorem Agree.settled {R:Int}{S:Bk}{F G:Flt}(a:Agree S F)(h:FWf R F)(hs:Settled F G):Agree S G:=by
  obtain ⟨z,rfl,b⟩:=hs
  exact { a with
    live := fun u hu ht => by
      show S.live[u]? = some (z.wait u + runs z u)
      rw [b.tasks h.fok h.finv u]; exact a.live u hu ht }
theorem Agree.new (k:Nat) (sp:List Int) (h1:sp.length=k) (h2:∀ r,r<k->sp[r]? = some 0):Agree ⟨k,[],[],[],[],0,sp⟩ (newF k):=
  ⟨⟨rfl,rfl,fun i l h=>by (simp at h),fun i h=>by (simp at h),rfl,rfl,rfl,fun u h=>absurd h (Nat.not_lt_zero u),fun u U h=>by (simp at h),fun u h=>absurd h (Nat.not_lt_zero u),rfl,h1,fun u U h=>by (simp at h)⟩,fun r hr=>by rw[h2 r hr];rfl⟩
theorem jAR (w:World) (g o:Nat) (v:Value):w.grownBy (w.setCell ⟨g,o,none⟩ v) (some g):=
  have h:=Only.setCell w.heap.size (Only.refl w.heap.size g w) o v
  ⟨h.os,h.tape,h.output,h.size,fun k hk hne=>h.block k hk (fun e=>hne (by rw[e]))⟩
theorem Only.grown {b:Nat}{w w':World}(h:Only w.heap.size b w w'):w.grownBy w' (some b):=⟨h.os,h.tape,h.output,h.size,fun k hk hne=>h.block k hk (fun e=>hne (by rw[e]))⟩
theorem jAH {base T size n:Nat} {w w':World} {v:Value} {xs:List Value} {row:Option Nat} (h:w.ownsRow base T size v n xs) (hg:w.grownBy w' row) (hne:∀ k,v.ownBlock=some k->row≠some k):w'.ownsRow base T size v n xs:=
  World.ownsRow.kept h hg (by
    cases e:v.ownBlock with
    | none=>exact .inl rfl
    | some k=>exact .inr (fun h5=>hne k e h5.symm))
theorem jAO {w w':World}{b:Nat}{cs:Array Value}{T:TypeId}{row:Option Nat}(h:Bx w b cs T)(hg:w.grownBy w' row)(hne:row≠some b):Bx w' b cs T:=(hg.block b h.lt (fun e=>hne e.symm)).trans h
theorem jA0 {w w':World}{b:Nat}{F:Flt}{row:Option Nat}(h:FL w b F)(hg:w.grownBy w' row)(hne:row≠some b):FL w' b F:=by
 obtain ⟨M,a,c⟩:=h;exact ⟨M,(hg.block b a.lt (fun e=>hne e.symm)).trans a,c⟩
theorem jCy {base T size n:Nat}{w:World}{v:Value}{xs:List Value}(h:w.ownsRow base T size v n xs){k:Nat}(hk:v.ownBlock=some k):∃ cur,w.heap[k]? = some (.cells cur T (0,0)):=by
 rcases h.2 with ⟨rfl,_⟩ | ⟨g,a,cur,rfl,c,b,_⟩
 ·cases hk
 ·have:g=k:=Option.some.inj hk;subst this;exact ⟨cur,b⟩
theorem jBU {b1 b2 T1 T2 s1 s2 n1 n2:Nat} {w:World} {v1 v2:Value} {xs1 xs2:List Value} (h1:w.ownsRow b1 T1 s1 v1 n1 xs1) (h2:w.ownsRow b2 T2 s2 v2 n2 xs2) (hT:T1≠T2):Apart v1 v2:=fun g hg1 hg2=>by
  obtain ⟨c1,e1⟩:=jCy h1 hg1
  obtain ⟨c2,e2⟩:=jCy h2 hg2
  rw[e1] at e2;injection e2 with e3;injection e3 with e4 e5;exact hT e5
theorem jAa {base T size n b:Nat} {w:World} {v:Value} {xs:List Value} {cs:Array Value} {T':TypeId} (h1:w.ownsRow base T size v n xs) (hx:Bx w b cs T') (hT:T≠T'):v.ownBlock≠some b:=fun hg=>by
  obtain ⟨c1,e1⟩:=jCy h1 hg
  have e2:w.heap[b]? = some (.cells cs T' (0,0)):=hx
  rw[e1] at e2;injection e2 with e3;injection e3 with e4 e5;exact hT e5
theorem jB9 {base T size n b:Nat} {w:World} {v:Value} {xs:List Value} {F:Flt} (h1:w.ownsRow base T size v n xs) (hf:FL w b F) (hT:T≠77):v.ownBlock≠some b:=fun hg=>by
  obtain ⟨c1,e1⟩:=jCy h1 hg
  obtain ⟨M,h3,h4⟩:=hf
  have e2:w.heap[b]? = some (.cells _ 77 (0,0)):=h3
  rw[e1] at e2;injection e2 with e3;injection e3 with e4 e5;exact hT e5
theorem Apart.kept {a c:Value}{g:Nat}(h:Apart a c)(hg:a.ownBlock=some g):∀ k,c.ownBlock=some k->some g≠some k:=fun k hk e=>h g hg (by rw[hk,e])
theorem Apart.keptv {a c:Value}(h:Apart a c):∀ k,c.ownBlock=some k->a.ownBlock≠some k:=fun k hk e=>h k e hk
theorem jHf {base T n cap g i:Nat}{w:World}{xs:List Value}(h:w.ownsRow base T 1 (.slice (some ⟨g,0,none⟩) n cap) n xs)(hi:i<n)(x:Value):(w.setCell ⟨g,i,none⟩ x).ownsRow base T 1 (.slice (some ⟨g,0,none⟩) n cap) n (xs.set i x):=by
 refine ⟨by rw[List.length_set];exact h.1,?_⟩;rcases h.2 with ⟨c,_⟩ | ⟨q,d,b,c,f,j,k,l,m,o⟩
 ·cases c
 ·(injection c with a p e);(injection a with a);(injection a with a);subst a;subst e;refine .inr ⟨g,cap,b.setIfInBounds i x,rfl,f,?_,k,l,by rw[Array.size_setIfInBounds];exact m,?_⟩
  ·exact heap_setCell_same w g i _ _ x j
  ·rw[Array.toList_setIfInBounds,List.take_set,o]
theorem Li.put {base n cap g i:Nat}{w:World}{l:List Int}(h:Li base w (.slice (some ⟨g,0,none⟩) n cap) l)(hi:i<l.length)(hn:n=l.length)(x:Int):Li base (w.setCell ⟨g,i,none⟩ (.int .i64 x)) (.slice (some ⟨g,0,none⟩) n cap) (l.set i x):=by
 subst hn;unfold Li;rw[List.length_set,List.map_set];exact jHf h hi _
section
variable {base:Nat} {w:World} {b fb:Nat} {S:Bk} {sv uv hv lv pv:Value} {ss:List Value} {ps:List (Value×Usr)}
theorem BkM.lvne (h:BkM base w b fb S sv uv hv lv pv ss ps):Apart lv sv/\Apart lv uv/\Apart lv hv:=⟨jBU h.live h.size (by decide),jBU h.live h.users.1 (by decide),jBU h.live h.here (by decide)⟩
theorem BkM.pvne (h:BkM base w b fb S sv uv hv lv pv ss ps):Apart pv sv/\Apart pv uv/\Apart pv hv:=⟨jBU h.sp h.size (by decide),jBU h.sp h.users.1 (by decide),jBU h.sp h.here (by decide)⟩
theorem BkM.svne (h:BkM base w b fb S sv uv hv lv pv ss ps):Apart sv uv/\Apart sv hv/\Apart sv lv/\Apart sv pv:=⟨jBU h.size h.users.1 (by decide),jBU h.size h.here (by decide),jBU h.size h.live (by decide),jBU h.size h.sp (by decide)⟩
theorem BkM.hvne (h:BkM base w b fb S sv uv hv lv pv ss ps):Apart hv sv/\Apart hv uv/\Apart hv lv/\Apart hv pv:=⟨jBU h.here h.size (by decide),jBU h.here h.users.1 (by decide),jBU h.here h.live (by decide),jBU h.here h.sp (by decide)⟩
theorem BkM.uvne (h:BkM base w b fb S sv uv hv lv pv ss ps):Apart uv sv/\Apart uv hv/\Apart uv lv/\Apart uv pv:=⟨jBU h.users.1 h.size (by decide),jBU h.users.1 h.here (by decide),jBU h.users.1 h.live (by decide),jBU h.users.1 h.sp (by decide)⟩
theorem BkM.szmem (h:BkM base w b fb S sv uv hv lv pv ss ps){i:Nat}{l:List Int}(e:S.sz[i]? = some (some l)):∃ v,ss[i]? = some v/\Li base w v l/\v∈ss:=by
 obtain ⟨v,a,c⟩:=h.sz i l e;exact ⟨v,a,c,List.mem_of_getElem? a⟩
theorem BkM.keptT {w':World} {row:Option Nat} (h:BkM base w b fb S sv uv hv lv pv ss ps) (hg:w.grownBy w' row) (hI:∀ (v:Value) (l:List Int),Li base w v l->∀ k,v.ownBlock=some k->row≠some k) :
    (∀ (i:Nat) (l:List Int),S.sz[i]? = some (some l)->∃ v,ss[i]? = some v/\Li base w' v l)/\(∀ p,p∈ps->Li base w' p.1 p.2.dem)/\Li base w' lv S.live/\Li base w' pv S.sp:=
  ⟨fun i l e=>by obtain ⟨v,h1,h2⟩:=h.sz i l e;exact ⟨v,h1,jAH h2 hg (hI v l h2)⟩,fun p hp=>jAH (h.users.2 p hp) hg (hI _ _ (h.users.2 p hp)),jAH h.live hg (hI _ _ h.live),jAH h.sp hg (hI _ _ h.sp)⟩
theorem jGw {T size n:Nat}{v0:Value}{xs:List Value}(h0:w.ownsRow base T size v0 n xs)(hT:T≠3):∀ (v:Value) (l:List Int),Li base w v l->∀ k,v.ownBlock=some k->v0.ownBlock≠some k:=fun v l h k hk e=>jBU h0 h hT k e hk
theorem BkM.setLive {g n cap i:Nat} (h:BkM base w b fb S sv uv hv (.slice (some ⟨g,0,none⟩) n cap) pv ss ps) (hn:n=S.live.length) (hi:i<S.live.length) (x:Int):BkM base (w.setCell ⟨g,i,none⟩ (.int .i64 x)) b fb (bLive S i x) sv uv hv (.slice (some ⟨g,0,none⟩) n cap) pv ss ps:=
  have hg:=jAR w g i (.int .i64 x)
  { h with
    box:=jAO h.box hg (jAa h.live h.box (by decide))
    size:=jAH h.size hg (h.lvne.1.kept rfl)
    sz:=fun j l e=>by obtain ⟨v,h1,h2,h3⟩:=h.szmem e;exact ⟨v,h1,jAH h2 hg ((h.ls v h3).kept rfl)⟩
    users:=⟨jAH h.users.1 hg (h.lvne.2.1.kept rfl),fun p hp=>jAH (h.users.2 p hp) hg ((h.ld p hp).kept rfl)⟩
    here:=jAH h.here hg (h.lvne.2.2.kept rfl)
    live:=h.live.put hi hn x
    sp:=jAH h.sp hg (h.lp.kept rfl) }
theorem BkM.setSp {g n cap i:Nat} (h:BkM base w b fb S sv uv hv lv (.slice (some ⟨g,0,none⟩) n cap) ss ps) (hn:n=S.sp.length) (hi:i<S.sp.length) (x:Int):BkM base (w.setCell ⟨g,i,none⟩ (.int .i64 x)) b fb { S with sp:=S.sp.set i x } sv uv hv lv (.slice (some ⟨g,0,none⟩) n cap) ss ps:=
  have hg:=jAR w g i (.int .i64 x)
  { h with
    box:=jAO h.box hg (jAa h.sp h.box (by decide))
    size:=jAH h.size hg (h.pvne.1.kept rfl)
    sz:=fun j l e=>by obtain ⟨v,h1,h2,h3⟩:=h.szmem e;exact ⟨v,h1,jAH h2 hg ((h.psz v h3).kept rfl)⟩
    users:=⟨jAH h.users.1 hg (h.pvne.2.1.kept rfl),fun p hp=>jAH (h.users.2 p hp) hg ((h.pd p hp).kept rfl)⟩
    here:=jAH h.here hg (h.pvne.2.2.kept rfl)
    live:=jAH h.live hg (h.lp.symm.kept rfl)
    sp:=h.sp.put hi hn x }
theorem BkM.setHere {g n cap i:Nat} (h:BkM base w b fb S sv uv (.slice (some ⟨g,0,none⟩) n cap) lv pv ss ps) (hn:n=S.here.length) (hi:i<S.here.length) (x:Bool):BkM base (w.setCell ⟨g,i,none⟩ (.bool x)) b fb { S with here:=S.here.set i x } sv uv (.slice (some ⟨g,0,none⟩) n cap) lv pv ss ps:=
  have hg:=jAR w g i (.bool x)
  have hk:=h.keptT hg (jGw h.here (by decide))
  { h with
    box:=jAO h.box hg (jAa h.here h.box (by decide))
    size:=jAH h.size hg (h.hvne.1.kept rfl)
    sz:=hk.1
    users:=⟨jAH h.users.1 hg (h.hvne.2.1.kept rfl),hk.2.1⟩
    here:=by
      subst hn
      show World.ownsRow _ _ _ _ _ (S.here.set i x).length ((S.here.set i x).map Value.bool)
      rw[List.length_set,List.map_set];exact jHf h.here hi _
    live:=hk.2.2.1
    sp:=hk.2.2.2 }
theorem BkM.setSize {g n cap i:Nat} (h:BkM base w b fb S (.slice (some ⟨g,0,none⟩) n cap) uv hv lv pv ss ps) (hn:n=S.sz.length) (hi:i<S.sz.length):BkM base (w.setCell ⟨g,i,none⟩ (.slice none 0 0)) b fb (bBreak S i) (.slice (some ⟨g,0,none⟩) n cap) uv hv lv pv (ss.set i (.slice none 0 0)) ps:=
  have hg:=jAR w g i (.slice none 0 0)
  have hk:=h.keptT hg (jGw h.size (by decide))
  { h with
    box:=jAO h.box hg (jAa h.size h.box (by decide))
    size:=by
      rw[List.length_set]
      have a:=h.size
      have e:=h.sl
      rw[show ss.length=n by omega] at a ⊢
      exact jHf a (by omega) _
    sl:=by show (ss.set i _).length=(S.sz.set i none).length;rw[List.length_set,List.length_set];exact h.sl
    sz:=fun j l e=>by
      rcases jDs e with ⟨a,c,d⟩ | ⟨a,c⟩
      · cases c
      · obtain ⟨v,d,f⟩:=hk.1 j l c
        exact ⟨v,by rw[List.getElem?_set,if_neg (fun e=>a e.symm)];exact d,f⟩
    sn:=fun j e=>by
      rcases jDs e with ⟨a,c,d⟩ | ⟨a,c⟩
      · rw[a,List.getElem?_set,if_pos rfl,if_pos (by have:=h.sl;omega)]
      · rw[List.getElem?_set,if_neg (fun e=>a e.symm)];exact h.sn j c
    users:=⟨jAH h.users.1 hg (h.svne.1.kept rfl),hk.2.1⟩
    here:=jAH h.here hg (h.svne.2.1.kept rfl)
    live:=hk.2.2.1
    sp:=hk.2.2.2
    ls:=fun v hv2=>by
      rcases List.mem_or_eq_of_mem_set hv2 with a | a
      · exact h.ls v a
      · subst a;exact fun g _ e=>by cases e
    psz:=fun v hv2=>by
      rcases List.mem_or_eq_of_mem_set hv2 with a | a
      · exact h.psz v a
      · subst a;exact fun g _ e=>by cases e }
theorem BkM.boxes (h:BkM base w b fb S sv uv hv lv pv ss ps):sv.ownBlock≠some b/\uv.ownBlock≠some b/\hv.ownBlock≠some b/\lv.ownBlock≠some b/\pv.ownBlock≠some b:=⟨jAa h.size h.box (by decide),jAa h.users.1 h.box (by decide),jAa h.here h.box (by decide),jAa h.live h.box (by decide),jAa h.sp h.box (by decide)⟩
theorem jAh {base T size n:Nat}{w:World}{v:Value}{xs:List Value}(h:w.ownsRow base T size v n xs){b:Nat}{cs:Array Value}{T':TypeId}(hx:Bx w b cs T')(hT:T≠T')(o:Nat)(u:Value):(w.setCell ⟨b,o,none⟩ u).ownsRow base T size v n xs:=jAH h (jAR w b o u) (fun k hk e=>jAa h hx hT (by rw[hk,<- e]))
theorem BkM.lists (h:BkM base w b fb S sv uv hv lv pv ss ps) (o:Nat) (u:Value) :
    (w.setCell ⟨b,o,none⟩ u).ownsRow base 28 1 sv ss.length ss/\(∀ (i:Nat) (l:List Int),S.sz[i]? = some (some l)->∃ v,ss[i]? = some v/\Li base (w.setCell ⟨b,o,none⟩ u) v l)/\UOw base (w.setCell ⟨b,o,none⟩ u) uv ps/\(w.setCell ⟨b,o,none⟩ u).ownsRow base 4 1 hv S.here.length (S.here.map Value.bool)/\Li base (w.setCell ⟨b,o,none⟩ u) lv S.live/\Li base (w.setCell ⟨b,o,none⟩ u) pv S.sp:=
  ⟨jAh h.size h.box (by decide) o u,fun i l e=>by obtain ⟨v,h1,h2⟩:=h.sz i l e;exact ⟨v,h1,jAh h2 h.box (by decide) o u⟩,⟨jAh h.users.1 h.box (by decide) o u,fun p hp=>jAh (h.users.2 p hp) h.box (by decide) o u⟩,jAh h.here h.box (by decide) o u,jAh h.live h.box (by decide) o u,jAh h.sp h.box (by decide) o u⟩
theorem BkM.setCk (h:BkM base w b fb S sv uv hv lv pv ss ps) (x:Int):BkM base (w.setCell ⟨b,6,none⟩ (.int .i64 x)) b fb { S with ck:=x } sv uv hv lv pv ss ps:=
  have k:=h.lists 6 (.int .i64 x)
  { h with box:=jAE h.box 6 _,size:=k.1,sz:=k.2.1,users:=k.2.2.1,here:=k.2.2.2.1,live:=k.2.2.2.2.1,sp:=k.2.2.2.2.2 }
theorem BkM.appSize {w1:World}{sv' v:Value}{l:List Int}(h:BkM base w b fb S sv uv hv lv pv ss ps)(g1:w1.ownsRow base 28 1 sv' (ss.length+1) (ss ++ [v]))(hg:w.grownBy w1 sv.ownBlock)(hl:Li base w v l)(h1:Apart lv v)(h2:Apart pv v):BkM base (w1.setCell ⟨b,2,none⟩ sv') b fb (bMach S l) sv' uv hv lv pv (ss ++ [v]) ps:=by
  have g:=h.keptT hg (jGw h.size (by decide));have d:=jAO h.box hg h.boxes.1;have o:=jAH h.users.1 hg h.svne.1.keptv;have i:=jAH h.here hg h.svne.2.1.keptv;have m:Li base w1 v l:=jAH hl hg (jGw h.size (by decide) v l hl);have k:∀ {T size n:Nat} {v:Value} {xs:List Value},w1.ownsRow base T size v n xs->T≠39->(w1.setCell ⟨b,2,none⟩ sv').ownsRow base T size v n xs:=fun h hT=>jAh h d hT 2 sv'
  exact { h with
    box := jAE d 2 _
    size := by rw [List.length_append]; exact k g1 (by decide)
    sl := by show (ss ++ [v]).length = (S.sz ++ [some l]).length; rw [List.length_append, List.length_append, h.sl]; rfl
    sz := fun j l' e => by
      rcases jCg e with ⟨f, c⟩ | ⟨f, c⟩
      · cases c; exact ⟨v, by rw [f, <- h.sl, List.getElem?_append_right (Nat.le_refl _)]; simp, k m (by decide)⟩
      · obtain ⟨u, q, r⟩ := g.1 j l' c
        exact ⟨u, by rw [List.getElem?_append_left (by have := h.sl; omega)]; exact q, k r (by decide)⟩
    sn := fun j e => by
      rcases jCg e with ⟨f, c⟩ | ⟨f, c⟩
      · cases c
      · rw [List.getElem?_append_left (by have := h.sl; omega)]; exact h.sn j c
    users := ⟨k o (by decide), fun p hp => k (g.2.1 p hp) (by decide)⟩
    here := k i (by decide)
    live := k g.2.2.1 (by decide)
    sp := k g.2.2.2 (by decide)
    ls := fun x hx => by
      rcases List.mem_append.1 hx with a | a
      · exact h.ls x a
      · rw [List.mem_singleton] at a; subst a; exact h1
    psz := fun x hx => by
      rcases List.mem_append.1 hx with a | a
      · exact h.psz x a
      · rw [List.mem_singleton] at a; subst a; exact h2 }
theorem BkM.appUsers {w1:World}{uv':Value}{p:Value×Usr}(h:BkM base w b fb S sv uv hv lv pv ss ps)(g1:UOw base w1 uv' (ps ++ [p]))(hg:w.grownBy w1 uv.ownBlock)(h1:Apart lv p.1)(h2:Apart pv p.1):BkM base (w1.setCell ⟨b,3,none⟩ uv') b fb { S with us:=S.us ++ [p.2] } sv uv' hv lv pv ss (ps ++ [p]):=by
  have f:=h.keptT hg (jGw h.users.1 (by decide));have c:=jAO h.box hg h.boxes.2.1;have g:=jAH h.size hg h.uvne.1.keptv;have d:=jAH h.here hg h.uvne.2.1.keptv;have k:∀ {T size n:Nat} {v:Value} {xs:List Value},w1.ownsRow base T size v n xs->T≠39->(w1.setCell ⟨b,3,none⟩ uv').ownsRow base T size v n xs:=fun h hT=>jAh h c hT 3 uv'
  exact { h with
    box := jAE c 3 _
    size := k g (by decide)
    sz := fun j l e => by obtain ⟨u, i, m⟩ := f.1 j l e; exact ⟨u, i, k m (by decide)⟩
    users := ⟨k g1.1 (by decide), fun q hq => k (g1.2 q hq) (by decide)⟩
    us := by show (ps ++ [p]).map (·.2) = S.us ++ [p.2]; rw [List.map_append, h.us]; rfl
    here := k d (by decide)
    live := k f.2.2.1 (by decide)
    sp := k f.2.2.2 (by decide)
    ld := fun x hx => by
      rcases List.mem_append.1 hx with a | a
      · exact h.ld x a
      · rw [List.mem_singleton] at a; subst a; exact h1
    pd := fun x hx => by
      rcases List.mem_append.1 hx with a | a
      · exact h.pd x a
      · rw [List.mem_singleton] at a; subst a; exact h2 }
theorem BkM.appHere {w1:World}{hv':Value}{x:Bool}(h:BkM base w b fb S sv uv hv lv pv ss ps)(g1:w1.ownsRow base 4 1 hv' (S.here.length+1) (S.here.map Value.bool ++ [.bool x]))(hg:w.grownBy w1 hv.ownBlock):BkM base (w1.setCell ⟨b,4,none⟩ hv') b fb { S with here:=S.here ++ [x] } sv uv hv' lv pv ss ps:=by
  have c:=h.keptT hg (jGw h.here (by decide));have a:=jAO h.box hg h.boxes.2.2.1;have d:=jAH h.size hg h.hvne.1.keptv;have f:=jAH h.users.1 hg h.hvne.2.1.keptv;have k:∀ {T size n:Nat} {v:Value} {xs:List Value},w1.ownsRow base T size v n xs->T≠39->(w1.setCell ⟨b,4,none⟩ hv').ownsRow base T size v n xs:=fun h hT=>jAh h a hT 4 hv'
  exact { h with
    box := jAE a 4 _
    size := k d (by decide)
    sz := fun j l e => by obtain ⟨u, g, i⟩ := c.1 j l e; exact ⟨u, g, k i (by decide)⟩
    users := ⟨k f (by decide), fun q hq => k (c.2.1 q hq) (by decide)⟩
    here := by
      show World.ownsRow _ _ _ _ _ (S.here ++ [x]).length ((S.here ++ [x]).map Value.bool)
      rw [List.length_append, List.map_append]; exact k g1 (by decide)
    live := k c.2.2.1 (by decide)
    sp := k c.2.2.2 (by decide) }
theorem Apart.app {a a' c:Value} {T size n:Nat} {xs:List Value} (h:Apart a c) (hc:w.ownsRow base T size c n xs) (ha:a'.ownBlock=a.ownBlock∨a'.ownBlock=some w.heap.size):Apart a' c:=fun g hg1 hg2=>by
  rcases ha with e | e
  · exact h g (by rw[<- e];exact hg1) hg2
  · rw[e] at hg1;injection hg1 with e1;have:=(World.ownsRow.lt hc g hg2).2;omega
theorem BkM.apartS {a a':Value} (h:BkM base w b fb S sv uv hv lv pv ss ps) (h0:∀ v,v∈ss->Apart a v) (ha:a'.ownBlock=a.ownBlock∨a'.ownBlock=some w.heap.size):∀ v,v∈ss->Apart a' v:=fun v hv2=>by
  obtain ⟨i,hi,e⟩:=List.getElem_of_mem hv2
  have hl:=h.sl
  cases e2:S.sz[i]? with
  | none=>rw[List.getElem?_eq_none_iff] at e2;omega
  | some y=>
    cases y with
    | none=>
      have:=h.sn i e2
      rw[List.getElem?_eq_getElem hi,e] at this
      injection this with e3;subst e3;exact fun g _ e=>by cases e
    | some l=>
      obtain ⟨u,e3,e4⟩:=h.sz i l e2
      rw[List.getElem?_eq_getElem hi,e] at e3
      injection e3 with e3;subst e3
      exact (h0 v hv2).app e4 ha
theorem BkM.appLive {w1:World}{lv':Value}{x:Int}(h:BkM base w b fb S sv uv hv lv pv ss ps)(g1:Li base w1 lv' (S.live ++ [x]))(hg:w.grownBy w1 lv.ownBlock)(ha:lv'.ownBlock=lv.ownBlock∨lv'.ownBlock=some w.heap.size):BkM base (w1.setCell ⟨b,5,none⟩ lv') b fb { S with live:=S.live ++ [x] } sv uv hv lv' pv ss ps:=by
  have a:=jAO h.box hg h.boxes.2.2.2.1;have f:=jAH h.size hg h.lvne.1.keptv;have g:=jAH h.users.1 hg h.lvne.2.1.keptv;have c:=jAH h.here hg h.lvne.2.2.keptv;have d:=jAH h.sp hg h.lp.keptv;have k:∀ {T size n:Nat} {v:Value} {xs:List Value},w1.ownsRow base T size v n xs->T≠39->(w1.setCell ⟨b,5,none⟩ lv').ownsRow base T size v n xs:=fun h hT=>jAh h a hT 5 lv'
  exact { h with
    box := jAE a 5 _
    size := k f (by decide)
    sz := fun j l e => by obtain ⟨u, i, m, o⟩ := h.szmem e; exact ⟨u, i, k (jAH m hg (h.ls u o).keptv) (by decide)⟩
    users := ⟨k g (by decide), fun q hq => k (jAH (h.users.2 q hq) hg (h.ld q hq).keptv) (by decide)⟩
    here := k c (by decide)
    live := k g1 (by decide)
    sp := k d (by decide)
    lp := h.lp.app h.sp ha
    ls := h.apartS h.ls ha
    ld := fun q hq => (h.ld q hq).app (h.users.2 q hq) ha }
theorem jKr {base T size n cap g i:Nat}{w:World}{xs:List Value}(h:w.ownsRow base T size (.slice (some ⟨g,0,none⟩) n cap) n xs)(x:Value):(w.setCell ⟨g,i,none⟩ x).ownsRow base T size (.slice (some ⟨g,0,none⟩) n cap) n (xs.set i x):=by
 refine ⟨by rw[List.length_set];exact h.1,?_⟩;rcases h.2 with ⟨c,_⟩ | ⟨q,d,b,c,f,j,k,l,m,o⟩
 ·cases c
 ·(injection c with a p e);(injection a with a);(injection a with a);subst a;subst e;refine .inr ⟨g,cap,b.setIfInBounds i x,rfl,f,?_,k,l,by rw[Array.size_setIfInBounds];exact m,?_⟩
  ·exact heap_setCell_same w g i _ _ x j
  ·rw[Array.toList_setIfInBounds,List.take_set,o]
theorem jHn:∀ (ps:List (Value×Usr))(i:Nat)(p:Value×Usr)(x:Int) ,ps[i]? = some p->(ucl ps).set (i*3+1) (.int .i64 x)=ucl (ps.set i (p.1,⟨p.2.dem,x,p.2.cap⟩))/\(ucl ps).set (i*3+2) (.int .i64 x)=ucl (ps.set i (p.1,⟨p.2.dem,p.2.wt,x⟩)):=by
 intro ps
 induction ps with
 | nil=>intro i p x h;simp at h
 | cons q ps ih=>
  intro i p x h;have e:ucl (q :: ps)=q.1 :: .int .i64 q.2.wt :: .int .i64 q.2.cap :: ucl ps:=rfl
  cases i with
  | zero=>simp at h;subst h;rw[e];exact ⟨rfl,rfl⟩
  | succ i=>(have a:ps[i]? = some p:=by simpa using h);obtain ⟨b,c⟩:=ih i p x a;rw[e,show (i+1)*3+1=(i*3+1)+3 by omega,show (i+1)*3+2=(i*3+2)+3 by omega];simp only[List.set_cons_succ];rw[b,c];exact ⟨rfl,rfl⟩
theorem BkM.setUser {g n cap i o:Nat}(h:BkM base w b fb S sv (.slice (some ⟨g,0,none⟩) n cap) hv lv pv ss ps){p:Value×Usr}(hp:ps[i]? = some p){x wt cp:Int}(ho:(o=i*3+1/\wt=x/\cp=p.2.cap)∨(o=i*3+2/\wt=p.2.wt/\cp=x)):BkM base (w.setCell ⟨g,o,none⟩ (.int .i64 x)) b fb (bChg S i p.2.dem wt cp) sv (.slice (some ⟨g,0,none⟩) n cap) hv lv pv ss (ps.set i (p.1,⟨p.2.dem,wt,cp⟩)):=by
  have f:=jAR w g o (.int .i64 x);have j:=h.keptT f (jGw h.users.1 (by decide))
  have s:n=ps.length:=by
    rcases h.users.1.2 with ⟨a,_⟩ | ⟨t,m,r,a,_⟩
    · cases a
    · injection a
  have e:(ucl ps).set o (.int .i64 x)=ucl (ps.set i (p.1,⟨p.2.dem,wt,cp⟩)):=by
    rcases ho with ⟨rfl,rfl,rfl⟩ | ⟨rfl,rfl,rfl⟩
    · exact (jHn ps i p _ hp).1
    · exact (jHn ps i p _ hp).2
  have l:∀ q,q∈ps.set i (p.1,(⟨p.2.dem,wt,cp⟩:Usr))->∃ c,c∈ps/\q.1=c.1/\q.2.dem=c.2.dem:=fun q hq=>by
    rcases List.mem_or_eq_of_mem_set hq with a | a
    · exact ⟨q,a,rfl,rfl⟩
    · subst a;exact ⟨p,List.mem_of_getElem? hp,rfl,rfl⟩
  exact { h with
    box := jAO h.box f (jAa h.users.1 h.box (by decide))
    size := jAH h.size f (h.uvne.1.kept rfl)
    sz := j.1
    users := ⟨by
      rw [List.length_set, <- e]
      have a := h.users.1
      rw [<- s] at a ⊢
      exact jKr a _, fun q hq => by obtain ⟨c, a, d, k⟩ := l q hq; rw [d, k]; exact j.2.1 c a⟩
    us := by show (ps.set i _).map (·.2) = S.us.set i _; rw [List.map_set, h.us]
    here := jAH h.here f (h.uvne.2.1.kept rfl)
    live := j.2.2.1
    sp := j.2.2.2
    ld := fun q hq => by obtain ⟨c, a, d, k⟩ := l q hq; rw [d]; exact h.ld c a
    pd := fun q hq => by obtain ⟨c, a, d, k⟩ := l q hq; rw [d]; exact h.pd c a }
end
end Go.Proofs.YtigokanoflkinabGreatDoor
