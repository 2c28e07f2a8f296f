/- Where a filling lies in memory. -/
import Derived.Test.YtigokanoflkinabGreatDoorWIE
namespace Go.Proofs.YtigokanoflkinabGreatDoor
set_option linter.unusedSimpArgs false
set_option linter.unusedVariables false
open Go.RowKit Por
structure FD where
  ao:Option Addr
  n:Nat
  cap:Nat
  us:List Usr
  kk:Nat
  room:Nat->Rat
  sb:Nat
  rb:Nat
  gr:Nat
  gt:Nat
  gl:Nat
abbrev FD.cells (d:FD)(l:Rat)(la:Option Addr)(lb lc:Nat)(ld:Option Addr)(le lf:Nat):Array Value:=
  #[.slice d.ao d.n d.cap,.slice (some ⟨d.rb,0,none⟩) d.kk d.kk,.bool (negB l),.slice la lb lc,.slice ld le lf,.slice (some ⟨d.gr,0,none⟩) d.n d.n,.slice (some ⟨d.gt,0,none⟩) d.n d.n,.slice (some ⟨d.gl,0,none⟩) d.n d.n]
structure FD.Apart (d:FD)(B:Nat):Prop where
  lsb:B<=d.sb
  lrb:B<=d.rb
  lgr:B<=d.gr
  lgt:B<=d.gt
  lgl:B<=d.gl
  a1:d.sb≠d.rb
  a2:d.sb≠d.gr
  a3:d.sb≠d.gt
  a4:d.sb≠d.gl
  a5:d.rb≠d.gr
  a6:d.rb≠d.gt
  a7:d.rb≠d.gl
  a8:d.gr≠d.gt
  a9:d.gr≠d.gl
  a10:d.gt≠d.gl
structure FS (w0:World)(d:FD)(w:World)(s:St):Prop where
  bel:Below w0.heap.size w0 w
  box:∃ la lb lc ld le lf,Bx w d.sb (d.cells s.lev la lb lc ld le lf) 120/\Row w la lb lc (zA s.lev.num.natAbs)/\Row w ld le lf (zA s.lev.den)
  room:FB w d.rb d.kk d.kk d.room
  rt:FB w d.gr d.n d.n s.rt
  ts:FB w d.gt d.n d.n s.ts
  lv:FB w d.gl d.n d.n s.lv
theorem FS.below {w0 w w':World}{d:FD}{s:St}(h:FS w0 d w s)(hb:Below w.heap.size w w'):FS w0 d w' s:=by
 obtain ⟨e,f,g,i,j,k,a,b,c⟩:=h.box;exact ⟨h.bel.trans (hb.mono h.bel.size),⟨e,f,g,i,j,k,a.keep hb,b.below hb,c.below hb⟩,h.room.below hb,h.rt.below hb,h.ts.below hb,h.lv.below hb⟩
theorem FS.alloc {w0 w:World}{d:FD}{s:St}(h:FS w0 d w s)(o:Obj):FS w0 d (w.alloc o) s:=h.below (brf.alloc (Nat.le_refl _) o)
theorem FS.drew {w0 w:World}{d:FD}{s:St}(h:FS w0 d w s):FS w0 d w.drew s:=h.below brf.drew
theorem FS.congr {w0 w:World}{d:FD}{s t:St}(h:FS w0 d w s)(hl:s.lev=t.lev)(h1:∀ i,i<d.n->s.rt i=t.rt i)(h2:∀ i,i<d.n->s.ts i=t.ts i)(h3:∀ i,i<d.n->s.lv i=t.lv i):FS w0 d w t:=by
 refine ⟨h.bel,by rw[<- hl];exact h.box,h.room,h.rt.congr h1,h.ts.congr h2,h.lv.congr h3⟩
theorem FS.blk {w0 w:World}{d:FD}{s:St}(h:FS w0 d w s):∃ arr,w.heap[d.sb]? = some (.cells arr 120 (0,0)):=by
 obtain ⟨e,f,g,i,j,k,a,b,c⟩:=h.box;exact ⟨_,a⟩
theorem FB.blk {w:World}{g n k:Nat}{f:Nat->Rat}(h:FB w g n k f):∃ arr,w.heap[g]? = some (.cells arr 118 (0,0)):=by
 obtain ⟨arr,a,_⟩:=h;exact ⟨arr,a⟩
theorem FS.other {w0 w:World}{d:FD}{s:St}(h:FS w0 d w s){b o:Nat}{u0 u1 u2:Value}{arr:Array Value}{T:TypeId}(hx:w.heap[b]? = some (.cells arr T (0,0)))(hT:T≠3)(hb:w0.heap.size<=b)(n0:b≠d.sb)(n1:b≠d.rb)(n2:b≠d.gr)(n3:b≠d.gt)(n4:b≠d.gl):FS w0 d (yd w b o u0 u1 u2) s:=by
 obtain ⟨f,g,i,j,k,l,a,c,e⟩:=h.box;exact ⟨jBD h.bel hb _ _ _,⟨f,g,i,j,k,l,a.putA_other _ _ _ n0,c.putA hx hT,e.putA hx hT⟩,h.room.putA_other hx hT n1,h.rt.putA_other hx hT n2,h.ts.putA_other hx hT n3,h.lv.putA_other hx hT n4⟩
theorem FS.putTs {w0 w:World}{d:FD}{s:St}(h:FS w0 d w s)(ha:d.Apart w0.heap.size){i:Nat}(hi:i<d.n)(q:Rat){uo yo:Option Addr}{un uc yn yc:Nat}(r1:Row w uo un uc (zA q.num.natAbs))(r2:Row w yo yn yc (zA q.den)):FS w0 d (yd w d.gt (i*3) (.bool (negB q)) (.slice uo un uc) (.slice yo yn yc)) ⟨s.lev,s.rt,upd s.ts i q,s.lv⟩:=by
 obtain ⟨j,k,l,m,o,p,e,f,g⟩:=h.box;obtain ⟨c,a⟩:=h.ts.blk;have b:=h.ts.put hi (Nat.le_of_lt hi) q r1 r2;rw[if_neg (by omega)] at b;exact ⟨jBD h.bel ha.lgt _ _ _,⟨j,k,l,m,o,p,e.putA_other _ _ _ ha.a3.symm,f.putA a (by decide),g.putA a (by decide)⟩,h.room.putA_other a (by decide) ha.a6.symm,h.rt.putA_other a (by decide) ha.a8.symm,b,h.lv.putA_other a (by decide) ha.a10⟩
theorem FS.putLv {w0 w:World}{d:FD}{s:St}(h:FS w0 d w s)(ha:d.Apart w0.heap.size){i:Nat}(hi:i<d.n)(q:Rat){uo yo:Option Addr}{un uc yn yc:Nat}(r1:Row w uo un uc (zA q.num.natAbs))(r2:Row w yo yn yc (zA q.den)):FS w0 d (yd w d.gl (i*3) (.bool (negB q)) (.slice uo un uc) (.slice yo yn yc)) ⟨s.lev,s.rt,s.ts,upd s.lv i q⟩:=by
 obtain ⟨j,k,l,m,o,p,e,f,g⟩:=h.box;obtain ⟨c,a⟩:=h.lv.blk;have b:=h.lv.put hi (Nat.le_of_lt hi) q r1 r2;rw[if_neg (by omega)] at b;exact ⟨jBD h.bel ha.lgl _ _ _,⟨j,k,l,m,o,p,e.putA_other _ _ _ ha.a4.symm,f.putA a (by decide),g.putA a (by decide)⟩,h.room.putA_other a (by decide) ha.a7.symm,h.rt.putA_other a (by decide) ha.a9.symm,h.ts.putA_other a (by decide) ha.a10.symm,b⟩
theorem FS.putRt {w0 w:World}{d:FD}{s:St}(h:FS w0 d w s)(ha:d.Apart w0.heap.size){i:Nat}(hi:i<d.n)(q:Rat){uo yo:Option Addr}{un uc yn yc:Nat}(r1:Row w uo un uc (zA q.num.natAbs))(r2:Row w yo yn yc (zA q.den)):FS w0 d (yd w d.gr (i*3) (.bool (negB q)) (.slice uo un uc) (.slice yo yn yc)) ⟨s.lev,upd s.rt i q,s.ts,s.lv⟩:=by
 obtain ⟨j,k,l,m,o,p,e,f,g⟩:=h.box;obtain ⟨c,a⟩:=h.rt.blk;have b:=h.rt.put hi (Nat.le_of_lt hi) q r1 r2;rw[if_neg (by omega)] at b;exact ⟨jBD h.bel ha.lgr _ _ _,⟨j,k,l,m,o,p,e.putA_other _ _ _ ha.a2.symm,f.putA a (by decide),g.putA a (by decide)⟩,h.room.putA_other a (by decide) ha.a5.symm,b,h.ts.putA_other a (by decide) ha.a8,h.lv.putA_other a (by decide) ha.a9⟩
theorem FS.putLev {w0 w:World}{d:FD}{s:St}(h:FS w0 d w s)(ha:d.Apart w0.heap.size)(q:Rat){uo yo:Option Addr}{un uc yn yc:Nat}(r1:Row w uo un uc (zA q.num.natAbs))(r2:Row w yo yn yc (zA q.den)):FS w0 d (yd w d.sb 2 (.bool (negB q)) (.slice uo un uc) (.slice yo yn yc)) ⟨q,s.rt,s.ts,s.lv⟩:=by
 obtain ⟨c,e,f,g,i,j,b,k,l⟩:=h.box;have a:w.heap[d.sb]? = some (.cells (d.cells s.lev c e f g i j) 120 (0,0)):=b;refine ⟨jBD h.bel ha.lsb _ _ _,⟨uo,un,uc,yo,yn,yc,?_,r1.putA a (by decide),r2.putA a (by decide)⟩,h.room.putA_other a (by decide) ha.a1,h.rt.putA_other a (by decide) ha.a2,h.ts.putA_other a (by decide) ha.a3,h.lv.putA_other a (by decide) ha.a4⟩;have:=jDr (u0:=.bool (negB q)) (u1:=.slice uo un uc) (u2:=.slice yo yn yc) (o:=2) a;exact this
structure Small (d:FD)(s:St)(L:Nat):Prop where
  lev:Sm s.lev L
  rt:∀ i,i<d.n->Sm (s.rt i) 4
  ts:∀ i,i<d.n->Sm (s.ts i) L
  lv:∀ i,i<d.n->Sm (s.lv i) L
structure FD.Ok (d:FD)(w0:World):Prop where
  ap:d.Apart w0.heap.size
  users:Users w0 d.ao d.n d.cap d.us
  good:Good d.us d.kk
  n6:d.n<=6
  k4:d.kk<=4
  k1:1<=d.kk
  rooms:∀ i,i<d.kk->Sm (d.room i) 2
  tab:Tab w0
theorem FD.Ok.len {d:FD}{w0:World}(h:d.Ok w0):d.us.length=d.n:=h.users.1
end Go.Proofs.YtigokanoflkinabGreatDoor
