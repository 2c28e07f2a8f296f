/- fill start. (Laid by mksolve.py.) -/
import Derived.Test.YtigokanoflkinaaGreatDoorWStp
namespace Go.Proofs.YtigokanoflkinaaGreatDoor
set_option linter.unusedSimpArgs false
set_option linter.unusedVariables false
open Go.RowKit Por

theorem enL_pos {f : Nat → Rat} {dem : List Int} {r : Nat} (h : 0 < lm dem r) : ∀ k, r < k → 0 < (enL f dem k).length := by
  intro k
  induction k with
  | zero => intro h; omega
  | succ k ih =>
    intro hk
    simp only [enL]
    by_cases e : r = k
    · subst e; rw [if_neg (by omega), List.length_append, List.length_singleton]; omega
    · have := ih (by omega)
      split
      · exact this
      · rw [List.length_append]; omega
theorem Bx.setc {w : World} {b : Nat} {cs : Array Value} {T : TypeId} (h : Bx w b cs T) (j : Nat) (v : Value) : Bx (w.setCell ⟨b, j, none⟩ v) b (cs.setIfInBounds j v) T := heap_setCell_same w b j _ _ v h
theorem wholeF_sm {pool : List Int} (h : ∀ i, amtB (lm pool i) = true) (i : Nat) : Sm (wholeF pool i) 2 := Sm.amt (h i)
/-- the tasks of user i by the level 1 -/
def rateU (pool : List Int) (us : List Usr) (kk : Nat) (i : Nat) : Rat := rateQ (wholeF pool) (ug us i) kk

theorem rate_sm {pool : List Int} {u : Usr} {dn : Nat} (hpa : ∀ i, amtB (lm pool i) = true) (hd : ∀ i, amtB (lm u.dem i) = true) (hl : 0 < (enL (wholeF pool) u.dem dn).length) (hw : 1 ≤ u.wt ∧ u.wt ≤ 100) : Sm (rateQ (wholeF pool) u dn) 9 := by
  unfold rateQ
  have h1 : Sm (leastF (rq (enL (wholeF pool) u.dem dn)) (enL (wholeF pool) u.dem dn).length) 4 := leastF_sm (fun i hi => enL_sm (n := dn) (fun i hi => wholeF_sm hpa i) hd dn (Nat.le_refl _) _ (rq_mem hi)) hl _ (Nat.le_refl _)
  exact h1.mul (Sm.int (by omega) (by omega))

set_option maxHeartbeats 4000000 in
set_option maxRecDepth 20000 in
theorem start_any (po : Option Addr) (pc : Nat) (pool : List Int) (ao : Option Addr) (n cap : Nat) (us : List Usr) (kk : Nat) (w : World) (hp : Arr w 1 po kk pc (ints pool)) (hpa : ∀ i, amtB (lm pool i) = true) (hu : Users w ao n cap us) (hg : Good us kk) (hn6 : n ≤ 6) (hk4 : kk ≤ 4) (hk1 : 1 ≤ kk) (ht : Tab w) :
    Calls Tryz.prog 24 #[.slice po kk pc, .slice ao n cap] w fun e w' => ∃ d : FD, e = .returned (.pointer (some ⟨d.sb, 0, none⟩)) ∧ (d.n = n ∧ d.us = us ∧ d.kk = kk ∧ d.room = wholeF pool) ∧ d.Ok w ∧ FS w d w' ⟨((0 : Int) : Rat), rateU pool us kk, zeroF, zeroF⟩ := by
  have hpl := hp.len
  rw [ints_len] at hpl
  have hul := hu.1
  have HP := hid hp
  have HPA := hid hpa
  have HU := hid hu
  have HG := hid hg
  have HT := hid ht
  clear hp hpa hu hg ht
  have hA0 := (Below.refl _ w).alloc (Nat.le_refl _) (.cells #[.slice ao n cap, .slice none 0 0, .bool false, .slice none 0 0, .slice none 0 0, .slice none 0 0, .slice none 0 0, .slice none 0 0] 92)
  have X0 := hid (bx_new w #[.slice ao n cap, .slice none 0 0, .bool false, .slice none 0 0, .slice none 0 0, .slice none 0 0, .slice none 0 0, .slice none 0 0] 92)
  have HA0 := hid hA0
  clear hA0
  obtain ⟨rb, hrb⟩ : ∃ rb, (w.alloc (.cells #[.slice ao n cap, .slice none 0 0, .bool false, .slice none 0 0, .slice none 0 0, .slice none 0 0, .slice none 0 0, .slice none 0 0] 92)).heap.size = rb := ⟨_, rfl⟩
  have hrblt : w.heap.size < rb := by rw [← hrb]; simp
  have HRB := hid hrb
  clear hrb
  go_enter Tryz.func24, Tryz.ntmps24
  go_wp2_with fail
  refine (wholes_any po kk pc pool _ (HP.out.below HA0.out) HPA.out (by omega) (HT.out.of HA0.out)).mono ?_
  rw [HRB.out]
  rintro e1 w1 ⟨rfl, hfb, hb1⟩
  rw [← HRB.out] at hb1
  have X1 := hid (X0.out.keep hb1)
  have F1 := hid hfb
  have B1 : Hid (Below w.heap.size w w1) := HA0.out.trans (hb1.mono HA0.out.size)
  clear hfb hb1 X0
  have x1c := X1.out.cell 1 _ rfl
  have x1f := X1.out.frozen 1
  have lt1 := X1.out.lt
  go_upto_region 3 with fail
  obtain ⟨W1, hV⟩ : ∃ W1, W1 = w1.setCell ⟨w.heap.size, 1, none⟩ (.slice (some ⟨rb, 0, none⟩) kk kk) := ⟨_, rfl⟩
  have X1b := hid (X1.out.setc 1 (.slice (some ⟨rb, 0, none⟩) kk kk))
  have hx1 : w1.heap[w.heap.size]? = _ := X1.out
  have F1b := hid (F1.out.other (i := 1) (v := .slice (some ⟨rb, 0, none⟩) kk kk) hx1 (by decide) (by omega))
  have B1b : Hid (Below w.heap.size w (w1.setCell ⟨w.heap.size, 1, none⟩ (.slice (some ⟨rb, 0, none⟩) kk kk))) := B1.out.setCell (Nat.le_refl _) _
  rw [← hV] at X1b F1b B1b ⊢
  clear hV x1c x1f lt1 hx1 X1 F1 B1
  go_wp2_with fail
  refine (whole_any 0 (by omega) (by omega) _ (HT.out.of B1b.out)).mono ?_
  rintro e2 w2 ⟨v2, rfl, ⟨za, zb, zc, zd, ze, zf, rfl, hz1, hz2⟩, hb2⟩
  have X2 := hid (X1b.out.keep hb2)
  have F2 := hid (F1b.out.below hb2)
  have B2 : Hid (Below w.heap.size w w2) := B1b.out.trans (hb2.mono B1b.out.size)
  have Z1 := hid hz1
  have Z2 := hid hz2
  clear hz1 hz2 hb2 X1b F1b B1b
  have y2 := X2.out.cell 2 _ rfl
  have u2f := X2.out.frozen 2
  have y3 := X2.out.cell 3 _ rfl
  have u3f := X2.out.frozen 3
  have y4 := X2.out.cell 4 _ rfl
  have u4f := X2.out.frozen 4
  have lt2 := X2.out.lt
  go_upto_region 4 with fail
  generalize hV : World.setCell (World.setCell (World.setCell w2 _ _) _ _) _ _ = W2
  have eV : wputA w2 w.heap.size 2 (.bool (negB ((0 : Int) : Rat))) (.slice za zb zc) (.slice zd ze zf) = W2 := hV
  have hx2 : w2.heap[w.heap.size]? = _ := X2.out
  have X2b := hid (show Bx (wputA w2 w.heap.size 2 (.bool (negB ((0 : Int) : Rat))) (.slice za zb zc) (.slice zd ze zf)) w.heap.size #[.slice ao n cap, .slice (some ⟨rb, 0, none⟩) kk kk, .bool (negB ((0 : Int) : Rat)), .slice za zb zc, .slice zd ze zf, .slice none 0 0, .slice none 0 0, .slice none 0 0] 92 from putA_heap hx2)
  have F2b := hid (F2.out.putA_other (o := 2) (u0 := .bool (negB ((0 : Int) : Rat))) (u1 := .slice za zb zc) (u2 := .slice zd ze zf) hx2 (by decide) (by omega))
  have Z1b := hid (Z1.out.putA (o := 2) (u0 := .bool (negB ((0 : Int) : Rat))) (u1 := .slice za zb zc) (u2 := .slice zd ze zf) hx2 (by decide))
  have Z2b := hid (Z2.out.putA (o := 2) (u0 := .bool (negB ((0 : Int) : Rat))) (u1 := .slice za zb zc) (u2 := .slice zd ze zf) hx2 (by decide))
  have B2b := hid (below_putA (o := 2) B2.out (Nat.le_refl _) (.bool (negB ((0 : Int) : Rat))) (.slice za zb zc) (.slice zd ze zf))
  rw [eV] at X2b F2b Z1b Z2b B2b
  clear hV eV y2 y3 y4 u2f u3f u4f lt2 hx2 X2 F2 B2 Z1 Z2
  go_wp2_with (at_make; refine wpList_make_fras _ rfl _ _ rfl _ _ n rfl rfl rfl rfl (by omega) ?_)
  intro w3 hfb3 hb3 hlt3
  have X3 := hid (X2b.out.keep hb3)
  have F3 := hid (F2b.out.below hb3)
  have Z3 := hid (Z1b.out.below hb3)
  have Z4 := hid (Z2b.out.below hb3)
  have B3 : Hid (Below w.heap.size w w3) := B2b.out.trans (hb3.mono B2b.out.size)
  have G3 := hid (hfb3 (rateU pool us kk))
  have hsbW := X2b.out.lt
  have hrbW := F2b.out.lt
  clear hfb3 hb3 X2b F2b Z1b Z2b B2b
  have x5 := X3.out.cell 5 _ rfl
  have x5f := X3.out.frozen 5
  have lt3 := X3.out.lt
  go_upto_region 5 with fail
  obtain ⟨W3, hV⟩ : ∃ W3, W3 = w3.setCell ⟨w.heap.size, 5, none⟩ (.slice (some ⟨W2.heap.size, 0, none⟩) n n) := ⟨_, rfl⟩
  have hx3 : w3.heap[w.heap.size]? = _ := X3.out
  have X3b := hid (show Bx _ w.heap.size #[.slice ao n cap, .slice (some ⟨rb, 0, none⟩) kk kk, .bool (negB ((0 : Int) : Rat)), .slice za zb zc, .slice zd ze zf, .slice (some ⟨W2.heap.size, 0, none⟩) n n, .slice none 0 0, .slice none 0 0] 92 from X3.out.setc 5 (.slice (some ⟨W2.heap.size, 0, none⟩) n n))
  have F3b := hid (F3.out.other (i := 5) (v := .slice (some ⟨W2.heap.size, 0, none⟩) n n) hx3 (by decide) (by omega))
  have G3b := hid (G3.out.other (i := 5) (v := .slice (some ⟨W2.heap.size, 0, none⟩) n n) hx3 (by decide) (by omega))
  have Z3b := hid (Z3.out.otherB w.heap.size 5 (.slice (some ⟨W2.heap.size, 0, none⟩) n n) hx3 (by decide))
  have Z4b := hid (Z4.out.otherB w.heap.size 5 (.slice (some ⟨W2.heap.size, 0, none⟩) n n) hx3 (by decide))
  have B3b : Hid (Below w.heap.size w (w3.setCell ⟨w.heap.size, 5, none⟩ (.slice (some ⟨W2.heap.size, 0, none⟩) n n))) := B3.out.setCell (Nat.le_refl _) _
  rw [← hV] at X3b F3b G3b Z3b Z4b B3b ⊢
  clear hV x5 x5f lt3 hx3 X3 F3 G3 Z3 Z4 B3
  go_wp2
  go_loopg [28] n (fun g ix wr => ∃ k : Nat, g = n - k ∧ k ≤ n ∧ ix = .int .i64 k ∧ Hid (Bx wr w.heap.size #[.slice ao n cap, .slice (some ⟨rb, 0, none⟩) kk kk, .bool (negB ((0 : Int) : Rat)), .slice za zb zc, .slice zd ze zf, .slice (some ⟨W2.heap.size, 0, none⟩) n n, .slice none 0 0, .slice none 0 0] 92) ∧ Hid (FB wr rb kk kk (wholeF pool)) ∧ Hid (FB wr W2.heap.size n k (rateU pool us kk)) ∧ Hid (Row wr za zb zc (limbs ((0 : Int) : Rat).num.natAbs)) ∧ Hid (Row wr zd ze zf (limbs ((0 : Int) : Rat).den)) ∧ Hid (Below w.heap.size w wr))
  case atStart => exact ⟨0, rfl, Nat.zero_le _, rfl, X3b.out, F3b.out, G3b.out, Z3b.out, Z4b.out, B3b.out⟩
  case round =>
    clear X3b F3b G3b Z3b Z4b B3b
    obtain ⟨k, hgk, hk, rfl, hX, hF, hG, hZ1, hZ2, hB⟩ := hrel
    by_cases hlt : k < n
    · have ltG0 := hG.out.lt
      have hkn : (k : Int) < (n : Int) := by omega
      obtain ⟨b, o, da, dn, dc, rfl, hbl, c0, c1, c2, hd⟩ := (HU.out.below hB.out).get hlt
      have hdl := hd.len
      rw [ints_len, HG.out.len (i := k) (by omega)] at hdl
      have HDL := hid hdl
      clear hdl
      have HD := hid hd
      clear hd
      have XS_21 := hid (bx_past hX.out (.cells #[.slice da dn dc, .int .i64 (ug us k).wt, .int .i64 (ug us k).cap] 56))
      have XU_21 := hid (bx_new wr #[.slice da dn dc, .int .i64 (ug us k).wt, .int .i64 (ug us k).cap] 56)
      have Rf_21 := hid (hF.out.alloc (.cells #[.slice da dn dc, .int .i64 (ug us k).wt, .int .i64 (ug us k).cap] 56))
      have Rg_21 := hid (hG.out.alloc (.cells #[.slice da dn dc, .int .i64 (ug us k).wt, .int .i64 (ug us k).cap] 56))
      have Rz1_21 := hid (hZ1.out.alloc (.cells #[.slice da dn dc, .int .i64 (ug us k).wt, .int .i64 (ug us k).cap] 56))
      have Rz2_21 := hid (hZ2.out.alloc (.cells #[.slice da dn dc, .int .i64 (ug us k).wt, .int .i64 (ug us k).cap] 56))
      have Rd_21 := hid (HD.out.alloc (.cells #[.slice da dn dc, .int .i64 (ug us k).wt, .int .i64 (ug us k).cap] 56))
      have HB_21 : Hid (Below w.heap.size w (wr.alloc (.cells #[.slice da dn dc, .int .i64 (ug us k).wt, .int .i64 (ug us k).cap] 56))) := hB.out.alloc hB.out.size (.cells #[.slice da dn dc, .int .i64 (ug us k).wt, .int .i64 (ug us k).cap] 56)
      have leU : w.heap.size ≤ wr.heap.size := hB.out.size
      clear hX hF hG hZ1 hZ2 HD hB
      go_wp2_with fail
      obtain ⟨V, hV⟩ : ∃ V, V = (wr.alloc (.cells #[.slice da dn dc, .int .i64 (ug us k).wt, .int .i64 (ug us k).cap] 56)) := ⟨_, rfl⟩
      rw [← hV] at XS_21 XU_21 Rf_21 Rg_21 Rz1_21 Rz2_21 Rd_21 HB_21 ⊢
      clear hV
      clear c0 c1 c2
      have m0 := XU_21.out.cell 0 _ rfl
      have m1 := XU_21.out.cell 1 _ rfl
      have m2 := XU_21.out.cell 2 _ rfl
      have ltU := XU_21.out.lt
      have ltS := XS_21.out.lt
      have s1 : V.cell? ⟨w.heap.size, 1, none⟩ = some (.slice (some ⟨rb, 0, none⟩) kk kk) := XS_21.out.cell 1 _ rfl
      have s5 : V.cell? ⟨w.heap.size, 5, none⟩ = some (.slice (some ⟨W2.heap.size, 0, none⟩) n n) := XS_21.out.cell 5 _ rfl
      obtain ⟨r0, hr0, hr1⟩ := HG.out.some (i := k) (by omega)
      have HL0 : Hid (0 < (enL (wholeF pool) (ug us k).dem dn).length) := enL_pos hr1 dn (by have := HDL.out; omega)
      have hwt := HG.out.wt (i := k) (by omega)
      have HGV := Rg_21
      have HFV := Rf_21
      have HDV := Rd_21
      have HBV := HB_21
      have HSV := XS_21
      have hdn4 : dn ≤ 4 := by have := HDL.out; omega
      have hgrV := HGV.out.lt
      have SK : Hid (∀ U, Below V.heap.size V U → U.cell? ⟨w.heap.size, 5, none⟩ = some (.slice (some ⟨W2.heap.size, 0, none⟩) n n) ∧ U.cell? ⟨w.heap.size, 1, none⟩ = some (.slice (some ⟨rb, 0, none⟩) kk kk) ∧ U.cell? ⟨wr.heap.size, 0, none⟩ = some (.slice da dn dc) ∧ U.cell? ⟨wr.heap.size, 1, none⟩ = some (.int .i64 (ug us k).wt) ∧ U.cell? ⟨wr.heap.size, 2, none⟩ = some (.int .i64 (ug us k).cap)) := fun U h => ⟨(h.cell (p := ⟨w.heap.size, 5, none⟩) ltS).trans s5, (h.cell (p := ⟨w.heap.size, 1, none⟩) ltS).trans s1, (h.cell (p := ⟨wr.heap.size, 0, none⟩) ltU).trans m0, (h.cell (p := ⟨wr.heap.size, 1, none⟩) ltU).trans m1, (h.cell (p := ⟨wr.heap.size, 2, none⟩) ltU).trans m2⟩
      have KC : Hid (∀ U, Below V.heap.size V U → Calls Tryz.prog 47 #[.slice (some ⟨rb, 0, none⟩) kk kk, .agg #[.slice da dn dc, .int .i64 (ug us k).wt, .int .i64 (ug us k).cap]] U (fun e w' => ∃ v, e = .returned v ∧ Frac w' v (rateQ (wholeF pool) (ug us k) dn) ∧ Below V.heap.size V w')) := fun U hU => (rateOf_any (some ⟨rb, 0, none⟩) kk kk (wholeF pool) da dn dc (ug us k) U ((HFV.out.below hU).frs (by unfold maxLen; omega)) (fun i hi => (wholeF_sm HPA.out i).mono (by omega)) (HDV.out.below hU) (fun i => HG.out.dem (i := k) (by omega) i) (by have := HDL.out; omega) hdn4 hwt HL0.out (HT.out.of (HBV.out.trans (hU.mono HBV.out.size)))).mono (fun e w' ⟨v, h1, h2, h3⟩ => ⟨v, h1, h2, hU.trans (h3.mono hU.size)⟩)
      have ds5 : V.drew.cell? ⟨w.heap.size, 5, none⟩ = some (.slice (some ⟨W2.heap.size, 0, none⟩) n n) := ((Below.refl V.heap.size V).drew.cell (p := ⟨w.heap.size, 5, none⟩) ltS).trans s5
      have ds1 : V.drew.cell? ⟨w.heap.size, 1, none⟩ = some (.slice (some ⟨rb, 0, none⟩) kk kk) := ((Below.refl V.heap.size V).drew.cell (p := ⟨w.heap.size, 1, none⟩) ltS).trans s1
      have dm0 : V.drew.cell? ⟨wr.heap.size, 0, none⟩ = some (.slice da dn dc) := ((Below.refl V.heap.size V).drew.cell (p := ⟨wr.heap.size, 0, none⟩) ltU).trans m0
      have dm1 : V.drew.cell? ⟨wr.heap.size, 1, none⟩ = some (.int .i64 (ug us k).wt) := ((Below.refl V.heap.size V).drew.cell (p := ⟨wr.heap.size, 1, none⟩) ltU).trans m1
      have dm2 : V.drew.cell? ⟨wr.heap.size, 2, none⟩ = some (.int .i64 (ug us k).cap) := ((Below.refl V.heap.size V).drew.cell (p := ⟨wr.heap.size, 2, none⟩) ltU).trans m2
      go_region_held3 (fun w' => w'.cell? ⟨w.heap.size, 5, none⟩ = some (.slice (some ⟨W2.heap.size, 0, none⟩) n n) ∧ w'.cell? ⟨w.heap.size, 1, none⟩ = some (.slice (some ⟨rb, 0, none⟩) kk kk) ∧ w'.cell? ⟨wr.heap.size, 0, none⟩ = some (.slice da dn dc) ∧ w'.cell? ⟨wr.heap.size, 1, none⟩ = some (.int .i64 (ug us k).wt) ∧ w'.cell? ⟨wr.heap.size, 2, none⟩ = some (.int .i64 (ug us k).cap)) (first | exact SK.out _ (Below.refl _ _).drew | exact SK.out _ hb7 | exact SK.out _ hb7 | exact ⟨(cell_putA (by omega)).trans (SK.out _ hb7).1, (cell_putA (by omega)).trans (SK.out _ hb7).2.1, (cell_putA (by omega)).trans (SK.out _ hb7).2.2.1, (cell_putA (by omega)).trans (SK.out _ hb7).2.2.2.1, (cell_putA (by omega)).trans (SK.out _ hb7).2.2.2.2⟩)
        (first | (go_at_call 47; refine (KC.out _ ?hU).mono ?_; (case hU => exact (Below.refl _ _).drew); rintro e7 w7 ⟨v7, rfl, ⟨qa, qb, qc, qd, qe, qf, rfl, hq1, hq2⟩, hb7⟩; obtain ⟨x0, hx0⟩ := (HGV.out.below hb7).has (j := k * 3) (by omega); have z0 := (HGV.out.below hb7).frozen (k * 3); obtain ⟨x1, hx1⟩ := (HGV.out.below hb7).has (j := k * 3 + 1) (by omega); have z1 := (HGV.out.below hb7).frozen (k * 3 + 1); obtain ⟨x2, hx2⟩ := (HGV.out.below hb7).has (j := k * 3 + 2) (by omega); have z2 := (HGV.out.below hb7).frozen (k * 3 + 2); have ltt := (HGV.out.below hb7).lt))
      have XS_24 := hid (XS_21.out.keep hb7)
      have XU_24 := hid (XU_21.out.keep hb7)
      have Rf_24 := hid (Rf_21.out.below hb7)
      have Rg_24 := hid (Rg_21.out.below hb7)
      have Rz1_24 := hid (Rz1_21.out.below hb7)
      have Rz2_24 := hid (Rz2_21.out.below hb7)
      have Rd_24 := hid (Rd_21.out.below hb7)
      have HB_24 : Hid (Below w.heap.size w w7) := HB_21.out.trans (hb7.mono HB_21.out.size)
      clear XS_21 XU_21 Rf_21 Rg_21 Rz1_21 Rz2_21 Rd_21 HB_21
      clear SK KC
      have Rq1_24 := hid hq1
      have Rq2_24 := hid hq2
      have SMq := hid (show Sm (rateQ (wholeF pool) (ug us k) dn) 9 from rate_sm HPA.out (fun i => HG.out.dem (i := k) (by omega) i) HL0.out hwt)
      have lq1 := hq1.sm1 SMq.out
      have lq2 := hq2.sm2 SMq.out
      clear hq1 hq2 hb7
      go_wp2
      go_roundg (n - (k + 1))
      case measure => omega
      case rel =>
        have eq : rateQ (wholeF pool) (ug us k) dn = rateU pool us kk k := by unfold rateU; rw [HDL.out]
        have q1 := Rq1_24.out
        have q2 := Rq2_24.out
        have hput := Rg_24.out.put hlt (Nat.le_refl k) (rateQ (wholeF pool) (ug us k) dn) q1 q2
        rw [if_pos rfl] at hput
        obtain ⟨arrg, hxg⟩ := Rg_24.out.blk
        refine ⟨k + 1, rfl, by omega, by go_num, Bx.putA_other XS_24.out _ _ _ (by omega), Rf_24.out.putA_other hxg (by decide) (by omega), hput.congr (fun j hj => ?_), Rz1_24.out.putA hxg (by decide), Rz2_24.out.putA hxg (by decide), below_putA HB_24.out (by omega) _ _ _⟩
        by_cases e : j = k
        · subst e; rw [upd_same]; exact eq
        · rw [upd_other _ _ e]
    · obtain rfl : k = n := by omega
      have B4 := hB
      have hbs := hB.out.size
      have ltX := hX.out.lt
      have ltR := hF.out.lt
      have ltG := hG.out.lt
      go_wp2_with fail
      refine (zeros_any k _ (by omega) (HT.out.of hB.out)).mono ?_
      rintro e4 w4 ⟨rfl, hfb4, hb4⟩
      have X4 := hid (hX.out.keep hb4)
      have F4 := hid (hF.out.below hb4)
      have G4 := hid (hG.out.below hb4)
      have Z5 := hid (hZ1.out.below hb4)
      have Z6 := hid (hZ2.out.below hb4)
      have T4 := hid hfb4
      have B4 : Hid (Below w.heap.size w w4) := hB.out.trans (hb4.mono hB.out.size)
      have lt4 := hfb4.lt
      clear hfb4 hb4 hX hF hG hZ1 hZ2 hB
      have x6 := X4.out.cell 6 _ rfl
      have x6f := X4.out.frozen 6
      have ltX4 := X4.out.lt
      go_upto_region 11 with fail
      obtain ⟨W4, hV⟩ : ∃ W4, W4 = w4.setCell ⟨w.heap.size, 6, none⟩ (.slice (some ⟨wr.heap.size, 0, none⟩) k k) := ⟨_, rfl⟩
      have hx4 : w4.heap[w.heap.size]? = _ := X4.out
      have X4b := hid (show Bx _ w.heap.size #[.slice ao k cap, .slice (some ⟨rb, 0, none⟩) kk kk, .bool (negB ((0 : Int) : Rat)), .slice za zb zc, .slice zd ze zf, .slice (some ⟨W2.heap.size, 0, none⟩) k k, .slice (some ⟨wr.heap.size, 0, none⟩) k k, .slice none 0 0] 92 from X4.out.setc 6 (.slice (some ⟨wr.heap.size, 0, none⟩) k k))
      have F4b := hid (F4.out.other (i := 6) (v := .slice (some ⟨wr.heap.size, 0, none⟩) k k) hx4 (by decide) (by omega))
      have G4b := hid (G4.out.other (i := 6) (v := .slice (some ⟨wr.heap.size, 0, none⟩) k k) hx4 (by decide) (by omega))
      have T4b := hid (T4.out.other (i := 6) (v := .slice (some ⟨wr.heap.size, 0, none⟩) k k) hx4 (by decide) (by omega))
      have Z5b := hid (Z5.out.otherB w.heap.size 6 (.slice (some ⟨wr.heap.size, 0, none⟩) k k) hx4 (by decide))
      have Z6b := hid (Z6.out.otherB w.heap.size 6 (.slice (some ⟨wr.heap.size, 0, none⟩) k k) hx4 (by decide))
      have B4b : Hid (Below w.heap.size w (w4.setCell ⟨w.heap.size, 6, none⟩ (.slice (some ⟨wr.heap.size, 0, none⟩) k k))) := B4.out.setCell (Nat.le_refl _) _
      have hsz : w4.heap.size ≤ (w4.setCell ⟨w.heap.size, 6, none⟩ (.slice (some ⟨wr.heap.size, 0, none⟩) k k)).heap.size := by simp [World.setCell]
      rw [← hV] at X4b F4b G4b T4b Z5b Z6b B4b hsz ⊢
      clear hV x6 x6f hx4 X4 F4 G4 T4 Z5 Z6 B4 ltX4
      go_wp2_with fail
      refine (zeros_any k _ (by omega) (HT.out.of B4b.out)).mono ?_
      rintro e5 w5 ⟨rfl, hfb5, hb5⟩
      have X5 := hid (X4b.out.keep hb5)
      have F5 := hid (F4b.out.below hb5)
      have G5 := hid (G4b.out.below hb5)
      have T5 := hid (T4b.out.below hb5)
      have Z7 := hid (Z5b.out.below hb5)
      have Z8 := hid (Z6b.out.below hb5)
      have L5 := hid hfb5
      have B5 : Hid (Below w.heap.size w w5) := B4b.out.trans (hb5.mono B4b.out.size)
      clear hfb5 hb5 X4b F4b G4b T4b Z5b Z6b B4b
      have x7 := X5.out.cell 7 _ rfl
      have x7f := X5.out.frozen 7
      have ltX5 := X5.out.lt
      go_wp2
      go_ret
      have hx5 : w5.heap[w.heap.size]? = _ := X5.out
      have X5b := show Bx _ w.heap.size #[.slice ao k cap, .slice (some ⟨rb, 0, none⟩) kk kk, .bool (negB ((0 : Int) : Rat)), .slice za zb zc, .slice zd ze zf, .slice (some ⟨W2.heap.size, 0, none⟩) k k, .slice (some ⟨wr.heap.size, 0, none⟩) k k, .slice (some ⟨W4.heap.size, 0, none⟩) k k] 92 from X5.out.setc 7 (.slice (some ⟨W4.heap.size, 0, none⟩) k k)
      have F5b := F5.out.other (i := 7) (v := .slice (some ⟨W4.heap.size, 0, none⟩) k k) hx5 (by decide) (by omega)
      have G5b := G5.out.other (i := 7) (v := .slice (some ⟨W4.heap.size, 0, none⟩) k k) hx5 (by decide) (by omega)
      have T5b := T5.out.other (i := 7) (v := .slice (some ⟨W4.heap.size, 0, none⟩) k k) hx5 (by decide) (by omega)
      have L5b := L5.out.other (i := 7) (v := .slice (some ⟨W4.heap.size, 0, none⟩) k k) hx5 (by decide) (by omega)
      have Z7b := Z7.out.otherB w.heap.size 7 (.slice (some ⟨W4.heap.size, 0, none⟩) k k) hx5 (by decide)
      have Z8b := Z8.out.otherB w.heap.size 7 (.slice (some ⟨W4.heap.size, 0, none⟩) k k) hx5 (by decide)
      have B5b : Below w.heap.size w (w5.setCell ⟨w.heap.size, 7, none⟩ (.slice (some ⟨W4.heap.size, 0, none⟩) k k)) := B5.out.setCell (Nat.le_refl _) _
      refine ⟨⟨ao, k, cap, us, kk, wholeF pool, w.heap.size, rb, W2.heap.size, wr.heap.size, W4.heap.size⟩, rfl, ⟨rfl, rfl, rfl, rfl⟩, ⟨⟨?_, ?_, ?_, ?_, ?_, ?_, ?_, ?_, ?_, ?_, ?_, ?_, ?_, ?_, ?_⟩, HU.out, HG.out, hn6, hk4, hk1, fun i _ => wholeF_sm HPA.out i, HT.out⟩, ⟨B5b, ⟨za, zb, zc, zd, ze, zf, X5b, Z7b, Z8b⟩, F5b, G5b, T5b, L5b⟩⟩
      all_goals (simp only []; omega)

end Go.Proofs.YtigokanoflkinaaGreatDoor
