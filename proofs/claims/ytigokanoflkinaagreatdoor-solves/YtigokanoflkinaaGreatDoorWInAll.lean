/- fill.inAll, isBorne. (Laid by mkfill.py.) -/
import Derived.Test.YtigokanoflkinaaGreatDoorWCaps
import Derived.Deep.RegionHeld3
import Derived.Deep.DeepCutAuto
namespace Go.Proofs.YtigokanoflkinaaGreatDoor
set_option linter.unusedSimpArgs false
set_option linter.unusedVariables false
open Go.RowKit Por
/-- what user i demands of kind r -/
abbrev dm (us : List Usr) (i r : Nat) : Rat := ((lm (ug us i).dem r : Int) : Rat)
def totF (us : List Usr) (f : Nat → Rat) (r : Nat) : Nat → Rat := fun m => sumN (fun i => f i * dm us i r) m
theorem Sm.zero5 : Sm ((0 : Int) : Rat) 5 := Sm.int (by decide) (by decide)
theorem tot_sm {us : List Usr} {k L n : Nat} {f : Nat → Rat} (hg : Good us k) (hn : n ≤ us.length) (hs : ∀ i, i < n → Sm (f i) L) (r : Nat) : ∀ m, m ≤ n → Sm (totF us f r m) (5 + m * (L + 3)) := by
  intro m
  induction m with
  | zero => intro _; exact Sm.zero5.mono (by omega)
  | succ m ih =>
    intro hm
    have h1 := ih (by omega)
    have h2 := (hs m (by omega)).mul (Sm.amt (hg.dem (i := m) (by omega) r))
    have h3 := h1.add h2
    refine h3.mono ?_
    rw [Nat.add_mul]; omega

set_option maxHeartbeats 2000000 in
set_option maxRecDepth 20000 in
theorem inAll_any (ao : Option Addr) (n cap : Nat) (us : List Usr) (vo : Option Addr) (cap2 kk r L : Nat) (f : Nat → Rat) (w : World) (hu : Users w ao n cap us) (hg : Good us kk) (hf : Frs w vo n cap2 f) (hs : ∀ i, i < n → Sm (f i) L) (hr : r < kk) (hkk : kk ≤ 4) (hL : 5 + n * (L + 3) ≤ 10000) (ht : Tab w) :
    Calls Tryz.prog 100 #[.slice ao n cap, .slice vo n cap2, .int .i64 r] w fun e w' => ∃ v, e = .returned v ∧ Frac w' v (totF us f r n) ∧ Below w.heap.size w w' := by
  have hnm := hf.le
  unfold maxLen at hnm
  have hul := hu.1
  have HU := hid hu
  have HG := hid hg
  have HF := hid hf
  have HS := hid hs
  have HT := hid ht
  clear hu hg hf hs ht
  have HB_0 := hid (Below.refl w.heap.size w)
  have XR_1 := hid (bx_new w #[.bool false, .slice none 0 0, .slice none 0 0] 90)
  have HB_1 : Hid (Below w.heap.size w (w.alloc (.cells #[.bool false, .slice none 0 0, .slice none 0 0] 90))) := HB_0.out.alloc HB_0.out.size (.cells #[.bool false, .slice none 0 0, .slice none 0 0] 90)
  have leR : w.heap.size ≤ w.heap.size := HB_0.out.size
  clear HB_0
  go_enter Tryz.func100, Tryz.ntmps100
  go_wp2_with fail
  refine (whole_any 0 (by omega) (by omega) _ (HT.out.of HB_1.out)).mono ?_
  rintro e1 w1 ⟨v1, rfl, ⟨ja, jb, jc, jd, je, jf, rfl, hj1, hj2⟩, hb1⟩
  have XR_2 := hid (XR_1.out.keep hb1)
  have HB_2 : Hid (Below w.heap.size w w1) := HB_1.out.trans (hb1.mono HB_1.out.size)
  clear XR_1 HB_1
  clear hb1
  have Rj1_2 := hid hj1
  have Rj2_2 := hid hj2
  have SMj := hid (show Sm (((0 : Int) : Rat)) 5 from Sm.zero5)
  have lj1 := hj1.sm1 SMj.out
  have lj2 := hj2.sm2 SMj.out
  clear hj1 hj2
  have ltRS : w.heap.size < w1.heap.size := XR_2.out.lt
  have XR_3 := hid (bx_past XR_2.out (.cells #[.bool (negB ((0 : Int) : Rat)), .slice ja jb jc, .slice jd je jf] 90))
  have XS_3 := hid (bx_new w1 #[.bool (negB ((0 : Int) : Rat)), .slice ja jb jc, .slice jd je jf] 90)
  have Rj1_3 := hid (Rj1_2.out.alloc (.cells #[.bool (negB ((0 : Int) : Rat)), .slice ja jb jc, .slice jd je jf] 90))
  have Rj2_3 := hid (Rj2_2.out.alloc (.cells #[.bool (negB ((0 : Int) : Rat)), .slice ja jb jc, .slice jd je jf] 90))
  have HB_3 : Hid (Below w.heap.size w (w1.alloc (.cells #[.bool (negB ((0 : Int) : Rat)), .slice ja jb jc, .slice jd je jf] 90))) := HB_2.out.alloc HB_2.out.size (.cells #[.bool (negB ((0 : Int) : Rat)), .slice ja jb jc, .slice jd je jf] 90)
  have leS : w.heap.size ≤ w1.heap.size := HB_2.out.size
  clear XR_2 Rj1_2 Rj2_2 HB_2
  go_wp2
  go_loopg [15] n (fun g i wr => ∃ (k : Nat) (sa : Option Addr) (sb sc : Nat) (sd : Option Addr) (se sf : Nat), g = n - k ∧ k ≤ n ∧ i = .int .i64 k ∧ Hid (Bx wr w.heap.size #[.bool false, .slice none 0 0, .slice none 0 0] 90) ∧ Hid (Bx wr w1.heap.size #[.bool (negB (totF us f r k)), .slice sa sb sc, .slice sd se sf] 90) ∧ Hid (Row wr sa sb sc (limbs (totF us f r k).num.natAbs)) ∧ Hid (Row wr sd se sf (limbs (totF us f r k).den)) ∧ Hid (Below w.heap.size w wr))
  case atStart => exact ⟨0, ja, jb, jc, jd, je, jf, rfl, Nat.zero_le _, rfl, XR_3.out, XS_3.out, Rj1_3.out, Rj2_3.out, HB_3.out⟩
  case round =>
    clear lj1 lj2 Rj1_3 Rj2_3 SMj XR_3 XS_3 HB_3
    obtain ⟨k, sa, sb, sc, sd, se, sf, hgk, hk, rfl, hX, hY, hs1, hs2, hB⟩ := hrel
    have SK := hid (tot_sm HG.out (by omega) HS.out r k hk)
    by_cases hlt : k < n
    · have ST := SK
      clear SK
      have ls1 := hs1.out.sm1 ST.out
      have ls2 := hs2.out.sm2 ST.out
      have hmul : 5 + k * (L + 3) ≤ 10000 := Nat.le_trans (Nat.add_le_add_left (Nat.mul_le_mul_right _ hk) _) hL
      have hLL : L + 8 ≤ 10000 := by have := Nat.mul_le_mul_right (L + 3) (show 1 ≤ n by omega); omega
      have ltS0 := hY.out.lt
      have ltR0 := hX.out.lt
      obtain ⟨b, o, da, dn, dc, rfl, hbl, c0, c1, c2, hd⟩ := (HU.out.below hB.out).get hlt
      have hdl := hd.len
      rw [ints_len, HG.out.len (i := k) (by omega)] at hdl
      have hdr : (r : Int) < (dn : Int) := by omega
      have hdm := amt_rng (HG.out.dem (i := k) (by omega) r)
      have SD := hid (Sm.amt (HG.out.dem (i := k) (by omega) r))
      obtain ⟨db, dof, rfl, hdb⟩ := hd.head (by omega)
      have cd := hd.int rfl (i := r) (by omega)
      clear hd
      have hdb2 : db < wr.heap.size + 1 := by omega
      have XR_21 := hid (bx_past hX.out (.cells #[.slice (some ⟨db, dof, none⟩) dn dc, .int .i64 (ug us k).wt, .int .i64 (ug us k).cap] 56))
      have XS_21 := hid (bx_past hY.out (.cells #[.slice (some ⟨db, dof, none⟩) dn dc, .int .i64 (ug us k).wt, .int .i64 (ug us k).cap] 56))
      have XU_21 := hid (bx_new wr #[.slice (some ⟨db, dof, none⟩) dn dc, .int .i64 (ug us k).wt, .int .i64 (ug us k).cap] 56)
      have Rs1_21 := hid (hs1.out.alloc (.cells #[.slice (some ⟨db, dof, none⟩) dn dc, .int .i64 (ug us k).wt, .int .i64 (ug us k).cap] 56))
      have Rs2_21 := hid (hs2.out.alloc (.cells #[.slice (some ⟨db, dof, none⟩) dn dc, .int .i64 (ug us k).wt, .int .i64 (ug us k).cap] 56))
      have HB_21 : Hid (Below w.heap.size w (wr.alloc (.cells #[.slice (some ⟨db, dof, none⟩) dn dc, .int .i64 (ug us k).wt, .int .i64 (ug us k).cap] 56))) := hB.out.alloc hB.out.size (.cells #[.slice (some ⟨db, dof, none⟩) dn dc, .int .i64 (ug us k).wt, .int .i64 (ug us k).cap] 56)
      have leU : w.heap.size ≤ wr.heap.size := hB.out.size
      clear hX hY hs1 hs2 hB
      go_wp2_with fail
      refine (whole_any (lm (ug us k).dem r) (by omega) (by omega) _ (HT.out.of HB_21.out)).mono ?_
      rintro e21 w21 ⟨v21, rfl, ⟨da, db, dc, dd, de, df, rfl, hd1, hd2⟩, hb21⟩
      have XR_22 := hid (XR_21.out.keep hb21)
      have XS_22 := hid (XS_21.out.keep hb21)
      have XU_22 := hid (XU_21.out.keep hb21)
      have Rs1_22 := hid (Rs1_21.out.below hb21)
      have Rs2_22 := hid (Rs2_21.out.below hb21)
      have HB_22 : Hid (Below w.heap.size w w21) := HB_21.out.trans (hb21.mono HB_21.out.size)
      clear XR_21 XS_21 XU_21 Rs1_21 Rs2_21 HB_21
      clear hb21
      have Rd1_22 := hid hd1
      have Rd2_22 := hid hd2
      have SMd := hid (show Sm (dm us k r) 2 from SD.out)
      have ld1 := hd1.sm1 SMd.out
      have ld2 := hd2.sm2 SMd.out
      clear hd1 hd2
      clear c0 c1 c2 cd
      have XR_23 := hid (bx_past XR_22.out (.cells #[.bool (negB (dm us k r)), .slice da db dc, .slice dd de df] 90))
      have XS_23 := hid (bx_past XS_22.out (.cells #[.bool (negB (dm us k r)), .slice da db dc, .slice dd de df] 90))
      have XU_23 := hid (bx_past XU_22.out (.cells #[.bool (negB (dm us k r)), .slice da db dc, .slice dd de df] 90))
      have XD_23 := hid (bx_new w21 #[.bool (negB (dm us k r)), .slice da db dc, .slice dd de df] 90)
      have Rs1_23 := hid (Rs1_22.out.alloc (.cells #[.bool (negB (dm us k r)), .slice da db dc, .slice dd de df] 90))
      have Rs2_23 := hid (Rs2_22.out.alloc (.cells #[.bool (negB (dm us k r)), .slice da db dc, .slice dd de df] 90))
      have Rd1_23 := hid (Rd1_22.out.alloc (.cells #[.bool (negB (dm us k r)), .slice da db dc, .slice dd de df] 90))
      have Rd2_23 := hid (Rd2_22.out.alloc (.cells #[.bool (negB (dm us k r)), .slice da db dc, .slice dd de df] 90))
      have HB_23 : Hid (Below w.heap.size w (w21.alloc (.cells #[.bool (negB (dm us k r)), .slice da db dc, .slice dd de df] 90))) := HB_22.out.alloc HB_22.out.size (.cells #[.bool (negB (dm us k r)), .slice da db dc, .slice dd de df] 90)
      have leD : w.heap.size ≤ w21.heap.size := HB_22.out.size
      clear XR_22 XS_22 XU_22 Rs1_22 Rs2_22 Rd1_22 Rd2_22 HB_22
      go_wp2_with fail
      obtain ⟨V, hV⟩ : ∃ V, V = (w21.alloc (.cells #[.bool (negB (dm us k r)), .slice da db dc, .slice dd de df] 90)) := ⟨_, rfl⟩
      rw [← hV] at XR_23 XS_23 XU_23 XD_23 Rs1_23 Rs2_23 Rd1_23 Rd2_23 HB_23 ⊢
      clear hV
      obtain ⟨b2, o2, ua, ub, uc, ud, ue, uf, rfl, hbl2, c0, c1, c2, hu1, hu2⟩ := (HF.out.below HB_23.out).get hlt
      have lu1 := hu1.sm1 (HS.out k hlt)
      have lu2 := hu2.sm2 (HS.out k hlt)
      have m0 := XD_23.out.cell 0 _ rfl
      have m1 := XD_23.out.cell 1 _ rfl
      have m2 := XD_23.out.cell 2 _ rfl
      have ltD0 := XD_23.out.lt
      have HU1 := hid hu1
      have HU2 := hid hu2
      clear hu1 hu2
      have SK : Hid (∀ U, Below V.heap.size V U → U.cell? ⟨b2, o2 + k * 3, none⟩ = some (.bool (negB (f k))) ∧ U.cell? ⟨b2, o2 + k * 3 + 1, none⟩ = some (.slice ua ub uc) ∧ U.cell? ⟨b2, o2 + k * 3 + 2, none⟩ = some (.slice ud ue uf) ∧ U.cell? ⟨w21.heap.size, 0, none⟩ = some (.bool (negB (dm us k r))) ∧ U.cell? ⟨w21.heap.size, 1, none⟩ = some (.slice da db dc) ∧ U.cell? ⟨w21.heap.size, 2, none⟩ = some (.slice dd de df)) := fun U h => ⟨(h.cell (p := ⟨b2, o2 + k * 3, none⟩) hbl2).trans c0, (h.cell (p := ⟨b2, o2 + k * 3 + 1, none⟩) hbl2).trans c1, (h.cell (p := ⟨b2, o2 + k * 3 + 2, none⟩) hbl2).trans c2, (h.cell (p := ⟨w21.heap.size, 0, none⟩) ltD0).trans m0, (h.cell (p := ⟨w21.heap.size, 1, none⟩) ltD0).trans m1, (h.cell (p := ⟨w21.heap.size, 2, none⟩) ltD0).trans m2⟩
      have KC : Hid (∀ U, Below V.heap.size V U → Calls Tryz.prog 53 #[.agg #[.bool (negB (f k)), .slice ua ub uc, .slice ud ue uf], .agg #[.bool (negB (dm us k r)), .slice da db dc, .slice dd de df]] U (fun e w' => ∃ v, e = .returned v ∧ Frac w' v (f k * dm us k r) ∧ Below V.heap.size V w' ∧ Below U.heap.size U w')) := fun U hU => (rmul_any ua ud da dd ub uc ue uf db dc de df (f k) (dm us k r) U (HU1.out.below hU) (HU2.out.below hU) (Rd1_23.out.below hU) (Rd2_23.out.below hU) (by omega) (by omega) (by omega) (by omega)).mono (fun e w' ⟨v, h1, h2, h3⟩ => ⟨v, h1, h2, hU.trans (h3.mono hU.size), h3⟩)
      go_cut [11, 15] (fun pp y0 wx => ∃ (PB : Nat) (pa : Option Addr) (pb pc : Nat) (pd : Option Addr) (pe pf : Nat), pp = .pointer (some ⟨PB, 0, none⟩) ∧ .int .i64 (k : Nat) = y0 ∧ Hid (Bx wx w.heap.size #[.bool false, .slice none 0 0, .slice none 0 0] 90) ∧ Hid (Bx wx w1.heap.size #[.bool (negB (totF us f r k)), .slice sa sb sc, .slice sd se sf] 90) ∧ Hid (Row wx sa sb sc (limbs (totF us f r k).num.natAbs)) ∧ Hid (Row wx sd se sf (limbs (totF us f r k).den)) ∧ Hid (Bx wx PB #[.bool (negB (f k * dm us k r)), .slice pa pb pc, .slice pd pe pf] 90) ∧ Hid (Row wx pa pb pc (limbs (f k * dm us k r).num.natAbs)) ∧ Hid (Row wx pd pe pf (limbs (f k * dm us k r).den)) ∧ Hid (Below w.heap.size w wx) ∧ V.heap.size ≤ PB)
      case first =>
        have dc0 : V.drew.cell? ⟨b2, o2 + k * 3, none⟩ = some (.bool (negB (f k))) := ((Below.refl V.heap.size V).drew.cell (p := ⟨b2, o2 + k * 3, none⟩) hbl2).trans c0
        have dc1 : V.drew.cell? ⟨b2, o2 + k * 3 + 1, none⟩ = some (.slice ua ub uc) := ((Below.refl V.heap.size V).drew.cell (p := ⟨b2, o2 + k * 3 + 1, none⟩) hbl2).trans c1
        have dc2 : V.drew.cell? ⟨b2, o2 + k * 3 + 2, none⟩ = some (.slice ud ue uf) := ((Below.refl V.heap.size V).drew.cell (p := ⟨b2, o2 + k * 3 + 2, none⟩) hbl2).trans c2
        have dm0 : V.drew.cell? ⟨w21.heap.size, 0, none⟩ = some (.bool (negB (dm us k r))) := ((Below.refl V.heap.size V).drew.cell (p := ⟨w21.heap.size, 0, none⟩) ltD0).trans m0
        have dm1 : V.drew.cell? ⟨w21.heap.size, 1, none⟩ = some (.slice da db dc) := ((Below.refl V.heap.size V).drew.cell (p := ⟨w21.heap.size, 1, none⟩) ltD0).trans m1
        have dm2 : V.drew.cell? ⟨w21.heap.size, 2, none⟩ = some (.slice dd de df) := ((Below.refl V.heap.size V).drew.cell (p := ⟨w21.heap.size, 2, none⟩) ltD0).trans m2
        go_region_held3 (fun w' => w'.cell? ⟨b2, o2 + k * 3, none⟩ = some (.bool (negB (f k))) ∧ w'.cell? ⟨b2, o2 + k * 3 + 1, none⟩ = some (.slice ua ub uc) ∧ w'.cell? ⟨b2, o2 + k * 3 + 2, none⟩ = some (.slice ud ue uf) ∧ w'.cell? ⟨w21.heap.size, 0, none⟩ = some (.bool (negB (dm us k r))) ∧ w'.cell? ⟨w21.heap.size, 1, none⟩ = some (.slice da db dc) ∧ w'.cell? ⟨w21.heap.size, 2, none⟩ = some (.slice dd de df)) (first | exact SK.out _ (Below.refl _ _).drew | exact SK.out _ ((Below.refl _ _).alloc (Nat.le_refl _) _).drew | exact SK.out _ hb7 | exact SK.out _ (hb7.alloc hb7.size _) | exact SK.out _ (below_put3 hb7 (Nat.le_refl _) _ _ _))
          (first | (go_at_call 53; refine (KC.out _ ?hU).mono ?_; (case hU => first | exact (Below.refl _ _).drew | exact ((Below.refl _ _).alloc (Nat.le_refl _) _).drew); rintro e7 w7 ⟨v7, rfl, ⟨pa, pb, pc, pd, pe, pf, rfl, hp1, hp2⟩, hb7, hu7⟩; try (have XP7 := (bx_new V #[.bool false, .slice none 0 0, .slice none 0 0] 90).drew.keep hu7; have xp0 := XP7.cell 0 _ rfl; have xp1 := XP7.cell 1 _ rfl; have xp2 := XP7.cell 2 _ rfl; have xf0 := XP7.frozen 0; have xf1 := XP7.frozen 1; have xf2 := XP7.frozen 2; have xl := XP7.lt; clear XP7)))
        all_goals (go_wp2_with fail; go_meet)
        all_goals (first | exact ⟨w7.heap.size, pa, pb, pc, pd, pe, pf, rfl, rfl, bx_past (XR_23.out.keep hb7) _, bx_past (XS_23.out.keep hb7) _, (Rs1_23.out.below hb7).alloc _, (Rs2_23.out.below hb7).alloc _, bx_new w7 _ _, hp1.alloc _, hp2.alloc _, (HB_23.out.trans (hb7.mono HB_23.out.size)).alloc (Nat.le_trans HB_23.out.size hb7.size) _, hb7.size⟩ | exact ⟨V.heap.size, pa, pb, pc, pd, pe, pf, rfl, rfl, XR_23.out.keep (below_put3 hb7 (Nat.le_refl _) _ _ _), XS_23.out.keep (below_put3 hb7 (Nat.le_refl _) _ _ _), Rs1_23.out.below (below_put3 hb7 (Nat.le_refl _) _ _ _), Rs2_23.out.below (below_put3 hb7 (Nat.le_refl _) _ _ _), Bx.put3 ((bx_new V #[.bool false, .slice none 0 0, .slice none 0 0] 90).drew.keep hu7) _ _ _, hp1.put3 ((bx_new V #[.bool false, .slice none 0 0, .slice none 0 0] 90).drew.keep hu7) (by decide) _ _ _, hp2.put3 ((bx_new V #[.bool false, .slice none 0 0, .slice none 0 0] 90).drew.keep hu7) (by decide) _ _ _, below_put3 (HB_23.out.trans (hb7.mono HB_23.out.size)) HB_23.out.size _ _ _, Nat.le_refl _⟩)
      case rest =>
        obtain ⟨PBp, pa, pb, pc, pd, pe, pf, rfl, rfl, XR_26, XS_26, Rs1_26, Rs2_26, XpB_26, Rp1_26, Rp2_26, HB_26, lePBp⟩ := hcut
        clear SK KC XR_23 XS_23 XU_23 XD_23 Rs1_23 Rs2_23 HB_23
        have SMp := hid (show Sm (f k * dm us k r) (L + 2) from (HS.out k hlt).mul SD.out)
        have lp1 := Rp1_26.out.sm1 SMp.out
        have lp2 := Rp2_26.out.sm2 SMp.out
        have ltS := XS_26.out.lt
        have cS0 := XS_26.out.cell 0 _ rfl
        have zS0 := XS_26.out.frozen 0
        have cS1 := XS_26.out.cell 1 _ rfl
        have zS1 := XS_26.out.frozen 1
        have cS2 := XS_26.out.cell 2 _ rfl
        have zS2 := XS_26.out.frozen 2
        have ltpB := XpB_26.out.lt
        have cpB0 := XpB_26.out.cell 0 _ rfl
        have cpB1 := XpB_26.out.cell 1 _ rfl
        have cpB2 := XpB_26.out.cell 2 _ rfl
        go_wp2_with fail
        clear ltS cS0 zS0 cS1 zS1 cS2 zS2 ltpB cpB0 cpB1 cpB2
        refine (radd_any sa sd pa pd sb sc se sf pb pc pe pf (totF us f r k) (f k * dm us k r) _ Rs1_26.out Rs2_26.out Rp1_26.out Rp2_26.out (by omega) (by omega) (by omega) (by omega)).mono ?_
        rintro e26 w26 ⟨v26, rfl, ⟨ta, tb, tc, td, te, tf, rfl, ht1, ht2⟩, hb26⟩
        have XR_27 := hid (XR_26.out.keep hb26)
        have XS_27 := hid (XS_26.out.keep hb26)
        have XpB_27 := hid (XpB_26.out.keep hb26)
        have Rs1_27 := hid (Rs1_26.out.below hb26)
        have Rs2_27 := hid (Rs2_26.out.below hb26)
        have Rp1_27 := hid (Rp1_26.out.below hb26)
        have Rp2_27 := hid (Rp2_26.out.below hb26)
        have HB_27 : Hid (Below w.heap.size w w26) := HB_26.out.trans (hb26.mono HB_26.out.size)
        clear XR_26 XS_26 XpB_26 Rs1_26 Rs2_26 Rp1_26 Rp2_26 HB_26
        clear hb26
        have Rt1_27 := hid ht1
        have Rt2_27 := hid ht2
        have SMt := hid (show Sm ((totF us f r k) + f k * dm us k r) (5 + k * (L + 3) + (L + 2) + 1) from ST.out.add SMp.out)
        have lt1 := ht1.sm1 SMt.out
        have lt2 := ht2.sm2 SMt.out
        clear ht1 ht2
        have ltS := XS_27.out.lt
        have cS0 := XS_27.out.cell 0 _ rfl
        have zS0 := XS_27.out.frozen 0
        have cS1 := XS_27.out.cell 1 _ rfl
        have zS1 := XS_27.out.frozen 1
        have cS2 := XS_27.out.cell 2 _ rfl
        have zS2 := XS_27.out.frozen 2
        go_wp2
        go_roundg (n - (k + 1))
        case measure => omega
        case rel =>
          clear ltS cS0 zS0 cS1 zS1 cS2 zS2
          have XR_28 := hid (XR_27.out.put3_other (b := w1.heap.size) (.bool (negB ((totF us f r k) + f k * dm us k r))) (.slice ta tb tc) (.slice td te tf) (by omega))
          have Rs1_28 := hid (Rs1_27.out.put3 XS_27.out (by decide) (.bool (negB ((totF us f r k) + f k * dm us k r))) (.slice ta tb tc) (.slice td te tf))
          have Rs2_28 := hid (Rs2_27.out.put3 XS_27.out (by decide) (.bool (negB ((totF us f r k) + f k * dm us k r))) (.slice ta tb tc) (.slice td te tf))
          have Rp1_28 := hid (Rp1_27.out.put3 XS_27.out (by decide) (.bool (negB ((totF us f r k) + f k * dm us k r))) (.slice ta tb tc) (.slice td te tf))
          have Rp2_28 := hid (Rp2_27.out.put3 XS_27.out (by decide) (.bool (negB ((totF us f r k) + f k * dm us k r))) (.slice ta tb tc) (.slice td te tf))
          have Rt1_28 := hid (Rt1_27.out.put3 XS_27.out (by decide) (.bool (negB ((totF us f r k) + f k * dm us k r))) (.slice ta tb tc) (.slice td te tf))
          have Rt2_28 := hid (Rt2_27.out.put3 XS_27.out (by decide) (.bool (negB ((totF us f r k) + f k * dm us k r))) (.slice ta tb tc) (.slice td te tf))
          have HB_28 := hid (below_put3 HB_27.out (by omega : w.heap.size ≤ w1.heap.size) (.bool (negB ((totF us f r k) + f k * dm us k r))) (.slice ta tb tc) (.slice td te tf))
          have XS_28 := hid (XS_27.out.put3 (.bool (negB ((totF us f r k) + f k * dm us k r))) (.slice ta tb tc) (.slice td te tf))
          clear XR_27 XS_27 Rs1_27 Rs2_27 Rp1_27 Rp2_27 Rt1_27 Rt2_27 HB_27
          exact ⟨k + 1, ta, tb, tc, td, te, tf, rfl, by omega, by go_num, XR_28.out, XS_28.out, Rt1_28.out, Rt2_28.out, HB_28.out⟩
    · obtain rfl : k = n := by omega
      have ltR := hX.out.lt
      have cR0 := hX.out.cell 0 _ rfl
      have zR0 := hX.out.frozen 0
      have cR1 := hX.out.cell 1 _ rfl
      have zR1 := hX.out.frozen 1
      have cR2 := hX.out.cell 2 _ rfl
      have zR2 := hX.out.frozen 2
      have ltS := hY.out.lt
      have cS0 := hY.out.cell 0 _ rfl
      have cS1 := hY.out.cell 1 _ rfl
      have cS2 := hY.out.cell 2 _ rfl
      go_wp2
      have Z := hX.out.put3 (.bool (negB (totF us f r k))) (.slice sa sb sc) (.slice sd se sf)
      have z0 := Z.cell 0 _ rfl
      have z1 := Z.cell 1 _ rfl
      have z2 := Z.cell 2 _ rfl
      unfold wput3 at z0 z1 z2
      exact bodyPost_ret (v := .agg #[.bool (negB (totF us f r k)), .slice sa sb sc, .slice sd se sf]) (by simp [results, Tryz.results100, go_sem, z0, z1, z2]) rfl ⟨_, rfl, ⟨sa, sb, sc, sd, se, sf, rfl, hs1.out.put3 hX.out (by decide) _ _ _, hs2.out.put3 hX.out (by decide) _ _ _⟩, below_put3 hB.out (Nat.le_refl _) _ _ _⟩

end Go.Proofs.YtigokanoflkinaaGreatDoor
