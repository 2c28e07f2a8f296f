/- WUsed, WCapW, WStop, joined. -/
import Derived.Test.YtigokanoflkinaaGreatDoorFBool
import Derived.Test.YtigokanoflkinaaGreatDoorWRate
import Derived.Deep.RegionHeld3
import Derived.Deep.DeepCutAuto
/- fill usedUp, isAtCap, wantsOneOf. (Laid by mksolve.py.) -/
namespace Go.Proofs.YtigokanoflkinaaGreatDoor
set_option linter.unusedSimpArgs false
set_option linter.unusedVariables false
open Go.RowKit Por

theorem FS.lts {w0 w : World} {d : FD} {s : St} (h : FS w0 d w s) : d.sb < w.heap.size ∧ d.rb < w.heap.size ∧ d.gr < w.heap.size ∧ d.gt < w.heap.size ∧ d.gl < w.heap.size := by
  obtain ⟨la, lb, lc, ld, le, lf, h1, h2, h3⟩ := h.box
  exact ⟨h1.lt, h.room.lt, h.rt.lt, h.ts.lt, h.lv.lt⟩

set_option maxHeartbeats 2000000 in
set_option maxRecDepth 20000 in
theorem usedUp_any (w0 : World) (d : FD) (s : St) (L : Nat) (w : World) (h : FS w0 d w s) (ho : d.Ok w0) (hs : ∀ i, i < d.n → Sm (s.ts i) L) (hL : 5 + d.n * (L + 3) ≤ 10000) :
    Calls Tryz.prog 55 #[.pointer (some ⟨d.sb, 0, none⟩)] w fun e w' => e = .returned (.slice (some ⟨w.heap.size, 0, none⟩) d.kk d.kk) ∧ BB w' w.heap.size d.kk d.kk (upB d s.ts) ∧ Below w.heap.size w w' := by
  have hn6 := ho.n6
  have hk4 := ho.k4
  have hul := ho.len
  have H := hid h
  have HO := hid ho
  have HS := hid hs
  clear h ho hs
  obtain ⟨la, lb, lc, ld, le, lf, hbx, hlr1, hlr2⟩ := H.out.box
  have ltsb := hbx.lt
  have g0 : w.cell? ⟨d.sb, 0, none⟩ = some (.slice d.ao d.n d.cap) := hbx.cell 0 _ rfl
  have g1 : w.cell? ⟨d.sb, 1, none⟩ = some (.slice (some ⟨d.rb, 0, none⟩) d.kk d.kk) := hbx.cell 1 _ rfl
  have g6 : w.cell? ⟨d.sb, 6, none⟩ = some (.slice (some ⟨d.gt, 0, none⟩) d.n d.n) := hbx.cell 6 _ rfl
  have HLR1 := hid hlr1
  have HLR2 := hid hlr2
  clear hlr1 hlr2
  have HBX := hid hbx
  clear hbx
  go_enter Tryz.func55, Tryz.ntmps55
  go_wp2_with (at_make; refine wpList_make_bools _ rfl _ _ rfl _ _ d.kk rfl rfl rfl rfl (by omega) ?_)
  intro w1 hfb hb1 hlt1
  have HF := hid (hfb (upB d s.ts))
  have HB1 := hid hb1
  have q0 := (hb1.cell (p := ⟨d.sb, 0, none⟩) ltsb).trans g0
  have q1 := (hb1.cell (p := ⟨d.sb, 1, none⟩) ltsb).trans g1
  clear hfb hb1 g0 g1 g6
  have ltq : d.sb < w1.heap.size := by omega
  go_wp2
  go_loopg [18] d.kk (fun g i wr => ∃ k : Nat, g = d.kk - k ∧ k ≤ d.kk ∧ i = .int .i64 k ∧ Hid (BB wr w.heap.size d.kk k (upB d s.ts)) ∧ Hid (Below w.heap.size w wr))
  case atStart => exact ⟨0, rfl, Nat.zero_le _, rfl, HF.out, HB1.out⟩
  case round =>
    clear q0 q1 HF HB1 HLR1 HLR2 HBX
    obtain ⟨k, hgk, hk, rfl, hF, hB⟩ := hrel
    have HFW := hid (H.out.below hB.out)
    by_cases hlt : k < d.kk
    · obtain ⟨ra, rb, rc, rd, re, rf, c0, c1, c2, hr1, hr2⟩ := HFW.out.room.cells hlt
      have SR := hid (HO.out.rooms k hlt)
      have lr1 := hr1.sm1 SR.out
      have lr2 := hr2.sm2 SR.out
      have ltrb := HFW.out.room.lt
      have Rr1_20 := hid hr1
      have Rr2_20 := hid hr2
      clear hr1 hr2
      have XR_21 := hid (bx_new wr #[.bool (negB (d.room k)), .slice ra rb rc, .slice rd re rf] 90)
      have Rbb_21 := hid (hF.out.alloc (.cells #[.bool (negB (d.room k)), .slice ra rb rc, .slice rd re rf] 90))
      have Rr1_21 := hid (Rr1_20.out.alloc (.cells #[.bool (negB (d.room k)), .slice ra rb rc, .slice rd re rf] 90))
      have Rr2_21 := hid (Rr2_20.out.alloc (.cells #[.bool (negB (d.room k)), .slice ra rb rc, .slice rd re rf] 90))
      have HB_21 : Hid (Below w.heap.size w (wr.alloc (.cells #[.bool (negB (d.room k)), .slice ra rb rc, .slice rd re rf] 90))) := hB.out.alloc hB.out.size (.cells #[.bool (negB (d.room k)), .slice ra rb rc, .slice rd re rf] 90)
      have leR : w.heap.size ≤ wr.heap.size := hB.out.size
      clear hF Rr1_20 Rr2_20 hB
      go_wp2_with fail
      obtain ⟨V, hV⟩ : ∃ V, V = (wr.alloc (.cells #[.bool (negB (d.room k)), .slice ra rb rc, .slice rd re rf] 90)) := ⟨_, rfl⟩
      rw [← hV] at XR_21 Rbb_21 Rr1_21 Rr2_21 HB_21 ⊢
      clear hV
      clear c0 c1 c2
      have HFS := hid (H.out.below HB_21.out)
      obtain ⟨la, lb, lc, ld, le, lf, hbx, hlr1, hlr2⟩ := HFS.out.box
      have ltsb2 := hbx.lt
      have f0 := hbx.cell 0 _ rfl
      have f6 := hbx.cell 6 _ rfl
      clear hbx hlr1 hlr2
      have HST := hid (tot_sm HO.out.good (by omega) HS.out k d.n (Nat.le_refl _))
      have SK : Hid (∀ U, Below V.heap.size V U → U.cell? ⟨d.sb, 0, none⟩ = some (.slice d.ao d.n d.cap) ∧ U.cell? ⟨d.sb, 6, none⟩ = some (.slice (some ⟨d.gt, 0, none⟩) d.n d.n)) := fun U h => ⟨(h.cell (p := ⟨d.sb, 0, none⟩) ltsb2).trans f0, (h.cell (p := ⟨d.sb, 6, none⟩) ltsb2).trans f6⟩
      have KC : Hid (∀ U, Below V.heap.size V U → Calls Tryz.prog 100 #[.slice d.ao d.n d.cap, .slice (some ⟨d.gt, 0, none⟩) d.n d.n, .int .i64 k] U (fun e w' => ∃ v, e = .returned v ∧ Frac w' v (totF d.us s.ts k d.n) ∧ Below V.heap.size V w' ∧ Below U.heap.size U w')) := fun U hU => (inAll_any d.ao d.n d.cap d.us (some ⟨d.gt, 0, none⟩) d.n d.kk k L s.ts U (HO.out.users.below (HFS.out.below hU).bel) HO.out.good ((HFS.out.below hU).ts.frs (by unfold maxLen; omega)) HS.out hlt hk4 hL (HO.out.tab.of (HFS.out.below hU).bel)).mono (fun e w' ⟨v, h1, h2, h3⟩ => ⟨v, h1, h2, hU.trans (h3.mono hU.size), h3⟩)
      go_cut [6, 18] (fun pp y0 wx => ∃ (PB : Nat) (ta : Option Addr) (tb tc : Nat) (td : Option Addr) (te tf : Nat), pp = .pointer (some ⟨PB, 0, none⟩) ∧ .int .i64 (k : Nat) = y0 ∧ Hid (Bx wx wr.heap.size #[.bool (negB (d.room k)), .slice ra rb rc, .slice rd re rf] 90) ∧ Hid (BB wx w.heap.size d.kk k (upB d s.ts)) ∧ Hid (Row wx ra rb rc (limbs (d.room k).num.natAbs)) ∧ Hid (Row wx rd re rf (limbs (d.room k).den)) ∧ Hid (Bx wx PB #[.bool (negB (totF d.us s.ts k d.n)), .slice ta tb tc, .slice td te tf] 90) ∧ Hid (Row wx ta tb tc (limbs (totF d.us s.ts k d.n).num.natAbs)) ∧ Hid (Row wx td te tf (limbs (totF d.us s.ts k d.n).den)) ∧ Hid (Below w.heap.size w wx) ∧ V.heap.size ≤ PB)
      case first =>
        have df0 : V.drew.cell? ⟨d.sb, 0, none⟩ = some (.slice d.ao d.n d.cap) := ((Below.refl V.heap.size V).drew.cell (p := ⟨d.sb, 0, none⟩) ltsb2).trans f0
        have df6 : V.drew.cell? ⟨d.sb, 6, none⟩ = some (.slice (some ⟨d.gt, 0, none⟩) d.n d.n) := ((Below.refl V.heap.size V).drew.cell (p := ⟨d.sb, 6, none⟩) ltsb2).trans f6
        go_region_held3 (fun w' => w'.cell? ⟨d.sb, 0, none⟩ = some (.slice d.ao d.n d.cap) ∧ w'.cell? ⟨d.sb, 6, none⟩ = some (.slice (some ⟨d.gt, 0, none⟩) d.n d.n)) (first | exact SK.out _ (Below.refl _ _).drew | exact SK.out _ ((Below.refl _ _).alloc (Nat.le_refl _) _).drew | exact SK.out _ hb7 | exact SK.out _ (hb7.alloc hb7.size _) | exact SK.out _ (below_put3 hb7 (Nat.le_refl _) _ _ _))
          (first | (go_at_call 100; refine (KC.out _ ?hU).mono ?_; (case hU => first | exact (Below.refl _ _).drew | exact ((Below.refl _ _).alloc (Nat.le_refl _) _).drew); rintro e7 w7 ⟨v7, rfl, ⟨ta, tb, tc, td, te, tf, rfl, ht1, ht2⟩, hb7, hu7⟩; try (have XP7 := (bx_new V #[.bool false, .slice none 0 0, .slice none 0 0] 90).drew.keep hu7; have xp0 := XP7.cell 0 _ rfl; have xp1 := XP7.cell 1 _ rfl; have xp2 := XP7.cell 2 _ rfl; have xf0 := XP7.frozen 0; have xf1 := XP7.frozen 1; have xf2 := XP7.frozen 2; have xl := XP7.lt; clear XP7)))
        all_goals (go_wp2_with fail; go_meet)
        all_goals (first | exact ⟨w7.heap.size, ta, tb, tc, td, te, tf, rfl, rfl, bx_past (XR_21.out.keep hb7) _, (Rbb_21.out.below hb7).alloc _, (Rr1_21.out.below hb7).alloc _, (Rr2_21.out.below hb7).alloc _, bx_new w7 _ _, ht1.alloc _, ht2.alloc _, (HB_21.out.trans (hb7.mono HB_21.out.size)).alloc (Nat.le_trans HB_21.out.size hb7.size) _, hb7.size⟩ | exact ⟨V.heap.size, ta, tb, tc, td, te, tf, rfl, rfl, XR_21.out.keep (below_put3 hb7 (Nat.le_refl _) _ _ _), Rbb_21.out.below (below_put3 hb7 (Nat.le_refl _) _ _ _), Rr1_21.out.below (below_put3 hb7 (Nat.le_refl _) _ _ _), Rr2_21.out.below (below_put3 hb7 (Nat.le_refl _) _ _ _), Bx.put3 ((bx_new V #[.bool false, .slice none 0 0, .slice none 0 0] 90).drew.keep hu7) _ _ _, ht1.put3 ((bx_new V #[.bool false, .slice none 0 0, .slice none 0 0] 90).drew.keep hu7) (by decide) _ _ _, ht2.put3 ((bx_new V #[.bool false, .slice none 0 0, .slice none 0 0] 90).drew.keep hu7) (by decide) _ _ _, below_put3 (HB_21.out.trans (hb7.mono HB_21.out.size)) HB_21.out.size _ _ _, Nat.le_refl _⟩)
      case rest =>
        obtain ⟨PBt, ta, tb, tc, td, te, tf, rfl, rfl, XR_24, Rbb_24, Rr1_24, Rr2_24, XtB_24, Rt1_24, Rt2_24, HB_24, lePBt⟩ := hcut
        clear SK KC XR_21 Rbb_21 Rr1_21 Rr2_21 HB_21
        have SMt := hid (show Sm (totF d.us s.ts k d.n) (5 + d.n * (L + 3)) from HST.out)
        have lt1 := Rt1_24.out.sm1 SMt.out
        have lt2 := Rt2_24.out.sm2 SMt.out
        have ltR := XR_24.out.lt
        have cR0 := XR_24.out.cell 0 _ rfl
        have cR1 := XR_24.out.cell 1 _ rfl
        have cR2 := XR_24.out.cell 2 _ rfl
        have lttB := XtB_24.out.lt
        have ctB0 := XtB_24.out.cell 0 _ rfl
        have ctB1 := XtB_24.out.cell 1 _ rfl
        have ctB2 := XtB_24.out.cell 2 _ rfl
        go_wp2_with fail
        clear ltR cR0 cR1 cR2 lttB ctB0 ctB1 ctB2
        refine (rcmp_any ta td ra rd tb tc te tf rb rc re rf (totF d.us s.ts k d.n) (d.room k) _ Rt1_24.out Rt2_24.out Rr1_24.out Rr2_24.out (by omega) (by omega) (by omega) (by omega)).mono ?_
        rintro e24 w24 ⟨rfl, hb24⟩
        have XR_25 := hid (XR_24.out.keep hb24)
        have XtB_25 := hid (XtB_24.out.keep hb24)
        have Rbb_25 := hid (Rbb_24.out.below hb24)
        have Rr1_25 := hid (Rr1_24.out.below hb24)
        have Rr2_25 := hid (Rr2_24.out.below hb24)
        have Rt1_25 := hid (Rt1_24.out.below hb24)
        have Rt2_25 := hid (Rt2_24.out.below hb24)
        have HB_25 : Hid (Below w.heap.size w w24) := HB_24.out.trans (hb24.mono HB_24.out.size)
        clear XR_24 XtB_24 Rbb_24 Rr1_24 Rr2_24 Rt1_24 Rt2_24 HB_24
        clear hb24
        generalize hcq : cmpQ (totF d.us s.ts k d.n) (d.room k) = c
        have HCQ := hid hcq
        clear hcq
        obtain ⟨x0, hx0⟩ := Rbb_25.out.has hlt
        have z0 := Rbb_25.out.frozen k
        have ltg := Rbb_25.out.lt
        have E : (c == 0) = upB d s.ts k := by
          have h9 := HCQ.out
          unfold upB
          rw [← h9]
          by_cases hq : totF d.us s.ts k d.n = d.room k
          · rw [decide_eq_true hq, beq_iff_eq]; exact cmp_eq.2 hq
          · rw [decide_eq_false hq, beq_eq_false_iff_ne]; exact fun h => hq (cmp_eq.1 h)
        have HE := hid E; clear E
        go_wp2
        go_roundg (d.kk - (k + 1))
        case measure => omega
        case rel =>
          have h5 := Rbb_25.out.put hlt
          rw [← HE.out] at h5
          exact ⟨k + 1, rfl, by omega, by go_num, h5, HB_25.out.setCell (Nat.le_refl _) _⟩
    · obtain rfl : k = d.kk := by omega
      go_wp2
      go_ret
      exact ⟨rfl, hF.out, hB.out⟩

end Go.Proofs.YtigokanoflkinaaGreatDoor

/- fill isAtCap, wantsOneOf, isHighest, stopOf. (Laid by mksolve.py.) -/
namespace Go.Proofs.YtigokanoflkinaaGreatDoor
set_option linter.unusedSimpArgs false
set_option linter.unusedVariables false
open Go.RowKit Por

/-- has user i its cap? -/
def capB (d : FD) (ts : Nat → Rat) (i : Nat) : Bool := decide (ts i = ((ug d.us i).cap : Rat))

set_option maxHeartbeats 2000000 in
set_option maxRecDepth 20000 in
theorem isAtCap_any (w0 : World) (d : FD) (s : St) (L i : Nat) (w : World) (h : FS w0 d w s) (ho : d.Ok w0) (hs : ∀ i, i < d.n → Sm (s.ts i) L) (hL : L ≤ 10000) (hi : i < d.n) :
    Calls Tryz.prog 107 #[.pointer (some ⟨d.sb, 0, none⟩), .int .i64 i] w fun e w' => e = .returned (.bool (capB d s.ts i)) ∧ Below w.heap.size w w' := by
  unfold capB
  have hn6 := ho.n6
  have hk4 := ho.k4
  have hul := ho.len
  have hcp := ho.good.cap (i := i) (by omega)
  have hib : (i : Int) < (d.n : Int) := by omega
  have H := hid h
  have HO := hid ho
  have HS := hid hs
  clear h ho hs
  obtain ⟨la, lb, lc, ld, le, lf, hbx, hlr1, hlr2⟩ := H.out.box
  have ltsb := hbx.lt
  have g0 : w.cell? ⟨d.sb, 0, none⟩ = some (.slice d.ao d.n d.cap) := hbx.cell 0 _ rfl
  have HLR1 := hid hlr1
  have HLR2 := hid hlr2
  clear hlr1 hlr2
  clear hbx
  obtain ⟨b, o, da, dn, dc, hao, hbl, u0, u1, u2, hd⟩ := (HO.out.users.below H.out.bel).get hi
  clear hd
  rw [hao] at g0
  have HB_0 := hid (Below.refl w.heap.size w)
  go_enter Tryz.func107, Tryz.ntmps107
  go_wp2_with fail
  refine (whole_any (ug d.us i).cap (by omega) (by omega) _ (HO.out.tab.of H.out.bel)).mono ?_
  rintro e0 w0 ⟨v0, rfl, ⟨ma, mb, mc, md, me, mf, rfl, hm1, hm2⟩, hb0⟩
  have HB_1 : Hid (Below w.heap.size w w0) := HB_0.out.trans (hb0.mono HB_0.out.size)
  clear HB_0
  clear hb0
  have Rm1_1 := hid hm1
  have Rm2_1 := hid hm2
  have SMm := hid (show Sm (((ug d.us i).cap : Rat)) 5 from Sm.int (by omega) (by omega))
  have lm1 := hm1.sm1 SMm.out
  have lm2 := hm2.sm2 SMm.out
  clear hm1 hm2
  clear g0 u0 u1 u2
  have XM_2 := hid (bx_new w0 #[.bool (negB ((ug d.us i).cap : Rat)), .slice ma mb mc, .slice md me mf] 90)
  have Rm1_2 := hid (Rm1_1.out.alloc (.cells #[.bool (negB ((ug d.us i).cap : Rat)), .slice ma mb mc, .slice md me mf] 90))
  have Rm2_2 := hid (Rm2_1.out.alloc (.cells #[.bool (negB ((ug d.us i).cap : Rat)), .slice ma mb mc, .slice md me mf] 90))
  have HB_2 : Hid (Below w.heap.size w (w0.alloc (.cells #[.bool (negB ((ug d.us i).cap : Rat)), .slice ma mb mc, .slice md me mf] 90))) := HB_1.out.alloc HB_1.out.size (.cells #[.bool (negB ((ug d.us i).cap : Rat)), .slice ma mb mc, .slice md me mf] 90)
  have leM : w.heap.size ≤ w0.heap.size := HB_1.out.size
  clear Rm1_1 Rm2_1 HB_1
  go_wp2_with fail
  obtain ⟨V, hV⟩ : ∃ V, V = (w0.alloc (.cells #[.bool (negB ((ug d.us i).cap : Rat)), .slice ma mb mc, .slice md me mf] 90)) := ⟨_, rfl⟩
  rw [← hV] at XM_2 Rm1_2 Rm2_2 HB_2 ⊢
  clear hV
  have HFS := hid (H.out.below HB_2.out)
  obtain ⟨la2, lb2, lc2, ld2, le2, lf2, hbx, hlr1, hlr2⟩ := HFS.out.box
  have ltsb2 := hbx.lt
  have f6 := hbx.cell 6 _ rfl
  clear hbx hlr1 hlr2
  obtain ⟨ua, ub, uc, ud, ue, uf, c0, c1, c2, hu1, hu2⟩ := HFS.out.ts.cells hi
  have ltgt := HFS.out.ts.lt
  have lu1 := hu1.sm1 (HS.out i hi)
  have lu2 := hu2.sm2 (HS.out i hi)
  have m0 := XM_2.out.cell 0 _ rfl
  have m1 := XM_2.out.cell 1 _ rfl
  have m2 := XM_2.out.cell 2 _ rfl
  have ltM := XM_2.out.lt
  have Ru1_3 := hid hu1
  have Ru2_3 := hid hu2
  clear hu1 hu2
  obtain ⟨c, hcq⟩ : ∃ c, cmpQ (s.ts i) ((ug d.us i).cap : Rat) = c := ⟨_, rfl⟩
  have HCQ := hid hcq
  clear hcq
  have SK : Hid (∀ U, Below V.heap.size V U → U.cell? ⟨d.sb, 6, none⟩ = some (.slice (some ⟨d.gt, 0, none⟩) d.n d.n) ∧ U.cell? ⟨d.gt, i * 3, none⟩ = some (.bool (negB (s.ts i))) ∧ U.cell? ⟨d.gt, i * 3 + 1, none⟩ = some (.slice ua ub uc) ∧ U.cell? ⟨d.gt, i * 3 + 2, none⟩ = some (.slice ud ue uf) ∧ U.cell? ⟨w0.heap.size, 0, none⟩ = some (.bool (negB ((ug d.us i).cap : Rat))) ∧ U.cell? ⟨w0.heap.size, 1, none⟩ = some (.slice ma mb mc) ∧ U.cell? ⟨w0.heap.size, 2, none⟩ = some (.slice md me mf)) := fun U h => ⟨(h.cell (p := ⟨d.sb, 6, none⟩) ltsb2).trans f6, (h.cell (p := ⟨d.gt, i * 3, none⟩) ltgt).trans c0, (h.cell (p := ⟨d.gt, i * 3 + 1, none⟩) ltgt).trans c1, (h.cell (p := ⟨d.gt, i * 3 + 2, none⟩) ltgt).trans c2, (h.cell (p := ⟨w0.heap.size, 0, none⟩) ltM).trans m0, (h.cell (p := ⟨w0.heap.size, 1, none⟩) ltM).trans m1, (h.cell (p := ⟨w0.heap.size, 2, none⟩) ltM).trans m2⟩
  have KC : Hid (∀ U, Below V.heap.size V U → Calls Tryz.prog 101 #[.agg #[.bool (negB (s.ts i)), .slice ua ub uc, .slice ud ue uf], .agg #[.bool (negB ((ug d.us i).cap : Rat)), .slice ma mb mc, .slice md me mf]] U (fun e w' => e = .returned (.int .i64 c) ∧ Below V.heap.size V w')) := fun U hU => (rcmp_any ua ud ma md ub uc ue uf mb mc me mf (s.ts i) ((ug d.us i).cap : Rat) U (Ru1_3.out.below hU) (Ru2_3.out.below hU) (Rm1_2.out.below hU) (Rm2_2.out.below hU) (by omega) (by omega) (by omega) (by omega)).mono (fun e w' ⟨h1, h3⟩ => ⟨h1.trans (by rw [HCQ.out]), hU.trans (h3.mono hU.size)⟩)
  have df6 : V.drew.cell? ⟨d.sb, 6, none⟩ = some (.slice (some ⟨d.gt, 0, none⟩) d.n d.n) := ((Below.refl V.heap.size V).drew.cell (p := ⟨d.sb, 6, none⟩) ltsb2).trans f6
  have dc0 : V.drew.cell? ⟨d.gt, i * 3, none⟩ = some (.bool (negB (s.ts i))) := ((Below.refl V.heap.size V).drew.cell (p := ⟨d.gt, i * 3, none⟩) ltgt).trans c0
  have dc1 : V.drew.cell? ⟨d.gt, i * 3 + 1, none⟩ = some (.slice ua ub uc) := ((Below.refl V.heap.size V).drew.cell (p := ⟨d.gt, i * 3 + 1, none⟩) ltgt).trans c1
  have dc2 : V.drew.cell? ⟨d.gt, i * 3 + 2, none⟩ = some (.slice ud ue uf) := ((Below.refl V.heap.size V).drew.cell (p := ⟨d.gt, i * 3 + 2, none⟩) ltgt).trans c2
  have dm0 : V.drew.cell? ⟨w0.heap.size, 0, none⟩ = some (.bool (negB ((ug d.us i).cap : Rat))) := ((Below.refl V.heap.size V).drew.cell (p := ⟨w0.heap.size, 0, none⟩) ltM).trans m0
  have dm1 : V.drew.cell? ⟨w0.heap.size, 1, none⟩ = some (.slice ma mb mc) := ((Below.refl V.heap.size V).drew.cell (p := ⟨w0.heap.size, 1, none⟩) ltM).trans m1
  have dm2 : V.drew.cell? ⟨w0.heap.size, 2, none⟩ = some (.slice md me mf) := ((Below.refl V.heap.size V).drew.cell (p := ⟨w0.heap.size, 2, none⟩) ltM).trans m2
  go_region_held3 (fun w' => w'.cell? ⟨d.sb, 6, none⟩ = some (.slice (some ⟨d.gt, 0, none⟩) d.n d.n) ∧ w'.cell? ⟨d.gt, i * 3, none⟩ = some (.bool (negB (s.ts i))) ∧ w'.cell? ⟨d.gt, i * 3 + 1, none⟩ = some (.slice ua ub uc) ∧ w'.cell? ⟨d.gt, i * 3 + 2, none⟩ = some (.slice ud ue uf) ∧ w'.cell? ⟨w0.heap.size, 0, none⟩ = some (.bool (negB ((ug d.us i).cap : Rat))) ∧ w'.cell? ⟨w0.heap.size, 1, none⟩ = some (.slice ma mb mc) ∧ w'.cell? ⟨w0.heap.size, 2, none⟩ = some (.slice md me mf)) (first | exact SK.out _ (Below.refl _ _).drew | exact SK.out _ hb7)
    (first | (go_at_call 101; refine (KC.out _ ?hU).mono ?_; (case hU => exact (Below.refl _ _).drew); rintro e7 w7 ⟨rfl, hb7⟩))
  have XM_5 := hid (XM_2.out.keep hb7)
  have Rm1_5 := hid (Rm1_2.out.below hb7)
  have Rm2_5 := hid (Rm2_2.out.below hb7)
  have Ru1_5 := hid (Ru1_3.out.below hb7)
  have Ru2_5 := hid (Ru2_3.out.below hb7)
  have HB_5 : Hid (Below w.heap.size w w7) := HB_2.out.trans (hb7.mono HB_2.out.size)
  clear XM_2 Rm1_2 Rm2_2 Ru1_3 Ru2_3 HB_2
  clear hb7 SK KC
  have E : (c == 0) = decide (s.ts i = ((ug d.us i).cap : Rat)) := by
    have h9 := HCQ.out
    rw [← h9]
    by_cases hq : s.ts i = ((ug d.us i).cap : Rat)
    · rw [decide_eq_true hq, beq_iff_eq]; exact cmp_eq.2 hq
    · rw [decide_eq_false hq, beq_eq_false_iff_ne]; exact fun h => hq (cmp_eq.1 h)
  have HE := hid E; clear E
  go_wp2
  go_ret
  exact ⟨by rw [← HE.out]; rfl, HB_5.out⟩

set_option maxHeartbeats 2000000 in
set_option maxRecDepth 20000 in
theorem wantsOneOf_any (da : Option Addr) (dn dc : Nat) (u : Usr) (g kk : Nat) (f : Nat → Bool) (w : World) (hd : Arr w 1 da dn dc (ints u.dem)) (hb : BB w g kk kk f) (hk : dn ≤ kk) (hk4 : kk ≤ 4) :
    Calls Tryz.prog 108 #[.agg #[.slice da dn dc, .int .i64 u.wt, .int .i64 u.cap], .slice (some ⟨g, 0, none⟩) kk kk] w fun e w' => e = .returned (.bool (wantB u.dem f dn)) ∧ Below w.heap.size w w' := by
  have hdl := hd.len
  rw [ints_len] at hdl
  have hdm := Nat.le_trans hd.le hd.cm
  unfold maxLen at hdm
  have HD := hid hd
  have HB := hid hb
  clear hd hb
  have HB_0 := hid (Below.refl w.heap.size w)
  have XU_1 := hid (bx_new w #[.slice da dn dc, .int .i64 u.wt, .int .i64 u.cap] 56)
  have HB_1 : Hid (Below w.heap.size w (w.alloc (.cells #[.slice da dn dc, .int .i64 u.wt, .int .i64 u.cap] 56))) := HB_0.out.alloc HB_0.out.size (.cells #[.slice da dn dc, .int .i64 u.wt, .int .i64 u.cap] 56)
  have leU : w.heap.size ≤ w.heap.size := HB_0.out.size
  clear HB_0
  go_enter Tryz.func108, Tryz.ntmps108
  go_wp2
  go_loop [10] (fun i => ∃ k : Nat, k ≤ dn ∧ i = .int .i64 k ∧ Hid (wantB u.dem f k = false)) (fun i => dn - (intOf i).toNat)
  case atStart => exact ⟨0, Nat.zero_le _, rfl, rfl⟩
  case round =>
    obtain ⟨k, hk, rfl, hz⟩ := hrel
    by_cases hlt : k < dn
    · obtain ⟨b, o, rfl, hbl⟩ := HD.out.head (by omega)
      have c0 := HD.out.int rfl hlt
      have q0 := HB.out.cell (i := k) (by omega)
      have ltg := HB.out.lt
      have hkk : (k : Int) < (kk : Int) := by omega
      generalize hx : lm u.dem k = x at c0
      have HX := hid hx
      clear hx
      generalize hy : f k = y at q0
      have HY := hid hy
      clear hy
      by_cases h0 : 0 < x
      · cases y with
        | true =>
          have HE := hid (wantB_true (dem := u.dem) (f := f) hlt (by rw [HX.out]; exact h0) HY.out)
          go_wp2
          go_ret
          exact ⟨by rw [HE.out]; rfl, HB_1.out⟩
        | false =>
          have E : wantB u.dem f (k + 1) = false := by simp only [wantB]; rw [hz.out, HY.out]; simp
          have HE := hid E; clear E
          go_wp2
          exact ⟨⟨k + 1, by omega, by go_num, HE.out⟩, by simp [intOf]; omega⟩
      · have E : wantB u.dem f (k + 1) = false := by simp only [wantB]; rw [hz.out, HX.out, decide_eq_false h0]; rfl
        have HE := hid E; clear E
        go_wp2
        exact ⟨⟨k + 1, by omega, by go_num, HE.out⟩, by simp [intOf]; omega⟩
    · obtain rfl : k = dn := by omega
      go_wp2
      go_ret
      exact ⟨by rw [hz.out]; rfl, HB_1.out⟩

end Go.Proofs.YtigokanoflkinaaGreatDoor

/- fill stop. (Laid by mksolve.py.) -/
namespace Go.Proofs.YtigokanoflkinaaGreatDoor
set_option linter.unusedSimpArgs false
set_option linter.unusedVariables false
open Go.RowKit Por

theorem BB.putA_other {w : World} {g n k : Nat} {f : Nat → Bool} (h : BB w g n k f) {b o : Nat} (u0 u1 u2 : Value) (hne : b ≠ g) : BB (wputA w b o u0 u1 u2) g n k f := by
  obtain ⟨arr, h1, h2, h3⟩ := h
  refine ⟨arr, ?_, h2, h3⟩
  unfold wputA
  rw [heap_setCell_other _ _ g _ (fun e => hne e.symm), heap_setCell_other _ _ g _ (fun e => hne e.symm), heap_setCell_other _ _ g _ (fun e => hne e.symm)]
  exact h1
/-- does user i stop? -/
def stB (d : FD) (ts : Nat → Rat) (i : Nat) : Bool := capB d ts i || wantB (ug d.us i).dem (upB d ts) d.kk
/-- the rates when the first k users have been looked at -/
def midRt (d : FD) (s : St) (k : Nat) : Nat → Rat := fun i => if i < k ∧ stB d s.ts i = true then ((0 : Int) : Rat) else s.rt i
def midS (d : FD) (s : St) (k : Nat) : St := ⟨s.lev, midRt d s k, s.ts, s.lv⟩
theorem cell_putA {w : World} {b g i o : Nat} {u0 u1 u2 : Value} (h : g ≠ b) : (wputA w b o u0 u1 u2).cell? ⟨g, i, none⟩ = w.cell? ⟨g, i, none⟩ := by
  unfold wputA
  have e : ∀ (w : World) (j : Nat) (u : Value), (w.setCell ⟨b, j, none⟩ u).cell? ⟨g, i, none⟩ = w.cell? ⟨g, i, none⟩ := fun w j u => World.cell?_of_block (Below.heap_setCell w _ u g h)
  rw [e, e, e]

set_option maxHeartbeats 2000000 in
set_option maxRecDepth 20000 in
theorem stop_any (w0 : World) (d : FD) (s : St) (L : Nat) (w : World) (h : FS w0 d w s) (ho : d.Ok w0) (hs : ∀ i, i < d.n → Sm (s.ts i) L) (hL : 5 + d.n * (L + 3) ≤ 10000) :
    Calls Tryz.prog 54 #[.pointer (some ⟨d.sb, 0, none⟩)] w fun e w' => e = .returned (.tuple #[]) ∧ FS w0 d w' (midS d s d.n) := by
  have hn6 := ho.n6
  have hk4 := ho.k4
  have hul := ho.len
  have hap := ho.ap
  have H := hid h
  have HO := hid ho
  have HS := hid hs
  clear h ho hs
  go_enter Tryz.func54, Tryz.ntmps54
  go_wp2_with fail
  refine (usedUp_any w0 d s L _ H.out HO.out HS.out hL).mono ?_
  rintro e1 w1 ⟨rfl, hbb, hb1⟩
  have HFS1 := hid (H.out.below hb1)
  have HBB := hid hbb
  have hlts := H.out.lts
  have hw1 := hb1.size
  clear hbb hb1
  obtain ⟨la, lb, lc, ld, le, lf, hbx, hlr1, hlr2⟩ := HFS1.out.box
  have ltsb := hbx.lt
  have g0 : w1.cell? ⟨d.sb, 0, none⟩ = some (.slice d.ao d.n d.cap) := hbx.cell 0 _ rfl
  have HLR1 := hid hlr1
  have HLR2 := hid hlr2
  clear hlr1 hlr2
  clear hbx HLR1 HLR2
  go_wp2
  go_loopg [13] d.n (fun g i wr => ∃ k : Nat, g = d.n - k ∧ k ≤ d.n ∧ i = .int .i64 k ∧ Hid (FS w0 d wr (midS d s k)) ∧ Hid (BB wr w.heap.size d.kk d.kk (upB d s.ts)))
  case atStart => exact ⟨0, rfl, Nat.zero_le _, rfl, HFS1.out.congr rfl (fun i hi => by unfold midS midRt; simp) (fun i hi => rfl) (fun i hi => rfl), HBB.out⟩
  case round =>
    clear g0
    obtain ⟨k, hgk, hk, rfl, hF, hBB⟩ := hrel
    have hBel := hid hF.out.bel
    by_cases hlt : k < d.n
    · have hLL : L + 8 ≤ 10000 := by have := Nat.mul_le_mul_right (L + 3) (show 1 ≤ d.n by omega); omega
      obtain ⟨b, o, da, dn, dc, hao, hbl, c0, c1, c2, hd⟩ := (HO.out.users.below hBel.out).get hlt
      have hdl := hd.len
      rw [ints_len, HO.out.good.len (i := k) (by omega)] at hdl
      have HDK := hid hdl.symm
      clear hdl
      have HAO := hid hao
      clear hao
      have HD := hid hd
      clear hd
      have XU_21 := hid (bx_new wr #[.slice da dn dc, .int .i64 (ug d.us k).wt, .int .i64 (ug d.us k).cap] 56)
      have Rfs_21 := hid (hF.out.alloc (.cells #[.slice da dn dc, .int .i64 (ug d.us k).wt, .int .i64 (ug d.us k).cap] 56))
      have Rbb_21 := hid (hBB.out.alloc (.cells #[.slice da dn dc, .int .i64 (ug d.us k).wt, .int .i64 (ug d.us k).cap] 56))
      have Rd_21 := hid (HD.out.alloc (.cells #[.slice da dn dc, .int .i64 (ug d.us k).wt, .int .i64 (ug d.us k).cap] 56))
      have HB_21 : Hid (Below w0.heap.size w0 (wr.alloc (.cells #[.slice da dn dc, .int .i64 (ug d.us k).wt, .int .i64 (ug d.us k).cap] 56))) := hBel.out.alloc hBel.out.size (.cells #[.slice da dn dc, .int .i64 (ug d.us k).wt, .int .i64 (ug d.us k).cap] 56)
      have leU : w0.heap.size ≤ wr.heap.size := hBel.out.size
      clear hF hBB HD hBel
      rw [HAO.out]
      go_wp2_with fail
      refine (isAtCap_any w0 d (midS d s k) L k _ Rfs_21.out HO.out HS.out (by omega) hlt).mono ?_
      rintro e21 w21 ⟨rfl, hb21⟩
      have XU_22 := hid (XU_21.out.keep hb21)
      have Rfs_22 := hid (Rfs_21.out.below hb21)
      have Rbb_22 := hid (Rbb_21.out.below hb21)
      have Rd_22 := hid (Rd_21.out.below hb21)
      have HB_22 : Hid (Below w0.heap.size w0 w21) := HB_21.out.trans (hb21.mono HB_21.out.size)
      clear XU_21 Rfs_21 Rbb_21 Rd_21 HB_21
      clear hb21
      clear c0 c1 c2
      cases hcb : capB d (midS d s k).ts k with
      | true =>
        have HCB := hid hcb
        clear hcb
        have E : stB d s.ts k = true := by unfold stB; rw [show capB d s.ts k = true from HCB.out]; rfl
        have HE := hid E; clear E
        go_wp2_with fail
        obtain ⟨V, hV⟩ : ∃ V, V = w21 := ⟨_, rfl⟩
        rw [← hV] at XU_22 Rfs_22 Rbb_22 Rd_22 HB_22 ⊢
        clear hV
        have HFSV := Rfs_22
        obtain ⟨la, lb, lc, ld, le, lf, hbx, hlr1, hlr2⟩ := HFSV.out.box
        have ltsb2 := hbx.lt
        have f5 : V.cell? ⟨d.sb, 5, none⟩ = some (.slice (some ⟨d.gr, 0, none⟩) d.n d.n) := hbx.cell 5 _ rfl
        clear hbx hlr1 hlr2
        have hkn : (k : Int) < (d.n : Int) := by omega
        have SK : Hid (∀ U, Below V.heap.size V U → U.cell? ⟨d.sb, 5, none⟩ = some (.slice (some ⟨d.gr, 0, none⟩) d.n d.n)) := fun U h => (h.cell (p := ⟨d.sb, 5, none⟩) ltsb2).trans f5
        have KC : Hid (∀ U, Below V.heap.size V U → Calls Tryz.prog 46 #[.int .i64 0] U (fun e w' => ∃ v, e = .returned v ∧ Frac w' v (((0 : Int) : Rat)) ∧ Below V.heap.size V w')) := fun U hU => (whole_any 0 (by omega) (by omega) U (HO.out.tab.of (HFSV.out.below hU).bel)).mono (fun e w' ⟨v, h1, h2, h3⟩ => ⟨v, h1, h2, hU.trans (h3.mono hU.size)⟩)
        have df5 : V.drew.cell? ⟨d.sb, 5, none⟩ = some (.slice (some ⟨d.gr, 0, none⟩) d.n d.n) := ((Below.refl V.heap.size V).drew.cell (p := ⟨d.sb, 5, none⟩) ltsb2).trans f5
        go_region_held3 (fun w' => w'.cell? ⟨d.sb, 5, none⟩ = some (.slice (some ⟨d.gr, 0, none⟩) d.n d.n)) (first | exact SK.out _ (Below.refl _ _).drew | exact SK.out _ hb7 | exact SK.out _ hb7 | exact (cell_putA hap.a2).trans (SK.out _ hb7))
          (first | (go_at_call 46; refine (KC.out _ ?hU).mono ?_; (case hU => exact (Below.refl _ _).drew); rintro e7 w7 ⟨v7, rfl, ⟨za, zb, zc, zd, ze, zf, rfl, hz1, hz2⟩, hb7⟩; obtain ⟨x0, hx0⟩ := (HFSV.out.rt.below hb7).has (j := k * 3) (by omega); have z0 := (HFSV.out.rt.below hb7).frozen (k * 3); obtain ⟨x1, hx1⟩ := (HFSV.out.rt.below hb7).has (j := k * 3 + 1) (by omega); have z1 := (HFSV.out.rt.below hb7).frozen (k * 3 + 1); obtain ⟨x2, hx2⟩ := (HFSV.out.rt.below hb7).has (j := k * 3 + 2) (by omega); have z2 := (HFSV.out.rt.below hb7).frozen (k * 3 + 2); have ltt := (HFSV.out.rt.below hb7).lt))
        have XU_25 := hid (XU_22.out.keep hb7)
        have Rfs_25 := hid (Rfs_22.out.below hb7)
        have Rbb_25 := hid (Rbb_22.out.below hb7)
        have Rd_25 := hid (Rd_22.out.below hb7)
        have HB_25 : Hid (Below w0.heap.size w0 w7) := HB_22.out.trans (hb7.mono HB_22.out.size)
        clear XU_22 Rfs_22 Rbb_22 Rd_22 HB_22
        clear SK KC
        have Rz1_25 := hid hz1
        have Rz2_25 := hid hz2
        have SMz := hid (show Sm (((0 : Int) : Rat)) 5 from Sm.zero5)
        have lz1 := hz1.sm1 SMz.out
        have lz2 := hz2.sm2 SMz.out
        clear hz1 hz2 hb7
        go_wp2
        rw [← HAO.out]
        go_roundg (d.n - (k + 1))
        case measure => omega
        case rel =>
          have h5 := Rfs_25.out.putRt hap hlt ((0 : Int) : Rat) Rz1_25.out Rz2_25.out
          refine ⟨k + 1, rfl, by omega, by go_num, h5.congr rfl (fun j hj => ?_) (fun j hj => rfl) (fun j hj => rfl), Rbb_25.out.putA_other _ _ _ (by omega)⟩
          show upd (midRt d s k) k _ j = midRt d s (k + 1) j
          unfold midRt
          by_cases e : j = k
          · subst e; rw [upd_same, if_pos ⟨by omega, HE.out⟩]
          · rw [upd_other _ _ e]
            by_cases e2 : j < k ∧ stB d s.ts j = true
            · rw [if_pos e2, if_pos ⟨by omega, e2.2⟩]
            · rw [if_neg e2, if_neg (fun h => e2 ⟨by omega, h.2⟩)]
      | false =>
        have HCB := hid hcb
        clear hcb
        have ltU := XU_22.out.lt
        have cU0 := XU_22.out.cell 0 _ rfl
        have cU1 := XU_22.out.cell 1 _ rfl
        have cU2 := XU_22.out.cell 2 _ rfl
        go_wp2_with fail
        clear ltU cU0 cU1 cU2
        refine (wantsOneOf_any da dn dc (ug d.us k) w.heap.size d.kk (upB d s.ts) _ Rd_22.out Rbb_22.out (Nat.le_of_eq HDK.out) hk4).mono ?_
        rintro e22 w22 ⟨rfl, hb22⟩
        have XU_23 := hid (XU_22.out.keep hb22)
        have Rfs_23 := hid (Rfs_22.out.below hb22)
        have Rbb_23 := hid (Rbb_22.out.below hb22)
        have Rd_23 := hid (Rd_22.out.below hb22)
        have HB_23 : Hid (Below w0.heap.size w0 w22) := HB_22.out.trans (hb22.mono HB_22.out.size)
        clear XU_22 Rfs_22 Rbb_22 Rd_22 HB_22
        clear hb22
        rw [HDK.out]
        cases hwb : wantB (ug d.us k).dem (upB d s.ts) d.kk with
        | true =>
          have HWB := hid hwb
          clear hwb
          have E : stB d s.ts k = true := by unfold stB; rw [HWB.out]; simp
          have HE := hid E; clear E
          go_wp2_with fail
          obtain ⟨V, hV⟩ : ∃ V, V = w22 := ⟨_, rfl⟩
          rw [← hV] at XU_23 Rfs_23 Rbb_23 Rd_23 HB_23 ⊢
          clear hV
          have HFSV := Rfs_23
          obtain ⟨la, lb, lc, ld, le, lf, hbx, hlr1, hlr2⟩ := HFSV.out.box
          have ltsb2 := hbx.lt
          have f5 : V.cell? ⟨d.sb, 5, none⟩ = some (.slice (some ⟨d.gr, 0, none⟩) d.n d.n) := hbx.cell 5 _ rfl
          clear hbx hlr1 hlr2
          have hkn : (k : Int) < (d.n : Int) := by omega
          have SK : Hid (∀ U, Below V.heap.size V U → U.cell? ⟨d.sb, 5, none⟩ = some (.slice (some ⟨d.gr, 0, none⟩) d.n d.n)) := fun U h => (h.cell (p := ⟨d.sb, 5, none⟩) ltsb2).trans f5
          have KC : Hid (∀ U, Below V.heap.size V U → Calls Tryz.prog 46 #[.int .i64 0] U (fun e w' => ∃ v, e = .returned v ∧ Frac w' v (((0 : Int) : Rat)) ∧ Below V.heap.size V w')) := fun U hU => (whole_any 0 (by omega) (by omega) U (HO.out.tab.of (HFSV.out.below hU).bel)).mono (fun e w' ⟨v, h1, h2, h3⟩ => ⟨v, h1, h2, hU.trans (h3.mono hU.size)⟩)
          have df5 : V.drew.cell? ⟨d.sb, 5, none⟩ = some (.slice (some ⟨d.gr, 0, none⟩) d.n d.n) := ((Below.refl V.heap.size V).drew.cell (p := ⟨d.sb, 5, none⟩) ltsb2).trans f5
          go_region_held3 (fun w' => w'.cell? ⟨d.sb, 5, none⟩ = some (.slice (some ⟨d.gr, 0, none⟩) d.n d.n)) (first | exact SK.out _ (Below.refl _ _).drew | exact SK.out _ hb7 | exact SK.out _ hb7 | exact (cell_putA hap.a2).trans (SK.out _ hb7))
            (first | (go_at_call 46; refine (KC.out _ ?hU).mono ?_; (case hU => exact (Below.refl _ _).drew); rintro e7 w7 ⟨v7, rfl, ⟨za, zb, zc, zd, ze, zf, rfl, hz1, hz2⟩, hb7⟩; obtain ⟨x0, hx0⟩ := (HFSV.out.rt.below hb7).has (j := k * 3) (by omega); have z0 := (HFSV.out.rt.below hb7).frozen (k * 3); obtain ⟨x1, hx1⟩ := (HFSV.out.rt.below hb7).has (j := k * 3 + 1) (by omega); have z1 := (HFSV.out.rt.below hb7).frozen (k * 3 + 1); obtain ⟨x2, hx2⟩ := (HFSV.out.rt.below hb7).has (j := k * 3 + 2) (by omega); have z2 := (HFSV.out.rt.below hb7).frozen (k * 3 + 2); have ltt := (HFSV.out.rt.below hb7).lt))
          have XU_26 := hid (XU_23.out.keep hb7)
          have Rfs_26 := hid (Rfs_23.out.below hb7)
          have Rbb_26 := hid (Rbb_23.out.below hb7)
          have Rd_26 := hid (Rd_23.out.below hb7)
          have HB_26 : Hid (Below w0.heap.size w0 w7) := HB_23.out.trans (hb7.mono HB_23.out.size)
          clear XU_23 Rfs_23 Rbb_23 Rd_23 HB_23
          clear SK KC
          have Rz1_26 := hid hz1
          have Rz2_26 := hid hz2
          have SMz := hid (show Sm (((0 : Int) : Rat)) 5 from Sm.zero5)
          have lz1 := hz1.sm1 SMz.out
          have lz2 := hz2.sm2 SMz.out
          clear hz1 hz2 hb7
          go_wp2
          rw [← HAO.out]
          go_roundg (d.n - (k + 1))
          case measure => omega
          case rel =>
            have h5 := Rfs_26.out.putRt hap hlt ((0 : Int) : Rat) Rz1_26.out Rz2_26.out
            refine ⟨k + 1, rfl, by omega, by go_num, h5.congr rfl (fun j hj => ?_) (fun j hj => rfl) (fun j hj => rfl), Rbb_26.out.putA_other _ _ _ (by omega)⟩
            show upd (midRt d s k) k _ j = midRt d s (k + 1) j
            unfold midRt
            by_cases e : j = k
            · subst e; rw [upd_same, if_pos ⟨by omega, HE.out⟩]
            · rw [upd_other _ _ e]
              by_cases e2 : j < k ∧ stB d s.ts j = true
              · rw [if_pos e2, if_pos ⟨by omega, e2.2⟩]
              · rw [if_neg e2, if_neg (fun h => e2 ⟨by omega, h.2⟩)]
        | false =>
          have HWB := hid hwb
          clear hwb
          have E : stB d s.ts k = false := by unfold stB; rw [show capB d s.ts k = false from HCB.out, HWB.out]; rfl
          have HE := hid E; clear E
          go_wp2
          rw [← HAO.out]
          go_roundg (d.n - (k + 1))
          case measure => omega
          case rel =>
            refine ⟨k + 1, rfl, by omega, by go_num, Rfs_23.out.congr rfl (fun j hj => ?_) (fun j hj => rfl) (fun j hj => rfl), Rbb_23.out⟩
            show midRt d s k j = midRt d s (k + 1) j
            unfold midRt
            by_cases e : j = k
            · subst e; rw [if_neg (fun h => by omega), if_neg (fun h => by rw [HE.out] at h; cases h.2)]
            · by_cases e2 : j < k ∧ stB d s.ts j = true
              · rw [if_pos e2, if_pos ⟨by omega, e2.2⟩]
              · rw [if_neg e2, if_neg (fun h => e2 ⟨by omega, h.2⟩)]
    · obtain rfl : k = d.n := by omega
      go_wp2
      go_end0
      exact ⟨rfl, hF.out⟩

end Go.Proofs.YtigokanoflkinaaGreatDoor
