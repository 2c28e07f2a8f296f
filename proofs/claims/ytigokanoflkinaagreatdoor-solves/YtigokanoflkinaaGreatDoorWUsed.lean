/- fill usedUp, isAtCap, wantsOneOf. (Laid by mksolve.py.) -/
import Derived.Test.YtigokanoflkinaaGreatDoorFBool
import Derived.Test.YtigokanoflkinaaGreatDoorWRate
import Derived.Deep.RegionHeld3
import Derived.Deep.DeepCutAuto
namespace Go.Proofs.YtigokanoflkinaaGreatDoor
set_option linter.unusedSimpArgs false
set_option linter.unusedVariables false
open Go.RowKit Por

theorem FS.lts {w0 w : World} {d : FD} {s : St} (h : FS w0 d w s) : d.sb < w.heap.size ∧ d.rb < w.heap.size ∧ d.gr < w.heap.size ∧ d.gt < w.heap.size ∧ d.gl < w.heap.size := by
  obtain ⟨la, lb, lc, ld, le, lf, h1, h2, h3⟩ := h.box
  exact ⟨h1.lt, h.room.lt, h.rt.lt, h.ts.lt, h.lv.lt⟩

set_option maxHeartbeats 2000000 in
set_option maxRecDepth 20000 in
theorem usedUp_any (w0 : World) (d : FD) (s : St) (L : Nat) (w : World) (h : FS w0 d w s) (ho : d.Ok w0) (hs : ∀ i, i < d.n → Sm (s.ts i) L) (hL : 5 + d.n * (L + 3) ≤ 10000) :
    Calls Tryz.prog 55 #[.pointer (some ⟨d.sb, 0, none⟩)] w fun e w' => e = .returned (.slice (some ⟨w.heap.size, 0, none⟩) d.kk d.kk) ∧ BB w' w.heap.size d.kk d.kk (upB d s.ts) ∧ Below w.heap.size w w' := by
  have hn6 := ho.n6
  have hk4 := ho.k4
  have hul := ho.len
  have H := hid h
  have HO := hid ho
  have HS := hid hs
  clear h ho hs
  obtain ⟨la, lb, lc, ld, le, lf, hbx, hlr1, hlr2⟩ := H.out.box
  have ltsb := hbx.lt
  have g0 : w.cell? ⟨d.sb, 0, none⟩ = some (.slice d.ao d.n d.cap) := hbx.cell 0 _ rfl
  have g1 : w.cell? ⟨d.sb, 1, none⟩ = some (.slice (some ⟨d.rb, 0, none⟩) d.kk d.kk) := hbx.cell 1 _ rfl
  have g6 : w.cell? ⟨d.sb, 6, none⟩ = some (.slice (some ⟨d.gt, 0, none⟩) d.n d.n) := hbx.cell 6 _ rfl
  have HLR1 := hid hlr1
  have HLR2 := hid hlr2
  clear hlr1 hlr2
  have HBX := hid hbx
  clear hbx
  go_enter Tryz.func55, Tryz.ntmps55
  go_wp2_with (at_make; refine wpList_make_bools _ rfl _ _ rfl _ _ d.kk rfl rfl rfl rfl (by omega) ?_)
  intro w1 hfb hb1 hlt1
  have HF := hid (hfb (upB d s.ts))
  have HB1 := hid hb1
  have q0 := (hb1.cell (p := ⟨d.sb, 0, none⟩) ltsb).trans g0
  have q1 := (hb1.cell (p := ⟨d.sb, 1, none⟩) ltsb).trans g1
  clear hfb hb1 g0 g1 g6
  have ltq : d.sb < w1.heap.size := by omega
  go_wp2
  go_loopg [18] d.kk (fun g i wr => ∃ k : Nat, g = d.kk - k ∧ k ≤ d.kk ∧ i = .int .i64 k ∧ Hid (BB wr w.heap.size d.kk k (upB d s.ts)) ∧ Hid (Below w.heap.size w wr))
  case atStart => exact ⟨0, rfl, Nat.zero_le _, rfl, HF.out, HB1.out⟩
  case round =>
    clear q0 q1 HF HB1 HLR1 HLR2 HBX
    obtain ⟨k, hgk, hk, rfl, hF, hB⟩ := hrel
    have HFW := hid (H.out.below hB.out)
    by_cases hlt : k < d.kk
    · obtain ⟨ra, rb, rc, rd, re, rf, c0, c1, c2, hr1, hr2⟩ := HFW.out.room.cells hlt
      have SR := hid (HO.out.rooms k hlt)
      have lr1 := hr1.sm1 SR.out
      have lr2 := hr2.sm2 SR.out
      have ltrb := HFW.out.room.lt
      have Rr1_20 := hid hr1
      have Rr2_20 := hid hr2
      clear hr1 hr2
      have XR_21 := hid (bx_new wr #[.bool (negB (d.room k)), .slice ra rb rc, .slice rd re rf] 90)
      have Rbb_21 := hid (hF.out.alloc (.cells #[.bool (negB (d.room k)), .slice ra rb rc, .slice rd re rf] 90))
      have Rr1_21 := hid (Rr1_20.out.alloc (.cells #[.bool (negB (d.room k)), .slice ra rb rc, .slice rd re rf] 90))
      have Rr2_21 := hid (Rr2_20.out.alloc (.cells #[.bool (negB (d.room k)), .slice ra rb rc, .slice rd re rf] 90))
      have HB_21 : Hid (Below w.heap.size w (wr.alloc (.cells #[.bool (negB (d.room k)), .slice ra rb rc, .slice rd re rf] 90))) := hB.out.alloc hB.out.size (.cells #[.bool (negB (d.room k)), .slice ra rb rc, .slice rd re rf] 90)
      have leR : w.heap.size ≤ wr.heap.size := hB.out.size
      clear hF Rr1_20 Rr2_20 hB
      go_wp2_with fail
      obtain ⟨V, hV⟩ : ∃ V, V = (wr.alloc (.cells #[.bool (negB (d.room k)), .slice ra rb rc, .slice rd re rf] 90)) := ⟨_, rfl⟩
      rw [← hV] at XR_21 Rbb_21 Rr1_21 Rr2_21 HB_21 ⊢
      clear hV
      clear c0 c1 c2
      have HFS := hid (H.out.below HB_21.out)
      obtain ⟨la, lb, lc, ld, le, lf, hbx, hlr1, hlr2⟩ := HFS.out.box
      have ltsb2 := hbx.lt
      have f0 := hbx.cell 0 _ rfl
      have f6 := hbx.cell 6 _ rfl
      clear hbx hlr1 hlr2
      have HST := hid (tot_sm HO.out.good (by omega) HS.out k d.n (Nat.le_refl _))
      have SK : Hid (∀ U, Below V.heap.size V U → U.cell? ⟨d.sb, 0, none⟩ = some (.slice d.ao d.n d.cap) ∧ U.cell? ⟨d.sb, 6, none⟩ = some (.slice (some ⟨d.gt, 0, none⟩) d.n d.n)) := fun U h => ⟨(h.cell (p := ⟨d.sb, 0, none⟩) ltsb2).trans f0, (h.cell (p := ⟨d.sb, 6, none⟩) ltsb2).trans f6⟩
      have KC : Hid (∀ U, Below V.heap.size V U → Calls Tryz.prog 100 #[.slice d.ao d.n d.cap, .slice (some ⟨d.gt, 0, none⟩) d.n d.n, .int .i64 k] U (fun e w' => ∃ v, e = .returned v ∧ Frac w' v (totF d.us s.ts k d.n) ∧ Below V.heap.size V w' ∧ Below U.heap.size U w')) := fun U hU => (inAll_any d.ao d.n d.cap d.us (some ⟨d.gt, 0, none⟩) d.n d.kk k L s.ts U (HO.out.users.below (HFS.out.below hU).bel) HO.out.good ((HFS.out.below hU).ts.frs (by unfold maxLen; omega)) HS.out hlt hk4 hL (HO.out.tab.of (HFS.out.below hU).bel)).mono (fun e w' ⟨v, h1, h2, h3⟩ => ⟨v, h1, h2, hU.trans (h3.mono hU.size), h3⟩)
      go_cut [6, 18] (fun pp y0 wx => ∃ (PB : Nat) (ta : Option Addr) (tb tc : Nat) (td : Option Addr) (te tf : Nat), pp = .pointer (some ⟨PB, 0, none⟩) ∧ .int .i64 (k : Nat) = y0 ∧ Hid (Bx wx wr.heap.size #[.bool (negB (d.room k)), .slice ra rb rc, .slice rd re rf] 90) ∧ Hid (BB wx w.heap.size d.kk k (upB d s.ts)) ∧ Hid (Row wx ra rb rc (limbs (d.room k).num.natAbs)) ∧ Hid (Row wx rd re rf (limbs (d.room k).den)) ∧ Hid (Bx wx PB #[.bool (negB (totF d.us s.ts k d.n)), .slice ta tb tc, .slice td te tf] 90) ∧ Hid (Row wx ta tb tc (limbs (totF d.us s.ts k d.n).num.natAbs)) ∧ Hid (Row wx td te tf (limbs (totF d.us s.ts k d.n).den)) ∧ Hid (Below w.heap.size w wx) ∧ V.heap.size ≤ PB)
      case first =>
        have df0 : V.drew.cell? ⟨d.sb, 0, none⟩ = some (.slice d.ao d.n d.cap) := ((Below.refl V.heap.size V).drew.cell (p := ⟨d.sb, 0, none⟩) ltsb2).trans f0
        have df6 : V.drew.cell? ⟨d.sb, 6, none⟩ = some (.slice (some ⟨d.gt, 0, none⟩) d.n d.n) := ((Below.refl V.heap.size V).drew.cell (p := ⟨d.sb, 6, none⟩) ltsb2).trans f6
        go_region_held3 (fun w' => w'.cell? ⟨d.sb, 0, none⟩ = some (.slice d.ao d.n d.cap) ∧ w'.cell? ⟨d.sb, 6, none⟩ = some (.slice (some ⟨d.gt, 0, none⟩) d.n d.n)) (first | exact SK.out _ (Below.refl _ _).drew | exact SK.out _ ((Below.refl _ _).alloc (Nat.le_refl _) _).drew | exact SK.out _ hb7 | exact SK.out _ (hb7.alloc hb7.size _) | exact SK.out _ (below_put3 hb7 (Nat.le_refl _) _ _ _))
          (first | (go_at_call 100; refine (KC.out _ ?hU).mono ?_; (case hU => first | exact (Below.refl _ _).drew | exact ((Below.refl _ _).alloc (Nat.le_refl _) _).drew); rintro e7 w7 ⟨v7, rfl, ⟨ta, tb, tc, td, te, tf, rfl, ht1, ht2⟩, hb7, hu7⟩; try (have XP7 := (bx_new V #[.bool false, .slice none 0 0, .slice none 0 0] 90).drew.keep hu7; have xp0 := XP7.cell 0 _ rfl; have xp1 := XP7.cell 1 _ rfl; have xp2 := XP7.cell 2 _ rfl; have xf0 := XP7.frozen 0; have xf1 := XP7.frozen 1; have xf2 := XP7.frozen 2; have xl := XP7.lt; clear XP7)))
        all_goals (go_wp2_with fail; go_meet)
        all_goals (first | exact ⟨w7.heap.size, ta, tb, tc, td, te, tf, rfl, rfl, bx_past (XR_21.out.keep hb7) _, (Rbb_21.out.below hb7).alloc _, (Rr1_21.out.below hb7).alloc _, (Rr2_21.out.below hb7).alloc _, bx_new w7 _ _, ht1.alloc _, ht2.alloc _, (HB_21.out.trans (hb7.mono HB_21.out.size)).alloc (Nat.le_trans HB_21.out.size hb7.size) _, hb7.size⟩ | exact ⟨V.heap.size, ta, tb, tc, td, te, tf, rfl, rfl, XR_21.out.keep (below_put3 hb7 (Nat.le_refl _) _ _ _), Rbb_21.out.below (below_put3 hb7 (Nat.le_refl _) _ _ _), Rr1_21.out.below (below_put3 hb7 (Nat.le_refl _) _ _ _), Rr2_21.out.below (below_put3 hb7 (Nat.le_refl _) _ _ _), Bx.put3 ((bx_new V #[.bool false, .slice none 0 0, .slice none 0 0] 90).drew.keep hu7) _ _ _, ht1.put3 ((bx_new V #[.bool false, .slice none 0 0, .slice none 0 0] 90).drew.keep hu7) (by decide) _ _ _, ht2.put3 ((bx_new V #[.bool false, .slice none 0 0, .slice none 0 0] 90).drew.keep hu7) (by decide) _ _ _, below_put3 (HB_21.out.trans (hb7.mono HB_21.out.size)) HB_21.out.size _ _ _, Nat.le_refl _⟩)
      case rest =>
        obtain ⟨PBt, ta, tb, tc, td, te, tf, rfl, rfl, XR_24, Rbb_24, Rr1_24, Rr2_24, XtB_24, Rt1_24, Rt2_24, HB_24, lePBt⟩ := hcut
        clear SK KC XR_21 Rbb_21 Rr1_21 Rr2_21 HB_21
        have SMt := hid (show Sm (totF d.us s.ts k d.n) (5 + d.n * (L + 3)) from HST.out)
        have lt1 := Rt1_24.out.sm1 SMt.out
        have lt2 := Rt2_24.out.sm2 SMt.out
        have ltR := XR_24.out.lt
        have cR0 := XR_24.out.cell 0 _ rfl
        have cR1 := XR_24.out.cell 1 _ rfl
        have cR2 := XR_24.out.cell 2 _ rfl
        have lttB := XtB_24.out.lt
        have ctB0 := XtB_24.out.cell 0 _ rfl
        have ctB1 := XtB_24.out.cell 1 _ rfl
        have ctB2 := XtB_24.out.cell 2 _ rfl
        go_wp2_with fail
        clear ltR cR0 cR1 cR2 lttB ctB0 ctB1 ctB2
        refine (rcmp_any ta td ra rd tb tc te tf rb rc re rf (totF d.us s.ts k d.n) (d.room k) _ Rt1_24.out Rt2_24.out Rr1_24.out Rr2_24.out (by omega) (by omega) (by omega) (by omega)).mono ?_
        rintro e24 w24 ⟨rfl, hb24⟩
        have XR_25 := hid (XR_24.out.keep hb24)
        have XtB_25 := hid (XtB_24.out.keep hb24)
        have Rbb_25 := hid (Rbb_24.out.below hb24)
        have Rr1_25 := hid (Rr1_24.out.below hb24)
        have Rr2_25 := hid (Rr2_24.out.below hb24)
        have Rt1_25 := hid (Rt1_24.out.below hb24)
        have Rt2_25 := hid (Rt2_24.out.below hb24)
        have HB_25 : Hid (Below w.heap.size w w24) := HB_24.out.trans (hb24.mono HB_24.out.size)
        clear XR_24 XtB_24 Rbb_24 Rr1_24 Rr2_24 Rt1_24 Rt2_24 HB_24
        clear hb24
        generalize hcq : cmpQ (totF d.us s.ts k d.n) (d.room k) = c
        have HCQ := hid hcq
        clear hcq
        obtain ⟨x0, hx0⟩ := Rbb_25.out.has hlt
        have z0 := Rbb_25.out.frozen k
        have ltg := Rbb_25.out.lt
        have E : (c == 0) = upB d s.ts k := by
          have h9 := HCQ.out
          unfold upB
          rw [← h9]
          by_cases hq : totF d.us s.ts k d.n = d.room k
          · rw [decide_eq_true hq, beq_iff_eq]; exact cmp_eq.2 hq
          · rw [decide_eq_false hq, beq_eq_false_iff_ne]; exact fun h => hq (cmp_eq.1 h)
        have HE := hid E; clear E
        go_wp2
        go_roundg (d.kk - (k + 1))
        case measure => omega
        case rel =>
          have h5 := Rbb_25.out.put hlt
          rw [← HE.out] at h5
          exact ⟨k + 1, rfl, by omega, by go_num, h5, HB_25.out.setCell (Nat.le_refl _) _⟩
    · obtain rfl : k = d.kk := by omega
      go_wp2
      go_ret
      exact ⟨rfl, hF.out, hB.out⟩

end Go.Proofs.YtigokanoflkinaaGreatDoor
