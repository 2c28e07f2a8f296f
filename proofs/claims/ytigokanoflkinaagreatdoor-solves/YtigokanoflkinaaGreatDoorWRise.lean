/- fill rise. (Laid by mksolve.py.) -/
import Derived.Test.YtigokanoflkinaaGreatDoorWSteps
import Derived.Deep.RegionWith
namespace Go.Proofs.YtigokanoflkinaaGreatDoor
set_option linter.unusedSimpArgs false
set_option linter.unusedVariables false
open Go.RowKit Por

theorem suL_sm {d : FD} {s : St} {w0 : World} (ho : d.Ok w0) (hs : Small d s 60) : ∀ k, k ≤ d.n → ∀ x, x ∈ suL d s k → Sm x 433 := by
  intro k
  induction k with
  | zero => intro _ x hx; cases hx
  | succ k ih =>
    intro hk x hx
    simp only [suL] at hx
    split at hx
    · exact ih (by omega) x hx
    · rename_i hz
      rcases List.mem_append.1 hx with h | h
      · exact ih (by omega) x h
      · rw [List.mem_singleton] at h
        subst h
        have hul := ho.len
        have hcp := ho.good.cap (i := k) (by omega)
        exact (((Sm.int (n := (ug d.us k).cap) (by omega) (by omega)).sub (hs.ts k (by omega))).div (hs.rt k (by omega)) hz).mono (by omega)
theorem skL_sm {d : FD} {s : St} {w0 : World} (ho : d.Ok w0) (hs : Small d s 60) (l : List Rat) (hl : ∀ x, x ∈ l → Sm x 433) : ∀ k, k ≤ d.kk → ∀ x, x ∈ skL d s l k → Sm x 433 := by
  intro k
  induction k with
  | zero => intro _ x hx; exact hl x hx
  | succ k ih =>
    intro hk x hx
    simp only [skL] at hx
    split at hx
    · exact ih (by omega) x hx
    · rename_i hz
      rcases List.mem_append.1 hx with h | h
      · exact ih (by omega) x h
      · rw [List.mem_singleton] at h
        subst h
        have hul := ho.len
        have h1 := tot_sm ho.good (by omega) hs.ts k d.n (Nat.le_refl _)
        have h2 := tot_sm ho.good (by omega) hs.rt k d.n (Nat.le_refl _)
        have hn6 := ho.n6
        have m1 := Nat.mul_le_mul_right 63 hn6
        have m2 := Nat.mul_le_mul_right 7 hn6
        exact (((ho.rooms k (by omega)).sub h1).div h2 hz).mono (by omega)
theorem stepsF_sm {d : FD} {s : St} {w0 : World} (ho : d.Ok w0) (hs : Small d s 60) : ∀ x, x ∈ stepsF d s → Sm x 433 := skL_sm ho hs _ (suL_sm ho hs d.n (Nat.le_refl _)) d.kk (Nat.le_refl _)
/-- what has risen when the first k users have been looked at -/
def midTs (s : St) (e : Rat) (k : Nat) : Nat → Rat := fun i => if i < k then upTs s e i else s.ts i
def midLv (s : St) (e : Rat) (k : Nat) : Nat → Rat := fun i => if i < k then upLv s e i else s.lv i
def midU (s : St) (e : Rat) (k : Nat) : St := ⟨s.lev + e, s.rt, midTs s e k, midLv s e k⟩
def upS (s : St) (e : Rat) : St := ⟨s.lev + e, s.rt, upTs s e, upLv s e⟩
def riseF (d : FD) (s : St) (l : List Rat) : St := if l.length = 0 then s else midS d (upS s (leastF (rq l) l.length)) d.n

set_option maxHeartbeats 2000000 in
set_option maxRecDepth 20000 in
theorem rise_walk (w0 : World) (d : FD) (s : St) (w : World) (h : FS w0 d w s) (ho : d.Ok w0) (hs : Small d s 60) (l : List Rat) (ln : Nat) (hl : Hid (stepsF d s = l)) (hln : Hid (l.length = ln)) :
    Calls Tryz.prog 25 #[.pointer (some ⟨d.sb, 0, none⟩)] w fun e w' => e = .returned (.tuple #[]) ∧ FS w0 d w' (riseF d s l) := by
  have hn6 := ho.n6
  have hk4 := ho.k4
  have hul := ho.len
  have hap := ho.ap
  have H := hid h
  have HO := hid ho
  have HS := hid hs
  clear h ho hs
  go_enter Tryz.func25, Tryz.ntmps25
  go_wp2_with fail
  refine (steps_any w0 d s _ H.out HO.out HS.out).mono ?_
  rintro e1 w1 ⟨v1, rfl, hfo, hb1⟩
  have HFS1 := hid (H.out.below hb1)
  have HSL : Hid (∀ i, i < (stepsF d s).length → Sm (rq (stepsF d s) i) 433) := fun i hi => stepsF_sm HO.out HS.out _ (rq_mem hi)
  rw [hl.out] at hfo HSL
  obtain ⟨lo, lc, rfl, hfr⟩ := hfo.frs
  rw [hln.out] at hfr HSL ⊢
  have HFR := hid hfr
  have HB1 := hid HFS1.out.bel
  clear hfo hfr hb1
  by_cases h0 : ln = 0
  · subst h0
    go_wp2_with fail
    refine (least_none lo lc _).mono ?_
    rintro e2 w2 ⟨rfl, hb2⟩
    have Rfs_3 := hid (HFS1.out.below hb2)
    have HB_3 : Hid (Below w0.heap.size w0 w2) := HB1.out.trans (hb2.mono HB1.out.size)
    clear HFS1 HB1
    clear hb2
    go_wp2
    try simp only [Exit.inBlock, Exit.then]
    refine bodyPost_ret (results_none rfl _ _ _) rfl ?_
    exact ⟨rfl, by unfold riseF; rw [if_pos hln.out]; exact Rfs_3.out.alloc _⟩
  · go_wp2_with fail
    refine (least_some lo ln lc (rq l) _ HFR.out (fun i hi => (HSL.out i hi).mono (by omega)) (by omega)).mono ?_
    rintro e2 w2 ⟨v2, rfl, ⟨ta, tb, tc, td, te, tf, rfl, ht1, ht2⟩, hb2⟩
    have Rfs_3 := hid (HFS1.out.below hb2)
    have HB_3 : Hid (Below w0.heap.size w0 w2) := HB1.out.trans (hb2.mono HB1.out.size)
    clear HFS1 HB1
    clear hb2
    have Rt1_3 := hid ht1
    have Rt2_3 := hid ht2
    have SMt := hid (show Sm (leastF (rq l) ln) 433 from leastF_sm HSL.out (by omega) _ (Nat.le_refl _))
    have lt1 := ht1.sm1 SMt.out
    have lt2 := ht2.sm2 SMt.out
    clear ht1 ht2
    generalize hdl : leastF (rq l) ln = dl at *
    have HDL := hid hdl
    clear hdl
    have hlts := Rfs_3.out.lts
    have XT_4 := hid (bx_new w2 #[.bool (negB dl), .slice ta tb tc, .slice td te tf] 90)
    have Rfs_4 := hid (Rfs_3.out.alloc (.cells #[.bool (negB dl), .slice ta tb tc, .slice td te tf] 90))
    have Rt1_4 := hid (Rt1_3.out.alloc (.cells #[.bool (negB dl), .slice ta tb tc, .slice td te tf] 90))
    have Rt2_4 := hid (Rt2_3.out.alloc (.cells #[.bool (negB dl), .slice ta tb tc, .slice td te tf] 90))
    have HB_4 : Hid (Below w0.heap.size w0 (w2.alloc (.cells #[.bool (negB dl), .slice ta tb tc, .slice td te tf] 90))) := HB_3.out.alloc HB_3.out.size (.cells #[.bool (negB dl), .slice ta tb tc, .slice td te tf] 90)
    have leT : w0.heap.size ≤ w2.heap.size := HB_3.out.size
    clear Rfs_3 Rt1_3 Rt2_3 HB_3
    go_wp2_with fail
    obtain ⟨V, hV⟩ : ∃ V, V = (w2.alloc (.cells #[.bool (negB dl), .slice ta tb tc, .slice td te tf] 90)) := ⟨_, rfl⟩
    rw [← hV] at XT_4 Rfs_4 Rt1_4 Rt2_4 HB_4 ⊢
    clear hV
    have HFSV := Rfs_4
    obtain ⟨la, lb, lc2, ld, le, lf, hbx, hlr1, hlr2⟩ := HFSV.out.box
    have ltsb := hbx.lt
    have ll1 := hlr1.sm1 HS.out.lev
    have ll2 := hlr2.sm2 HS.out.lev
    have d2 : V.drew.cell? ⟨d.sb, 2, none⟩ = some (.bool (negB s.lev)) := hbx.drew.cell 2 _ rfl
    have d3 : V.drew.cell? ⟨d.sb, 3, none⟩ = some (.slice la lb lc2) := hbx.drew.cell 3 _ rfl
    have d4 : V.drew.cell? ⟨d.sb, 4, none⟩ = some (.slice ld le lf) := hbx.drew.cell 4 _ rfl
    have dm0 := XT_4.out.drew.cell 0 _ rfl
    have dm1 := XT_4.out.drew.cell 1 _ rfl
    have dm2 := XT_4.out.drew.cell 2 _ rfl
    have ltT := XT_4.out.lt
    have HL1 := hid hlr1
    have HL2 := hid hlr2
    have HBX := hid hbx
    clear hlr1 hlr2 hbx
    have SML := hid (HS.out.lev.add SMt.out)
    go_cut [3] (fun y0 wx => .pointer (some ⟨w2.heap.size, 0, none⟩) = y0 ∧ Hid (FS w0 d wx ⟨s.lev + dl, s.rt, s.ts, s.lv⟩) ∧ Hid (Bx wx w2.heap.size #[.bool (negB dl), .slice ta tb tc, .slice td te tf] 90) ∧ Hid (Row wx ta tb tc (limbs dl.num.natAbs)) ∧ Hid (Row wx td te tf (limbs dl.den)))
    case first =>
      go_region_with (first | (go_at_call 51; refine (radd_any la ld ta td lb lc2 le lf tb tc te tf s.lev dl V.drew HL1.out.drew HL2.out.drew Rt1_4.out.drew Rt2_4.out.drew (by omega) (by omega) (by omega) (by omega)).mono ?_; rintro e7 w7 ⟨v7, rfl, ⟨na, nb, nc, nd, ne, nf, rfl, hn1, hn2⟩, hb7⟩; have XB := HBX.out.drew.keep hb7; have x2 := XB.cell 2 _ rfl; have x3 := XB.cell 3 _ rfl; have x4 := XB.cell 4 _ rfl; have z2 := XB.frozen 2; have z3 := XB.frozen 3; have z4 := XB.frozen 4; have ltx := XB.lt; clear XB))
      all_goals (go_wp2_with fail; go_meet)
      all_goals (have HX7 := HBX.out.drew.keep hb7; exact ⟨rfl, (HFSV.out.drew.below hb7).putLev hap (s.lev + dl) hn1 hn2, Bx.putA_other (XT_4.out.drew.keep hb7) _ _ _ (by omega), (Rt1_4.out.drew.below hb7).putA HX7 (by decide), (Rt2_4.out.drew.below hb7).putA HX7 (by decide)⟩)
    case rest =>
      obtain ⟨rfl, HF0, HT0, HT1, HT2⟩ := hcut
      clear d2 d3 d4 dm0 dm1 dm2 HL1 HL2 HBX HFSV XT_4 Rt1_4 Rt2_4 HB_4
      obtain ⟨la2, lb2, lc3, ld2, le2, lf2, hbx, hlr1, hlr2⟩ := HF0.out.box
      have g5 : wc.cell? ⟨d.sb, 5, none⟩ = some (.slice (some ⟨d.gr, 0, none⟩) d.n d.n) := hbx.cell 5 _ rfl
      clear hbx hlr1 hlr2
      go_wp2
      go_loopg [31] d.n (fun g i wr => ∃ k : Nat, g = d.n - k ∧ k ≤ d.n ∧ i = .int .i64 k ∧ Hid (FS w0 d wr (midU s dl k)) ∧ Hid (Bx wr w2.heap.size #[.bool (negB dl), .slice ta tb tc, .slice td te tf] 90) ∧ Hid (Row wr ta tb tc (limbs dl.num.natAbs)) ∧ Hid (Row wr td te tf (limbs dl.den)))
      case atStart => exact ⟨0, rfl, Nat.zero_le _, rfl, HF0.out.congr rfl (fun i hi => rfl) (fun i hi => by unfold midU midTs; simp) (fun i hi => by unfold midU midLv; simp), HT0.out, HT1.out, HT2.out⟩
      case round =>
        clear g5 HF0 HT0 HT1 HT2
        obtain ⟨k, hgk, hk, rfl, hF, hT0, hT1, hT2⟩ := hrel
        have hBel := hid hF.out.bel
        by_cases hlt : k < d.n
        · obtain ⟨ra, rb, rc, rd, re, rf, c0, c1, c2, hr1, hr2⟩ := hF.out.rt.cells hlt
          have lr1 := hr1.sm1 (HS.out.rt k hlt)
          have lr2 := hr2.sm2 (HS.out.rt k hlt)
          have ltgr := hF.out.rt.lt
          have hkn : (k : Int) < (d.n : Int) := by omega
          have Rr1_40 := hid hr1
          have Rr2_40 := hid hr2
          clear hr1 hr2
          have XT_41 := hid (bx_past hT0.out (.cells #[.bool (negB (s.rt k)), .slice ra rb rc, .slice rd re rf] 90))
          have XR_41 := hid (bx_new wr #[.bool (negB (s.rt k)), .slice ra rb rc, .slice rd re rf] 90)
          have Rfs_41 := hid (hF.out.alloc (.cells #[.bool (negB (s.rt k)), .slice ra rb rc, .slice rd re rf] 90))
          have Rt1_41 := hid (hT1.out.alloc (.cells #[.bool (negB (s.rt k)), .slice ra rb rc, .slice rd re rf] 90))
          have Rt2_41 := hid (hT2.out.alloc (.cells #[.bool (negB (s.rt k)), .slice ra rb rc, .slice rd re rf] 90))
          have Rr1_41 := hid (Rr1_40.out.alloc (.cells #[.bool (negB (s.rt k)), .slice ra rb rc, .slice rd re rf] 90))
          have Rr2_41 := hid (Rr2_40.out.alloc (.cells #[.bool (negB (s.rt k)), .slice ra rb rc, .slice rd re rf] 90))
          have HB_41 : Hid (Below w0.heap.size w0 (wr.alloc (.cells #[.bool (negB (s.rt k)), .slice ra rb rc, .slice rd re rf] 90))) := hBel.out.alloc hBel.out.size (.cells #[.bool (negB (s.rt k)), .slice ra rb rc, .slice rd re rf] 90)
          have leR : w0.heap.size ≤ wr.heap.size := hBel.out.size
          clear hT0 hF hT1 hT2 Rr1_40 Rr2_40 hBel
          go_wp2_with fail
          refine (isZeroF_any ra rb rc rd re rf (s.rt k) _ Rr1_41.out Rr2_41.out (by omega) (by omega) (HO.out.tab.of HB_41.out)).mono ?_
          rintro e41 w41 ⟨rfl, hb41⟩
          have XT_42 := hid (XT_41.out.keep hb41)
          have XR_42 := hid (XR_41.out.keep hb41)
          have Rfs_42 := hid (Rfs_41.out.below hb41)
          have Rt1_42 := hid (Rt1_41.out.below hb41)
          have Rt2_42 := hid (Rt2_41.out.below hb41)
          have Rr1_42 := hid (Rr1_41.out.below hb41)
          have Rr2_42 := hid (Rr2_41.out.below hb41)
          have HB_42 : Hid (Below w0.heap.size w0 w41) := HB_41.out.trans (hb41.mono HB_41.out.size)
          clear XT_41 XR_41 Rfs_41 Rt1_41 Rt2_41 Rr1_41 Rr2_41 HB_41
          clear hb41
          clear c0 c1 c2
          by_cases hz : s.rt k = 0
          · have hz2 : decide (s.rt k = 0) = true := decide_eq_true hz
            rw [hz2]
            have HZ := hid hz
            clear hz hz2
            go_wp2
            go_roundg (d.n - (k + 1))
            case measure => omega
            case rel =>
              refine ⟨k + 1, rfl, by omega, by go_num, Rfs_42.out.congr rfl (fun j hj => rfl) (fun j hj => ?_) (fun j hj => ?_), XT_42.out, Rt1_42.out, Rt2_42.out⟩
              · show midTs s dl k j = midTs s dl (k + 1) j
                unfold midTs
                by_cases e : j = k
                · subst e; rw [if_neg (by omega), if_pos (by omega), upTs, if_pos HZ.out]
                · by_cases e2 : j < k
                  · rw [if_pos e2, if_pos (by omega)]
                  · rw [if_neg e2, if_neg (by omega)]
              · show midLv s dl k j = midLv s dl (k + 1) j
                unfold midLv
                by_cases e : j = k
                · subst e; rw [if_neg (by omega), if_pos (by omega), upLv, if_pos HZ.out]
                · by_cases e2 : j < k
                  · rw [if_pos e2, if_pos (by omega)]
                  · rw [if_neg e2, if_neg (by omega)]
          · have hz2 : decide (s.rt k = 0) = false := decide_eq_false hz
            rw [hz2]
            have HZ := hid hz
            clear hz hz2
            have ltT := XT_42.out.lt
            have cT0 := XT_42.out.cell 0 _ rfl
            have cT1 := XT_42.out.cell 1 _ rfl
            have cT2 := XT_42.out.cell 2 _ rfl
            have ltR := XR_42.out.lt
            have cR0 := XR_42.out.cell 0 _ rfl
            have cR1 := XR_42.out.cell 1 _ rfl
            have cR2 := XR_42.out.cell 2 _ rfl
            go_wp2_with fail
            clear ltT cT0 cT1 cT2 ltR cR0 cR1 cR2
            refine (rmul_any ra rd ta td rb rc re rf tb tc te tf (s.rt k) dl _ Rr1_42.out Rr2_42.out Rt1_42.out Rt2_42.out (by omega) (by omega) (by omega) (by omega)).mono ?_
            rintro e42 w42 ⟨v42, rfl, ⟨pa, pb, pc, pd, pe, pf, rfl, hp1, hp2⟩, hb42⟩
            have XT_43 := hid (XT_42.out.keep hb42)
            have XR_43 := hid (XR_42.out.keep hb42)
            have Rfs_43 := hid (Rfs_42.out.below hb42)
            have Rt1_43 := hid (Rt1_42.out.below hb42)
            have Rt2_43 := hid (Rt2_42.out.below hb42)
            have Rr1_43 := hid (Rr1_42.out.below hb42)
            have Rr2_43 := hid (Rr2_42.out.below hb42)
            have HB_43 : Hid (Below w0.heap.size w0 w42) := HB_42.out.trans (hb42.mono HB_42.out.size)
            clear XT_42 XR_42 Rfs_42 Rt1_42 Rt2_42 Rr1_42 Rr2_42 HB_42
            clear hb42
            have Rp1_43 := hid hp1
            have Rp2_43 := hid hp2
            have SMp := hid (show Sm (s.rt k * dl) 437 from (HS.out.rt k hlt).mul SMt.out)
            have lp1 := hp1.sm1 SMp.out
            have lp2 := hp2.sm2 SMp.out
            clear hp1 hp2
            have XT_44 := hid (bx_past XT_43.out (.cells #[.bool (negB (s.rt k * dl)), .slice pa pb pc, .slice pd pe pf] 90))
            have XR_44 := hid (bx_past XR_43.out (.cells #[.bool (negB (s.rt k * dl)), .slice pa pb pc, .slice pd pe pf] 90))
            have XP_44 := hid (bx_new w42 #[.bool (negB (s.rt k * dl)), .slice pa pb pc, .slice pd pe pf] 90)
            have Rfs_44 := hid (Rfs_43.out.alloc (.cells #[.bool (negB (s.rt k * dl)), .slice pa pb pc, .slice pd pe pf] 90))
            have Rt1_44 := hid (Rt1_43.out.alloc (.cells #[.bool (negB (s.rt k * dl)), .slice pa pb pc, .slice pd pe pf] 90))
            have Rt2_44 := hid (Rt2_43.out.alloc (.cells #[.bool (negB (s.rt k * dl)), .slice pa pb pc, .slice pd pe pf] 90))
            have Rr1_44 := hid (Rr1_43.out.alloc (.cells #[.bool (negB (s.rt k * dl)), .slice pa pb pc, .slice pd pe pf] 90))
            have Rr2_44 := hid (Rr2_43.out.alloc (.cells #[.bool (negB (s.rt k * dl)), .slice pa pb pc, .slice pd pe pf] 90))
            have Rp1_44 := hid (Rp1_43.out.alloc (.cells #[.bool (negB (s.rt k * dl)), .slice pa pb pc, .slice pd pe pf] 90))
            have Rp2_44 := hid (Rp2_43.out.alloc (.cells #[.bool (negB (s.rt k * dl)), .slice pa pb pc, .slice pd pe pf] 90))
            have HB_44 : Hid (Below w0.heap.size w0 (w42.alloc (.cells #[.bool (negB (s.rt k * dl)), .slice pa pb pc, .slice pd pe pf] 90))) := HB_43.out.alloc HB_43.out.size (.cells #[.bool (negB (s.rt k * dl)), .slice pa pb pc, .slice pd pe pf] 90)
            have leP : w0.heap.size ≤ w42.heap.size := HB_43.out.size
            clear XT_43 XR_43 Rfs_43 Rt1_43 Rt2_43 Rr1_43 Rr2_43 Rp1_43 Rp2_43 HB_43
            have hlt3 := Rfs_44.out.lts
            go_wp2_with fail
            obtain ⟨V5, hV⟩ : ∃ V5, V5 = (w42.alloc (.cells #[.bool (negB (s.rt k * dl)), .slice pa pb pc, .slice pd pe pf] 90)) := ⟨_, rfl⟩
            rw [← hV] at XT_44 XR_44 XP_44 Rfs_44 Rt1_44 Rt2_44 Rr1_44 Rr2_44 Rp1_44 Rp2_44 HB_44 ⊢
            clear hV
            have HFS5 := Rfs_44
            obtain ⟨la3, lb3, lc4, ld3, le3, lf3, hbx, hlr1, hlr2⟩ := HFS5.out.box
            have ltsb5 := hbx.lt
            have HBX5 := hid hbx
            have e6 : V5.drew.cell? ⟨d.sb, 6, none⟩ = some (.slice (some ⟨d.gt, 0, none⟩) d.n d.n) := hbx.drew.cell 6 _ rfl
            clear hbx hlr1 hlr2
            have eqt : (midU s dl k).ts k = s.ts k := by unfold midU midTs; simp
            obtain ⟨ua, ub, uc, ud, ue, uf, e0, e1, e2, hu1, hu2⟩ := HFS5.out.drew.ts.cells hlt
            rw [eqt] at e0 hu1 hu2
            clear eqt
            have ltgt := HFS5.out.drew.ts.lt
            have lu1 := hu1.sm1 (HS.out.ts k hlt)
            have lu2 := hu2.sm2 (HS.out.ts k hlt)
            have HU1 := hid hu1
            have HU2 := hid hu2
            clear hu1 hu2
            have pm0 := XP_44.out.drew.cell 0 _ rfl
            have pm1 := XP_44.out.drew.cell 1 _ rfl
            have pm2 := XP_44.out.drew.cell 2 _ rfl
            have ltP := XP_44.out.lt
            go_cut [31, 5, 3] (fun y0 y1 y2 wx => .int .i64 (k : Nat) = y0 ∧ .int .i64 (k : Nat) = y1 ∧ .pointer (some ⟨w2.heap.size, 0, none⟩) = y2 ∧ Hid (FS w0 d wx ⟨s.lev + dl, s.rt, upd (midTs s dl k) k (s.ts k + s.rt k * dl), midLv s dl k⟩) ∧ Hid (Bx wx w2.heap.size #[.bool (negB dl), .slice ta tb tc, .slice td te tf] 90) ∧ Hid (Row wx ta tb tc (limbs dl.num.natAbs)) ∧ Hid (Row wx td te tf (limbs dl.den)))
            case first =>
              go_region_with (first | (go_at_call 51; refine (radd_any ua ud pa pd ub uc ue uf pb pc pe pf (s.ts k) (s.rt k * dl) V5.drew HU1.out HU2.out Rp1_44.out.drew Rp2_44.out.drew (by omega) (by omega) (by omega) (by omega)).mono ?_; rintro e7 w7 ⟨v7, rfl, ⟨na, nb, nc, nd, ne, nf, rfl, hn1, hn2⟩, hb7⟩; have FT := (HFS5.out.drew.below hb7).ts; obtain ⟨x0, hx0⟩ := FT.has (j := k * 3) (by omega); obtain ⟨x1, hx1⟩ := FT.has (j := k * 3 + 1) (by omega); obtain ⟨x2, hx2⟩ := FT.has (j := k * 3 + 2) (by omega); have z0 := FT.frozen (k * 3); have z1 := FT.frozen (k * 3 + 1); have z2 := FT.frozen (k * 3 + 2); have ltx := FT.lt; have e6b := (hb7.cell (p := ⟨d.sb, 6, none⟩) ltsb5).trans e6; clear FT))
              all_goals (go_wp2_with fail; go_meet)
              all_goals (obtain ⟨arr7, hx7⟩ := (HFS5.out.drew.below hb7).ts.blk; exact ⟨rfl, rfl, rfl, (HFS5.out.drew.below hb7).putTs hap hlt (s.ts k + s.rt k * dl) hn1 hn2, Bx.putA_other (XT_44.out.drew.keep hb7) _ _ _ (by omega), (Rt1_44.out.drew.below hb7).putA hx7 (by decide), (Rt2_44.out.drew.below hb7).putA hx7 (by decide)⟩)
            case rest =>
              obtain ⟨rfl, rfl, rfl, HG0, HT0, HT1, HT2⟩ := hcut
              clear e6 e0 e1 e2 pm0 pm1 pm2 HU1 HU2 HBX5 HFS5 XT_44 XR_44 XP_44 Rt1_44 Rt2_44 Rr1_44 Rr2_44 Rp1_44 Rp2_44 HB_44
              go_wp2_with fail
              obtain ⟨V6, hV⟩ : ∃ V6, V6 = wc := ⟨_, rfl⟩
              rw [← hV] at HG0 HT0 HT1 HT2 ⊢
              clear hV
              obtain ⟨la4, lb4, lc5, ld4, le4, lf4, hbx, hlr1, hlr2⟩ := HG0.out.box
              have ltsb6 := hbx.lt
              have h7c : V6.cell? ⟨d.sb, 7, none⟩ = some (.slice (some ⟨d.gl, 0, none⟩) d.n d.n) := hbx.cell 7 _ rfl
              have h2c : V6.cell? ⟨d.sb, 2, none⟩ = some (.bool (negB (s.lev + dl))) := hbx.cell 2 _ rfl
              have h3c : V6.cell? ⟨d.sb, 3, none⟩ = some (.slice la4 lb4 lc5) := hbx.cell 3 _ rfl
              have h4c : V6.cell? ⟨d.sb, 4, none⟩ = some (.slice ld4 le4 lf4) := hbx.cell 4 _ rfl
              have FL := HG0.out.lv
              obtain ⟨x0, hx0⟩ := FL.has (j := k * 3) (by omega)
              obtain ⟨x1, hx1⟩ := FL.has (j := k * 3 + 1) (by omega)
              obtain ⟨x2, hx2⟩ := FL.has (j := k * 3 + 2) (by omega)
              have z0 := FL.frozen (k * 3)
              have z1 := FL.frozen (k * 3 + 1)
              have z2 := FL.frozen (k * 3 + 2)
              have ltx := FL.lt
              clear FL hbx
              have HLR1 := hid hlr1
              have HLR2 := hid hlr2
              clear hlr1 hlr2
              go_region
              go_wp2
              go_roundg (d.n - (k + 1))
              case measure => omega
              case rel =>
                obtain ⟨arr8, hx8⟩ := HG0.out.drew.lv.blk
                have h5 := HG0.out.drew.putLv hap hlt (s.lev + dl) HLR1.out.drew HLR2.out.drew
                refine ⟨k + 1, rfl, by omega, by go_num, h5.congr rfl (fun j hj => rfl) (fun j hj => ?_) (fun j hj => ?_), Bx.putA_other HT0.out.drew _ _ _ (by omega), HT1.out.drew.putA hx8 (by decide), HT2.out.drew.putA hx8 (by decide)⟩
                · show upd (midTs s dl k) k (s.ts k + s.rt k * dl) j = midTs s dl (k + 1) j
                  by_cases e : j = k
                  · subst e; rw [upd_same]; unfold midTs; rw [if_pos (by omega), upTs, if_neg HZ.out]
                  · rw [upd_other _ _ e]; unfold midTs
                    by_cases e2 : j < k
                    · rw [if_pos e2, if_pos (by omega)]
                    · rw [if_neg e2, if_neg (by omega)]
                · show upd (midLv s dl k) k (s.lev + dl) j = midLv s dl (k + 1) j
                  by_cases e : j = k
                  · subst e; rw [upd_same]; unfold midLv; rw [if_pos (by omega), upLv, if_neg HZ.out]
                  · rw [upd_other _ _ e]; unfold midLv
                    by_cases e2 : j < k
                    · rw [if_pos e2, if_pos (by omega)]
                    · rw [if_neg e2, if_neg (by omega)]
        · obtain rfl : k = d.n := by omega
          have HFU : Hid (FS w0 d wr (upS s dl)) := hF.out.congr rfl (fun i hi => rfl) (fun i hi => by show midTs s dl d.n i = upTs s dl i; unfold midTs; rw [if_pos hi]) (fun i hi => by show midLv s dl d.n i = upLv s dl i; unfold midLv; rw [if_pos hi])
          have HSU : Hid (∀ i, i < d.n → Sm ((upS s dl).ts i) 498) := fun i hi => by
            show Sm (upTs s dl i) 498
            unfold upTs
            split
            · exact (HS.out.ts i hi).mono (by omega)
            · exact (HS.out.ts i hi).add ((HS.out.rt i hi).mul SMt.out)
          have hbig : 5 + d.n * (498 + 3) ≤ 10000 := by have := Nat.mul_le_mul_right 501 hn6; omega
          go_wp2_with fail
          refine (stop_any w0 d (upS s dl) 498 _ HFU.out HO.out HSU.out hbig).mono ?_
          rintro e8 w8 ⟨rfl, hfin⟩
          have HFIN := hid hfin
          clear hfin
          go_wp2
          go_end0
          exact ⟨rfl, by unfold riseF; rw [if_neg (by rw [hln.out]; exact h0), hln.out, HDL.out]; exact HFIN.out⟩

end Go.Proofs.YtigokanoflkinaaGreatDoor
