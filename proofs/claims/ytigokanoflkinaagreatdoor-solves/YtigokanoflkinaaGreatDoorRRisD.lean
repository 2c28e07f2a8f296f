/- The rise of the reference: stops. (Laid by mkrised.py.) -/
import Derived.Test.YtigokanoflkinaaGreatDoorRRisC
namespace Go.Proofs.YtigokanoflkinaaGreatDoor
set_option linter.unusedSimpArgs false
set_option linter.unusedVariables false
open Go.RowKit Por

theorem cmp3_zero {x y : Nat} : cmp3 (x : Int) (y : Int) = 0 ↔ x = y := by
  unfold cmp3
  by_cases h : (x : Int) < y
  · rw [if_pos h]; omega
  · rw [if_neg h]
    by_cases e : (x : Int) = y
    · rw [if_pos e]; omega
    · rw [if_neg e]; omega

set_option maxHeartbeats 20000000 in
set_option maxRecDepth 20000 in
theorem pstops_any (d : RD) (s : RV) (i : Nat) (no so : Option Addr) (nm nc sm sc N S : Nat) (w : World) (h : RisM w d s) (ho : d.Ok) (hs : s.Ok d) (hle : ∀ r, r < d.pool.length → ∀ i, i < d.us.length → bn s.sl i = false → d.a.D i r * nn s.hl i ≤ leftT d.a s.R r i) (hi : i < d.us.length) (hN : Row w no nm nc (limbs N)) (hS : Row w so sm sc (limbs S)) (ln : nm ≤ 302) (ls : sm ≤ 16) :
    Calls Tryz.prog 39 #[.pointer (some ⟨d.pb, 0, none⟩), .int .i64 i, .slice no nm nc, .slice so sm sc] w fun e w' => (∃ b : Bool, e = .returned (.bool b) ∧ (b = true ↔ stopT d.a (nn s.gl) s.R N S i)) ∧ Below w.heap.size w w' := by
  have hk4 := ho.k4
  have hn6 := ho.n6
  have H := hid h
  have HO := hid ho
  have HS := hid hs
  have HLE := hid hle
  have HN := hid hN
  have HSS := hid hS
  clear h ho hs hle hN hS
  have hin : (i : Int) < (d.us.length : Int) := by omega
  have HB_0 := hid (Below.refl w.heap.size w)
  go_enter Tryz.func39, Tryz.ntmps39
  obtain ⟨vt2, vg2, vh2, vs2, qo2, qn2, qc2, hbx2, hot2, hog2, hoh2, hos2, hoq2, hlt2_⟩ := (H.out.below HB_0.out).box
  have bl2 := hbx2.lt
  have e1 : w.cell? ⟨d.pb, 1, none⟩ = some (.slice d.ao d.us.length d.cap) := hbx2.cell 1 _ rfl
  have e6 : w.cell? ⟨d.pb, 6, none⟩ = some (.slice qo2 qn2 qc2) := hbx2.cell 6 _ rfl
  have HQ := hid hoq2
  have lq := hoq2.len
  have lq2 := HS.out.q
  clear hbx2 hot2 hog2 hoh2 hos2 hoq2 hlt2_
  obtain ⟨ub, uo, da, dn, dc, hao, hbl, a0, a1, a2, hd⟩ := H.out.users.get hi
  rw [hao] at e1
  clear a0 a1 hd
  obtain ⟨M, hM⟩ : ∃ M : Nat, (ug d.us i).cap = (M : Int) ∧ M = d.a.C i := ⟨_, d.C_eq HO.out hi, rfl⟩
  rw [hM.1] at a2
  have hM2 : M ≤ 10000 := by rw [hM.2]; have := d.C_le HO.out hi; omega
  have HMD := hid hM.2
  clear hM
  go_upto_region 1 with fail
  have SK : Hid (∀ U, Below w.heap.size w U → U.cell? ⟨d.pb, 1, none⟩ = some (.slice (some ⟨ub, uo, none⟩) d.us.length d.cap) ∧ U.cell? ⟨ub, uo + i * 3 + 2, none⟩ = some (.int .i64 (M : Int)) ∧ U.cell? ⟨d.pb, 6, none⟩ = some (.slice qo2 qn2 qc2)) := fun U h => ⟨(h.cell (p := ⟨d.pb, 1, none⟩) bl2).trans e1, (h.cell (p := ⟨ub, uo + i * 3 + 2, none⟩) hbl).trans a2, (h.cell (p := ⟨d.pb, 6, none⟩) bl2).trans e6⟩
  have de1 : w.drew.cell? ⟨d.pb, 1, none⟩ = some (.slice (some ⟨ub, uo, none⟩) d.us.length d.cap) := ((Below.refl w.heap.size w).drew.cell (p := ⟨d.pb, 1, none⟩) bl2).trans e1
  have da2 : w.drew.cell? ⟨ub, uo + i * 3 + 2, none⟩ = some (.int .i64 (M : Int)) := ((Below.refl w.heap.size w).drew.cell (p := ⟨ub, uo + i * 3 + 2, none⟩) hbl).trans a2
  have de6 : w.drew.cell? ⟨d.pb, 6, none⟩ = some (.slice qo2 qn2 qc2) := ((Below.refl w.heap.size w).drew.cell (p := ⟨d.pb, 6, none⟩) bl2).trans e6
  go_region_held3 (fun w' => w'.cell? ⟨d.pb, 1, none⟩ = some (.slice (some ⟨ub, uo, none⟩) d.us.length d.cap) ∧ w'.cell? ⟨ub, uo + i * 3 + 2, none⟩ = some (.int .i64 (M : Int)) ∧ w'.cell? ⟨d.pb, 6, none⟩ = some (.slice qo2 qn2 qc2)) (first | exact SK.out _ (Below.refl _ _).drew | exact SK.out _ hv6g0 | exact SK.out _ hv6g1)
    (first | (go_at_call 37; refine (ptimes_any wo qo2 wn wc qn2 qc2 M s.q _ HWR.out (HQ.out.below hv6g0) (by omega) (by omega)).mono ?_; rintro e6g1 w6g1 ⟨v2, rfl, ⟨vo, vn, vc, rfl, hvr, _⟩, hb6g1⟩; have hv6g1 : Below w.heap.size w w6g1 := hv6g0.trans (hb6g1.mono (hv6g0).size); clear hb6g1; have lv : vn ≤ 302 := (by rw [← hvr.len]; have h9 := len_mul M s.q; have h8 := len_sml hM2; omega); have HVR := hid hvr; clear hvr) | (go_at_call 35; refine (pwhole_any M _ (by omega)).mono ?_; rintro e6g0 w6g0 ⟨v1, rfl, ⟨wo, wn, wc, rfl, hwr, _⟩, hb6g0⟩; have hv6g0 : Below w.heap.size w w6g0 := (Below.refl w.heap.size w).drew.trans (hb6g0.mono ((Below.refl w.heap.size w).drew).size); clear hb6g0; have lw : wn ≤ 2 := (by rw [← hwr.len]; exact len_sml hM2); have HWR := hid hwr; clear hwr))
  clear SK de1 da2 de6
  have Rn_7 := hid (HN.out.below hv6g1)
  have Rs_7 := hid (HSS.out.below hv6g1)
  have HB_7 : Hid (Below w.heap.size w w6g1) := HB_0.out.trans (hv6g1.mono HB_0.out.size)
  clear HN HSS HB_0
  clear e1 a2 e6 bl2 HWR HQ
  obtain ⟨vt3, vg3, vh3, vs3, qo3, qn3, qc3, hbx3, hot3, hog3, hoh3, hos3, hoq3, hlt3_⟩ := (H.out.below HB_7.out).box
  have bl3 := hbx3.lt
  have e3 : w6g1.cell? ⟨d.pb, 3, none⟩ = some vg3 := hbx3.cell 3 _ rfl
  have hgl := HS.out.gl
  obtain ⟨goo, gcc, rfl⟩ := hog3.shape
  rw [hgl] at hog3 e3
  obtain ⟨gb, ga, gk, gcap, rfl, hgb, cg, _, hgrow⟩ := hog3.get (i := i) (by omega)
  rw [Nat.zero_add] at cg
  have HG := hid hgrow
  have lg : gk ≤ 8 := by rw [← hgrow.len]; exact HS.out.gs i hi
  clear hgrow hbx3 hot3 hog3 hoh3 hos3 hoq3 hlt3_
  go_wp2_with fail
  refine (pmatch_any vo ga no so vn vc gk gcap nm nc sm sc (M * s.q) (nn s.gl i) N S _ HVR.out HG.out Rn_7.out Rs_7.out (by omega) (by omega) (by omega) (by omega)).mono ?_
  rintro e3_ w3 ⟨rfl, hb3⟩
  have Rn_8 := hid (Rn_7.out.below hb3)
  have Rs_8 := hid (Rs_7.out.below hb3)
  have Rv_8 := hid (HVR.out.below hb3)
  have HB_8 : Hid (Below w.heap.size w w3) := HB_7.out.trans (hb3.mono HB_7.out.size)
  clear Rn_7 Rs_7 HVR HB_7
  clear hb3 cg e3 hgb bl3 HG
  by_cases hc : M * s.q * S = N * nn s.gl i
  · have HST : Hid (stopT d.a (nn s.gl) s.R N S i) := Or.inl (by rw [← HMD.out]; exact hc)
    have hcc : cmp3 ((M * s.q * S : Nat) : Int) ((N * nn s.gl i : Nat) : Int) = 0 := cmp3_zero.2 hc
    rw [hcc]
    clear hc hcc
    go_wp2
    go_ret
    exact ⟨⟨true, rfl, fun _ => HST.out, fun _ => rfl⟩, HB_8.out⟩
  · have HC := hid hc
    have hcc : (cmp3 ((M * s.q * S : Nat) : Int) ((N * nn s.gl i : Nat) : Int) == 0) = false := by rw [beq_eq_false_iff_ne]; exact fun h5 => hc (cmp3_zero.1 h5)
    generalize cmp3 ((M * s.q * S : Nat) : Int) ((N * nn s.gl i : Nat) : Int) = cc at hcc ⊢
    clear hc
    go_wp2
    go_loopg [11] d.pool.length (fun gg ix wr => ∃ r : Nat, gg = d.pool.length - r ∧ r ≤ d.pool.length ∧ ix = .int .i64 r ∧ Hid (∀ r', r' < r → ¬ (0 < d.a.D i r' ∧ lft d.a s.R r' * S = N * pullT d.a (nn s.gl) s.R r')) ∧ Hid (Row wr no nm nc (limbs N)) ∧ Hid (Row wr so sm sc (limbs S)) ∧ Hid (Below w.heap.size w wr))
    case atStart => exact ⟨0, rfl, Nat.zero_le _, rfl, fun r' h5 => by omega, Rn_8.out, Rs_8.out, HB_8.out⟩
    case round =>
      clear Rn_8 Rs_8 Rv_8 HB_8
      obtain ⟨r, hgr, hr, rfl, hz, hNN, hSN, hB⟩ := hrel
      obtain ⟨vt2, vg2, vh2, vs2, qo2, qn2, qc2, hbx2, hot2, hog2, hoh2, hos2, hoq2, hlt2_⟩ := (H.out.below hB.out).box
      have bl2 := hbx2.lt
      have e0 : wr.cell? ⟨d.pb, 0, none⟩ = some (.slice d.po d.pool.length d.pc) := hbx2.cell 0 _ rfl
      have e1 : wr.cell? ⟨d.pb, 1, none⟩ = some (.slice d.ao d.us.length d.cap) := hbx2.cell 1 _ rfl
      clear hbx2 hot2 hog2 hoh2 hos2 hoq2 hlt2_
      by_cases hrt : r < d.pool.length
      · have hrn : (r : Int) < (d.pool.length : Int) := by omega
        obtain ⟨ub, uo, da, dn, dc, hao, hbl, a0, a1, a2, hd⟩ := (H.out.users.below hB.out).get hi
        rw [hao] at e1
        have hdl := hd.len
        rw [ints_len, HO.out.good.len hi] at hdl
        subst hdl
        obtain ⟨db, dof, hdo, hdb⟩ := hd.head (by omega)
        have cd := hd.int hdo hrt
        subst hdo
        clear a1 a2 hd
        obtain ⟨D, hD⟩ : ∃ D : Nat, lm (ug d.us i).dem r = (D : Int) ∧ D = d.a.D i r := ⟨_, d.D_eq HO.out hi r, rfl⟩
        rw [hD.1] at cd
        have HDD := hid hD.2
        clear hD
        have HSTEP : Hid (¬ (0 < d.a.D i r ∧ lft d.a s.R r * S = N * pullT d.a (nn s.gl) s.R r) → ∀ r', r' < r + 1 → ¬ (0 < d.a.D i r' ∧ lft d.a s.R r' * S = N * pullT d.a (nn s.gl) s.R r')) := fun h5 r' h6 => by
          by_cases e : r' = r
          · subst e; exact h5
          · exact hz.out r' (by omega)
        by_cases hD0 : D = 0
        · subst hD0
          have HZ2 := hid (HSTEP.out (fun h5 => by rw [← HDD.out] at h5; exact absurd h5.1 (Nat.lt_irrefl 0)))
          go_wp2
          go_roundg (d.pool.length - (r + 1))
          case measure => omega
          case rel => exact ⟨r + 1, rfl, by omega, by go_num, HZ2.out, hNN.out, hSN.out, hB.out⟩
        · have hD1 : (0 : Int) < (D : Int) := by omega
          go_wp2_with fail
          refine (pleft_any d s r _ (H.out.below hB.out) HO.out HS.out hrt (HLE.out r hrt)).mono ?_
          rintro e7 w7 ⟨lo, lnn, lc, rfl, hlr, ll, hb7⟩
          have Rn_41 := hid (hNN.out.below hb7)
          have Rs_41 := hid (hSN.out.below hb7)
          have HB_41 : Hid (Below w.heap.size w w7) := hB.out.trans (hb7.mono hB.out.size)
          clear hNN hSN hB
          have HLR := hid hlr
          clear hb7 hlr e0 e1 a0 cd hbl hdb bl2
          go_wp2_with fail
          refine (ppull_any d s r _ (H.out.below HB_41.out) HO.out HS.out hrt).mono ?_
          rintro e8 w8 ⟨fo, fn, fc, rfl, hfr, lf, hb8⟩
          have Rn_42 := hid (Rn_41.out.below hb8)
          have Rs_42 := hid (Rs_41.out.below hb8)
          have Rl_42 := hid (HLR.out.below hb8)
          have HB_42 : Hid (Below w.heap.size w w8) := HB_41.out.trans (hb8.mono HB_41.out.size)
          clear Rn_41 Rs_41 HLR HB_41
          have HFR := hid hfr
          clear hb8 hfr
          go_wp2_with fail
          refine (pmatch_any lo fo no so lnn lc fn fc nm nc sm sc (lft d.a s.R r) (pullT d.a (nn s.gl) s.R r) N S _ Rl_42.out HFR.out Rn_42.out Rs_42.out (by omega) (by omega) (by omega) (by omega)).mono ?_
          rintro e9 w9 ⟨rfl, hb9⟩
          have Rn_43 := hid (Rn_42.out.below hb9)
          have Rs_43 := hid (Rs_42.out.below hb9)
          have Rl_43 := hid (Rl_42.out.below hb9)
          have Rf_43 := hid (HFR.out.below hb9)
          have HB_43 : Hid (Below w.heap.size w w9) := HB_42.out.trans (hb9.mono HB_42.out.size)
          clear Rn_42 Rs_42 Rl_42 HFR HB_42
          clear hb9
          by_cases hc : lft d.a s.R r * S = N * pullT d.a (nn s.gl) s.R r
          · have HST : Hid (stopT d.a (nn s.gl) s.R N S i) := Or.inr ⟨r, hrt, by rw [← HDD.out]; omega, hc⟩
            have hcc : cmp3 ((lft d.a s.R r * S : Nat) : Int) ((N * pullT d.a (nn s.gl) s.R r : Nat) : Int) = 0 := cmp3_zero.2 hc
            rw [hcc]
            clear hc hcc
            go_wp2
            go_ret
            exact ⟨⟨true, rfl, fun _ => HST.out, fun _ => rfl⟩, HB_43.out⟩
          · have HZ2 := hid (HSTEP.out (fun h5 => hc h5.2))
            have hcc : (cmp3 ((lft d.a s.R r * S : Nat) : Int) ((N * pullT d.a (nn s.gl) s.R r : Nat) : Int) == 0) = false := by rw [beq_eq_false_iff_ne]; exact fun h5 => hc (cmp3_zero.1 h5)
            generalize cmp3 ((lft d.a s.R r * S : Nat) : Int) ((N * pullT d.a (nn s.gl) s.R r : Nat) : Int) = cc2 at hcc ⊢
            clear hc
            go_wp2
            go_roundg (d.pool.length - (r + 1))
            case measure => omega
            case rel => exact ⟨r + 1, rfl, by omega, by go_num, HZ2.out, Rn_43.out, Rs_43.out, HB_43.out⟩
      · obtain rfl : r = d.pool.length := by omega
        have HNO : Hid (¬ stopT d.a (nn s.gl) s.R N S i) := fun h5 => by
          rcases h5 with h5 | ⟨r, h6, h7, h8⟩
          · exact HC.out (by rw [HMD.out]; exact h5)
          · exact hz.out r h6 ⟨h7, h8⟩
        go_wp2
        go_ret
        exact ⟨⟨false, rfl, fun h5 => (by cases h5), fun h5 => absurd h5 HNO.out⟩, hB.out⟩

end Go.Proofs.YtigokanoflkinaaGreatDoor
