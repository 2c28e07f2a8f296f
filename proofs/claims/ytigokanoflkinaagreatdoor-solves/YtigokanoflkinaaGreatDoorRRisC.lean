/- The rise of the reference: next. (Laid by mkrisec.py.) -/
import Derived.Test.YtigokanoflkinaaGreatDoorRRisB
namespace Go.Proofs.YtigokanoflkinaaGreatDoor
set_option linter.unusedSimpArgs false
set_option linter.unusedVariables false
open Go.RowKit Por

theorem limbs_len_zero {x : Nat} : (limbs x).length = 0 ↔ x = 0 := by
  constructor
  · intro h
    apply Classical.byContradiction
    intro hx
    exact limbs_ne_nil hx (List.length_eq_zero_iff.1 h)
  · rintro rfl; rw [limbs_zero]; rfl
theorem cmp3_neg {x y : Nat} : cmp3 (x : Int) (y : Int) < 0 ↔ x < y := by
  unfold cmp3
  by_cases h : (x : Int) < y
  · rw [if_pos h]; omega
  · rw [if_neg h]
    by_cases e : (x : Int) = y
    · rw [if_pos e]; omega
    · rw [if_neg e]; omega
theorem nextK_skip {a : NProb} {gr : Nat → Nat} {R : RS} {r : Nat} (h : pullT a gr R r = 0) : nextK a gr R (r + 1) = nextK a gr R r := by simp [nextK, h]
theorem nextK_turn {a : NProb} {gr : Nat → Nat} {R : RS} {r : Nat} (h : pullT a gr R r ≠ 0) (h2 : (nextK a gr R r).2.1 = 0 ∨ lft a R r * (nextK a gr R r).2.1 < (nextK a gr R r).1 * pullT a gr R r) : nextK a gr R (r + 1) = (lft a R r, pullT a gr R r, true) := by simp only [nextK]; rw [if_neg h, if_pos h2]
theorem nextK_keep {a : NProb} {gr : Nat → Nat} {R : RS} {r : Nat} (h : pullT a gr R r ≠ 0) (h2 : ¬ ((nextK a gr R r).2.1 = 0 ∨ lft a R r * (nextK a gr R r).2.1 < (nextK a gr R r).1 * pullT a gr R r)) : nextK a gr R (r + 1) = nextK a gr R r := by simp only [nextK]; rw [if_neg h, if_neg h2]
theorem nextU_skip {a : NProb} {gr : Nat → Nat} {R : RS} {x0 : Nat × Nat × Bool} {i : Nat} (h : R.still i = false) : nextU a gr R x0 (i + 1) = nextU a gr R x0 i := by simp [nextU, h]
theorem nextU_turn {a : NProb} {gr : Nat → Nat} {R : RS} {x0 : Nat × Nat × Bool} {i : Nat} (h : R.still i = true) (h2 : a.C i * R.q * (nextU a gr R x0 i).2.1 < (nextU a gr R x0 i).1 * gr i) : nextU a gr R x0 (i + 1) = (a.C i * R.q, gr i, false) := by simp only [nextU]; rw [if_pos h, if_pos h2]
theorem nextU_keep {a : NProb} {gr : Nat → Nat} {R : RS} {x0 : Nat × Nat × Bool} {i : Nat} (h : R.still i = true) (h2 : ¬ a.C i * R.q * (nextU a gr R x0 i).2.1 < (nextU a gr R x0 i).1 * gr i) : nextU a gr R x0 (i + 1) = nextU a gr R x0 i := by simp only [nextU]; rw [if_pos h, if_neg h2]
theorem RD.C_eq {d : RD} (h : d.Ok) {i : Nat} (hi : i < d.us.length) : (ug d.us i).cap = ((d.a.C i : Nat) : Int) := by
  have := h.good.cap hi
  show (ug d.us i).cap = (((ug d.us i).cap.toNat : Nat) : Int); omega
theorem RD.C_le {d : RD} (h : d.Ok) {i : Nat} (hi : i < d.us.length) : d.a.C i ≤ 1000 := by have := h.good.cap hi; have := d.C_eq h hi; omega

set_option maxHeartbeats 20000000 in
set_option maxRecDepth 20000 in
theorem pnext_any (d : RD) (s : RV) (w : World) (h : RisM w d s) (ho : d.Ok) (hs : s.Ok d) (hle : ∀ r, r < d.pool.length → ∀ i, i < d.us.length → bn s.sl i = false → d.a.D i r * nn s.hl i ≤ leftT d.a s.R r i) :
    Calls Tryz.prog 38 #[.pointer (some ⟨d.pb, 0, none⟩)] w fun e w' => ∃ no nm nc so sm sc, e = .returned (.tuple #[.slice no nm nc, .slice so sm sc, .bool (nextT d.a (nn s.gl) s.R).2.2]) ∧ Row w' no nm nc (limbs (nextT d.a (nn s.gl) s.R).1) ∧ Row w' so sm sc (limbs (nextT d.a (nn s.gl) s.R).2.1) ∧ nm ≤ 302 ∧ sm ≤ 16 ∧ Below w.heap.size w w' := by
  have hk4 := ho.k4
  have hn6 := ho.n6
  have H := hid h
  have HO := hid ho
  have HS := hid hs
  have HLE := hid hle
  clear h ho hs hle
  have HB_0 := hid (Below.refl w.heap.size w)
  go_enter Tryz.func38, Tryz.ntmps38
  go_wp2
  go_loopg [5, 6, 7, 8] d.pool.length (fun gg s5 s6 s7 ix wr => ∃ (r : Nat) (no : Option Addr) (nm nc : Nat) (so : Option Addr) (sm sc : Nat), gg = d.pool.length - r ∧ r ≤ d.pool.length ∧ ix = .int .i64 r ∧ s5 = .slice no nm nc ∧ s6 = .slice so sm sc ∧ s7 = .bool (nextK d.a (nn s.gl) s.R r).2.2 ∧ Hid (Row wr no nm nc (limbs (nextK d.a (nn s.gl) s.R r).1)) ∧ Hid (Row wr so sm sc (limbs (nextK d.a (nn s.gl) s.R r).2.1)) ∧ nm ≤ 302 ∧ sm ≤ 16 ∧ Hid (Below w.heap.size w wr))
  case atStart => exact ⟨0, none, 0, 0, none, 0, 0, rfl, Nat.zero_le _, rfl, rfl, rfl, rfl, (by show Row w none 0 0 (limbs 0); rw [limbs_zero]; exact Row.nil w), (by show Row w none 0 0 (limbs 0); rw [limbs_zero]; exact Row.nil w), by omega, by omega, HB_0.out⟩
  case round =>
    clear HB_0
    obtain ⟨r, no, nm, nc, so, sm, sc, hgr, hr, rfl, rfl, rfl, rfl, hN, hSS, ln, ls, hB⟩ := hrel
    obtain ⟨vt2, vg2, vh2, vs2, qo2, qn2, qc2, hbx2, hot2, hog2, hoh2, hos2, hoq2, hlt2_⟩ := (H.out.below hB.out).box
    have bl2 := hbx2.lt
    have e0 : wr.cell? ⟨d.pb, 0, none⟩ = some (.slice d.po d.pool.length d.pc) := hbx2.cell 0 _ rfl
    clear hbx2 hot2 hog2 hoh2 hos2 hoq2 hlt2_
    by_cases hrt : r < d.pool.length
    · have hrn : (r : Int) < (d.pool.length : Int) := by omega
      go_wp2_with fail
      refine (ppull_any d s r _ (H.out.below hB.out) HO.out HS.out hrt).mono ?_
      rintro e1 w1 ⟨fo, fn, fc, rfl, hfr, lf, hb1⟩
      have Rn_31 := hid (hN.out.below hb1)
      have Rs_31 := hid (hSS.out.below hb1)
      have HB_31 : Hid (Below w.heap.size w w1) := hB.out.trans (hb1.mono hB.out.size)
      clear hN hSS hB
      clear hb1 e0 bl2
      have HFR := hid hfr
      have lfn := hfr.len
      clear hfr
      by_cases hp0 : pullT d.a (nn s.gl) s.R r = 0
      · have HE := hid (nextK_skip hp0)
        have hf0 : fn = 0 := by rw [← lfn, hp0, limbs_zero]; rfl
        subst hf0
        clear lfn hp0
        go_wp2
        go_roundg (d.pool.length - (r + 1))
        case measure => omega
        case rel => exact ⟨r + 1, no, nm, nc, so, sm, sc, rfl, by omega, by go_num, rfl, rfl, by rw [HE.out], by rw [HE.out]; exact Rn_31.out, by rw [HE.out]; exact Rs_31.out, by omega, by omega, HB_31.out⟩
      · have hf0 : ((fn : Int) == 0) = false := by rw [beq_eq_false_iff_ne]; intro h5; exact hp0 (limbs_len_zero.1 (by omega))
        clear lfn
        go_wp2_with fail
        refine (pleft_any d s r _ (H.out.below HB_31.out) HO.out HS.out hrt (HLE.out r hrt)).mono ?_
        rintro e2 w2 ⟨vo, vn, vc, rfl, hvr, lv, hb2⟩
        have Rn_32 := hid (Rn_31.out.below hb2)
        have Rs_32 := hid (Rs_31.out.below hb2)
        have Rf_32 := hid (HFR.out.below hb2)
        have HB_32 : Hid (Below w.heap.size w w2) := HB_31.out.trans (hb2.mono HB_31.out.size)
        clear Rn_31 Rs_31 HFR HB_31
        have HVR := hid hvr
        clear hb2 hvr
        have lsm := Rs_32.out.len
        by_cases hs0 : (nextK d.a (nn s.gl) s.R r).2.1 = 0
        · have HE := hid (nextK_turn hp0 (Or.inl hs0))
          have hsm : sm = 0 := by rw [← lsm, hs0, limbs_zero]; rfl
          subst hsm
          clear lsm
          go_wp2
          go_roundg (d.pool.length - (r + 1))
          case measure => omega
          case rel => exact ⟨r + 1, vo, vn, vc, fo, fn, fc, rfl, by omega, by go_num, rfl, rfl, by rw [HE.out], by rw [HE.out]; exact HVR.out, by rw [HE.out]; exact Rf_32.out, by omega, by omega, HB_32.out⟩
        · have hsm : ((sm : Int) == 0) = false := by rw [beq_eq_false_iff_ne]; intro h5; exact hs0 (limbs_len_zero.1 (by omega))
          clear lsm
          go_wp2_with fail
          refine (pmatch_any vo fo no so vn vc fn fc nm nc sm sc (lft d.a s.R r) (pullT d.a (nn s.gl) s.R r) (nextK d.a (nn s.gl) s.R r).1 (nextK d.a (nn s.gl) s.R r).2.1 _ HVR.out Rf_32.out Rn_32.out Rs_32.out (by omega) (by omega) (by omega) (by omega)).mono ?_
          rintro e3 w3 ⟨rfl, hb3⟩
          have Rn_33 := hid (Rn_32.out.below hb3)
          have Rs_33 := hid (Rs_32.out.below hb3)
          have Rf_33 := hid (Rf_32.out.below hb3)
          have Rv_33 := hid (HVR.out.below hb3)
          have HB_33 : Hid (Below w.heap.size w w3) := HB_32.out.trans (hb3.mono HB_32.out.size)
          clear Rn_32 Rs_32 Rf_32 HVR HB_32
          clear hb3
          by_cases hc : lft d.a s.R r * (nextK d.a (nn s.gl) s.R r).2.1 < (nextK d.a (nn s.gl) s.R r).1 * pullT d.a (nn s.gl) s.R r
          · have HE := hid (nextK_turn hp0 (Or.inr hc))
            have hcc : cmp3 ((lft d.a s.R r * (nextK d.a (nn s.gl) s.R r).2.1 : Nat) : Int) (((nextK d.a (nn s.gl) s.R r).1 * pullT d.a (nn s.gl) s.R r : Nat) : Int) < 0 := cmp3_neg.2 hc
            generalize cmp3 ((lft d.a s.R r * (nextK d.a (nn s.gl) s.R r).2.1 : Nat) : Int) (((nextK d.a (nn s.gl) s.R r).1 * pullT d.a (nn s.gl) s.R r : Nat) : Int) = cc at hcc ⊢
            clear hc
            go_wp2
            go_roundg (d.pool.length - (r + 1))
            case measure => omega
            case rel => exact ⟨r + 1, vo, vn, vc, fo, fn, fc, rfl, by omega, by go_num, rfl, rfl, by rw [HE.out], by rw [HE.out]; exact Rv_33.out, by rw [HE.out]; exact Rf_33.out, by omega, by omega, HB_33.out⟩
          · have HE := hid (nextK_keep hp0 (fun h5 => h5.elim hs0 hc))
            have hcc : ¬ cmp3 ((lft d.a s.R r * (nextK d.a (nn s.gl) s.R r).2.1 : Nat) : Int) (((nextK d.a (nn s.gl) s.R r).1 * pullT d.a (nn s.gl) s.R r : Nat) : Int) < 0 := fun h5 => hc (cmp3_neg.1 h5)
            generalize cmp3 ((lft d.a s.R r * (nextK d.a (nn s.gl) s.R r).2.1 : Nat) : Int) (((nextK d.a (nn s.gl) s.R r).1 * pullT d.a (nn s.gl) s.R r : Nat) : Int) = cc at hcc ⊢
            clear hc
            go_wp2
            go_roundg (d.pool.length - (r + 1))
            case measure => omega
            case rel => exact ⟨r + 1, no, nm, nc, so, sm, sc, rfl, by omega, by go_num, rfl, rfl, by rw [HE.out], by rw [HE.out]; exact Rn_33.out, by rw [HE.out]; exact Rs_33.out, by omega, by omega, HB_33.out⟩
    · obtain rfl : r = d.pool.length := by omega
      go_wp2
      go_loopg [5, 6, 7, 11] d.us.length (fun gg s5 s6 s7 ix wr => ∃ (i : Nat) (no : Option Addr) (nm nc : Nat) (so : Option Addr) (sm sc : Nat), gg = d.us.length - i ∧ i ≤ d.us.length ∧ ix = .int .i64 i ∧ s5 = .slice no nm nc ∧ s6 = .slice so sm sc ∧ s7 = .bool (nextU d.a (nn s.gl) s.R (nextK d.a (nn s.gl) s.R d.pool.length) i).2.2 ∧ Hid (Row wr no nm nc (limbs (nextU d.a (nn s.gl) s.R (nextK d.a (nn s.gl) s.R d.pool.length) i).1)) ∧ Hid (Row wr so sm sc (limbs (nextU d.a (nn s.gl) s.R (nextK d.a (nn s.gl) s.R d.pool.length) i).2.1)) ∧ nm ≤ 302 ∧ sm ≤ 16 ∧ Hid (Below w.heap.size w wr))
      case atStart => exact ⟨0, no, nm, nc, so, sm, sc, rfl, Nat.zero_le _, rfl, rfl, rfl, rfl, hN.out, hSS.out, ln, ls, hB.out⟩
      case round =>
        clear hN hSS hB e0 bl2
        obtain ⟨i, no, nm, nc, so, sm, sc, hgi, hi, rfl, rfl, rfl, rfl, hN, hSS, ln, ls, hB⟩ := hrel
        obtain ⟨vt2, vg2, vh2, vs2, qo2, qn2, qc2, hbx2, hot2, hog2, hoh2, hos2, hoq2, hlt2_⟩ := (H.out.below hB.out).box
        have bl2 := hbx2.lt
        have e1 : wr.cell? ⟨d.pb, 1, none⟩ = some (.slice d.ao d.us.length d.cap) := hbx2.cell 1 _ rfl
        by_cases hit : i < d.us.length
        · have hin : (i : Int) < (d.us.length : Int) := by omega
          have e5 : wr.cell? ⟨d.pb, 5, none⟩ = some vs2 := hbx2.cell 5 _ rfl
          have e6 : wr.cell? ⟨d.pb, 6, none⟩ = some (.slice qo2 qn2 qc2) := hbx2.cell 6 _ rfl
          have hsl := HS.out.sl
          obtain ⟨zo, zc, rfl⟩ := hos2.shape
          rw [hsl] at hos2 e5
          obtain ⟨sb, rfl, hsb, cs, _⟩ := hos2.get (i := i) (by omega)
          rw [Nat.zero_add] at cs
          have HQ := hid hoq2
          have lq := hoq2.len
          have lq2 := HS.out.q
          clear hbx2 hot2 hog2 hoh2 hos2 hoq2 hlt2_
          obtain ⟨ub, uo, da, dn, dc, hao, hbl, a0, a1, a2, hd⟩ := (H.out.users.below hB.out).get hit
          rw [hao] at e1
          clear a0 a1 hd
          obtain ⟨M, hM⟩ : ∃ M : Nat, (ug d.us i).cap = (M : Int) ∧ M = d.a.C i := ⟨_, d.C_eq HO.out hit, rfl⟩
          rw [hM.1] at a2
          have hM2 : M ≤ 10000 := by rw [hM.2]; have := d.C_le HO.out hit; omega
          have HMD := hid hM.2
          clear hM
          cases hst : bn s.sl i with
          | false =>
            have HE := hid (nextU_skip (a := d.a) (gr := nn s.gl) (R := s.R) (x0 := (nextK d.a (nn s.gl) s.R d.pool.length)) (i := i) hst)
            go_wp2
            go_roundg (d.us.length - (i + 1))
            case measure => omega
            case rel => exact ⟨i + 1, no, nm, nc, so, sm, sc, rfl, by omega, by go_num, rfl, rfl, by rw [HE.out], by rw [HE.out]; exact hN.out, by rw [HE.out]; exact hSS.out, by omega, by omega, hB.out⟩
          | true =>
            go_upto_region 17 with fail
            have SK : Hid (∀ U, Below wr.heap.size wr U → U.cell? ⟨d.pb, 1, none⟩ = some (.slice (some ⟨ub, uo, none⟩) d.us.length d.cap) ∧ U.cell? ⟨ub, uo + i * 3 + 2, none⟩ = some (.int .i64 (M : Int)) ∧ U.cell? ⟨d.pb, 6, none⟩ = some (.slice qo2 qn2 qc2)) := fun U h => ⟨(h.cell (p := ⟨d.pb, 1, none⟩) bl2).trans e1, (h.cell (p := ⟨ub, uo + i * 3 + 2, none⟩) hbl).trans a2, (h.cell (p := ⟨d.pb, 6, none⟩) bl2).trans e6⟩
            have de1 : wr.drew.cell? ⟨d.pb, 1, none⟩ = some (.slice (some ⟨ub, uo, none⟩) d.us.length d.cap) := ((Below.refl wr.heap.size wr).drew.cell (p := ⟨d.pb, 1, none⟩) bl2).trans e1
            have da2 : wr.drew.cell? ⟨ub, uo + i * 3 + 2, none⟩ = some (.int .i64 (M : Int)) := ((Below.refl wr.heap.size wr).drew.cell (p := ⟨ub, uo + i * 3 + 2, none⟩) hbl).trans a2
            have de6 : wr.drew.cell? ⟨d.pb, 6, none⟩ = some (.slice qo2 qn2 qc2) := ((Below.refl wr.heap.size wr).drew.cell (p := ⟨d.pb, 6, none⟩) bl2).trans e6
            go_region_held3 (fun w' => w'.cell? ⟨d.pb, 1, none⟩ = some (.slice (some ⟨ub, uo, none⟩) d.us.length d.cap) ∧ w'.cell? ⟨ub, uo + i * 3 + 2, none⟩ = some (.int .i64 (M : Int)) ∧ w'.cell? ⟨d.pb, 6, none⟩ = some (.slice qo2 qn2 qc2)) (first | exact SK.out _ (Below.refl _ _).drew | exact SK.out _ hv71g0 | exact SK.out _ hv71g1)
              (first | (go_at_call 37; refine (ptimes_any wo qo2 wn wc qn2 qc2 M s.q _ HWR.out (HQ.out.below hv71g0) (by omega) (by omega)).mono ?_; rintro e71g1 w71g1 ⟨v2, rfl, ⟨vo, vn, vc, rfl, hvr, _⟩, hb71g1⟩; have hv71g1 : Below wr.heap.size wr w71g1 := hv71g0.trans (hb71g1.mono (hv71g0).size); clear hb71g1; have lv : vn ≤ 302 := (by rw [← hvr.len]; have h9 := len_mul M s.q; have h8 := len_sml hM2; omega); have HVR := hid hvr; clear hvr) | (go_at_call 35; refine (pwhole_any M _ (by omega)).mono ?_; rintro e71g0 w71g0 ⟨v1, rfl, ⟨wo, wn, wc, rfl, hwr, _⟩, hb71g0⟩; have hv71g0 : Below wr.heap.size wr w71g0 := (Below.refl wr.heap.size wr).drew.trans (hb71g0.mono ((Below.refl wr.heap.size wr).drew).size); clear hb71g0; have lw : wn ≤ 2 := (by rw [← hwr.len]; exact len_sml hM2); have HWR := hid hwr; clear hwr))
            clear SK de1 da2 de6
            have Rn_72 := hid (hN.out.below hv71g1)
            have Rs_72 := hid (hSS.out.below hv71g1)
            have HB_72 : Hid (Below w.heap.size w w71g1) := hB.out.trans (hv71g1.mono hB.out.size)
            clear hN hSS hB
            clear e1 a2 e6 e5 cs bl2 HWR HQ
            obtain ⟨vt3, vg3, vh3, vs3, qo3, qn3, qc3, hbx3, hot3, hog3, hoh3, hos3, hoq3, hlt3_⟩ := (H.out.below HB_72.out).box
            have bl3 := hbx3.lt
            have e3 : w71g1.cell? ⟨d.pb, 3, none⟩ = some vg3 := hbx3.cell 3 _ rfl
            have hgl := HS.out.gl
            obtain ⟨goo, gcc, rfl⟩ := hog3.shape
            rw [hgl] at hog3 e3
            obtain ⟨gb, ga, gk, gcap, rfl, hgb, cg, _, hgrow⟩ := hog3.get (i := i) (by omega)
            rw [Nat.zero_add] at cg
            have HG := hid hgrow
            have lg : gk ≤ 8 := by rw [← hgrow.len]; exact HS.out.gs i hit
            clear hgrow hbx3 hot3 hog3 hoh3 hos3 hoq3 hlt3_
            go_wp2_with fail
            refine (pmatch_any vo ga no so vn vc gk gcap nm nc sm sc (M * s.q) (nn s.gl i) (nextU d.a (nn s.gl) s.R (nextK d.a (nn s.gl) s.R d.pool.length) i).1 (nextU d.a (nn s.gl) s.R (nextK d.a (nn s.gl) s.R d.pool.length) i).2.1 _ HVR.out HG.out Rn_72.out Rs_72.out (by omega) (by omega) (by omega) (by omega)).mono ?_
            rintro e3_ w3 ⟨rfl, hb3⟩
            have Rn_73 := hid (Rn_72.out.below hb3)
            have Rs_73 := hid (Rs_72.out.below hb3)
            have Rv_73 := hid (HVR.out.below hb3)
            have Rg_73 := hid (HG.out.below hb3)
            have HB_73 : Hid (Below w.heap.size w w3) := HB_72.out.trans (hb3.mono HB_72.out.size)
            clear Rn_72 Rs_72 HVR HG HB_72
            clear hb3 cg e3 hgb bl3
            obtain ⟨vt4, vg4, vh4, vs4, qo4, qn4, qc4, hbx4, hot4, hog4, hoh4, hos4, hoq4, hlt4_⟩ := (H.out.below HB_73.out).box
            have bl4 := hbx4.lt
            have k3 : w3.cell? ⟨d.pb, 3, none⟩ = some vg4 := hbx4.cell 3 _ rfl
            obtain ⟨goo4, gcc4, rfl⟩ := hog4.shape
            rw [hgl] at hog4 k3
            obtain ⟨gb4, ga4, gk4, gcap4, rfl, hgb4, cg4, _, hgrow4⟩ := hog4.get (i := i) (by omega)
            rw [Nat.zero_add] at cg4
            have HG4 := hid hgrow4
            have lg4 : gk4 ≤ 8 := by rw [← hgrow4.len]; exact HS.out.gs i hit
            clear hgrow4 hbx4 hot4 hog4 hoh4 hos4 hoq4 hlt4_
            by_cases hc : M * s.q * (nextU d.a (nn s.gl) s.R (nextK d.a (nn s.gl) s.R d.pool.length) i).2.1 < (nextU d.a (nn s.gl) s.R (nextK d.a (nn s.gl) s.R d.pool.length) i).1 * nn s.gl i
            · have HE : Hid ((nextU d.a (nn s.gl) s.R (nextK d.a (nn s.gl) s.R d.pool.length) (i + 1)) = (M * s.q, nn s.gl i, false)) := by have h9 := nextU_turn (a := d.a) (gr := nn s.gl) (R := s.R) (x0 := (nextK d.a (nn s.gl) s.R d.pool.length)) (i := i) hst (by rw [← HMD.out]; exact hc); rw [← HMD.out] at h9; exact h9
              have hcc : cmp3 ((M * s.q * (nextU d.a (nn s.gl) s.R (nextK d.a (nn s.gl) s.R d.pool.length) i).2.1 : Nat) : Int) (((nextU d.a (nn s.gl) s.R (nextK d.a (nn s.gl) s.R d.pool.length) i).1 * nn s.gl i : Nat) : Int) < 0 := cmp3_neg.2 hc
              generalize cmp3 ((M * s.q * (nextU d.a (nn s.gl) s.R (nextK d.a (nn s.gl) s.R d.pool.length) i).2.1 : Nat) : Int) (((nextU d.a (nn s.gl) s.R (nextK d.a (nn s.gl) s.R d.pool.length) i).1 * nn s.gl i : Nat) : Int) = cc at hcc ⊢
              clear hc
              go_wp2
              go_roundg (d.us.length - (i + 1))
              case measure => omega
              case rel => exact ⟨i + 1, vo, vn, vc, ga4, gk4, gcap4, rfl, by omega, by go_num, rfl, rfl, by rw [HE.out], by rw [HE.out]; exact Rv_73.out, by rw [HE.out]; exact HG4.out, by omega, by omega, HB_73.out⟩
            · have HE : Hid ((nextU d.a (nn s.gl) s.R (nextK d.a (nn s.gl) s.R d.pool.length) (i + 1)) = (nextU d.a (nn s.gl) s.R (nextK d.a (nn s.gl) s.R d.pool.length) i)) := nextU_keep hst (by rw [← HMD.out]; exact hc)
              have hcc : ¬ cmp3 ((M * s.q * (nextU d.a (nn s.gl) s.R (nextK d.a (nn s.gl) s.R d.pool.length) i).2.1 : Nat) : Int) (((nextU d.a (nn s.gl) s.R (nextK d.a (nn s.gl) s.R d.pool.length) i).1 * nn s.gl i : Nat) : Int) < 0 := fun h5 => hc (cmp3_neg.1 h5)
              generalize cmp3 ((M * s.q * (nextU d.a (nn s.gl) s.R (nextK d.a (nn s.gl) s.R d.pool.length) i).2.1 : Nat) : Int) (((nextU d.a (nn s.gl) s.R (nextK d.a (nn s.gl) s.R d.pool.length) i).1 * nn s.gl i : Nat) : Int) = cc at hcc ⊢
              clear hc
              go_wp2
              go_roundg (d.us.length - (i + 1))
              case measure => omega
              case rel => exact ⟨i + 1, no, nm, nc, so, sm, sc, rfl, by omega, by go_num, rfl, rfl, by rw [HE.out], by rw [HE.out]; exact Rn_73.out, by rw [HE.out]; exact Rs_73.out, by omega, by omega, HB_73.out⟩
        · obtain rfl : i = d.us.length := by omega
          clear hbx2 hot2 hog2 hoh2 hos2 hoq2 hlt2_
          go_wp2
          go_ret3
          exact ⟨no, nm, nc, so, sm, sc, rfl, hN.out, hSS.out, ln, ls, hB.out⟩

end Go.Proofs.YtigokanoflkinaaGreatDoor
