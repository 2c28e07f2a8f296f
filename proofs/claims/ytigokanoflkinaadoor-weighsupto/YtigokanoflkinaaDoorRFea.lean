/- portionref Feasible. (Laid by mkpfea.py.) -/
import Derived.Test.YtigokanoflkinaaDoorRFeaA
namespace Go.Proofs.YtigokanoflkinaaDoor
set_option linter.unusedSimpArgs false
set_option linter.unusedVariables false
open Go.RowKit Por

theorem PQv.put3 {w : World} {v : Value} {x : Rat} {L b : Nat} {x0 x1 x2 : Value} (h : PQv w v x L) (hx : Bx w b #[x0, x1, x2] 82) (u0 u1 u2 : Value) : PQv (wput3 w b u0 u1 u2) v x L := by
  obtain ⟨m, ao, n, capa, bo, k, capb, p, q, h1, h2, h3, h4⟩ := h
  exact ⟨m, ao, n, capa, bo, k, capb, p, q, h1, h2.put3 hx (by decide) u0 u1 u2, h3.put3 hx (by decide) u0 u1 u2, h4⟩
theorem pwhole_one (w : World) : Calls Tryd.prog 67 #[.int .i64 1] w fun e w' => ∃ v, e = .returned v ∧ Sli w.heap.size w' v 1 ∧ Below w.heap.size w w' := pwhole_any 1 w (by omega)
theorem feas_err {pool : List Int} {us : List Usr} {ss : List ByteArray} (h : errOf pool us ≠ 0) : feasOf pool us ss = (false, errOf pool us) := by unfold feasOf; rw [if_pos h]
theorem feas_list {pool : List Int} {us : List Usr} {ss : List ByteArray} (h : errOf pool us = 0) (h2 : ss.length ≠ us.length ∨ ss.all okS = false) : feasOf pool us ss = (false, 5) := by unfold feasOf; rw [if_neg (fun h5 => h5 h), if_pos h2]
theorem feas_in {pool : List Int} {us : List Usr} {ss : List ByteArray} (h : errOf pool us = 0) (h2 : ss.length = us.length) (h3 : ss.all okS = true) {a b : Bool} (ha : withinB us (svs ss) us.length = a) (hb : borneB pool us (svs ss) us.length pool.length = b) : feasOf pool us ss = (a && b, 0) := by unfold feasOf; rw [if_neg (fun h5 => h5 h), if_neg (by rw [h3]; simp [h2]), ha, hb]

set_option maxHeartbeats 40000000 in
set_option maxRecDepth 20000 in
theorem pfeas_any (po : Option Addr) (pn pc : Nat) (pool : List Int) (ao : Option Addr) (n cap : Nat) (us : List Usr) (vo : Option Addr) (m cap2 : Nat) (ss : List ByteArray) (w : World) (hp : Arr w 1 po pn pc (ints pool)) (hu : Users w ao n cap us) (ha : Arr w 1 vo m cap2 (strs ss)) (hs : ∀ i, (tx ss i).size ≤ maxLen) (hm : m ≤ 1000000000) :
    Calls Tryd.prog 21 #[.slice po pn pc, .slice ao n cap, .slice vo m cap2] w fun e w' => e = .returned (.tuple #[.bool (feasOf pool us ss).1, .int .i64 (feasOf pool us ss).2]) ∧ Below w.heap.size w w' := by
  have hpl := hp.len
  rw [ints_len] at hpl
  have hul := hu.1
  have hml := ha.len
  rw [strs_len] at hml
  subst hpl
  subst hul
  subst hml
  have HP := hid hp
  have HU := hid hu
  have HA := hid ha
  have HS := hid hs
  clear hp hu ha hs
  have HB_0 := hid (Below.refl w.heap.size w)
  go_enter Tryd.func21, Tryd.ntmps21
  go_wp2_with fail
  refine (perrs_any po pool.length pc pool ao us.length cap us _ HP.out HU.out).mono ?_
  rintro e5 w5 ⟨rfl, hb5⟩
  have HB_6 : Hid (Below w.heap.size w w5) := HB_0.out.trans (hb5.mono HB_0.out.size)
  clear HB_0
  clear hb5
  by_cases he : errOf pool us = 0
  · obtain ⟨hpb, hn6, hgood, hpa, hp1, hp4⟩ := errOf_zero he
    have HG := hid hgood
    have HPA := hid hpa
    have HE := hid he
    clear hgood hpa hpb
    rw [he]
    clear he
    go_wp2_with fail
    refine (pfracs_any vo ss.length cap2 ss _ (HA.out.below HB_6.out) HS.out hm).mono ?_
    rintro e6 w6 ⟨hpf, hb6⟩
    have HB_7 : Hid (Below w.heap.size w w6) := HB_6.out.trans (hb6.mono HB_6.out.size)
    clear HB_6
    clear hb6
    cases hok : ss.all okS with
    | false =>
      rw [hok, if_neg (by simp)] at hpf
      subst hpf
      have HF := hid (feas_list (pool := pool) (us := us) (ss := ss) HE.out (Or.inr hok))
      clear hok
      go_wp2
      go_ret2
      exact ⟨by rw [HF.out]; rfl, HB_7.out⟩
    | true =>
      rw [hok, if_pos rfl] at hpf
      obtain ⟨lv, rfl, hno⟩ := hpf
      obtain ⟨lo, lc, rfl, hfr⟩ := hno.frs
      rw [svL_len] at hfr ⊢
      have HOK := hid hok
      have HFR := hid hfr
      clear hok hno hfr
      by_cases hl : ss.length = us.length
      · have HF := hid (fun a b => feas_in (pool := pool) (us := us) (ss := ss) (a := a) (b := b) HE.out hl HOK.out)
        have HL := hid hl
        have hl1 : ((ss.length : Int) != (us.length : Int)) = false := by rw [hl]; simp
        have HSM : Hid (∀ i, i < us.length → Sm (svs ss i) 75) := fun i hi => svs_75 HOK.out (by omega)
        rw [hl] at HFR ⊢
        go_wp2
        go_loopg [11] us.length (fun gg ix wr => ∃ k : Nat, gg = us.length - k ∧ k ≤ us.length ∧ ix = .int .i64 k ∧ Hid (withinB us (svs ss) k = true) ∧ Hid (Below w6.heap.size w6 wr))
        case atStart => exact ⟨0, rfl, Nat.zero_le _, rfl, rfl, Below.refl _ _⟩
        case round =>
          obtain ⟨k, hgk, hk, rfl, hz, hB⟩ := hrel
          by_cases hlt : k < us.length
          · have hkn : (k : Int) < (us.length : Int) := by omega
            obtain ⟨fba, foa, auo, aun, auc, ayo, ayn, ayc, hfoa, hfba, af0, af1, af2, ar1, ar2⟩ := (HFR.out.below hB.out).get hlt
            rw [svL_get ss _ _ hlt] at af0 ar1 ar2
            obtain ⟨ubb, uob, dab, dnb, dcb, haob, hblb, b0, b1, b2, hdb⟩ := (HU.out.below (HB_7.out.trans (hB.out.mono HB_7.out.size))).get hlt
            subst hfoa
            subst haob
            clear b0 b1 hdb
            have hcr := HG.out.cap hlt
            obtain ⟨N, hN⟩ : ∃ N : Nat, (ug us k).cap = (N : Int) := ⟨(ug us k).cap.toNat, by omega⟩
            have HN := hid hN
            rw [hN] at b2
            have hN2 : N ≤ 1000 := by omega
            have HPX : Hid (PQv wr (.agg #[.bool (negB (svs ss k)), .slice auo aun auc, .slice ayo ayn ayc]) (svs ss k) 900) := (PQv.frac ⟨auo, aun, auc, ayo, ayn, ayc, rfl, ar1, ar2⟩ (HSM.out k hlt)).mono (by omega)
            clear ar1 ar2 hN
            generalize hx : svs ss k = x at af0 HPX
            have HX := hid hx
            clear hx
            go_upto_region 10 with fail
            have SK : Hid (∀ U, Below wr.heap.size wr U → U.cell? ⟨fba, foa + k * 3, none⟩ = some (.bool (negB x)) ∧ U.cell? ⟨fba, foa + k * 3 + 1, none⟩ = some (.slice auo aun auc) ∧ U.cell? ⟨fba, foa + k * 3 + 2, none⟩ = some (.slice ayo ayn ayc) ∧ U.cell? ⟨ubb, uob + k * 3 + 2, none⟩ = some (.int .i64 (N : Int))) := fun U h => ⟨(h.cell (p := ⟨fba, foa + k * 3, none⟩) hfba).trans af0, (h.cell (p := ⟨fba, foa + k * 3 + 1, none⟩) hfba).trans af1, (h.cell (p := ⟨fba, foa + k * 3 + 2, none⟩) hfba).trans af2, (h.cell (p := ⟨ubb, uob + k * 3 + 2, none⟩) hblb).trans b2⟩
            have daf0 : wr.drew.cell? ⟨fba, foa + k * 3, none⟩ = some (.bool (negB x)) := ((Below.refl wr.heap.size wr).drew.cell (p := ⟨fba, foa + k * 3, none⟩) hfba).trans af0
            have daf1 : wr.drew.cell? ⟨fba, foa + k * 3 + 1, none⟩ = some (.slice auo aun auc) := ((Below.refl wr.heap.size wr).drew.cell (p := ⟨fba, foa + k * 3 + 1, none⟩) hfba).trans af1
            have daf2 : wr.drew.cell? ⟨fba, foa + k * 3 + 2, none⟩ = some (.slice ayo ayn ayc) := ((Below.refl wr.heap.size wr).drew.cell (p := ⟨fba, foa + k * 3 + 2, none⟩) hfba).trans af2
            have db2 : wr.drew.cell? ⟨ubb, uob + k * 3 + 2, none⟩ = some (.int .i64 (N : Int)) := ((Below.refl wr.heap.size wr).drew.cell (p := ⟨ubb, uob + k * 3 + 2, none⟩) hblb).trans b2
            go_region_held3 (fun w' => w'.cell? ⟨fba, foa + k * 3, none⟩ = some (.bool (negB x)) ∧ w'.cell? ⟨fba, foa + k * 3 + 1, none⟩ = some (.slice auo aun auc) ∧ w'.cell? ⟨fba, foa + k * 3 + 2, none⟩ = some (.slice ayo ayn ayc) ∧ w'.cell? ⟨ubb, uob + k * 3 + 2, none⟩ = some (.int .i64 (N : Int))) (first | exact SK.out _ (Below.refl _ _).drew | exact SK.out _ hv21g0 | exact SK.out _ hv21g1 | exact SK.out _ hv21g2)
              (first | (go_at_call 61; refine (porder_pq (.agg #[.bool (negB x), .slice auo aun auc, .slice ayo ayn ayc]) (.agg #[.bool false, .slice wo wn wc, .slice xo xn xc]) (x) (((N : Nat) : Int) : Rat) _ (HPX.out.below hv21g1) ((pq_whole HWR2.out HXR.out (by omega)).mono (by omega))).mono ?_; rintro e21g2 w21g2 ⟨rfl, hb21g2⟩; have hv21g2 : Below wr.heap.size wr w21g2 := hv21g1.trans (hb21g2.mono (hv21g1).size); clear hb21g2) | (go_at_call 67; refine ((fun _ => pwhole_one _) HWR).mono ?_; rintro e21g1 w21g1 ⟨v2, rfl, ⟨xo, xn, xc, rfl, hxr, _⟩, hb21g1⟩; have HB2b := hid hb21g1; have hv21g1 : Below wr.heap.size wr w21g1 := hv21g0.trans (hb21g1.mono (hv21g0).size); clear hb21g1; have HXR := hid hxr; have HWR2 := hid (HWR.out.below HB2b.out); clear hxr) | (go_at_call 67; refine (pwhole_any N _ (by omega)).mono ?_; rintro e21g0 w21g0 ⟨v1, rfl, ⟨wo, wn, wc, rfl, hwr, _⟩, hb21g0⟩; have hv21g0 : Below wr.heap.size wr w21g0 := (Below.refl wr.heap.size wr).drew.trans (hb21g0.mono ((Below.refl wr.heap.size wr).drew).size); clear hb21g0; have HWR := hid hwr; clear hwr))
            clear SK daf0 daf1 daf2 db2
            have HB_22 : Hid (Below w6.heap.size w6 w21g2) := hB.out.trans (hv21g2.mono hB.out.size)
            clear hB
            clear af0 af1 af2 b2 hblb hfba
            generalize hcq : cmpQ x (((N : Nat) : Int) : Rat) = c
            have HC := hid hcq
            clear hcq
            obtain ⟨fbe, foe, euo, eun, euc, eyo, eyn, eyc, hfoe, hfbe, ef0, ef1, ef2, er1, er2⟩ := (HFR.out.below HB_22.out).get hlt
            rw [svL_get ss _ _ hlt] at ef0 er1 er2
            cases hfoe
            rw [HX.out] at ef0
            clear ef1 ef2 er1 er2
            cases hneg : negB x with
            | true =>
              have HFF := hid (HF.out _ _ (within_neg (us := us) (f := svs ss) hlt (by rw [HX.out]; exact (negB_iff x).1 hneg)) rfl)
              go_wp2
              go_ret2
              exact ⟨by rw [HFF.out]; rfl, HB_7.out.trans (HB_22.out.mono HB_7.out.size)⟩
            | false =>
              by_cases hc : 0 < c
              · have HFF := hid (HF.out _ _ (within_cap (us := us) (f := svs ss) hlt (by rw [HX.out, HN.out]; have h9 := HC.out; rw [← h9] at hc; exact cmp_gt.1 hc)) rfl)
                go_wp2
                go_ret2
                exact ⟨by rw [HFF.out]; rfl, HB_7.out.trans (HB_22.out.mono HB_7.out.size)⟩
              · have HW : Hid (withinB us (svs ss) (k + 1) = true) := within_step hz.out (by rw [HX.out, ← negB_iff, hneg]; simp) (by rw [HX.out, HN.out]; exact Rat.not_lt.1 (fun h5 => hc (by rw [← HC.out]; exact cmp_gt.2 h5)))
                go_wp2
                go_roundg (us.length - (k + 1))
                case measure => omega
                case rel => exact ⟨k + 1, rfl, by omega, by go_num, HW.out, HB_22.out⟩
          · obtain rfl : k = us.length := by omega
            go_wp2
            go_loopg [13] pool.length (fun gg ix wr => ∃ r : Nat, gg = pool.length - r ∧ r ≤ pool.length ∧ ix = .int .i64 r ∧ Hid (borneB pool us (svs ss) us.length r = true) ∧ Hid (Below w6.heap.size w6 wr))
            case atStart => exact ⟨0, rfl, Nat.zero_le _, rfl, rfl, hB.out⟩
            case round =>
              clear hB
              obtain ⟨r, hgr, hr, rfl, hzb, hB⟩ := hrel
              by_cases hrt : r < pool.length
              · have hrp : (r : Int) < (pool.length : Int) := by omega
                go_wp2_with fail
                refine (pwhole_one _).mono ?_
                rintro e3 w3 ⟨v3, rfl, ⟨qo, qn, qc, rfl, hqr, _⟩, hb3⟩
                have HQR := hid hqr
                have HB3 : Hid (Below w6.heap.size w6 w3) := hB.out.trans (hb3.mono hB.out.size)
                clear hqr hb3 hB
                have HSX := hid (bx_new w3 #[.bool false, .slice none 0 0, .slice qo qn qc] 82)
                have HAL := hid ((Below.refl w3.heap.size w3).alloc (Nat.le_refl _) (.cells #[.bool false, .slice none 0 0, .slice qo qn qc] 82))
                have HPS : Hid (PQv (w3.alloc (.cells #[.bool false, .slice none 0 0, .slice qo qn qc] 82)) (.agg #[.bool false, .slice none 0 0, .slice qo qn qc]) (totF us (svs ss) r 0) (2 + 0 * 80)) := pq_zero (HQR.out.below HAL.out)
                have HB4 : Hid (Below w6.heap.size w6 (w3.alloc (.cells #[.bool false, .slice none 0 0, .slice qo qn qc] 82))) := HB3.out.alloc HB3.out.size _
                clear HQR HAL
                go_wp2
                go_loopg [15] us.length (fun gg ix wr => ∃ (j : Nat) (sm : Bool) (sa : Option Addr) (sb sc : Nat) (sd : Option Addr) (se sf : Nat), gg = us.length - j ∧ j ≤ us.length ∧ ix = .int .i64 j ∧ Hid (Bx wr w3.heap.size #[.bool sm, .slice sa sb sc, .slice sd se sf] 82) ∧ Hid (PQv wr (.agg #[.bool sm, .slice sa sb sc, .slice sd se sf]) (totF us (svs ss) r j) (2 + j * 80)) ∧ Hid (Below w6.heap.size w6 wr))
                case atStart => exact ⟨0, _, _, _, _, _, _, _, rfl, Nat.zero_le _, rfl, HSX.out, HPS.out, HB4.out⟩
                case round =>
                  clear HSX HPS HB4
                  obtain ⟨j, sm, sa, sb, sc, sd, se, sf, hgj, hj, rfl, hSX, hPS, hB⟩ := hrel
                  by_cases hjt : j < us.length
                  · have hjn : (j : Int) < (us.length : Int) := by omega
                    obtain ⟨fba, foa, auo, aun, auc, ayo, ayn, ayc, hfoa, hfba, af0, af1, af2, ar1, ar2⟩ := (HFR.out.below hB.out).get hjt
                    rw [svL_get ss _ _ hjt] at af0 ar1 ar2
                    obtain ⟨ubb, uob, dab, dnb, dcb, haob, hblb, b0, b1, b2, hdb⟩ := (HU.out.below (HB_7.out.trans (hB.out.mono HB_7.out.size))).get hjt
                    subst hfoa
                    subst haob
                    have hdl := hdb.len
                    rw [ints_len, HG.out.len hjt] at hdl
                    subst hdl
                    obtain ⟨db, dof, hdo, hdbl⟩ := hdb.head (by omega)
                    have cd := hdb.int hdo hrt
                    subst hdo
                    clear b1 b2 hdb
                    have hdr := amt_rng (HG.out.dem hjt r)
                    obtain ⟨N, hN⟩ : ∃ N : Nat, lm (ug us j).dem r = (N : Int) := ⟨(lm (ug us j).dem r).toNat, by omega⟩
                    rw [hN] at cd
                    have hN2 : N ≤ 10000 := by omega
                    have HST : Hid (totF us (svs ss) r (j + 1) = totF us (svs ss) r j + svs ss j * (((N : Nat) : Int) : Rat)) := by show _ = _ + _; rw [← hN]; rfl
                    have HPX : Hid (PQv wr (.agg #[.bool (negB (svs ss j)), .slice auo aun auc, .slice ayo ayn ayc]) (svs ss j) 75) := PQv.frac ⟨auo, aun, auc, ayo, ayn, ayc, rfl, ar1, ar2⟩ (HSM.out j hjt)
                    clear ar1 ar2 hN
                    generalize svs ss j = x at af0 HPX HST
                    go_upto_region 20 with fail
                    have SK : Hid (∀ U, Below wr.heap.size wr U → U.cell? ⟨fba, foa + j * 3, none⟩ = some (.bool (negB x)) ∧ U.cell? ⟨fba, foa + j * 3 + 1, none⟩ = some (.slice auo aun auc) ∧ U.cell? ⟨fba, foa + j * 3 + 2, none⟩ = some (.slice ayo ayn ayc) ∧ U.cell? ⟨ubb, uob + j * 3, none⟩ = some (.slice (some ⟨db, dof, none⟩) pool.length dcb) ∧ U.cell? ⟨db, dof + r, none⟩ = some (.int .i64 (N : Int))) := fun U h => ⟨(h.cell (p := ⟨fba, foa + j * 3, none⟩) hfba).trans af0, (h.cell (p := ⟨fba, foa + j * 3 + 1, none⟩) hfba).trans af1, (h.cell (p := ⟨fba, foa + j * 3 + 2, none⟩) hfba).trans af2, (h.cell (p := ⟨ubb, uob + j * 3, none⟩) hblb).trans b0, (h.cell (p := ⟨db, dof + r, none⟩) hdbl).trans cd⟩
                    have KC : Hid (∀ U, Below wr.heap.size wr U → Calls Tryd.prog 68 #[.agg #[.bool (negB x), .slice auo aun auc, .slice ayo ayn ayc], .int .i64 (N : Int)] U (fun e w' => ∃ (tm : Bool) (ta : Option Addr) (tb tc : Nat) (td : Option Addr) (te tf : Nat), e = .returned (.agg #[.bool tm, .slice ta tb tc, .slice td te tf]) ∧ PQv w' (.agg #[.bool tm, .slice ta tb tc, .slice td te tf]) (x * (((N : Nat) : Int) : Rat)) (75 + 2) ∧ Below wr.heap.size wr w' ∧ Below U.heap.size U w')) := fun U hU => (pscaled_pq (.agg #[.bool (negB x), .slice auo aun auc, .slice ayo ayn ayc]) x 75 N U (HPX.out.below hU) (by omega) hN2).mono (fun e w' ⟨z, h1, h2, h3⟩ => by obtain ⟨m9, a9, b9, c9, d9, e9, f9, p9, q9, rfl, h4⟩ := h2; exact ⟨m9, a9, b9, c9, d9, e9, f9, h1, ⟨m9, a9, b9, c9, d9, e9, f9, p9, q9, rfl, h4⟩, hU.trans (h3.mono hU.size), h3⟩)
                    go_cut [16, 15] (fun pp y0 wx => ∃ (PB : Nat) (tm : Bool) (ta : Option Addr) (tb tc : Nat) (td : Option Addr) (te tf : Nat), pp = .pointer (some ⟨PB, 0, none⟩) ∧ .int .i64 (j : Nat) = y0 ∧ Hid (Bx wx w3.heap.size #[.bool sm, .slice sa sb sc, .slice sd se sf] 82) ∧ Hid (PQv wx (.agg #[.bool sm, .slice sa sb sc, .slice sd se sf]) (totF us (svs ss) r j) (2 + j * 80)) ∧ Hid (Bx wx PB #[.bool tm, .slice ta tb tc, .slice td te tf] 82) ∧ Hid (PQv wx (.agg #[.bool tm, .slice ta tb tc, .slice td te tf]) (x * (((N : Nat) : Int) : Rat)) (75 + 2)) ∧ Hid (Below w6.heap.size w6 wx) ∧ wr.heap.size ≤ PB)
                    case first =>
                      have daf0 : wr.drew.cell? ⟨fba, foa + j * 3, none⟩ = some (.bool (negB x)) := ((Below.refl wr.heap.size wr).drew.cell (p := ⟨fba, foa + j * 3, none⟩) hfba).trans af0
                      have daf1 : wr.drew.cell? ⟨fba, foa + j * 3 + 1, none⟩ = some (.slice auo aun auc) := ((Below.refl wr.heap.size wr).drew.cell (p := ⟨fba, foa + j * 3 + 1, none⟩) hfba).trans af1
                      have daf2 : wr.drew.cell? ⟨fba, foa + j * 3 + 2, none⟩ = some (.slice ayo ayn ayc) := ((Below.refl wr.heap.size wr).drew.cell (p := ⟨fba, foa + j * 3 + 2, none⟩) hfba).trans af2
                      have db0 : wr.drew.cell? ⟨ubb, uob + j * 3, none⟩ = some (.slice (some ⟨db, dof, none⟩) pool.length dcb) := ((Below.refl wr.heap.size wr).drew.cell (p := ⟨ubb, uob + j * 3, none⟩) hblb).trans b0
                      have dcd : wr.drew.cell? ⟨db, dof + r, none⟩ = some (.int .i64 (N : Int)) := ((Below.refl wr.heap.size wr).drew.cell (p := ⟨db, dof + r, none⟩) hdbl).trans cd
                      go_region_held3 (fun w' => w'.cell? ⟨fba, foa + j * 3, none⟩ = some (.bool (negB x)) ∧ w'.cell? ⟨fba, foa + j * 3 + 1, none⟩ = some (.slice auo aun auc) ∧ w'.cell? ⟨fba, foa + j * 3 + 2, none⟩ = some (.slice ayo ayn ayc) ∧ w'.cell? ⟨ubb, uob + j * 3, none⟩ = some (.slice (some ⟨db, dof, none⟩) pool.length dcb) ∧ w'.cell? ⟨db, dof + r, none⟩ = some (.int .i64 (N : Int))) (first | exact SK.out _ (Below.refl _ _).drew | exact SK.out _ ((Below.refl _ _).alloc (Nat.le_refl _) _).drew | exact SK.out _ hb7 | exact SK.out _ (hb7.alloc hb7.size _) | exact SK.out _ (below_put3 hb7 (Nat.le_refl _) _ _ _))
                        (first | (go_at_call 68; refine (KC.out _ ?hU).mono ?_; (case hU => first | exact (Below.refl _ _).drew | exact ((Below.refl _ _).alloc (Nat.le_refl _) _).drew); rintro e7 w7 ⟨tm, ta, tb, tc, td, te, tf, rfl, hpq7, hb7, hu7⟩; try (have XP7 := (bx_new wr #[.bool false, .slice none 0 0, .slice none 0 0] 82).drew.keep hu7; have xp0 := XP7.cell 0 _ rfl; have xp1 := XP7.cell 1 _ rfl; have xp2 := XP7.cell 2 _ rfl; have xf0 := XP7.frozen 0; have xf1 := XP7.frozen 1; have xf2 := XP7.frozen 2; have xl := XP7.lt; clear XP7)))
                      all_goals (go_wp2_with fail; go_meet)
                      all_goals (first | exact ⟨w7.heap.size, tm, ta, tb, tc, td, te, tf, rfl, rfl, bx_past (hSX.out.keep hb7) _, (hPS.out.below hb7).below ((Below.refl w7.heap.size w7).alloc (Nat.le_refl _) _), bx_new w7 _ _, hpq7.below ((Below.refl w7.heap.size w7).alloc (Nat.le_refl _) _), (hB.out.trans (hb7.mono hB.out.size)).alloc (Nat.le_trans hB.out.size hb7.size) _, hb7.size⟩ | exact ⟨wr.heap.size, tm, ta, tb, tc, td, te, tf, rfl, rfl, hSX.out.keep (below_put3 hb7 (Nat.le_refl _) _ _ _), hPS.out.below (below_put3 hb7 (Nat.le_refl _) _ _ _), Bx.put3 ((bx_new wr #[.bool false, .slice none 0 0, .slice none 0 0] 82).drew.keep hu7) _ _ _, hpq7.put3 ((bx_new wr #[.bool false, .slice none 0 0, .slice none 0 0] 82).drew.keep hu7) _ _ _, below_put3 (hB.out.trans (hb7.mono hB.out.size)) hB.out.size _ _ _, Nat.le_refl _⟩)
                    case rest =>
                      obtain ⟨PBt, tm, ta, tb, tc, td, te, tf, rfl, rfl, XS_62, Rps_62, XtB_62, HPQt, HB_62, lePBt⟩ := hcut
                      clear SK KC hSX hPS hB
                      have ltS := XS_62.out.lt
                      have cS0 := XS_62.out.cell 0 _ rfl
                      have cS1 := XS_62.out.cell 1 _ rfl
                      have cS2 := XS_62.out.cell 2 _ rfl
                      have lttB := XtB_62.out.lt
                      have ctB0 := XtB_62.out.cell 0 _ rfl
                      have ctB1 := XtB_62.out.cell 1 _ rfl
                      have ctB2 := XtB_62.out.cell 2 _ rfl
                      go_wp2_with fail
                      clear ltS cS0 cS1 cS2 lttB ctB0 ctB1 ctB2
                      refine (psum_pq (.agg #[.bool sm, .slice sa sb sc, .slice sd se sf]) (.agg #[.bool tm, .slice ta tb tc, .slice td te tf]) (totF us (svs ss) r j) (x * (((N : Nat) : Int) : Rat)) (2 + j * 80) (75 + 2) _ Rps_62.out HPQt.out (by omega) (by omega)).mono ?_
                      rintro e8 w8 ⟨z8, rfl, hz8, hb8⟩
                      obtain ⟨zm, za, zb, zc, zd, ze, zf, zp, zq, rfl, hz9⟩ := hz8
                      have XS_63 := hid (XS_62.out.keep hb8)
                      have XtB_63 := hid (XtB_62.out.keep hb8)
                      have HB_63 : Hid (Below w6.heap.size w6 w8) := HB_62.out.trans (hb8.mono HB_62.out.size)
                      clear XS_62 XtB_62 HB_62
                      have HZ8 : Hid (PQv w8 (.agg #[.bool zm, .slice za zb zc, .slice zd ze zf]) (totF us (svs ss) r j + x * (((N : Nat) : Int) : Rat)) (2 + (j + 1) * 80)) := (PQv.mono (L := 2 + j * 80 + (75 + 2) + 1) ⟨zm, za, zb, zc, zd, ze, zf, zp, zq, rfl, hz9⟩ (by omega))
                      clear hb8 hz9 HPX HPQt
                      have HSF := hid (XS_63.out.put3 (.bool zm) (.slice za zb zc) (.slice zd ze zf))
                      have HZF := hid (HZ8.out.put3 XS_63.out (.bool zm) (.slice za zb zc) (.slice zd ze zf))
                      have HBF := hid (below_put3 HB_63.out (by have := HB3.out.size; omega : w6.heap.size ≤ w3.heap.size) (.bool zm) (.slice za zb zc) (.slice zd ze zf))
                      have ltS := XS_63.out.lt
                      have cS0 := XS_63.out.cell 0 _ rfl
                      have zS0 := XS_63.out.frozen 0
                      have cS1 := XS_63.out.cell 1 _ rfl
                      have zS1 := XS_63.out.frozen 1
                      have cS2 := XS_63.out.cell 2 _ rfl
                      have zS2 := XS_63.out.frozen 2
                      unfold wput3 at HSF HZF HBF
                      go_wp2
                      go_roundg (us.length - (j + 1))
                      case measure => omega
                      case rel => exact ⟨j + 1, zm, za, zb, zc, zd, ze, zf, rfl, by omega, by go_num, HSF.out, by rw [HST.out]; exact HZF.out, HBF.out⟩
                  · obtain rfl : j = us.length := by omega
                    obtain ⟨pb, pof, hpo, hpbl⟩ := (HP.out.below (HB_7.out.trans (hB.out.mono HB_7.out.size))).head (by omega)
                    have cp := (HP.out.below (HB_7.out.trans (hB.out.mono HB_7.out.size))).int hpo hrt
                    subst hpo
                    have hpr := amt_rng (HPA.out r)
                    obtain ⟨N, hN⟩ : ∃ N : Nat, lm pool r = (N : Int) := ⟨(lm pool r).toNat, by omega⟩
                    have HN := hid hN
                    rw [hN] at cp
                    have hN2 : N ≤ 10000 := by omega
                    clear hN
                    have HPX := hid (hPS.out.mono (M := 900) (by omega))
                    clear hPS
                    generalize ht : totF us (svs ss) r us.length = t at HPX
                    have HT := hid ht
                    clear ht
                    have s0 := hSX.out.cell 0 _ rfl
                    have s1 := hSX.out.cell 1 _ rfl
                    have s2 := hSX.out.cell 2 _ rfl
                    have sl := hSX.out.lt
                    go_upto_region 22 with fail
                    have SK : Hid (∀ U, Below wr.heap.size wr U → U.cell? ⟨w3.heap.size, 0, none⟩ = some (.bool sm) ∧ U.cell? ⟨w3.heap.size, 1, none⟩ = some (.slice sa sb sc) ∧ U.cell? ⟨w3.heap.size, 2, none⟩ = some (.slice sd se sf) ∧ U.cell? ⟨pb, pof + r, none⟩ = some (.int .i64 (N : Int))) := fun U h => ⟨(h.cell (p := ⟨w3.heap.size, 0, none⟩) sl).trans s0, (h.cell (p := ⟨w3.heap.size, 1, none⟩) sl).trans s1, (h.cell (p := ⟨w3.heap.size, 2, none⟩) sl).trans s2, (h.cell (p := ⟨pb, pof + r, none⟩) hpbl).trans cp⟩
                    have ds0 : wr.drew.cell? ⟨w3.heap.size, 0, none⟩ = some (.bool sm) := ((Below.refl wr.heap.size wr).drew.cell (p := ⟨w3.heap.size, 0, none⟩) sl).trans s0
                    have ds1 : wr.drew.cell? ⟨w3.heap.size, 1, none⟩ = some (.slice sa sb sc) := ((Below.refl wr.heap.size wr).drew.cell (p := ⟨w3.heap.size, 1, none⟩) sl).trans s1
                    have ds2 : wr.drew.cell? ⟨w3.heap.size, 2, none⟩ = some (.slice sd se sf) := ((Below.refl wr.heap.size wr).drew.cell (p := ⟨w3.heap.size, 2, none⟩) sl).trans s2
                    have dcp : wr.drew.cell? ⟨pb, pof + r, none⟩ = some (.int .i64 (N : Int)) := ((Below.refl wr.heap.size wr).drew.cell (p := ⟨pb, pof + r, none⟩) hpbl).trans cp
                    go_region_held3 (fun w' => w'.cell? ⟨w3.heap.size, 0, none⟩ = some (.bool sm) ∧ w'.cell? ⟨w3.heap.size, 1, none⟩ = some (.slice sa sb sc) ∧ w'.cell? ⟨w3.heap.size, 2, none⟩ = some (.slice sd se sf) ∧ w'.cell? ⟨pb, pof + r, none⟩ = some (.int .i64 (N : Int))) (first | exact SK.out _ (Below.refl _ _).drew | exact SK.out _ hv81g0 | exact SK.out _ hv81g1 | exact SK.out _ hv81g2)
                      (first | (go_at_call 61; refine (porder_pq (.agg #[.bool sm, .slice sa sb sc, .slice sd se sf]) (.agg #[.bool false, .slice wo wn wc, .slice xo xn xc]) (t) (((N : Nat) : Int) : Rat) _ (HPX.out.below hv81g1) ((pq_whole HWR2.out HXR.out hN2).mono (by omega))).mono ?_; rintro e81g2 w81g2 ⟨rfl, hb81g2⟩; have hv81g2 : Below wr.heap.size wr w81g2 := hv81g1.trans (hb81g2.mono (hv81g1).size); clear hb81g2) | (go_at_call 67; refine ((fun _ => pwhole_one _) HWR).mono ?_; rintro e81g1 w81g1 ⟨v2, rfl, ⟨xo, xn, xc, rfl, hxr, _⟩, hb81g1⟩; have HB2b := hid hb81g1; have hv81g1 : Below wr.heap.size wr w81g1 := hv81g0.trans (hb81g1.mono (hv81g0).size); clear hb81g1; have HXR := hid hxr; have HWR2 := hid (HWR.out.below HB2b.out); clear hxr) | (go_at_call 67; refine (pwhole_any N _ (by omega)).mono ?_; rintro e81g0 w81g0 ⟨v1, rfl, ⟨wo, wn, wc, rfl, hwr, _⟩, hb81g0⟩; have hv81g0 : Below wr.heap.size wr w81g0 := (Below.refl wr.heap.size wr).drew.trans (hb81g0.mono ((Below.refl wr.heap.size wr).drew).size); clear hb81g0; have HWR := hid hwr; clear hwr))
                    clear SK ds0 ds1 ds2 dcp
                    have XS_82 := hid (hSX.out.keep hv81g2)
                    have HB_82 : Hid (Below w6.heap.size w6 w81g2) := hB.out.trans (hv81g2.mono hB.out.size)
                    clear hSX hB
                    clear s0 s1 s2 sl cp hpbl
                    generalize hcq : cmpQ t (((N : Nat) : Int) : Rat) = c
                    have HC := hid hcq
                    clear hcq
                    by_cases hc : 0 < c
                    · have HFF := hid (HF.out _ _ rfl (borneB_false (pool := pool) (us := us) (f := svs ss) (n := us.length) hrt (by rw [HT.out, HN.out]; have h9 := HC.out; rw [← h9] at hc; exact cmp_gt.1 hc)))
                      go_wp2
                      go_ret2
                      exact ⟨by rw [HFF.out]; simp, HB_7.out.trans (HB_82.out.mono HB_7.out.size)⟩
                    · have HW : Hid (borneB pool us (svs ss) us.length (r + 1) = true) := borne_step hzb.out (by rw [HT.out, HN.out]; exact Rat.not_lt.1 (fun h5 => hc (by rw [← HC.out]; exact cmp_gt.2 h5)))
                      go_wp2
                      go_roundg (pool.length - (r + 1))
                      case measure => omega
                      case rel => exact ⟨r + 1, rfl, by omega, by go_num, HW.out, HB_82.out⟩
              · obtain rfl : r = pool.length := by omega
                have HFF := hid (HF.out _ _ hz.out hzb.out)
                go_wp2
                go_ret2
                exact ⟨by rw [HFF.out]; rfl, HB_7.out.trans (hB.out.mono HB_7.out.size)⟩
      · have HF := hid (feas_list (pool := pool) (us := us) (ss := ss) HE.out (Or.inl hl))
        have hl1 : ((ss.length : Int) != (us.length : Int)) = true := by rw [bne_iff_ne]; omega
        have hl2 : ((ss.length : Int) == (us.length : Int)) = false := by rw [beq_eq_false_iff_ne]; omega
        go_wp2
        go_ret2
        exact ⟨by rw [HF.out]; rfl, HB_7.out⟩
  · have HF := hid (feas_err (ss := ss) he)
    have h34 := errOf_cases pool us
    generalize hq : errOf pool us = c at he h34 HF ⊢
    have he2 : (c != 0) = true := by rw [bne_iff_ne]; exact he
    have he3 : (c == 0) = false := by rw [beq_eq_false_iff_ne]; exact he
    clear hq
    go_wp2
    go_ret2
    exact ⟨by rw [HF.out]; rfl, HB_6.out⟩

end Go.Proofs.YtigokanoflkinaaDoor
