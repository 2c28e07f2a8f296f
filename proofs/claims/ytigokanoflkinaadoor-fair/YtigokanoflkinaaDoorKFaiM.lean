/- portionkeep.Fair. (Laid by mkfairm.py.) -/
import Derived.Test.YtigokanoflkinaaDoorKFai
import Derived.Deep.RegionHeld3
import Derived.Deep.DeepCutAuto
namespace Go.Proofs.YtigokanoflkinaaDoor
set_option linter.unusedSimpArgs false
set_option linter.unusedVariables false
open Go.RowKit Por

set_option maxHeartbeats 40000000 in
set_option maxRecDepth 20000 in
theorem fair_any (po : Option Addr) (pn pc : Nat) (pool : List Int) (ao : Option Addr) (n cap : Nat) (us : List Usr) (no : Option Addr) (nn nc : Nat) (ns : List Int) (mm : Int) (w : World) (hp : Arr w 1 po pn pc (ints pool)) (hu : Users w ao n cap us) (hn : Arr w 1 no nn nc (ints ns)) (hr : ∀ i, i < nn → -9223372036854775808 ≤ lm ns i ∧ lm ns i ≤ 9223372036854775807) (hm0 : -9223372036854775808 ≤ mm) (hm1 : mm ≤ 9223372036854775807) (ht : Tab w) :
    Calls Tryd.prog 8 #[.slice po pn pc, .slice ao n cap, .slice no nn nc, .int .i64 mm] w fun e w' => e = .returned (.bool true) ∧ Below w.heap.size w w' := by
  have hpl := hp.len
  rw [ints_len] at hpl
  have hul := hu.1
  subst hpl
  subst hul
  have HP := hid hp
  have HU := hid hu
  have HT := hid ht
  have HN := hid hn
  have HR := hid hr
  clear hp hu ht hn hr
  go_enter Tryd.func8, Tryd.ntmps8
  go_wp2_with fail
  refine (ask_any po pool.length pc pool ao us.length cap us _ HP.out HU.out HT.out).mono ?_
  rintro e1 w1 hask
  unfold AskEnd at hask
  by_cases he : errOf pool us = 0
  · rw [if_pos he] at hask
    obtain ⟨g, d, rfl, hsol⟩ := hask
    obtain ⟨hpb, hn6, hgood, hpa, hp1, hp4⟩ := errOf_zero he
    have HEE := hid he
    have HG := hid hgood
    have HPA := hid hpa
    have HSH := hid hsol.sh
    have HB1 := hid hsol.bel
    have hsl := hsol.sh.lt
    clear hgood hpa hpb he hsol
    have HDG : Hid (∀ i, i < us.length → Dg ((endS pool us).ts i) 128) := fun i hi => due_dg HG.out HPA.out hn6 hp4 hi
    have HU1 := hid (HU.out.below HB1.out)
    have HP1 := hid (HP.out.below HB1.out)
    have HN1 := hid (HN.out.below HB1.out)
    have HT1 := hid (HT.out.of HB1.out)
    clear HU HP HT HN
    have HK0 := hid (bx_new w1 #[.bool false] 49)
    have HB0 := hid ((Below.refl w1.heap.size w1).alloc (Nat.le_refl _) (.cells #[.bool false] 49))
    go_wp2_with fail
    refine (kpick_big mm 1000 _ hm0 hm1 (by omega) (by omega)).mono ?_
    rintro e2 w2 ⟨⟨pk, hpk, rfl⟩, hw2⟩
    subst hw2
    obtain ⟨m, hme⟩ : ∃ m : Int, 1 + (pk : Int) = m := ⟨_, rfl⟩
    have hm : 1 ≤ m ∧ m ≤ 1000 := by omega
    go_wp2_with fail
    refine (sharing_any ao us.length cap us no nn nc ns m pool.length _ (HU1.out.below HB0.out) HG.out hn6 (HN1.out.below HB0.out) HR.out hm).mono ?_
    rintro e3 w3 ⟨v3, ys, rfl, hown, hso, hb3⟩
    have HSO := hid hso
    obtain ⟨yo, yc, rfl, hrow, _⟩ := hown.row
    have hyl := hso.1
    rw [hyl] at hrow ⊢
    have HROW := hid hrow
    have HB3 : Hid (Below w1.heap.size w1 w3) := HB0.out.trans (hb3.mono HB0.out.size)
    have HK3 := hid (HK0.out.keep hb3)
    have HYD : Hid (∀ i, i < us.length → Dg (yq ys m i) 12) := fun i hi => y_dg HG.out hm HSO.out hi
    clear hown hso hrow hb3 HB0 HK0
    have HSH3 := hid (HSH.out.below HB3.out)
    have HU3 := hid (HU1.out.below HB3.out)
    have HP3 := hid (HP1.out.below HB3.out)
    have HT3 := hid (HT1.out.of HB3.out)
    go_wp2
    go_loopg [14, 15] us.length (fun gg s14 ix wr => ∃ (k : Nat) (v14 : Value), v14 = s14 ∧ gg = us.length - k ∧ k ≤ us.length ∧ ix = .int .i64 k ∧ Hid (TO w3.heap.size wr v14 (yL ys m k)) ∧ Hid (Below w3.heap.size w3 wr))
    case atStart => exact ⟨0, _, rfl, rfl, Nat.zero_le _, rfl, TO.nil _ _, Below.refl _ _⟩
    case round =>
      obtain ⟨k, v14, rfl, hgk, hk, rfl, hO, hB⟩ := hrel
      have hol := yL_len ys m k
      by_cases hlt : k < us.length
      · have hkn : (k : Int) < (us.length : Int) := by omega
        obtain ⟨yb, yo1, hyo, hyb⟩ := (HROW.out.below hB.out).head (by omega)
        have cy := (HROW.out.below hB.out).cell _ _ hyo k hlt
        subst hyo
        have hyr := HSO.out.2 k hlt
        have hyc := capm_rng (HG.out.cap hlt) hm
        have hy1 : lm ys k ≤ 1000000 := by omega
        have hy0 := hyr.1
        clear hyr hyc
        have HYE : Hid (yL ys m (k + 1) = yL ys m k ++ [fr (lm ys k) m]) := rfl
        generalize lm ys k = y at cy hy1 hy0 HYE
        go_wp2_with fail
        refine (of_any (.pointer (some ⟨w1.heap.size, 0, none⟩)) y m _ (by omega) (by omega) (by omega) (by omega) (HT3.out.of hB.out)).mono ?_
        rintro e20 w20 ⟨rfl, hb20⟩
        have Ro_21 := hid (hO.out.below hb20)
        have HB_21 : Hid (Below w3.heap.size w3 w20) := hB.out.trans (hb20.mono hB.out.size)
        clear hO hB
        clear hb20
        clear cy
        have leW : w3.heap.size ≤ w20.heap.size := HB_21.out.size
        go_wp2_with (at_builtin; refine wpList_append_txt _ rfl _ _ rfl w3.heap.size _ (yL ys m k) ⟨w20.heap.size, 0, none⟩ 1 (fr y m) rfl rfl (Ro_21.out.alloc _) ((bx_new w20 #[.string ⟨(txt (fr y m)).toArray⟩] 9).cell 0 _ rfl) (by omega) (Nat.le_trans leW (by simp)) ?_)
        intro v' w' hO2 hB2
        have HO2 := hid hO2
        have HB2 : Hid (Below w3.heap.size w3 w') := (HB_21.out.alloc HB_21.out.size _).trans hB2
        clear hO2 hB2
        go_wp2
        go_roundg (us.length - (k + 1))
        case measure => omega
        case rel => exact ⟨k + 1, _, rfl, rfl, by omega, by go_num, by rw [HYE.out]; exact HO2.out, HB2.out⟩
      · obtain rfl : k = us.length := by omega
        obtain ⟨tlo, tc, rfl, har⟩ := hO.out.arr
        rw [yL_len] at har ⊢
        have HAR := hid har
        clear har hO
        go_wp2_with fail
        refine (kborne_any po pc pool ao cap us yo yc ys m _ (HP3.out.below hB.out) (HU3.out.below hB.out) (HROW.out.below hB.out) HG.out HPA.out hn6 hp4 hm HSO.out).mono ?_
        rintro e30 w30 ⟨rfl, hb30⟩
        have Ra_31 := hid (HAR.out.below hb30)
        have HB_31 : Hid (Below w3.heap.size w3 w30) := hB.out.trans (hb30.mono hB.out.size)
        clear HAR hB
        clear hb30
        have HTX := hid (tx_size (yL_dg HG.out hm HSO.out) (by omega) (by omega))
        go_wp2_with fail
        refine (feas_any po pool.length pc pool ao us.length cap us tlo us.length tc ((yL ys m us.length).map tb) _ (HP3.out.below HB_31.out) (HU3.out.below HB_31.out) Ra_31.out HTX.out (HT3.out.of HB_31.out)).mono ?_
        rintro e31 w31 ⟨rfl, hb31⟩
        have Ra_32 := hid (Ra_31.out.below hb31)
        have HB_32 : Hid (Below w3.heap.size w3 w31) := HB_31.out.trans (hb31.mono HB_31.out.size)
        clear Ra_31 HB_31
        clear hb31
        rw [feas_eq HEE.out hm HSO.out]
        have HK4 : Hid (Bx w31 w1.heap.size #[.bool false] 49) := HK3.out.keep HB_32.out
        have ck := HK4.out.cell 0 _ rfl
        have lk := HK4.out.lt
        cases hbb : brnB pool us ys m pool.length with
        | false =>
          clear hbb
          go_wp2
          go_loopg [20] 1 (fun gg ix wr => gg = 1 ∧ ix = .int .i64 0 ∧ Hid (Below w3.heap.size w3 wr))
          case atStart => exact ⟨rfl, rfl, HB_32.out⟩
          case round =>
            obtain ⟨hgk, rfl, hB2⟩ := hrel
            have HK5 : Hid (Bx wr w1.heap.size #[.bool false] 49) := HK3.out.keep hB2.out
            clear ck lk
            have ck := HK5.out.cell 0 _ rfl
            have lk := HK5.out.lt
            by_cases hn0 : 0 < us.length
            · have hn1 : (0 : Int) < (us.length : Int) := by omega
              go_wp2
              go_ret
              exact ⟨rfl, HB1.out.trans ((HB3.out.trans (hB2.out.mono HB3.out.size)).mono HB1.out.size)⟩
            · have hn1 : ¬ ((0 : Int) < (us.length : Int)) := by omega
              go_wp2
              go_ret
              exact ⟨rfl, HB1.out.trans ((HB3.out.trans (hB2.out.mono HB3.out.size)).mono HB1.out.size)⟩
        | true =>
          have HBB := hid hbb
          have HARW := Ra_32
          clear hbb
          go_wp2
          go_loopg [20] us.length (fun gg ix wr => ∃ i : Nat, gg = us.length - i ∧ i ≤ us.length ∧ ix = .int .i64 i ∧ Hid (Below w3.heap.size w3 wr) ∧ Hid (Below w31.heap.size w31 wr))
          case atStart => exact ⟨0, rfl, Nat.zero_le _, rfl, HB_32.out, Below.refl _ _⟩
          case round =>
            clear ck lk HK4
            obtain ⟨i, hgi, hi, rfl, hB, hBW⟩ := hrel
            by_cases hit : i < us.length
            · have hin : (i : Int) < (us.length : Int) := by omega
              obtain ⟨yb, yo1, hyo, hyb0⟩ := HARW.out.head (by omega)
              have hyb := Nat.lt_of_lt_of_le hyb0 hBW.out.size
              have ct := (HARW.out.below hBW.out).str hyo hit
              subst hyo
              rw [tx_map _ (by rw [yL_len]; exact hit), yL_get _ _ _ _ hit] at ct
              unfold tb at ct
              obtain ⟨as0, as1, as2⟩ := (HSH3.out.below hB.out).cells hit
              have asl := (HSH3.out.below hB.out).lt
              clear as1 as2
              go_upto_region 20 with fail
              have SK : Hid (∀ U, Below wr.heap.size wr U → U.cell? ⟨yb, yo1 + i, none⟩ = some (.string ⟨(txt ((yq ys m i))).toArray⟩) ∧ U.cell? ⟨g, i * 3, none⟩ = some (.string ⟨(txt (((endS pool us).ts i))).toArray⟩)) := fun U h => ⟨(h.cell (p := ⟨yb, yo1 + i, none⟩) hyb).trans ct, (h.cell (p := ⟨g, i * 3, none⟩) asl).trans as0⟩
              have KC0 : Hid (∀ U, Below wr.heap.size wr U → Calls Tryd.prog 38 #[.pointer (some ⟨w1.heap.size, 0, none⟩), .string ⟨(txt ((yq ys m i))).toArray⟩, .string ⟨(txt (((endS pool us).ts i))).toArray⟩] U (fun e w' => e = .returned (.int .i64 (cmpQ (yq ys m i) ((endS pool us).ts i))) ∧ Below wr.heap.size wr w')) := fun U hU => (k_cmp (.pointer (some ⟨w1.heap.size, 0, none⟩)) (yq ys m i) ((endS pool us).ts i) 12 128 U (HYD.out i hit) (HDG.out i hit) (by omega) (by omega) (by omega) (by omega) (HT3.out.of (hB.out.trans (hU.mono hB.out.size)))).mono (fun e w' ⟨h1, h3⟩ => ⟨h1, hU.trans (h3.mono hU.size)⟩)
              have dct : wr.drew.cell? ⟨yb, yo1 + i, none⟩ = some (.string ⟨(txt ((yq ys m i))).toArray⟩) := ((Below.refl wr.heap.size wr).drew.cell (p := ⟨yb, yo1 + i, none⟩) hyb).trans ct
              have das0 : wr.drew.cell? ⟨g, i * 3, none⟩ = some (.string ⟨(txt (((endS pool us).ts i))).toArray⟩) := ((Below.refl wr.heap.size wr).drew.cell (p := ⟨g, i * 3, none⟩) asl).trans as0
              go_region_held3 (fun w' => w'.cell? ⟨yb, yo1 + i, none⟩ = some (.string ⟨(txt ((yq ys m i))).toArray⟩) ∧ w'.cell? ⟨g, i * 3, none⟩ = some (.string ⟨(txt (((endS pool us).ts i))).toArray⟩)) (first | exact SK.out _ (Below.refl _ _).drew | exact SK.out _ hb51g0)
                (first | (go_at_call 38; refine (KC0.out _ ?hU).mono ?_; (case hU => exact (Below.refl _ _).drew); rintro e51g0 w51g0 ⟨rfl, hb51g0⟩))
              clear SK KC0 dct das0
              have HBQ := hid hb51g0; have HB_52 : Hid (Below w3.heap.size w3 w51g0) := hB.out.trans (hb51g0.mono hB.out.size)
              clear hB
              clear hb51g0
              clear ct as0 asl
              have HBX : Hid (Below w31.heap.size w31 w51g0) := hBW.out.trans (HBQ.out.mono hBW.out.size)
              generalize hcq : cmpQ (yq ys m i) ((endS pool us).ts i) = c
              have HC := hid hcq
              clear hcq
              by_cases hc : c ≤ 0
              · go_wp2
                go_roundg (us.length - (i + 1))
                case measure => omega
                case rel => exact ⟨i + 1, rfl, by omega, by go_num, HB_52.out, HBX.out⟩
              · have HLT : Hid (((endS pool us).ts i) < (yq ys m i)) := cmp_gt.1 (by rw [HC.out]; omega)
                have HCO := hid (cost_all HG.out HPA.out hm.1 HSO.out HBB.out hit HLT.out)
                go_wp2
                go_loopg [22, 23] us.length (fun gg sc ix wr => ∃ j : Nat, gg = us.length - j ∧ j ≤ us.length ∧ ix = .int .i64 j ∧ sc = .bool (costB (endS pool us).ts (yq ys m) (endS pool us).lv i j) ∧ Hid (Below w3.heap.size w3 wr) ∧ Hid (Below w31.heap.size w31 wr))
                case atStart => exact ⟨0, rfl, Nat.zero_le _, rfl, rfl, HB_52.out, HBX.out⟩
                case round =>
                  clear HB_52 HBX
                  obtain ⟨j, hgj, hj, rfl, rfl, hB, hBW⟩ := hrel
                  by_cases hjt : j < us.length
                  · have hjn : (j : Int) < (us.length : Int) := by omega
                    have ct := (HARW.out.below hBW.out).str rfl hjt
                    have hyb2 := Nat.lt_of_lt_of_le hyb0 hBW.out.size
                    rw [tx_map _ (by rw [yL_len]; exact hjt), yL_get _ _ _ _ hjt] at ct
                    unfold tb at ct
                    obtain ⟨bs0, bs1, bs2⟩ := (HSH3.out.below hB.out).cells hjt
                    have bsl := (HSH3.out.below hB.out).lt
                    clear bs1 bs2
                    go_upto_region 26 with fail
                    have SK : Hid (∀ U, Below wr.heap.size wr U → U.cell? ⟨yb, yo1 + j, none⟩ = some (.string ⟨(txt ((yq ys m j))).toArray⟩) ∧ U.cell? ⟨g, j * 3, none⟩ = some (.string ⟨(txt (((endS pool us).ts j))).toArray⟩)) := fun U h => ⟨(h.cell (p := ⟨yb, yo1 + j, none⟩) hyb2).trans ct, (h.cell (p := ⟨g, j * 3, none⟩) bsl).trans bs0⟩
                    have KC0 : Hid (∀ U, Below wr.heap.size wr U → Calls Tryd.prog 38 #[.pointer (some ⟨w1.heap.size, 0, none⟩), .string ⟨(txt ((yq ys m j))).toArray⟩, .string ⟨(txt (((endS pool us).ts j))).toArray⟩] U (fun e w' => e = .returned (.int .i64 (cmpQ (yq ys m j) ((endS pool us).ts j))) ∧ Below wr.heap.size wr w')) := fun U hU => (k_cmp (.pointer (some ⟨w1.heap.size, 0, none⟩)) (yq ys m j) ((endS pool us).ts j) 12 128 U (HYD.out j hjt) (HDG.out j hjt) (by omega) (by omega) (by omega) (by omega) (HT3.out.of (hB.out.trans (hU.mono hB.out.size)))).mono (fun e w' ⟨h1, h3⟩ => ⟨h1, hU.trans (h3.mono hU.size)⟩)
                    have dct : wr.drew.cell? ⟨yb, yo1 + j, none⟩ = some (.string ⟨(txt ((yq ys m j))).toArray⟩) := ((Below.refl wr.heap.size wr).drew.cell (p := ⟨yb, yo1 + j, none⟩) hyb2).trans ct
                    have dbs0 : wr.drew.cell? ⟨g, j * 3, none⟩ = some (.string ⟨(txt (((endS pool us).ts j))).toArray⟩) := ((Below.refl wr.heap.size wr).drew.cell (p := ⟨g, j * 3, none⟩) bsl).trans bs0
                    go_region_held3 (fun w' => w'.cell? ⟨yb, yo1 + j, none⟩ = some (.string ⟨(txt ((yq ys m j))).toArray⟩) ∧ w'.cell? ⟨g, j * 3, none⟩ = some (.string ⟨(txt (((endS pool us).ts j))).toArray⟩)) (first | exact SK.out _ (Below.refl _ _).drew | exact SK.out _ hb71g0)
                      (first | (go_at_call 38; refine (KC0.out _ ?hU).mono ?_; (case hU => exact (Below.refl _ _).drew); rintro e71g0 w71g0 ⟨rfl, hb71g0⟩))
                    clear SK KC0 dct dbs0
                    have HBQ := hid hb71g0; have HB_72 : Hid (Below w3.heap.size w3 w71g0) := hB.out.trans (hb71g0.mono hB.out.size)
                    clear hB
                    clear hb71g0
                    clear ct bs0 bsl
                    have HBY : Hid (Below w31.heap.size w31 w71g0) := hBW.out.trans (HBQ.out.mono hBW.out.size)
                    clear HBQ hBW
                    obtain ⟨es0, es1, es2⟩ := (HSH3.out.below HB_72.out).cells hjt
                    have esl := (HSH3.out.below HB_72.out).lt
                    obtain ⟨fs0, fs1, fs2⟩ := (HSH3.out.below HB_72.out).cells hit
                    have fsl := (HSH3.out.below HB_72.out).lt
                    clear es0 es2 fs0 fs2
                    have HLJ := hid (lv_dg HG.out HPA.out hn6 hp4 hjt)
                    have HLI := hid (lv_dg HG.out HPA.out hn6 hp4 hit)
                    go_upto_region 27 with fail
                    have SK : Hid (∀ U, Below w71g0.heap.size w71g0 U → U.cell? ⟨g, j * 3 + 1, none⟩ = some (.string ⟨(txt (((endS pool us).lv j))).toArray⟩) ∧ U.cell? ⟨g, i * 3 + 1, none⟩ = some (.string ⟨(txt (((endS pool us).lv i))).toArray⟩)) := fun U h => ⟨(h.cell (p := ⟨g, j * 3 + 1, none⟩) esl).trans es1, (h.cell (p := ⟨g, i * 3 + 1, none⟩) fsl).trans fs1⟩
                    have KC0 : Hid (∀ U, Below w71g0.heap.size w71g0 U → Calls Tryd.prog 38 #[.pointer (some ⟨w1.heap.size, 0, none⟩), .string ⟨(txt (((endS pool us).lv j))).toArray⟩, .string ⟨(txt (((endS pool us).lv i))).toArray⟩] U (fun e w' => e = .returned (.int .i64 (cmpQ ((endS pool us).lv j) ((endS pool us).lv i))) ∧ Below w71g0.heap.size w71g0 w')) := fun U hU => (k_cmp (.pointer (some ⟨w1.heap.size, 0, none⟩)) ((endS pool us).lv j) ((endS pool us).lv i) 139 139 U HLJ.out HLI.out (by omega) (by omega) (by omega) (by omega) (HT3.out.of (HB_72.out.trans (hU.mono HB_72.out.size)))).mono (fun e w' ⟨h1, h3⟩ => ⟨h1, hU.trans (h3.mono hU.size)⟩)
                    have des1 : w71g0.drew.cell? ⟨g, j * 3 + 1, none⟩ = some (.string ⟨(txt (((endS pool us).lv j))).toArray⟩) := ((Below.refl w71g0.heap.size w71g0).drew.cell (p := ⟨g, j * 3 + 1, none⟩) esl).trans es1
                    have dfs1 : w71g0.drew.cell? ⟨g, i * 3 + 1, none⟩ = some (.string ⟨(txt (((endS pool us).lv i))).toArray⟩) := ((Below.refl w71g0.heap.size w71g0).drew.cell (p := ⟨g, i * 3 + 1, none⟩) fsl).trans fs1
                    go_region_held3 (fun w' => w'.cell? ⟨g, j * 3 + 1, none⟩ = some (.string ⟨(txt (((endS pool us).lv j))).toArray⟩) ∧ w'.cell? ⟨g, i * 3 + 1, none⟩ = some (.string ⟨(txt (((endS pool us).lv i))).toArray⟩)) (first | exact SK.out _ (Below.refl _ _).drew | exact SK.out _ hb73g0)
                      (first | (go_at_call 38; refine (KC0.out _ ?hU).mono ?_; (case hU => exact (Below.refl _ _).drew); rintro e73g0 w73g0 ⟨rfl, hb73g0⟩))
                    clear SK KC0 des1 dfs1
                    have HBQ := hid hb73g0; have HB_74 : Hid (Below w3.heap.size w3 w73g0) := HB_72.out.trans (hb73g0.mono HB_72.out.size)
                    clear HB_72
                    clear hb73g0
                    clear es1 esl fs1 fsl
                    have HBZ : Hid (Below w31.heap.size w31 w73g0) := HBY.out.trans (HBQ.out.mono HBY.out.size)
                    clear HBQ HBY
                    have HST : Hid ((costB (endS pool us).ts (yq ys m) (endS pool us).lv i (j + 1)) = ((costB (endS pool us).ts (yq ys m) (endS pool us).lv i j) || (decide ((yq ys m j) < ((endS pool us).ts j)) && decide (((endS pool us).lv j) ≤ ((endS pool us).lv i))))) := rfl
                    have e1 : decide ((yq ys m j) < ((endS pool us).ts j)) = decide (cmpQ (yq ys m j) ((endS pool us).ts j) < 0) := by rw [decide_eq_decide]; exact cmp_lt.symm
                    have e2 : decide (((endS pool us).lv j) ≤ ((endS pool us).lv i)) = decide (cmpQ ((endS pool us).lv j) ((endS pool us).lv i) ≤ 0) := by rw [decide_eq_decide, ← Rat.not_lt, ← cmp_gt]; omega
                    rw [e1, e2] at HST
                    clear e1 e2
                    generalize cmpQ (yq ys m j) ((endS pool us).ts j) = c3 at HST ⊢
                    generalize cmpQ ((endS pool us).lv j) ((endS pool us).lv i) = c4 at HST ⊢
                    generalize hcb : (costB (endS pool us).ts (yq ys m) (endS pool us).lv i j) = cb at HST ⊢
                    clear hcb
                    generalize hcb : (costB (endS pool us).ts (yq ys m) (endS pool us).lv i (j + 1)) = cb2 at HST
                    have HCB := hid hcb
                    clear hcb
                    cases cb with
                    | true =>
                      go_wp2
                      go_roundg (us.length - (j + 1))
                      case measure => omega
                      case rel => exact ⟨j + 1, rfl, by omega, by go_num, by rw [HCB.out, HST.out]; rfl, HB_74.out, HBZ.out⟩
                    | false =>
                      by_cases h3 : c3 < 0
                      · by_cases h4 : c4 ≤ 0
                        · have d3 := hid (decide_eq_true h3)
                          have d4 := hid (decide_eq_true h4)
                          go_wp2
                          go_roundg (us.length - (j + 1))
                          case measure => omega
                          case rel => exact ⟨j + 1, rfl, by omega, by go_num, by rw [HCB.out, HST.out]; rw [d3.out, d4.out]; rfl, HB_74.out, HBZ.out⟩
                        · have d3 := hid (decide_eq_true h3)
                          have d4 := hid (decide_eq_false h4)
                          go_wp2
                          go_roundg (us.length - (j + 1))
                          case measure => omega
                          case rel => exact ⟨j + 1, rfl, by omega, by go_num, by rw [HCB.out, HST.out]; rw [d3.out, d4.out]; rfl, HB_74.out, HBZ.out⟩
                      · have d3 := hid (decide_eq_false h3)
                        go_wp2
                        go_roundg (us.length - (j + 1))
                        case measure => omega
                        case rel => exact ⟨j + 1, rfl, by omega, by go_num, by rw [HCB.out, HST.out]; rw [d3.out]; rfl, HB_74.out, HBZ.out⟩
                  · obtain rfl : j = us.length := by omega
                    rw [HCO.out]
                    go_wp2
                    go_roundg (us.length - (i + 1))
                    case measure => omega
                    case rel => exact ⟨i + 1, rfl, by omega, by go_num, hB.out, hBW.out⟩
            · obtain rfl : i = us.length := by omega
              have HK5 : Hid (Bx wr w1.heap.size #[.bool false] 49) := HK3.out.keep hB.out
              have ck := HK5.out.cell 0 _ rfl
              have lk := HK5.out.lt
              go_wp2
              go_ret
              exact ⟨rfl, HB1.out.trans ((HB3.out.trans (hB.out.mono HB3.out.size)).mono HB1.out.size)⟩
  · rw [if_neg he] at hask
    obtain ⟨rfl, hb1⟩ := hask
    have HB1 := hid hb1
    clear hb1
    go_wp2
    go_ret
    exact ⟨rfl, HB1.out⟩

end Go.Proofs.YtigokanoflkinaaDoor
