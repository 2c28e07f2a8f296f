/- portionkeep.Filled. (Laid by mkfilm.py.) -/
import Derived.Test.YtigokanoflkinaaDoorKFil
namespace Go.Proofs.YtigokanoflkinaaDoor
set_option linter.unusedSimpArgs false
set_option linter.unusedVariables false
open Go.RowKit Por

theorem zero_dg : Dg 0 1 := by unfold Dg; decide
theorem k_cmp_zero (p : Value) (x : Rat) (w : World) (hx : Dg x 128) (ht : Tab w) :
    Calls Tryd.prog 38 #[p, .string ⟨(txt (x)).toArray⟩, .string ⟨#[48]⟩] w fun e w' => e = .returned (.int .i64 (cmpQ x 0)) ∧ Below w.heap.size w w' := by
  have h := k_cmp p x 0 128 1 w hx zero_dg (by omega) (by omega) (by omega) (by omega) ht
  rw [txt_zero] at h
  exact h
theorem cap_dg {c : Int} (h : 0 ≤ c ∧ c ≤ 1000) : Dg (c : Rat) 5 := by
  have e1 : (c : Rat).num = c := Rat.num_intCast c
  have e2 : (c : Rat).den = 1 := Rat.den_intCast c
  unfold Dg; rw [e1, e2]; exact ⟨by omega, by omega⟩

set_option maxHeartbeats 40000000 in
set_option maxRecDepth 20000 in
theorem filled_any (po : Option Addr) (pn pc : Nat) (pool : List Int) (ao : Option Addr) (n cap : Nat) (us : List Usr) (w : World) (hp : Arr w 1 po pn pc (ints pool)) (hu : Users w ao n cap us) (ht : Tab w) :
    Calls Tryd.prog 7 #[.slice po pn pc, .slice ao n cap] w fun e w' => e = .returned (.bool true) ∧ Below w.heap.size w w' := by
  have hpl := hp.len
  rw [ints_len] at hpl
  have hul := hu.1
  subst hpl
  subst hul
  have HP := hid hp
  have HU := hid hu
  have HT := hid ht
  clear hp hu ht
  go_enter Tryd.func7, Tryd.ntmps7
  go_wp2_with fail
  refine (ask_any po pool.length pc pool ao us.length cap us _ HP.out HU.out HT.out).mono ?_
  rintro e1 w1 hask
  unfold AskEnd at hask
  by_cases he : errOf pool us = 0
  · rw [if_pos he] at hask
    obtain ⟨g, d, rfl, hsol⟩ := hask
    obtain ⟨hpb, hn6, hgood, hpa, hp1, hp4⟩ := errOf_zero he
    have HG := hid hgood
    have HPA := hid hpa
    have HSH := hid hsol.sh
    have HO := hid hsol.of
    have HB1 := hid hsol.bel
    have hsl := hsol.sh.lt
    clear hgood hpa hpb he hsol
    have HDG : Hid (∀ i, i < us.length → Dg ((endS pool us).ts i) 128) := fun i hi => due_dg HG.out HPA.out hn6 hp4 hi
    have HU1 := hid (HU.out.below HB1.out)
    have HP1 := hid (HP.out.below HB1.out)
    have HT1 := hid (HT.out.of HB1.out)
    clear HU HP HT
    have HK0 := hid (bx_new w1 #[.bool false] 49)
    have HB0 := hid ((Below.refl w1.heap.size w1).alloc (Nat.le_refl _) (.cells #[.bool false] 49))
    go_wp2
    go_loopg [9] us.length (fun gg ix wr => ∃ k : Nat, gg = us.length - k ∧ k ≤ us.length ∧ ix = .int .i64 k ∧ Hid (Below w1.heap.size w1 wr) ∧ Hid (Bx wr w1.heap.size #[.bool false] 49))
    case atStart => exact ⟨0, rfl, Nat.zero_le _, rfl, HB0.out, HK0.out⟩
    case round =>
      clear HK0 HB0
      obtain ⟨k, hgk, hk, rfl, hB, hK⟩ := hrel
      by_cases hlt : k < us.length
      · have hkn : (k : Int) < (us.length : Int) := by omega
        obtain ⟨as0, as1, as2⟩ := (HSH.out.below hB.out).cells hlt
        have asl := (HSH.out.below hB.out).lt
        clear as1 as2
        go_wp2_with fail
        refine (k_cmp_zero (.pointer (some ⟨w1.heap.size, 0, none⟩)) ((endS pool us).ts k) _ (HDG.out k hlt) (HT1.out.of hB.out)).mono ?_
        rintro e20 w20 ⟨rfl, hb20⟩
        have XK_21 := hid (hK.out.keep hb20)
        have HB_21 : Hid (Below w1.heap.size w1 w20) := hB.out.trans (hb20.mono hB.out.size)
        clear hK hB
        clear hb20
        clear as0 asl
        have hlow : ¬ (cmpQ ((endS pool us).ts k) 0 < 0) := fun h5 => Rat.not_lt.2 ((endS_fair HG.out HPA.out).1.low k hlt) (cmp_lt.1 h5)
        generalize cmpQ ((endS pool us).ts k) 0 = c1 at hlow ⊢
        obtain ⟨xbb, xob, dab, dnb, dcb, haob, hblb, b0, b1, b2, hdb⟩ := (HU1.out.below HB_21.out).get hlt
        have HDb := hid hdb
        clear hdb
        obtain ⟨bs0, bs1, bs2⟩ := (HSH.out.below HB_21.out).cells hlt
        have bsl := (HSH.out.below HB_21.out).lt
        subst haob
        have hcr := HG.out.cap hlt
        have HCD := hid (cap_dg hcr)
        have hhigh : ¬ (0 < cmpQ ((endS pool us).ts k) (((ug us k).cap : Int) : Rat)) := fun h5 => Rat.not_lt.2 ((endS_fair HG.out HPA.out).1.cap k hlt) (cmp_gt.1 h5)
        go_upto_region 9 with fail
        have SK : Hid (∀ U, Below w20.heap.size w20 U → U.cell? ⟨g, k * 3, none⟩ = some (.string ⟨(txt (((endS pool us).ts k))).toArray⟩) ∧ U.cell? ⟨xbb, xob + k * 3 + 2, none⟩ = some (.int .i64 (ug us k).cap)) := fun U h => ⟨(h.cell (p := ⟨g, k * 3, none⟩) bsl).trans bs0, (h.cell (p := ⟨xbb, xob + k * 3 + 2, none⟩) hblb).trans b2⟩
        have KC0 : Hid (∀ U, Below w20.heap.size w20 U → Calls Tryd.prog 33 #[.int .i64 (ug us k).cap] U (fun e w' => e = .returned (.string ⟨(txt ((((ug us k).cap : Int) : Rat))).toArray⟩) ∧ Below w20.heap.size w20 w')) := fun U hU => (itoa_any (ug us k).cap (by omega) (by omega) U (HT1.out.of (HB_21.out.trans (hU.mono HB_21.out.size)))).mono (fun e w' ⟨h1, h3⟩ => ⟨by rw [txt_int]; exact h1, hU.trans (h3.mono hU.size)⟩)
        have KC1 : Hid (∀ U, Below w20.heap.size w20 U → Calls Tryd.prog 38 #[.pointer (some ⟨w1.heap.size, 0, none⟩), .string ⟨(txt (((endS pool us).ts k))).toArray⟩, .string ⟨(txt ((((ug us k).cap : Int) : Rat))).toArray⟩] U (fun e w' => e = .returned (.int .i64 (cmpQ ((endS pool us).ts k) (((ug us k).cap : Int) : Rat))) ∧ Below w20.heap.size w20 w')) := fun U hU => (k_cmp (.pointer (some ⟨w1.heap.size, 0, none⟩)) ((endS pool us).ts k) (((ug us k).cap : Int) : Rat) 128 5 U (HDG.out k hlt) HCD.out (by omega) (by omega) (by omega) (by omega) (HT1.out.of (HB_21.out.trans (hU.mono HB_21.out.size)))).mono (fun e w' ⟨h1, h3⟩ => ⟨h1, hU.trans (h3.mono hU.size)⟩)
        have dbs0 : w20.drew.cell? ⟨g, k * 3, none⟩ = some (.string ⟨(txt (((endS pool us).ts k))).toArray⟩) := ((Below.refl w20.heap.size w20).drew.cell (p := ⟨g, k * 3, none⟩) bsl).trans bs0
        have db2 : w20.drew.cell? ⟨xbb, xob + k * 3 + 2, none⟩ = some (.int .i64 (ug us k).cap) := ((Below.refl w20.heap.size w20).drew.cell (p := ⟨xbb, xob + k * 3 + 2, none⟩) hblb).trans b2
        go_region_held3 (fun w' => w'.cell? ⟨g, k * 3, none⟩ = some (.string ⟨(txt (((endS pool us).ts k))).toArray⟩) ∧ w'.cell? ⟨xbb, xob + k * 3 + 2, none⟩ = some (.int .i64 (ug us k).cap)) (first | exact SK.out _ (Below.refl _ _).drew | exact SK.out _ hb22g0 | exact SK.out _ hb22g1)
          (first | (go_at_call 38; refine (KC1.out _ ?hU).mono ?_; (case hU => exact hb22g0); rintro e22g1 w22g1 ⟨rfl, hb22g1⟩) | (go_at_call 33; refine (KC0.out _ ?hU).mono ?_; (case hU => exact (Below.refl _ _).drew); rintro e22g0 w22g0 ⟨rfl, hb22g0⟩))
        clear SK KC0 KC1 dbs0 db2
        have XK_23 := hid (XK_21.out.keep hb22g1)
        have HB_23 : Hid (Below w1.heap.size w1 w22g1) := HB_21.out.trans (hb22g1.mono HB_21.out.size)
        clear XK_21 HB_21
        clear hb22g0 hb22g1
        clear b0 b1 b2 bs0 bs1 bs2 bsl HDb
        generalize cmpQ ((endS pool us).ts k) (((ug us k).cap : Int) : Rat) = c2 at hhigh ⊢
        clear hcr HCD
        obtain ⟨xbc, xoc, dac, dnc, dcc, haoc, hblc, q0, q1, q2, hdc⟩ := (HU1.out.below HB_23.out).get hlt
        cases haoc
        have HDc := hid hdc
        clear hdc
        obtain ⟨cs0, cs1, cs2⟩ := (HSH.out.below HB_23.out).cells hlt
        have csl := (HSH.out.below HB_23.out).lt
        go_upto_region 10 with fail
        have SK : Hid (∀ U, Below w22g1.heap.size w22g1 U → U.cell? ⟨xbb, xob + k * 3, none⟩ = some (.slice dac dnc dcc) ∧ U.cell? ⟨xbb, xob + k * 3 + 1, none⟩ = some (.int .i64 (ug us k).wt) ∧ U.cell? ⟨xbb, xob + k * 3 + 2, none⟩ = some (.int .i64 (ug us k).cap) ∧ U.cell? ⟨g, k * 3, none⟩ = some (.string ⟨(txt (((endS pool us).ts k))).toArray⟩)) := fun U h => ⟨(h.cell (p := ⟨xbb, xob + k * 3, none⟩) hblc).trans q0, (h.cell (p := ⟨xbb, xob + k * 3 + 1, none⟩) hblc).trans q1, (h.cell (p := ⟨xbb, xob + k * 3 + 2, none⟩) hblc).trans q2, (h.cell (p := ⟨g, k * 3, none⟩) csl).trans cs0⟩
        have KC0 : Hid (∀ U, Below w22g1.heap.size w22g1 U → Calls Tryd.prog 42 #[.pointer (some ⟨w1.heap.size, 0, none⟩), .slice po pool.length pc, .agg #[.slice dac dnc dcc, .int .i64 (ug us k).wt, .int .i64 (ug us k).cap], .string ⟨(txt (((endS pool us).ts k))).toArray⟩] U (fun e w' => (∃ q o, e = .returned (.tuple #[.string ⟨(txt (q)).toArray⟩, .bool o]) ∧ RankIs pool (ug us k) ((endS pool us).ts k) q o) ∧ Below w22g1.heap.size w22g1 w')) := fun U hU => (rank_any (.pointer (some ⟨w1.heap.size, 0, none⟩)) po pc pool dac dnc dcc (ug us k) ((endS pool us).ts k) U (HP1.out.below (HB_23.out.trans (hU.mono HB_23.out.size))) (HDc.out.below hU) (HG.out.len hlt) HPA.out (HG.out.dem hlt) (HG.out.wt hlt) hp4 (HDG.out k hlt) (HT1.out.of (HB_23.out.trans (hU.mono HB_23.out.size)))).mono (fun e w' ⟨h1, h3⟩ => ⟨h1, hU.trans (h3.mono hU.size)⟩)
        have dq0 : w22g1.drew.cell? ⟨xbb, xob + k * 3, none⟩ = some (.slice dac dnc dcc) := ((Below.refl w22g1.heap.size w22g1).drew.cell (p := ⟨xbb, xob + k * 3, none⟩) hblc).trans q0
        have dq1 : w22g1.drew.cell? ⟨xbb, xob + k * 3 + 1, none⟩ = some (.int .i64 (ug us k).wt) := ((Below.refl w22g1.heap.size w22g1).drew.cell (p := ⟨xbb, xob + k * 3 + 1, none⟩) hblc).trans q1
        have dq2 : w22g1.drew.cell? ⟨xbb, xob + k * 3 + 2, none⟩ = some (.int .i64 (ug us k).cap) := ((Below.refl w22g1.heap.size w22g1).drew.cell (p := ⟨xbb, xob + k * 3 + 2, none⟩) hblc).trans q2
        have dcs0 : w22g1.drew.cell? ⟨g, k * 3, none⟩ = some (.string ⟨(txt (((endS pool us).ts k))).toArray⟩) := ((Below.refl w22g1.heap.size w22g1).drew.cell (p := ⟨g, k * 3, none⟩) csl).trans cs0
        go_region_held3 (fun w' => w'.cell? ⟨xbb, xob + k * 3, none⟩ = some (.slice dac dnc dcc) ∧ w'.cell? ⟨xbb, xob + k * 3 + 1, none⟩ = some (.int .i64 (ug us k).wt) ∧ w'.cell? ⟨xbb, xob + k * 3 + 2, none⟩ = some (.int .i64 (ug us k).cap) ∧ w'.cell? ⟨g, k * 3, none⟩ = some (.string ⟨(txt (((endS pool us).ts k))).toArray⟩)) (first | exact SK.out _ (Below.refl _ _).drew | exact SK.out _ hb24g0)
          (first | (go_at_call 42; refine (KC0.out _ ?hU).mono ?_; (case hU => exact (Below.refl _ _).drew); rintro e24g0 w24g0 ⟨⟨q, o, rfl, hri⟩, hb24g0⟩))
        clear SK KC0 dq0 dq1 dq2 dcs0
        have XK_25 := hid (XK_23.out.keep hb24g0)
        have HB_25 : Hid (Below w1.heap.size w1 w24g0) := HB_23.out.trans (hb24g0.mono HB_23.out.size)
        clear XK_23 HB_23
        clear hb24g0
        clear q0 q1 q2 cs0 cs1 cs2 csl HDc
        obtain ⟨hqe, hqo⟩ := rank_lv HG.out HPA.out hlt hri
        subst hqe
        clear hri
        obtain ⟨es0, es1, es2⟩ := (HSH.out.below HB_25.out).cells hlt
        have esl := (HSH.out.below HB_25.out).lt
        clear es2
        generalize ((endS pool us).lv k) = lvk at es1 ⊢
        have l1 : decide (c1 < 0) = false := decide_eq_false (by omega)
        have l2 : decide (0 < c2) = false := decide_eq_false (by omega)
        cases o with
        | true =>
          clear hqo
          go_wp2
          go_roundg (us.length - (k + 1))
          case measure => omega
          case rel => exact ⟨k + 1, rfl, by omega, by go_num, HB_25.out, XK_25.out⟩
        | false =>
          have hq0 := hqo rfl
          have t3 : txt ((endS pool us).ts k) = [48] := by rw [hq0, txt_zero]
          have t2 : (txt ((endS pool us).ts k) == [48]) = true := by rw [t3]; rfl
          have t5 : (!txt ((endS pool us).ts k) == [48]) = false := by rw [t2]; rfl
          clear hqo hq0
          go_wp2
          go_roundg (us.length - (k + 1))
          case measure => omega
          case rel => exact ⟨k + 1, rfl, by omega, by go_num, HB_25.out, XK_25.out⟩
      · obtain rfl : k = us.length := by omega
        go_wp2_with fail
        refine (uses_any (.pointer (some ⟨w1.heap.size, 0, none⟩)) po pc pool ao cap us g (stopV d (endS pool us)) _ (HP1.out.below hB.out) (HU1.out.below hB.out) (HSH.out.below hB.out) HG.out HPA.out hn6 hp4 (HT1.out.of hB.out)).mono ?_
        rintro e2 w2 ⟨v2, rfl, hto, hb2⟩
        obtain ⟨vo, vc, rfl, har⟩ := hto.arr
        rw [usedL_len] at har
        have HB2 : Hid (Below w1.heap.size w1 w2) := hB.out.trans (hb2.mono hB.out.size)
        have HK2 := hid (hK.out.keep hb2)
        have HAR := hid har
        clear hto har hb2 hB hK
        simp only [usedL_len]
        go_wp2
        go_loopg [15] pool.length (fun gg ix wr => ∃ r : Nat, gg = pool.length - r ∧ r ≤ pool.length ∧ ix = .int .i64 r ∧ Hid (Below w2.heap.size w2 wr) ∧ Hid (Bx wr w1.heap.size #[.bool false] 49))
        case atStart => exact ⟨0, rfl, Nat.zero_le _, rfl, Below.refl _ _, HK2.out⟩
        case round =>
          clear HK2
          obtain ⟨r, hgr, hr, rfl, hB, hK⟩ := hrel
          by_cases hrt : r < pool.length
          · have hrp : (r : Int) < (pool.length : Int) := by omega
            obtain ⟨vb, vof, hvo, hvb⟩ := (HAR.out.below hB.out).head (by omega)
            have cv := (HAR.out.below hB.out).str hvo hrt
            subst hvo
            rw [tx_map _ (by rw [usedL_len]; exact hrt), usedL_get _ _ _ _ hrt] at cv
            unfold tb at cv
            have HB3 : Hid (Below w1.heap.size w1 wr) := HB2.out.trans (hB.out.mono HB2.out.size)
            obtain ⟨pb, pof, hpo, hpb⟩ := (HP1.out.below HB3.out).head (by omega)
            have cp := (HP1.out.below HB3.out).int hpo hrt
            subst hpo
            have hyr := amt_rng (HPA.out r)
            have HYD := hid (Dg.amt (HPA.out r))
            have HTD := hid (part_dg HG.out HPA.out hn6 hp4 hrt us.length (Nat.le_refl _))
            have hle : ¬ (0 < cmpQ (totF us (endS pool us).ts r us.length) ((lm pool r : Int) : Rat)) := fun h5 => Rat.not_lt.2 ((endS_fair HG.out HPA.out).1.pool r hrt) (cmp_gt.1 h5)
            go_upto_region 17 with fail
            have SK : Hid (∀ U, Below wr.heap.size wr U → U.cell? ⟨vb, vof + r, none⟩ = some (.string ⟨(txt ((totF us (endS pool us).ts r us.length))).toArray⟩) ∧ U.cell? ⟨pb, pof + r, none⟩ = some (.int .i64 (lm pool r))) := fun U h => ⟨(h.cell (p := ⟨vb, vof + r, none⟩) hvb).trans cv, (h.cell (p := ⟨pb, pof + r, none⟩) hpb).trans cp⟩
            have KC0 : Hid (∀ U, Below wr.heap.size wr U → Calls Tryd.prog 33 #[.int .i64 (lm pool r)] U (fun e w' => e = .returned (.string ⟨(txt (((lm pool r : Int) : Rat))).toArray⟩) ∧ Below wr.heap.size wr w')) := fun U hU => (itoa_any (lm pool r) (by omega) (by omega) U (HT1.out.of (HB3.out.trans (hU.mono HB3.out.size)))).mono (fun e w' ⟨h1, h3⟩ => ⟨by rw [txt_int]; exact h1, hU.trans (h3.mono hU.size)⟩)
            have KC1 : Hid (∀ U, Below wr.heap.size wr U → Calls Tryd.prog 38 #[.pointer (some ⟨w1.heap.size, 0, none⟩), .string ⟨(txt ((totF us (endS pool us).ts r us.length))).toArray⟩, .string ⟨(txt (((lm pool r : Int) : Rat))).toArray⟩] U (fun e w' => e = .returned (.int .i64 (cmpQ (totF us (endS pool us).ts r us.length) ((lm pool r : Int) : Rat))) ∧ Below wr.heap.size wr w')) := fun U hU => (k_cmp (.pointer (some ⟨w1.heap.size, 0, none⟩)) (totF us (endS pool us).ts r us.length) ((lm pool r : Int) : Rat) 128 5 U HTD.out HYD.out (by omega) (by omega) (by omega) (by omega) (HT1.out.of (HB3.out.trans (hU.mono HB3.out.size)))).mono (fun e w' ⟨h1, h3⟩ => ⟨h1, hU.trans (h3.mono hU.size)⟩)
            have dcv : wr.drew.cell? ⟨vb, vof + r, none⟩ = some (.string ⟨(txt ((totF us (endS pool us).ts r us.length))).toArray⟩) := ((Below.refl wr.heap.size wr).drew.cell (p := ⟨vb, vof + r, none⟩) hvb).trans cv
            have dcp : wr.drew.cell? ⟨pb, pof + r, none⟩ = some (.int .i64 (lm pool r)) := ((Below.refl wr.heap.size wr).drew.cell (p := ⟨pb, pof + r, none⟩) hpb).trans cp
            go_region_held3 (fun w' => w'.cell? ⟨vb, vof + r, none⟩ = some (.string ⟨(txt ((totF us (endS pool us).ts r us.length))).toArray⟩) ∧ w'.cell? ⟨pb, pof + r, none⟩ = some (.int .i64 (lm pool r))) (first | exact SK.out _ (Below.refl _ _).drew | exact SK.out _ hb61g0 | exact SK.out _ hb61g1)
              (first | (go_at_call 38; refine (KC1.out _ ?hU).mono ?_; (case hU => exact hb61g0); rintro e61g1 w61g1 ⟨rfl, hb61g1⟩) | (go_at_call 33; refine (KC0.out _ ?hU).mono ?_; (case hU => exact (Below.refl _ _).drew); rintro e61g0 w61g0 ⟨rfl, hb61g0⟩))
            clear SK KC0 KC1 dcv dcp
            have XK_62 := hid (hK.out.keep hb61g1)
            have HB_62 : Hid (Below w2.heap.size w2 w61g1) := hB.out.trans (hb61g1.mono hB.out.size)
            clear hK hB
            clear hb61g0 hb61g1
            clear cv cp
            generalize cmpQ (totF us (endS pool us).ts r us.length) ((lm pool r : Int) : Rat) = c at hle ⊢
            go_wp2
            go_roundg (pool.length - (r + 1))
            case measure => omega
            case rel => exact ⟨r + 1, rfl, by omega, by go_num, HB_62.out, XK_62.out⟩
          · obtain rfl : r = pool.length := by omega
            go_wp2
            go_loopg [17] us.length (fun gg ix wr => ∃ i : Nat, gg = us.length - i ∧ i ≤ us.length ∧ ix = .int .i64 i ∧ Hid (Below w2.heap.size w2 wr) ∧ Hid (Bx wr w1.heap.size #[.bool false] 49))
            case atStart => exact ⟨0, rfl, Nat.zero_le _, rfl, hB.out, hK.out⟩
            case round =>
              clear hB hK
              obtain ⟨i, hgi, hi, rfl, hB, hK⟩ := hrel
              have HB3 : Hid (Below w1.heap.size w1 wr) := HB2.out.trans (hB.out.mono HB2.out.size)
              by_cases hit : i < us.length
              · have hin : (i : Int) < (us.length : Int) := by omega
                go_wp2_with fail
                refine (stopped_any (.pointer (some ⟨w1.heap.size, 0, none⟩)) po pc pool ao cap us g vo vc d i _ (HP1.out.below HB3.out) (HU1.out.below HB3.out) (HSH.out.below HB3.out) HG.out HPA.out hn6 hp4 (HT1.out.of HB3.out) (HAR.out.below hB.out) HO.out hit).mono ?_
                rintro e80 w80 ⟨rfl, hb80⟩
                have XK_81 := hid (hK.out.keep hb80)
                have HB_81 : Hid (Below w2.heap.size w2 w80) := hB.out.trans (hb80.mono hB.out.size)
                clear hK hB
                clear hb80
                go_wp2
                go_roundg (us.length - (i + 1))
                case measure => omega
                case rel => exact ⟨i + 1, rfl, by omega, by go_num, HB_81.out, XK_81.out⟩
              · obtain rfl : i = us.length := by omega
                have ltK := hK.out.lt
                have cK0 := hK.out.cell 0 _ rfl
                go_wp2
                go_ret
                exact ⟨rfl, HB1.out.trans (HB3.out.mono HB1.out.size)⟩
  · rw [if_neg he] at hask
    obtain ⟨rfl, hb1⟩ := hask
    have HB1 := hid hb1
    clear hb1
    go_wp2
    go_ret
    exact ⟨rfl, HB1.out⟩

end Go.Proofs.YtigokanoflkinaaDoor
