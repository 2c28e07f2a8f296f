/- fill.Useful. (Laid by mkfill.py.) -/
import Derived.Test.YtigokanoflkinabDoorWRate
import Derived.Test.YtigokanoflkinabDoorWFeas
import Derived.Test.YtigokanoflkinabDoorWLeast
namespace Go.Proofs.YtigokanoflkinabDoor
set_option linter.unusedSimpArgs false
set_option linter.unusedVariables false
open Go.RowKit Por

/-- how many tasks u gets out of amounts f -/
def useQ (u : Usr) (f : Nat → Rat) (n : Nat) : Rat := leastL (enL f u.dem n ++ [((u.cap : Int) : Rat)])
/-- what Useful answers -/
def usefulOf (u : Usr) (ss : List ByteArray) : List UInt8 × Int :=
  if ss.length < 1 ∨ 4 < ss.length then ([], 5) else if ss.all okS = false ∨ negAny (svs ss) ss.length = true then ([], 5) else if usrB ss.length u = false then ([], 4) else (txt (useQ u (svs ss) ss.length), 0)

set_option maxHeartbeats 2000000 in
set_option maxRecDepth 20000 in
theorem useful_any (da : Option Addr) (dn dc : Nat) (u : Usr) (vo : Option Addr) (m cap2 : Nat) (ss : List ByteArray) (w : World) (hd : Arr w 1 da dn dc (ints u.dem)) (ha : Arr w 1 vo m cap2 (strs ss)) (hs : ∀ i, (tx ss i).size ≤ maxLen) (ht : Tab w) :
    Calls Tryd.prog 15 #[.agg #[.slice da dn dc, .int .i64 u.wt, .int .i64 u.cap], .slice vo m cap2] w fun e w' => e = .returned (.tuple #[.string ⟨(usefulOf u ss).1.toArray⟩, .int .i64 (usefulOf u ss).2]) ∧ Below w.heap.size w w' := by
  have hdl := hd.len
  rw [ints_len] at hdl
  have hml := ha.len
  rw [strs_len] at hml
  have hmm := Nat.le_trans ha.le ha.cm
  have HM := hid hmm
  unfold maxLen at hmm
  have HD := hid hd
  have HA := hid ha
  have HS := hid hs
  have HT := hid ht
  clear hd ha hs ht
  have HB_0 := hid (Below.refl w.heap.size w)
  have XU_1 := hid (bx_new w #[.slice da dn dc, .int .i64 u.wt, .int .i64 u.cap] 31)
  have HB_1 : Hid (Below w.heap.size w (w.alloc (.cells #[.slice da dn dc, .int .i64 u.wt, .int .i64 u.cap] 31))) := HB_0.out.alloc HB_0.out.size (.cells #[.slice da dn dc, .int .i64 u.wt, .int .i64 u.cap] 31)
  have leU : w.heap.size ≤ w.heap.size := HB_0.out.size
  clear HB_0
  by_cases h0 : m < 1
  · have h0' : (m : Int) < 1 := by omega
    go_enter Tryd.func15, Tryd.ntmps15
    go_wp2
    go_ret2
    exact ⟨by unfold usefulOf; rw [if_pos (Or.inl (by omega))]; rfl, HB_1.out⟩
  · have h0' : ¬ (m : Int) < 1 := by omega
    by_cases h1 : 4 < m
    · have h1' : (4 : Int) < m := by omega
      go_enter Tryd.func15, Tryd.ntmps15
      go_wp2
      go_ret2
      exact ⟨by unfold usefulOf; rw [if_pos (Or.inr (by omega))]; rfl, HB_1.out⟩
    · have h1' : ¬ (4 : Int) < m := by omega
      go_enter Tryd.func15, Tryd.ntmps15
      go_wp2_with fail
      refine (readAll_any vo m cap2 ss _ (HA.out.below HB_1.out) HS.out (by omega)).mono ?_
      rintro e1 w1 hre
      unfold ReadEnd at hre
      cases hok : ss.all okS with
      | false =>
        rw [hok] at hre
        obtain ⟨rfl, hb1⟩ := hre
        have HB_9 : Hid (Below w.heap.size w w1) := HB_1.out.trans (hb1.mono HB_1.out.size)
        clear hb1
        have HOK := hid hok
        clear hok
        go_wp2
        go_ret2
        exact ⟨by unfold usefulOf; rw [if_neg (by omega), if_pos (Or.inl HOK.out)]; rfl, HB_9.out⟩
      | true =>
        rw [hok] at hre
        obtain ⟨vo2, vc, rfl, hfr, hb1⟩ := hre
        rw [hml] at hfr ⊢
        have XU_2 := hid (XU_1.out.keep hb1)
        have HB_2 : Hid (Below w.heap.size w w1) := HB_1.out.trans (hb1.mono HB_1.out.size)
        clear XU_1 HB_1
        clear hb1
        have HSM := hid (fun i (hi : i < m) => svs_sm hok (i := i) (by omega))
        have HOK := hid hok
        clear hok
        have HFR := hid hfr
        clear hfr
        go_wp2_with fail
        refine (isNeg_any vo2 m vc (svs ss) _ HFR.out (fun i hi => (HSM.out i hi).mono (by omega)) (HT.out.of HB_2.out)).mono ?_
        rintro e2 w2 ⟨rfl, hb2⟩
        have XU_3 := hid (XU_2.out.keep hb2)
        have Rfr_3 := hid (HFR.out.below hb2)
        have HB_3 : Hid (Below w.heap.size w w2) := HB_2.out.trans (hb2.mono HB_2.out.size)
        clear XU_2 HFR HB_2
        clear hb2
        cases hng : negAny (svs ss) m with
        | true =>
          have HN := hid hng
          clear hng
          go_wp2
          go_ret2
          exact ⟨by unfold usefulOf; rw [if_neg (by omega), hml, if_pos (Or.inr HN.out)]; rfl, HB_3.out⟩
        | false =>
          have HN := hid hng
          clear hng
          have ltU := XU_3.out.lt
          have cU0 := XU_3.out.cell 0 _ rfl
          have cU1 := XU_3.out.cell 1 _ rfl
          have cU2 := XU_3.out.cell 2 _ rfl
          go_wp2_with fail
          clear ltU cU0 cU1 cU2
          refine (isUser_any da dn dc m u _ (HD.out.below HB_3.out) HM.out).mono ?_
          rintro e3 w3 ⟨rfl, hb3⟩
          have XU_4 := hid (XU_3.out.keep hb3)
          have Rfr_4 := hid (Rfr_3.out.below hb3)
          have HB_4 : Hid (Below w.heap.size w w3) := HB_3.out.trans (hb3.mono HB_3.out.size)
          clear XU_3 Rfr_3 HB_3
          clear hb3
          cases hus : usrB m u with
          | false =>
            have HUS := hid hus
            clear hus
            go_wp2
            go_ret2
            exact ⟨by unfold usefulOf; rw [if_neg (by omega), hml, if_neg (by rw [HOK.out, HN.out]; simp), if_pos HUS.out]; rfl, HB_4.out⟩
          | true =>
            have hgu : Good [u] m := fun i hi => by obtain rfl : i = 0 := (by simpa using hi); exact hus
            have hdm : dn = m := by rw [← hdl]; exact hgu.len (i := 0) (by simp)
            have hcp : 0 ≤ u.cap ∧ u.cap ≤ 1000 := hgu.cap (i := 0) (by simp)
            have hda : ∀ i, amtB (lm u.dem i) = true := hgu.dem (i := 0) (by simp)
            have HDA := hid hda
            have HUS := hid hus
            clear hus hgu hda
            subst hdm
            have ltU := XU_4.out.lt
            have cU0 := XU_4.out.cell 0 _ rfl
            have cU1 := XU_4.out.cell 1 _ rfl
            have cU2 := XU_4.out.cell 2 _ rfl
            have hw3 : w.heap.size ≤ w3.heap.size := HB_4.out.size
            go_wp2_with fail
            clear ltU cU0 cU1 cU2
            refine (enough_any vo2 dn vc (svs ss) da dn dc 300 u _ Rfr_4.out HSM.out (by omega) (HD.out.below HB_4.out) HDA.out (Nat.le_refl _) (by omega) (HT.out.of HB_4.out)).mono ?_
            rintro e4 w4 ⟨v8, rfl, hfo, hb4⟩
            have XU_5 := hid (XU_4.out.keep hb4)
            have Rfr_5 := hid (Rfr_4.out.below hb4)
            have HB_5 : Hid (Below w.heap.size w w4) := HB_4.out.trans (hb4.mono HB_4.out.size)
            clear XU_4 Rfr_4 HB_4
            have sz4 := hb4.size
            try simp only [World.size_alloc] at sz4
            clear hb4
            have hwl := HB_5.out.size
            have HFO := hid hfo
            clear hfo
            have SC := hid (Sm.int (n := u.cap) (by omega) (by omega))
            have ltU := XU_5.out.lt
            have cU0 := XU_5.out.cell 0 _ rfl
            have cU1 := XU_5.out.cell 1 _ rfl
            have cU2 := XU_5.out.cell 2 _ rfl
            go_wp2_with fail
            clear ltU cU0 cU1 cU2
            refine (whole_any u.cap (by omega) (by omega) _ (HT.out.of HB_5.out)).mono ?_
            rintro e5 w5 ⟨v5, rfl, ⟨ca, cb, cc, cd, ce, cf, rfl, hc1, hc2⟩, hb5⟩
            have XU_6 := hid (XU_5.out.keep hb5)
            have Rfr_6 := hid (Rfr_5.out.below hb5)
            have Rfo_6 := hid (HFO.out.below hb5)
            have HB_6 : Hid (Below w.heap.size w w5) := HB_5.out.trans (hb5.mono HB_5.out.size)
            clear XU_5 Rfr_5 HFO HB_5
            have sz5 := hb5.size
            try simp only [World.size_alloc] at sz5
            clear hb5
            have Rc1_6 := hid hc1
            have Rc2_6 := hid hc2
            have SMc := hid (show Sm (((u.cap : Int) : Rat)) 5 from SC.out)
            have lc1 := hc1.sm1 SMc.out
            have lc2 := hc2.sm2 SMc.out
            clear hc1 hc2
            have XU_7 := hid (bx_past XU_6.out (.cells #[.bool (negB ((u.cap : Int) : Rat)), .slice ca cb cc, .slice cd ce cf] 60))
            have XC_7 := hid (bx_new w5 #[.bool (negB ((u.cap : Int) : Rat)), .slice ca cb cc, .slice cd ce cf] 60)
            have Rfr_7 := hid (Rfr_6.out.alloc (.cells #[.bool (negB ((u.cap : Int) : Rat)), .slice ca cb cc, .slice cd ce cf] 60))
            have Rfo_7 := hid (Rfo_6.out.alloc (.cells #[.bool (negB ((u.cap : Int) : Rat)), .slice ca cb cc, .slice cd ce cf] 60))
            have Rc1_7 := hid (Rc1_6.out.alloc (.cells #[.bool (negB ((u.cap : Int) : Rat)), .slice ca cb cc, .slice cd ce cf] 60))
            have Rc2_7 := hid (Rc2_6.out.alloc (.cells #[.bool (negB ((u.cap : Int) : Rat)), .slice ca cb cc, .slice cd ce cf] 60))
            have HB_7 : Hid (Below w.heap.size w (w5.alloc (.cells #[.bool (negB ((u.cap : Int) : Rat)), .slice ca cb cc, .slice cd ce cf] 60))) := HB_6.out.alloc HB_6.out.size (.cells #[.bool (negB ((u.cap : Int) : Rat)), .slice ca cb cc, .slice cd ce cf] 60)
            have leC : w.heap.size ≤ w5.heap.size := HB_6.out.size
            clear XU_6 Rfr_6 Rfo_6 Rc1_6 Rc2_6 HB_6
            have hel := enL_len (svs ss) u.dem dn
            have ltC := XC_7.out.lt
            have cC0 := XC_7.out.cell 0 _ rfl
            have cC1 := XC_7.out.cell 1 _ rfl
            have cC2 := XC_7.out.cell 2 _ rfl
            have ap0 := (bx_new (w5.alloc (.cells #[.bool (negB ((u.cap : Int) : Rat)), .slice ca cb cc, .slice cd ce cf] 60)) #[.bool (negB ((u.cap : Int) : Rat)), .slice ca cb cc, .slice cd ce cf] 60).cell 0 _ rfl
            rw [World.size_alloc] at ap0
            have ap1 := (bx_new (w5.alloc (.cells #[.bool (negB ((u.cap : Int) : Rat)), .slice ca cb cc, .slice cd ce cf] 60)) #[.bool (negB ((u.cap : Int) : Rat)), .slice ca cb cc, .slice cd ce cf] 60).cell 1 _ rfl
            rw [World.size_alloc] at ap1
            have ap2 := (bx_new (w5.alloc (.cells #[.bool (negB ((u.cap : Int) : Rat)), .slice ca cb cc, .slice cd ce cf] 60)) #[.bool (negB ((u.cap : Int) : Rat)), .slice ca cb cc, .slice cd ce cf] 60).cell 2 _ rfl
            rw [World.size_alloc] at ap2
            have leW2 : w3.heap.size ≤ ((w5.alloc (.cells #[.bool (negB ((u.cap : Int) : Rat)), .slice ca cb cc, .slice cd ce cf] 60)).alloc (.cells #[.bool (negB ((u.cap : Int) : Rat)), .slice ca cb cc, .slice cd ce cf] 60)).heap.size := by simp only [World.size_alloc]; omega
            go_wp2_with (at_builtin; (refine wpList_append_fra _ rfl _ _ rfl w3.heap.size _ (enL (svs ss) u.dem dn) ⟨w5.heap.size + 1, 0, none⟩ 1 ((u.cap : Int) : Rat) ca cb cc cd ce cf rfl rfl (Rfo_7.out.alloc _) ap0 ap1 ap2 (Rc1_7.out.alloc _) (Rc2_7.out.alloc _) (by omega) leW2 ?_))
            intro v' w' hO2 hB2
            have HB2 : Hid (Below w.heap.size w w') := (HB_7.out.alloc HB_7.out.size _).trans (hB2.mono (by omega))
            have hll : (enL (svs ss) u.dem dn ++ [((u.cap : Int) : Rat)]).length ≤ 5 := by simp; omega
            have hl0 : 0 < (enL (svs ss) u.dem dn ++ [((u.cap : Int) : Rat)]).length := by simp
            have HSL : Hid (∀ i, i < (enL (svs ss) u.dem dn ++ [((u.cap : Int) : Rat)]).length → Sm (rq (enL (svs ss) u.dem dn ++ [((u.cap : Int) : Rat)]) i) 302) := fun i hi => by
              rcases List.mem_append.1 (rq_mem hi) with h | h
              · exact enL_sm HSM.out HDA.out dn (Nat.le_refl _) _ h
              · rw [List.mem_singleton] at h; rw [h]; exact SC.out.mono (by omega)
            generalize hlst : enL (svs ss) u.dem dn ++ [((u.cap : Int) : Rat)] = l at hO2 hll hl0 HSL
            have HLS := hid hlst
            clear hlst
            obtain ⟨lo, lc, rfl, hfr2⟩ := hO2.frs
            have HFR2 := hid hfr2
            clear hO2 hB2 hfr2
            generalize hln : l.length = ln at *
            have HLN := hid hln
            clear hln
            go_wp2_with fail
            refine (least_some lo ln lc (rq l) _ HFR2.out (fun i hi => (HSL.out i hi).mono (by omega)) hl0).mono ?_
            rintro e40 w40 ⟨v40, rfl, ⟨qa, qb, qc, qd, qe, qf, rfl, hq1, hq2⟩, hb40⟩
            have HB_41 : Hid (Below w.heap.size w w40) := HB2.out.trans (hb40.mono HB2.out.size)
            clear HB2
            have sz40 := hb40.size
            try simp only [World.size_alloc] at sz40
            clear hb40
            have Rq1_41 := hid hq1
            have Rq2_41 := hid hq2
            have SMq := hid (show Sm (leastF (rq l) ln) 302 from leastF_sm HSL.out hl0 _ (Nat.le_refl _))
            have lq1 := hq1.sm1 SMq.out
            have lq2 := hq2.sm2 SMq.out
            clear hq1 hq2
            have XQ_42 := hid (bx_new w40 #[.bool (negB (leastF (rq l) ln)), .slice qa qb qc, .slice qd qe qf] 60)
            have Rq1_42 := hid (Rq1_41.out.alloc (.cells #[.bool (negB (leastF (rq l) ln)), .slice qa qb qc, .slice qd qe qf] 60))
            have Rq2_42 := hid (Rq2_41.out.alloc (.cells #[.bool (negB (leastF (rq l) ln)), .slice qa qb qc, .slice qd qe qf] 60))
            have HB_42 : Hid (Below w.heap.size w (w40.alloc (.cells #[.bool (negB (leastF (rq l) ln)), .slice qa qb qc, .slice qd qe qf] 60))) := HB_41.out.alloc HB_41.out.size (.cells #[.bool (negB (leastF (rq l) ln)), .slice qa qb qc, .slice qd qe qf] 60)
            have leQ : w.heap.size ≤ w40.heap.size := HB_41.out.size
            clear Rq1_41 Rq2_41 HB_41
            go_wp2_with fail
            refine (rtext_any qa qd qb qc qe qf (leastF (rq l) ln) _ Rq1_42.out Rq2_42.out (by omega) (by omega) (HT.out.of HB_42.out)).mono ?_
            rintro e42 w42 ⟨rfl, hb42⟩
            have XQ_43 := hid (XQ_42.out.keep hb42)
            have Rq1_43 := hid (Rq1_42.out.below hb42)
            have Rq2_43 := hid (Rq2_42.out.below hb42)
            have HB_43 : Hid (Below w.heap.size w w42) := HB_42.out.trans (hb42.mono HB_42.out.size)
            clear XQ_42 Rq1_42 Rq2_42 HB_42
            have sz42 := hb42.size
            try simp only [World.size_alloc] at sz42
            clear hb42
            go_wp2
            go_ret2
            exact ⟨by unfold usefulOf; rw [if_neg (by omega), hml, if_neg (by rw [HOK.out, HN.out]; simp), if_neg (by rw [HUS.out]; simp), leastF_rq, useQ, HLS.out, leastL, HLN.out]; rfl, HB_43.out⟩

end Go.Proofs.YtigokanoflkinabDoor
