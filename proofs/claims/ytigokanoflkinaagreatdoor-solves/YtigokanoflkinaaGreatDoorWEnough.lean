/- fill.enoughFor. (Laid by mkfill.py.) -/
import Derived.Test.YtigokanoflkinaaGreatDoorWInAll
namespace Go.Proofs.YtigokanoflkinaaGreatDoor
set_option linter.unusedSimpArgs false
set_option linter.unusedVariables false
open Go.RowKit Por

/-- of each of the first k kinds that are wanted: for how many tasks there is enough -/
def enL (f : Nat → Rat) (dem : List Int) : Nat → List Rat
  | 0 => []
  | k + 1 => if lm dem k = 0 then enL f dem k else enL f dem k ++ [f k / ((lm dem k : Int) : Rat)]
theorem enL_len (f : Nat → Rat) (dem : List Int) (k : Nat) : (enL f dem k).length ≤ k := by
  induction k with
  | zero => exact Nat.le_refl _
  | succ k ih =>
    simp only [enL]; split
    · omega
    · rw [List.length_append, List.length_singleton]; omega
theorem FO.lt {base : Nat} {w : World} {v : Value} {l : List Rat} (h : FO base w v l) : ∀ g, v.ownBlock = some g → g < w.heap.size := by
  obtain ⟨xs, h1, _⟩ := h
  exact fun g hg => (h1.lt g hg).2
theorem FO.put3 {base : Nat} {w : World} {v : Value} {l : List Rat} (h : FO base w v l) {b : Nat} {x0 x1 x2 : Value} {T : TypeId} (hx : Bx w b #[x0, x1, x2] T) (hT : T ≠ 3) (hne : ∀ g, v.ownBlock = some g → b ≠ g) (u0 u1 u2 : Value) : FO base (wput3 w b u0 u1 u2) v l := by
  obtain ⟨xs, ⟨h0, h1⟩, h2⟩ := h
  refine ⟨xs, ⟨h0, ?_⟩, fun i hi => ?_⟩
  · rcases h1 with h1 | ⟨g, cap, cur, rfl, g2, g3, g4⟩
    · exact .inl h1
    · refine .inr ⟨g, cap, cur, rfl, g2, ?_, g4⟩
      have hn := hne g rfl
      unfold wput3
      rw [heap_setCell_other _ _ g _ (fun e => hn e.symm), heap_setCell_other _ _ g _ (fun e => hn e.symm), heap_setCell_other _ _ g _ (fun e => hn e.symm)]
      exact g3
  · obtain ⟨uo, un, uc, yo, yn, yc, c0, c1, c2, r1, r2⟩ := h2 i hi
    exact ⟨uo, un, uc, yo, yn, yc, c0, c1, c2, r1.put3 hx hT _ _ _, r2.put3 hx hT _ _ _⟩
theorem int_rat_zero {n : Int} (h : n ≠ 0) : ((n : Int) : Rat) ≠ 0 := by
  intro e
  have e1 : (n : Rat).num = n := Rat.num_intCast n
  rw [e] at e1
  exact h e1.symm

set_option maxHeartbeats 2000000 in
set_option maxRecDepth 20000 in
theorem enough_any (ro : Option Addr) (rn rc : Nat) (f : Nat → Rat) (da : Option Addr) (dn dc L : Nat) (u : Usr) (w : World) (hf : Frs w ro rn rc f) (hs : ∀ i, i < rn → Sm (f i) L) (hL : L ≤ 9000) (hd : Arr w 1 da dn dc (ints u.dem)) (hda : ∀ i, amtB (lm u.dem i) = true) (hrn : dn ≤ rn) (hdn : dn ≤ 1000) (ht : Tab w) :
    Calls Tryz.prog 97 #[.slice ro rn rc, .agg #[.slice da dn dc, .int .i64 u.wt, .int .i64 u.cap]] w fun e w' => ∃ v, e = .returned v ∧ FO w.heap.size w' v (enL f u.dem dn) ∧ Below w.heap.size w w' := by
  have hnm := hf.le
  unfold maxLen at hnm
  have hdl := hd.len
  rw [ints_len] at hdl
  have hdm := Nat.le_trans hd.le hd.cm
  unfold maxLen at hdm
  have HF := hid hf
  have HS := hid hs
  have HD := hid hd
  have HDA := hid hda
  have HT := hid ht
  clear hf hs hd hda ht
  have HB_0 := hid (Below.refl w.heap.size w)
  have XU_1 := hid (bx_new w #[.slice da dn dc, .int .i64 u.wt, .int .i64 u.cap] 56)
  have HB_1 : Hid (Below w.heap.size w (w.alloc (.cells #[.slice da dn dc, .int .i64 u.wt, .int .i64 u.cap] 56))) := HB_0.out.alloc HB_0.out.size (.cells #[.slice da dn dc, .int .i64 u.wt, .int .i64 u.cap] 56)
  have leU : w.heap.size ≤ w.heap.size := HB_0.out.size
  clear HB_0
  go_enter Tryz.func97, Tryz.ntmps97
  go_wp2
  go_loopg [5, 14] dn (fun g s5 i wr => ∃ (k : Nat) (v5 : Value), v5 = s5 ∧ g = dn - k ∧ k ≤ dn ∧ i = .int .i64 k ∧ Hid (FO w.heap.size wr v5 (enL f u.dem k)) ∧ Hid (Below w.heap.size w wr))
  case atStart => exact ⟨0, _, rfl, rfl, Nat.zero_le _, rfl, FO.nil _ _, HB_1.out⟩
  case round =>
    obtain ⟨k, v5, rfl, hgk, hk, rfl, hO, hB⟩ := hrel
    clear XU_1 HB_1
    have hol := enL_len f u.dem k
    have hB0 := hB.out.size
    by_cases hlt : k < dn
    · obtain ⟨b, o, rfl, hbl⟩ := HD.out.head (by omega)
      have c0 := (HD.out.below hB.out).int rfl hlt
      have hpr := amt_rng (HDA.out k)
      have SP := hid (Sm.amt (HDA.out k))
      go_wp2_with fail
      refine (whole_any (lm u.dem k) (by omega) (by omega) _ (HT.out.of hB.out)).mono ?_
      rintro e20 w20 ⟨v20, rfl, ⟨da, db, dc, dd, de, df, rfl, hd1, hd2⟩, hb20⟩
      have Ro_21 := hid (hO.out.below hb20)
      have HB_21 : Hid (Below w.heap.size w w20) := hB.out.trans (hb20.mono hB.out.size)
      clear hO hB
      clear hb20
      have Rd1_21 := hid hd1
      have Rd2_21 := hid hd2
      have SMd := hid (show Sm (((lm u.dem k : Int) : Rat)) 2 from SP.out)
      have ld1 := hd1.sm1 SMd.out
      have ld2 := hd2.sm2 SMd.out
      clear hd1 hd2
      clear c0
      have XD_22 := hid (bx_new w20 #[.bool (negB ((lm u.dem k : Int) : Rat)), .slice da db dc, .slice dd de df] 90)
      have Ro_22 := hid (Ro_21.out.alloc (.cells #[.bool (negB ((lm u.dem k : Int) : Rat)), .slice da db dc, .slice dd de df] 90))
      have Rd1_22 := hid (Rd1_21.out.alloc (.cells #[.bool (negB ((lm u.dem k : Int) : Rat)), .slice da db dc, .slice dd de df] 90))
      have Rd2_22 := hid (Rd2_21.out.alloc (.cells #[.bool (negB ((lm u.dem k : Int) : Rat)), .slice da db dc, .slice dd de df] 90))
      have HB_22 : Hid (Below w.heap.size w (w20.alloc (.cells #[.bool (negB ((lm u.dem k : Int) : Rat)), .slice da db dc, .slice dd de df] 90))) := HB_21.out.alloc HB_21.out.size (.cells #[.bool (negB ((lm u.dem k : Int) : Rat)), .slice da db dc, .slice dd de df] 90)
      have leD : w.heap.size ≤ w20.heap.size := HB_21.out.size
      clear Ro_21 Rd1_21 Rd2_21 HB_21
      go_wp2_with fail
      obtain ⟨V, hV⟩ : ∃ V, V = (w20.alloc (.cells #[.bool (negB ((lm u.dem k : Int) : Rat)), .slice da db dc, .slice dd de df] 90)) := ⟨_, rfl⟩
      rw [← hV] at XD_22 Ro_22 Rd1_22 Rd2_22 HB_22 ⊢
      clear hV
      obtain ⟨b2, o2, ua, ub, uc, ud, ue, uf, rfl, hbl2, c0, c1, c2, hu1, hu2⟩ := (HF.out.below HB_22.out).get (i := k) (by omega)
      have lu1 := hu1.sm1 (HS.out k (by omega))
      have lu2 := hu2.sm2 (HS.out k (by omega))
      have hkrn : (k : Int) < (rn : Int) := by omega
      have m0 := XD_22.out.cell 0 _ rfl
      have m1 := XD_22.out.cell 1 _ rfl
      have m2 := XD_22.out.cell 2 _ rfl
      have ltD0 := XD_22.out.lt
      have HU1 := hid hu1
      have HU2 := hid hu2
      clear hu1 hu2
      by_cases hz : lm u.dem k = 0
      · have hzr : isZ ((lm u.dem k : Int) : Rat).num.natAbs = true := by rw [hz]; rfl
        have HZR := hid hzr
        have HZ := hid hz
        clear hz hzr
        have SK : Hid (∀ U, Below V.heap.size V U → U.cell? ⟨b2, o2 + k * 3, none⟩ = some (.bool (negB (f k))) ∧ U.cell? ⟨b2, o2 + k * 3 + 1, none⟩ = some (.slice ua ub uc) ∧ U.cell? ⟨b2, o2 + k * 3 + 2, none⟩ = some (.slice ud ue uf) ∧ U.cell? ⟨w20.heap.size, 0, none⟩ = some (.bool (negB ((lm u.dem k : Int) : Rat))) ∧ U.cell? ⟨w20.heap.size, 1, none⟩ = some (.slice da db dc) ∧ U.cell? ⟨w20.heap.size, 2, none⟩ = some (.slice dd de df)) := fun U h => ⟨(h.cell (p := ⟨b2, o2 + k * 3, none⟩) hbl2).trans c0, (h.cell (p := ⟨b2, o2 + k * 3 + 1, none⟩) hbl2).trans c1, (h.cell (p := ⟨b2, o2 + k * 3 + 2, none⟩) hbl2).trans c2, (h.cell (p := ⟨w20.heap.size, 0, none⟩) ltD0).trans m0, (h.cell (p := ⟨w20.heap.size, 1, none⟩) ltD0).trans m1, (h.cell (p := ⟨w20.heap.size, 2, none⟩) ltD0).trans m2⟩
        have KC : Hid (∀ U, Below V.heap.size V U → Calls Tryz.prog 99 #[.agg #[.bool (negB (f k)), .slice ua ub uc, .slice ud ue uf], .agg #[.bool (negB ((lm u.dem k : Int) : Rat)), .slice da db dc, .slice dd de df]] U (fun e w' => e = .returned (.tuple #[.agg #[.bool false, .slice none 0 0, .slice none 0 0], .bool false]) ∧ Below V.heap.size V w' ∧ Below U.heap.size U w')) := fun U hU => (rdiv_no ua ud da dd ub uc ue uf db dc de df (f k) ((lm u.dem k : Int) : Rat) U (HU1.out.below hU) (HU2.out.below hU) (Rd1_22.out.below hU) (Rd2_22.out.below hU) (by omega) (by omega) (by omega) (by omega) HZR.out).mono (fun e w' ⟨h1, h3⟩ => ⟨h1, hU.trans (h3.mono hU.size), h3⟩)
        go_cut [9, 14, 5, 10] (fun pp y0 y1 y2 wx => ∃ (PB : Nat), pp = .pointer (some ⟨PB, 0, none⟩) ∧ .int .i64 (k : Nat) = y0 ∧ v5 = y1 ∧ .bool false = y2 ∧ Hid (FO w.heap.size wx v5 (enL f u.dem k)) ∧ Hid (Bx wx PB #[.bool false, .slice none 0 0, .slice none 0 0] 90) ∧ Hid (Below w.heap.size w wx) ∧ V.heap.size ≤ PB)
        case first =>
          have dc0 : V.drew.cell? ⟨b2, o2 + k * 3, none⟩ = some (.bool (negB (f k))) := ((Below.refl V.heap.size V).drew.cell (p := ⟨b2, o2 + k * 3, none⟩) hbl2).trans c0
          have dc1 : V.drew.cell? ⟨b2, o2 + k * 3 + 1, none⟩ = some (.slice ua ub uc) := ((Below.refl V.heap.size V).drew.cell (p := ⟨b2, o2 + k * 3 + 1, none⟩) hbl2).trans c1
          have dc2 : V.drew.cell? ⟨b2, o2 + k * 3 + 2, none⟩ = some (.slice ud ue uf) := ((Below.refl V.heap.size V).drew.cell (p := ⟨b2, o2 + k * 3 + 2, none⟩) hbl2).trans c2
          have dm0 : V.drew.cell? ⟨w20.heap.size, 0, none⟩ = some (.bool (negB ((lm u.dem k : Int) : Rat))) := ((Below.refl V.heap.size V).drew.cell (p := ⟨w20.heap.size, 0, none⟩) ltD0).trans m0
          have dm1 : V.drew.cell? ⟨w20.heap.size, 1, none⟩ = some (.slice da db dc) := ((Below.refl V.heap.size V).drew.cell (p := ⟨w20.heap.size, 1, none⟩) ltD0).trans m1
          have dm2 : V.drew.cell? ⟨w20.heap.size, 2, none⟩ = some (.slice dd de df) := ((Below.refl V.heap.size V).drew.cell (p := ⟨w20.heap.size, 2, none⟩) ltD0).trans m2
          go_region_held3 (fun w' => w'.cell? ⟨b2, o2 + k * 3, none⟩ = some (.bool (negB (f k))) ∧ w'.cell? ⟨b2, o2 + k * 3 + 1, none⟩ = some (.slice ua ub uc) ∧ w'.cell? ⟨b2, o2 + k * 3 + 2, none⟩ = some (.slice ud ue uf) ∧ w'.cell? ⟨w20.heap.size, 0, none⟩ = some (.bool (negB ((lm u.dem k : Int) : Rat))) ∧ w'.cell? ⟨w20.heap.size, 1, none⟩ = some (.slice da db dc) ∧ w'.cell? ⟨w20.heap.size, 2, none⟩ = some (.slice dd de df)) (first | exact SK.out _ (Below.refl _ _).drew | exact SK.out _ ((Below.refl _ _).alloc (Nat.le_refl _) _).drew | exact SK.out _ hb7 | exact SK.out _ (hb7.alloc hb7.size _) | exact SK.out _ (below_put3 hb7 (Nat.le_refl _) _ _ _))
            (first | (go_at_call 99; refine (KC.out _ ?hU).mono ?_; (case hU => first | exact (Below.refl _ _).drew | exact ((Below.refl _ _).alloc (Nat.le_refl _) _).drew); rintro e7 w7 ⟨rfl, hb7, hu7⟩; try (have XP7 := (bx_new V #[.bool false, .slice none 0 0, .slice none 0 0] 90).drew.keep hu7; have xp0 := XP7.cell 0 _ rfl; have xp1 := XP7.cell 1 _ rfl; have xp2 := XP7.cell 2 _ rfl; have xf0 := XP7.frozen 0; have xf1 := XP7.frozen 1; have xf2 := XP7.frozen 2; have xl := XP7.lt; clear XP7)))
          all_goals (go_wp2_with fail; go_meet)
          all_goals (first | exact ⟨w7.heap.size, rfl, rfl, rfl, rfl, (Ro_22.out.below hb7).alloc _, bx_new w7 _ _, (HB_22.out.trans (hb7.mono HB_22.out.size)).alloc (Nat.le_trans HB_22.out.size hb7.size) _, hb7.size⟩ | exact ⟨V.heap.size, rfl, rfl, rfl, rfl, Ro_22.out.below (below_put3 hb7 (Nat.le_refl _) _ _ _), Bx.put3 ((bx_new V #[.bool false, .slice none 0 0, .slice none 0 0] 90).drew.keep hu7) _ _ _, below_put3 (HB_22.out.trans (hb7.mono HB_22.out.size)) HB_22.out.size _ _ _, Nat.le_refl _⟩)
        case rest =>
          obtain ⟨PBp, rfl, rfl, rfl, rfl, Ro_25, XpB_25, HB_25, lePBp⟩ := hcut
          clear SK KC XD_22 Ro_22 HB_22
          have E : enL f u.dem (k + 1) = enL f u.dem k := by simp only [enL]; rw [if_pos HZ.out]
          have HE := hid E; clear E
          go_wp2
          go_roundg (dn - (k + 1))
          case measure => omega
          case rel => exact ⟨k + 1, _, rfl, rfl, by omega, by go_num, by rw [HE.out]; exact Ro_25.out, HB_25.out⟩
      · have hzr := int_rat_zero hz
        have HZR := hid hzr
        have HZ := hid hz
        clear hz hzr
        have SK : Hid (∀ U, Below V.heap.size V U → U.cell? ⟨b2, o2 + k * 3, none⟩ = some (.bool (negB (f k))) ∧ U.cell? ⟨b2, o2 + k * 3 + 1, none⟩ = some (.slice ua ub uc) ∧ U.cell? ⟨b2, o2 + k * 3 + 2, none⟩ = some (.slice ud ue uf) ∧ U.cell? ⟨w20.heap.size, 0, none⟩ = some (.bool (negB ((lm u.dem k : Int) : Rat))) ∧ U.cell? ⟨w20.heap.size, 1, none⟩ = some (.slice da db dc) ∧ U.cell? ⟨w20.heap.size, 2, none⟩ = some (.slice dd de df)) := fun U h => ⟨(h.cell (p := ⟨b2, o2 + k * 3, none⟩) hbl2).trans c0, (h.cell (p := ⟨b2, o2 + k * 3 + 1, none⟩) hbl2).trans c1, (h.cell (p := ⟨b2, o2 + k * 3 + 2, none⟩) hbl2).trans c2, (h.cell (p := ⟨w20.heap.size, 0, none⟩) ltD0).trans m0, (h.cell (p := ⟨w20.heap.size, 1, none⟩) ltD0).trans m1, (h.cell (p := ⟨w20.heap.size, 2, none⟩) ltD0).trans m2⟩
        have KC : Hid (∀ U, Below V.heap.size V U → Calls Tryz.prog 99 #[.agg #[.bool (negB (f k)), .slice ua ub uc, .slice ud ue uf], .agg #[.bool (negB ((lm u.dem k : Int) : Rat)), .slice da db dc, .slice dd de df]] U (fun e w' => ∃ v, e = .returned (.tuple #[v, .bool true]) ∧ Frac w' v (f k / ((lm u.dem k : Int) : Rat)) ∧ Below V.heap.size V w' ∧ Below U.heap.size U w')) := fun U hU => (rdiv_yes ua ud da dd ub uc ue uf db dc de df (f k) ((lm u.dem k : Int) : Rat) U (HU1.out.below hU) (HU2.out.below hU) (Rd1_22.out.below hU) (Rd2_22.out.below hU) (by omega) (by omega) (by omega) (by omega) HZR.out).mono (fun e w' ⟨v, h1, h2, h3⟩ => ⟨v, h1, h2, hU.trans (h3.mono hU.size), h3⟩)
        go_cut [9, 14, 5, 10] (fun pp y0 y1 y2 wx => ∃ (PB : Nat) (pa : Option Addr) (pb pc : Nat) (pd : Option Addr) (pe pf : Nat), pp = .pointer (some ⟨PB, 0, none⟩) ∧ .int .i64 (k : Nat) = y0 ∧ v5 = y1 ∧ .bool true = y2 ∧ Hid (FO w.heap.size wx v5 (enL f u.dem k)) ∧ Hid (Bx wx PB #[.bool (negB (f k / ((lm u.dem k : Int) : Rat))), .slice pa pb pc, .slice pd pe pf] 90) ∧ Hid (Row wx pa pb pc (limbs (f k / ((lm u.dem k : Int) : Rat)).num.natAbs)) ∧ Hid (Row wx pd pe pf (limbs (f k / ((lm u.dem k : Int) : Rat)).den)) ∧ Hid (Below w.heap.size w wx) ∧ V.heap.size ≤ PB)
        case first =>
          have dc0 : V.drew.cell? ⟨b2, o2 + k * 3, none⟩ = some (.bool (negB (f k))) := ((Below.refl V.heap.size V).drew.cell (p := ⟨b2, o2 + k * 3, none⟩) hbl2).trans c0
          have dc1 : V.drew.cell? ⟨b2, o2 + k * 3 + 1, none⟩ = some (.slice ua ub uc) := ((Below.refl V.heap.size V).drew.cell (p := ⟨b2, o2 + k * 3 + 1, none⟩) hbl2).trans c1
          have dc2 : V.drew.cell? ⟨b2, o2 + k * 3 + 2, none⟩ = some (.slice ud ue uf) := ((Below.refl V.heap.size V).drew.cell (p := ⟨b2, o2 + k * 3 + 2, none⟩) hbl2).trans c2
          have dm0 : V.drew.cell? ⟨w20.heap.size, 0, none⟩ = some (.bool (negB ((lm u.dem k : Int) : Rat))) := ((Below.refl V.heap.size V).drew.cell (p := ⟨w20.heap.size, 0, none⟩) ltD0).trans m0
          have dm1 : V.drew.cell? ⟨w20.heap.size, 1, none⟩ = some (.slice da db dc) := ((Below.refl V.heap.size V).drew.cell (p := ⟨w20.heap.size, 1, none⟩) ltD0).trans m1
          have dm2 : V.drew.cell? ⟨w20.heap.size, 2, none⟩ = some (.slice dd de df) := ((Below.refl V.heap.size V).drew.cell (p := ⟨w20.heap.size, 2, none⟩) ltD0).trans m2
          go_region_held3 (fun w' => w'.cell? ⟨b2, o2 + k * 3, none⟩ = some (.bool (negB (f k))) ∧ w'.cell? ⟨b2, o2 + k * 3 + 1, none⟩ = some (.slice ua ub uc) ∧ w'.cell? ⟨b2, o2 + k * 3 + 2, none⟩ = some (.slice ud ue uf) ∧ w'.cell? ⟨w20.heap.size, 0, none⟩ = some (.bool (negB ((lm u.dem k : Int) : Rat))) ∧ w'.cell? ⟨w20.heap.size, 1, none⟩ = some (.slice da db dc) ∧ w'.cell? ⟨w20.heap.size, 2, none⟩ = some (.slice dd de df)) (first | exact SK.out _ (Below.refl _ _).drew | exact SK.out _ ((Below.refl _ _).alloc (Nat.le_refl _) _).drew | exact SK.out _ hb7 | exact SK.out _ (hb7.alloc hb7.size _) | exact SK.out _ (below_put3 hb7 (Nat.le_refl _) _ _ _))
            (first | (go_at_call 99; refine (KC.out _ ?hU).mono ?_; (case hU => first | exact (Below.refl _ _).drew | exact ((Below.refl _ _).alloc (Nat.le_refl _) _).drew); rintro e7 w7 ⟨v7, rfl, ⟨pa, pb, pc, pd, pe, pf, rfl, hp1, hp2⟩, hb7, hu7⟩; try (have XP7 := (bx_new V #[.bool false, .slice none 0 0, .slice none 0 0] 90).drew.keep hu7; have xp0 := XP7.cell 0 _ rfl; have xp1 := XP7.cell 1 _ rfl; have xp2 := XP7.cell 2 _ rfl; have xf0 := XP7.frozen 0; have xf1 := XP7.frozen 1; have xf2 := XP7.frozen 2; have xl := XP7.lt; clear XP7)))
          all_goals (go_wp2_with fail; go_meet)
          all_goals (first | exact ⟨w7.heap.size, pa, pb, pc, pd, pe, pf, rfl, rfl, rfl, rfl, (Ro_22.out.below hb7).alloc _, bx_new w7 _ _, hp1.alloc _, hp2.alloc _, (HB_22.out.trans (hb7.mono HB_22.out.size)).alloc (Nat.le_trans HB_22.out.size hb7.size) _, hb7.size⟩ | exact ⟨V.heap.size, pa, pb, pc, pd, pe, pf, rfl, rfl, rfl, rfl, Ro_22.out.below (below_put3 hb7 (Nat.le_refl _) _ _ _), Bx.put3 ((bx_new V #[.bool false, .slice none 0 0, .slice none 0 0] 90).drew.keep hu7) _ _ _, hp1.put3 ((bx_new V #[.bool false, .slice none 0 0, .slice none 0 0] 90).drew.keep hu7) (by decide) _ _ _, hp2.put3 ((bx_new V #[.bool false, .slice none 0 0, .slice none 0 0] 90).drew.keep hu7) (by decide) _ _ _, below_put3 (HB_22.out.trans (hb7.mono HB_22.out.size)) HB_22.out.size _ _ _, Nat.le_refl _⟩)
        case rest =>
          obtain ⟨PBp, pa, pb, pc, pd, pe, pf, rfl, rfl, rfl, rfl, Ro_25, XpB_25, Rp1_25, Rp2_25, HB_25, lePBp⟩ := hcut
          clear SK KC XD_22 Ro_22 HB_22
          have SMp := hid (show Sm (f k / ((lm u.dem k : Int) : Rat)) (L + 2) from (HS.out k (by omega)).div SP.out HZR.out)
          have lp1 := Rp1_25.out.sm1 SMp.out
          have lp2 := Rp2_25.out.sm2 SMp.out
          have ltpB := XpB_25.out.lt
          have cpB0 := XpB_25.out.cell 0 _ rfl
          have cpB1 := XpB_25.out.cell 1 _ rfl
          have cpB2 := XpB_25.out.cell 2 _ rfl
          have leW : w.heap.size ≤ wc.heap.size := HB_25.out.size
          go_wp2_with (at_builtin; refine wpList_append_fra _ rfl _ _ rfl w.heap.size _ (enL f u.dem k) ⟨wc.heap.size, 0, none⟩ 1 (f k / ((lm u.dem k : Int) : Rat)) pa pb pc pd pe pf rfl rfl (Ro_25.out.alloc _) ((bx_new wc #[.bool (negB (f k / ((lm u.dem k : Int) : Rat))), .slice pa pb pc, .slice pd pe pf] 90).cell 0 _ rfl) ((bx_new wc #[.bool (negB (f k / ((lm u.dem k : Int) : Rat))), .slice pa pb pc, .slice pd pe pf] 90).cell 1 _ rfl) ((bx_new wc #[.bool (negB (f k / ((lm u.dem k : Int) : Rat))), .slice pa pb pc, .slice pd pe pf] 90).cell 2 _ rfl) (Rp1_25.out.alloc _) (Rp2_25.out.alloc _) (by omega) (Nat.le_trans leW (by simp)) ?_)
          intro v' w' hO2 hB2
          have HO2 := hid hO2
          have HB2 : Hid (Below w.heap.size w w') := (HB_25.out.alloc HB_25.out.size _).trans hB2
          skip
          have E : enL f u.dem (k + 1) = enL f u.dem k ++ [f k / ((lm u.dem k : Int) : Rat)] := by simp only [enL]; rw [if_neg HZ.out]
          have HE := hid E; clear E
          clear hO2 hB2
          go_wp2
          go_roundg (dn - (k + 1))
          case measure => omega
          case rel => exact ⟨k + 1, _, rfl, rfl, by omega, by go_num, by rw [HE.out]; exact HO2.out, HB2.out⟩
    · obtain rfl : k = dn := by omega
      go_wp2
      go_ret
      exact ⟨_, rfl, hO.out, hB.out⟩

end Go.Proofs.YtigokanoflkinaaGreatDoor
