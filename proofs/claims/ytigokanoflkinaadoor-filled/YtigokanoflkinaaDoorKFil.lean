/- portionkeep rank, uses, holds, stopped. (Laid by mkfil.py.) -/
import Derived.Test.YtigokanoflkinaaDoorKFilA
import Derived.Deep.RegionHeld3
import Derived.Deep.DeepCutAuto
namespace Go.Proofs.YtigokanoflkinaaDoor
set_option linter.unusedSimpArgs false
set_option linter.unusedVariables false
open Go.RowKit Por

theorem of_wrapq (v : Value) (p q : Int) (w : World) (p0 : -9223372036854775808 ≤ p) (p1 : p ≤ 9223372036854775807) (q0 : -9223372036854775808 ≤ q) (q1 : q ≤ 9223372036854775807) (ht : Tab w) :
    Calls Tryd.prog 31 #[v, .int .i64 p, .int .i64 (IntKind.i64.wrap q)] w fun e w' => e = .returned (.string ⟨(txt (fr p q)).toArray⟩) ∧ Below w.heap.size w w' := by
  rw [Go.IntWalk.i64_in q ⟨q0, q1⟩]
  exact of_any v p q w p0 p1 q0 q1 ht
theorem mul_rng {a b M N : Int} (ha : 0 ≤ a ∧ a ≤ M) (hb : 0 ≤ b ∧ b ≤ N) : 0 ≤ a * b ∧ a * b ≤ M * N :=
  ⟨Int.mul_nonneg ha.1 hb.1, Int.mul_le_mul ha.2 hb.2 hb.1 (by omega)⟩
theorem fr_dgs {p q : Int} (hp : 0 ≤ p ∧ p ≤ 10000) (hq : 0 < q ∧ q ≤ 1000000) : Dg (fr p q) 12 := by
  unfold fr
  rw [if_neg (by omega)]
  have d : ∀ n : Int, 0 ≤ n → n ≤ 10000 → Dg (n : Rat) 5 := fun n a b => by
    have e1 : (n : Rat).num = n := Rat.num_intCast n
    have e2 : (n : Rat).den = 1 := Rat.den_intCast n
    unfold Dg; rw [e1, e2]; exact ⟨by omega, by omega⟩
  have d2 : ∀ n : Int, 0 ≤ n → n ≤ 1000000 → Dg (n : Rat) 7 := fun n a b => by
    have e1 : (n : Rat).num = n := Rat.num_intCast n
    have e2 : (n : Rat).den = 1 := Rat.den_intCast n
    unfold Dg; rw [e1, e2]; exact ⟨by omega, by omega⟩
  exact (d p hp.1 hp.2).div (d2 q (by omega) hq.2) (int_rat_zero (by omega))

set_option maxHeartbeats 2000000 in
set_option maxRecDepth 20000 in
theorem rank_any (p : Value) (po : Option Addr) (pc : Nat) (pool : List Int) (da : Option Addr) (dn dc : Nat) (u : Usr) (t : Rat) (w : World) (hp : Arr w 1 po pool.length pc (ints pool)) (hd : Arr w 1 da dn dc (ints u.dem)) (hl : u.dem.length = pool.length) (hpa : ∀ i, amtB (lm pool i) = true) (hda : ∀ i, amtB (lm u.dem i) = true) (hw : 1 ≤ u.wt ∧ u.wt ≤ 100) (hk4 : pool.length ≤ 4) (hx : Dg t 128) (ht : Tab w) :
    Calls Tryd.prog 42 #[p, .slice po pool.length pc, .agg #[.slice da dn dc, .int .i64 u.wt, .int .i64 u.cap], .string ⟨(txt (t)).toArray⟩] w fun e w' => (∃ q o, e = .returned (.tuple #[.string ⟨(txt (q)).toArray⟩, .bool o]) ∧ RankIs pool u t q o) ∧ Below w.heap.size w w' := by
  have hdl := hd.len
  rw [ints_len, hl] at hdl
  subst hdl
  have HP := hid hp
  have HD := hid hd
  have HT := hid ht
  have HX := hid hx
  have HPA := hid hpa
  have HDA := hid hda
  clear hp hd ht hx hpa hda
  have HB_0 := hid (Below.refl w.heap.size w)
  have XU_1 := hid (bx_new w #[.slice da pool.length dc, .int .i64 u.wt, .int .i64 u.cap] 45)
  have HB_1 : Hid (Below w.heap.size w (w.alloc (.cells #[.slice da pool.length dc, .int .i64 u.wt, .int .i64 u.cap] 45))) := HB_0.out.alloc HB_0.out.size (.cells #[.slice da pool.length dc, .int .i64 u.wt, .int .i64 u.cap] 45)
  have leU : w.heap.size ≤ w.heap.size := HB_0.out.size
  clear HB_0
  go_enter Tryd.func42, Tryd.ntmps42
  go_wp2
  go_loopg [10, 11] pool.length (fun gg s10 ix wr => ∃ (k : Nat) (b : Int), gg = pool.length - k ∧ k ≤ pool.length ∧ ix = .int .i64 k ∧ s10 = .int .i64 b ∧ Hid (BestOk pool u.dem k b) ∧ Hid (Bx wr w.heap.size #[.slice da pool.length dc, .int .i64 u.wt, .int .i64 u.cap] 45) ∧ Hid (Below w.heap.size w wr))
  case atStart => exact ⟨0, -1, rfl, Nat.zero_le _, rfl, rfl, BestOk.zero _ _, XU_1.out, HB_1.out⟩
  case round =>
    clear XU_1 HB_1
    obtain ⟨k, b, hgk, hk, rfl, rfl, hS, hX, hB⟩ := hrel
    have u0 := hX.out.cell 0 _ rfl
    have u1 := hX.out.cell 1 _ rfl
    have ltu := hX.out.lt
    by_cases hlt : k < pool.length
    · clear u1
      obtain ⟨db, dof, rfl, hdb⟩ := (HD.out.below hB.out).head (by omega)
      have cd := (HD.out.below hB.out).int rfl hlt
      obtain ⟨pb, pof, rfl, hpb⟩ := (HP.out.below hB.out).head (by omega)
      have cp := (HP.out.below hB.out).int rfl hlt
      have hkp : (k : Int) < (pool.length : Int) := by omega
      have hxr := amt_rng (HDA.out k)
      have hyr := amt_rng (HPA.out k)
      generalize hx : lm u.dem k = x at cd hxr
      have HXE := hid hx
      clear hx
      generalize hy : lm pool k = y at cp hyr
      have HYE := hid hy
      clear hy
      by_cases hx0 : x = 0
      · subst hx0
        go_wp2
        go_roundg (pool.length - (k + 1))
        case measure => omega
        case rel => exact ⟨k + 1, _, rfl, by omega, by go_num, rfl, hS.out.skip HXE.out (by rw [HYE.out]; exact hyr.1), hX.out, hB.out⟩
      · have hxb : (x == 0) = false := beq_eq_false_iff_ne.2 hx0
        by_cases hy0 : y = 0
        · subst hy0
          go_wp2
          go_ret2
          exact ⟨⟨0, false, by rw [txt_zero]; rfl, .inl ⟨rfl, rfl, .inl ⟨k, hlt, by rw [HXE.out]; exact hx0, HYE.out⟩⟩⟩, hB.out⟩
        · have hyb : (y == 0) = false := beq_eq_false_iff_ne.2 hy0
          obtain ⟨hS1, hS2⟩ := hS.out
          rcases hS2 with ⟨rfl, hS3⟩ | ⟨m, rfl, hm, hdm, hpm, hall⟩
          · clear hS3 hS1
            go_upto_region 8 with fail
            go_quiet (fail)
            go_wp2
            go_roundg (pool.length - (k + 1))
            case measure => omega
            case rel => exact ⟨k + 1, _, rfl, by omega, by go_num, rfl, hS.out.first (fun r => (amt_rng (HPA.out r)).1) (by rw [HXE.out]; omega) (by rw [HYE.out]; omega), hX.out.below (below_drewN (Below.refl _ wr) _) hX.out.lt, below_drewN hB.out _⟩
          · have cdm := (HD.out.below hB.out).int rfl (i := m) (by omega)
            have cpm := (HP.out.below hB.out).int rfl (i := m) (by omega)
            have hmp : (m : Int) < (pool.length : Int) := by omega
            have hm0 : decide ((m : Int) < 0) = false := decide_eq_false (by omega)
            have hzr := amt_rng (HDA.out m)
            have hvr := amt_rng (HPA.out m)
            generalize hz : lm u.dem m = z at cdm hdm hzr
            have HZE := hid hz
            clear hz
            generalize hv : lm pool m = v at cpm hpm hvr
            have HVE := hid hv
            clear hv
            clear hall hS1
            have r1 := mul_rng hxr hvr
            have r2 := mul_rng hzr hyr
            have HQ1 : Hid (lm u.dem k * lm pool m = x * v) := by rw [HXE.out, HVE.out]; rfl
            have HQ2 : Hid (lm u.dem m * lm pool k = z * y) := by rw [HZE.out, HYE.out]; rfl
            obtain ⟨P1, hP1⟩ : ∃ P : Int, x * v = P := ⟨_, rfl⟩
            obtain ⟨P2, hP2⟩ : ∃ P : Int, z * y = P := ⟨_, rfl⟩
            rw [hP1] at r1 HQ1
            rw [hP2] at r2 HQ2
            obtain ⟨r11, r12⟩ := r1
            obtain ⟨r21, r22⟩ := r2
            by_cases hc : P2 < P1
            · have HN : Hid (BestOk pool u.dem (k + 1) k) := hS.out.turn (fun r => (amt_rng (HPA.out r)).1) (fun r => (amt_rng (HDA.out r)).1) (by rw [HYE.out]; omega) (by rw [HQ1.out, HQ2.out]; exact hc)
              go_upto_region 8 with fail
              go_quiet (fail)
              go_wp2
              go_roundg (pool.length - (k + 1))
              case measure => omega
              case rel => exact ⟨k + 1, _, rfl, by omega, by go_num, rfl, HN.out, hX.out.below (below_drewN (Below.refl _ wr) _) hX.out.lt, below_drewN hB.out _⟩
            · have HN : Hid (BestOk pool u.dem (k + 1) m) := hS.out.keep (by rw [HYE.out]; omega) (by rw [HQ1.out, HQ2.out]; omega)
              have hcd : decide (P2 < P1) = false := decide_eq_false hc
              go_upto_region 8 with fail
              go_quiet (fail)
              go_wp2
              go_roundg (pool.length - (k + 1))
              case measure => omega
              case rel => exact ⟨k + 1, _, rfl, by omega, by go_num, rfl, HN.out, hX.out.below (below_drewN (Below.refl _ wr) _) hX.out.lt, below_drewN hB.out _⟩
    · obtain rfl : k = pool.length := by omega
      obtain ⟨hS1, hS2⟩ := hS.out
      rcases hS2 with ⟨rfl, hS3⟩ | ⟨m, rfl, hm, hdm, hpm, hall⟩
      · have HS3 := hid hS3
        clear hS3 hS1 u1
        go_wp2
        go_ret2
        exact ⟨⟨0, false, by rw [txt_zero]; rfl, .inl ⟨rfl, rfl, .inr HS3.out⟩⟩, hB.out⟩
      · obtain ⟨db, dof, rfl, hdb⟩ := (HD.out.below hB.out).head (by omega)
        have cdm := (HD.out.below hB.out).int rfl (i := m) (by omega)
        obtain ⟨pb, pof, rfl, hpb⟩ := (HP.out.below hB.out).head (by omega)
        have cpm := (HP.out.below hB.out).int rfl (i := m) (by omega)
        have hmp : (m : Int) < (pool.length : Int) := by omega
        have hm0 : decide ((m : Int) < 0) = false := decide_eq_false (by omega)
        have hm1 : ¬ ((m : Int) < 0) := by omega
        have hzr := amt_rng (HDA.out m)
        have hvr := amt_rng (HPA.out m)
        have HALL := hid hall
        have HS1 := hid hS1
        clear hall hS1
        have HDM := hid hdm
        have HPM := hid hpm
        generalize hz : lm u.dem m = z at cdm hdm hzr
        have HZE := hid hz
        clear hz
        generalize hv : lm pool m = v at cpm hpm hvr
        have HVE := hid hv
        clear hv
        have HWW := hid hw
        have r1 := mul_rng (a := v) (b := u.wt) hvr (M := 10000) (N := 100) ⟨by omega, hw.2⟩
        have r3 : 0 < v * u.wt := Int.mul_pos hpm (by omega)
        have HFD := hid (fr_dgs (p := z) (q := v * u.wt) hzr ⟨r3, by omega⟩)
        have R1 := hid r1
        clear r1 r3
        go_upto_region 12 with fail
        have SK : Hid (∀ U, Below wr.heap.size wr U → U.cell? ⟨w.heap.size, 0, none⟩ = some (.slice (some ⟨db, dof, none⟩) pool.length dc) ∧ U.cell? ⟨db, dof + m, none⟩ = some (.int .i64 z) ∧ U.cell? ⟨pb, pof + m, none⟩ = some (.int .i64 v) ∧ U.cell? ⟨w.heap.size, 1, none⟩ = some (.int .i64 u.wt)) := fun U h => ⟨(h.cell (p := ⟨w.heap.size, 0, none⟩) ltu).trans u0, (h.cell (p := ⟨db, dof + m, none⟩) hdb).trans cdm, (h.cell (p := ⟨pb, pof + m, none⟩) hpb).trans cpm, (h.cell (p := ⟨w.heap.size, 1, none⟩) ltu).trans u1⟩
        have KC0 : Hid (∀ U, Below wr.heap.size wr U → Calls Tryd.prog 31 #[p, .int .i64 z, .int .i64 (IntKind.i64.wrap (v * u.wt))] U (fun e w' => e = .returned (.string ⟨(txt (fr z (v * u.wt))).toArray⟩) ∧ Below wr.heap.size wr w')) := fun U hU => (of_wrapq p z (v * u.wt) U (by omega) (by omega) (by have := R1.out; omega) (by have := R1.out; omega) (HT.out.of (hB.out.trans (hU.mono hB.out.size)))).mono (fun e w' ⟨h1, h3⟩ => ⟨h1, hU.trans (h3.mono hU.size)⟩)
        have du0 : wr.drew.cell? ⟨w.heap.size, 0, none⟩ = some (.slice (some ⟨db, dof, none⟩) pool.length dc) := ((Below.refl wr.heap.size wr).drew.cell (p := ⟨w.heap.size, 0, none⟩) ltu).trans u0
        have dcdm : wr.drew.cell? ⟨db, dof + m, none⟩ = some (.int .i64 z) := ((Below.refl wr.heap.size wr).drew.cell (p := ⟨db, dof + m, none⟩) hdb).trans cdm
        have dcpm : wr.drew.cell? ⟨pb, pof + m, none⟩ = some (.int .i64 v) := ((Below.refl wr.heap.size wr).drew.cell (p := ⟨pb, pof + m, none⟩) hpb).trans cpm
        have du1 : wr.drew.cell? ⟨w.heap.size, 1, none⟩ = some (.int .i64 u.wt) := ((Below.refl wr.heap.size wr).drew.cell (p := ⟨w.heap.size, 1, none⟩) ltu).trans u1
        go_region_held3 (fun w' => w'.cell? ⟨w.heap.size, 0, none⟩ = some (.slice (some ⟨db, dof, none⟩) pool.length dc) ∧ w'.cell? ⟨db, dof + m, none⟩ = some (.int .i64 z) ∧ w'.cell? ⟨pb, pof + m, none⟩ = some (.int .i64 v) ∧ w'.cell? ⟨w.heap.size, 1, none⟩ = some (.int .i64 u.wt)) (first | exact SK.out _ (Below.refl _ _).drew | exact SK.out _ hb41g0)
          (first | (go_at_call 31; refine (KC0.out _ ?hU).mono ?_; (case hU => exact (Below.refl _ _).drew); rintro e41g0 w41g0 ⟨rfl, hb41g0⟩))
        clear SK KC0 du0 dcdm dcpm du1
        have XU_42 := hid (hX.out.keep hb41g0)
        have HB_42 : Hid (Below w.heap.size w w41g0) := hB.out.trans (hb41g0.mono hB.out.size)
        clear hX hB
        clear hb41g0
        clear u0 u1 ltu cdm cpm
        go_wp2_with fail
        refine (k_mul p t (fr z (v * u.wt)) 128 12 _ HX.out HFD.out (by omega) (by omega) (by omega) (by omega) (HT.out.of HB_42.out)).mono ?_
        rintro e42 w42 ⟨rfl, hb42⟩
        have XU_43 := hid (XU_42.out.keep hb42)
        have HB_43 : Hid (Below w.heap.size w w42) := HB_42.out.trans (hb42.mono HB_42.out.size)
        clear XU_42 HB_42
        clear hb42
        go_wp2
        go_ret2
        exact ⟨⟨t * fr z (v * u.wt), true, rfl, .inr ⟨rfl, HS1.out, m, by omega, HDM.out, HPM.out, HALL.out, by rw [HZE.out, HVE.out]⟩⟩, HB_43.out⟩

/-- what all tasks want of each of the first k kinds -/
noncomputable def usedL (pool : List Int) (us : List Usr) : Nat → List Rat
  | 0 => []
  | k + 1 => usedL pool us k ++ [totF us (endS pool us).ts k us.length]
theorem usedL_len (pool : List Int) (us : List Usr) (k : Nat) : (usedL pool us k).length = k := by
  induction k with
  | zero => rfl
  | succ k ih => simp only [usedL, List.length_append, List.length_singleton, ih]
theorem usedL_get (pool : List Int) (us : List Usr) : ∀ k r, r < k → rq (usedL pool us k) r = totF us (endS pool us).ts r us.length := by
  intro k
  induction k with
  | zero => intro r h; omega
  | succ k ih =>
    intro r hr
    simp only [usedL, rq]
    rw [List.getD_eq_getElem?_getD]
    by_cases e : r = k
    · subst e; rw [List.getElem?_append_right (by rw [usedL_len]; exact Nat.le_refl _), usedL_len]; simp
    · rw [List.getElem?_append_left (by rw [usedL_len]; omega)]
      have := ih r (by omega)
      unfold rq at this
      rwa [List.getD_eq_getElem?_getD] at this

set_option maxHeartbeats 2000000 in
set_option maxRecDepth 20000 in
theorem uses_any (p : Value) (po : Option Addr) (pc : Nat) (pool : List Int) (ao : Option Addr) (cap : Nat) (us : List Usr) (g : Nat) (st : Nat → Int) (w : World) (hp : Arr w 1 po pool.length pc (ints pool)) (hu : Users w ao us.length cap us) (hsh : ShB w g us.length us.length (endS pool us).ts (endS pool us).lv st) (hg : Good us pool.length) (hpa : ∀ i, amtB (lm pool i) = true) (hn6 : us.length ≤ 6) (hk4 : pool.length ≤ 4) (ht : Tab w) :
    Calls Tryd.prog 43 #[p, .slice po pool.length pc, .slice ao us.length cap, .slice (some ⟨g, 0, none⟩) us.length us.length] w fun e w' => ∃ v, e = .returned v ∧ TO w.heap.size w' v (usedL pool us pool.length) ∧ Below w.heap.size w w' := by
  have HP := hid hp
  have HU := hid hu
  have HSH := hid hsh
  have HG := hid hg
  have HPA := hid hpa
  have HT := hid ht
  clear hp hu hsh hg hpa ht
  have HB_0 := hid (Below.refl w.heap.size w)
  go_enter Tryd.func43, Tryd.ntmps43
  go_wp2
  go_loopg [9, 10] pool.length (fun gg s9 ix wr => ∃ (k : Nat) (v9 : Value), v9 = s9 ∧ gg = pool.length - k ∧ k ≤ pool.length ∧ ix = .int .i64 k ∧ Hid (TO w.heap.size wr v9 (usedL pool us k)) ∧ Hid (Below w.heap.size w wr))
  case atStart => exact ⟨0, _, rfl, rfl, Nat.zero_le _, rfl, TO.nil _ _, HB_0.out⟩
  case round =>
    clear HB_0
    obtain ⟨k, v9, rfl, hgk, hk, rfl, hO, hB⟩ := hrel
    have hol := usedL_len pool us k
    by_cases hlt : k < pool.length
    · have hkp : (k : Int) < (pool.length : Int) := by omega
      have HDG := hid (part_dg HG.out HPA.out hn6 hk4 hlt)
      go_wp2
      go_loopg [11, 12] us.length (fun gj s11 ij wr => ∃ (j : Nat), gj = us.length - j ∧ j ≤ us.length ∧ ij = .int .i64 j ∧ s11 = .string ⟨(txt ((totF us (endS pool us).ts k j))).toArray⟩ ∧ Hid (TO w.heap.size wr v9 (usedL pool us k)) ∧ Hid (Below w.heap.size w wr))
      case atStart => exact ⟨0, rfl, Nat.zero_le _, rfl, by rw [show (totF us (endS pool us).ts k 0) = 0 from rfl, txt_zero], hO.out, hB.out⟩
      case round =>
        clear hO hB
        obtain ⟨j, hgj, hj, rfl, rfl, hO, hB⟩ := hrel
        by_cases hjt : j < us.length
        · have hjn : (j : Int) < (us.length : Int) := by omega
          obtain ⟨ub, uo, da, dn, dc, rfl, hbl, a0, a1, a2, hd⟩ := (HU.out.below hB.out).get hjt
          have hdl := hd.len
          rw [ints_len, HG.out.len hjt] at hdl
          subst hdl
          obtain ⟨db, dof, rfl, hdb⟩ := hd.head (by omega)
          have cd := hd.int rfl hlt
          clear hd a1 a2
          obtain ⟨sh0, sh1, sh2⟩ := (HSH.out.below hB.out).cells hjt
          have sl := (HSH.out.below hB.out).lt
          clear sh1 sh2
          have hzr := amt_rng (HG.out.dem hjt k)
          have HDZ := hid (Dg.amt (HG.out.dem hjt k))
          have HST : Hid ((totF us (endS pool us).ts k (j + 1)) = (totF us (endS pool us).ts k j) + ((endS pool us).ts j) * ((lm (ug us j).dem k : Int) : Rat)) := rfl
          generalize hz : lm (ug us j).dem k = z at cd hzr HDZ HST
          have HXD := hid (due_dg HG.out HPA.out hn6 hk4 hjt)
          have HDJ := hid (HDG.out j hj)
          have HD1 := hid (HDG.out (j + 1) hjt)
          clear hz
          rw [HST.out] at HD1
          go_upto_region 9 with fail
          generalize ((endS pool us).ts j) = xj at sh0 HXD HST HD1
          skip
          have SK : Hid (∀ U, Below wr.heap.size wr U → U.cell? ⟨g, j * 3, none⟩ = some (.string ⟨(txt (xj)).toArray⟩) ∧ U.cell? ⟨ub, uo + j * 3, none⟩ = some (.slice (some ⟨db, dof, none⟩) pool.length dc) ∧ U.cell? ⟨db, dof + k, none⟩ = some (.int .i64 z)) := fun U h => ⟨(h.cell (p := ⟨g, j * 3, none⟩) sl).trans sh0, (h.cell (p := ⟨ub, uo + j * 3, none⟩) hbl).trans a0, (h.cell (p := ⟨db, dof + k, none⟩) hdb).trans cd⟩
          have KC0 : Hid (∀ U, Below wr.heap.size wr U → Calls Tryd.prog 33 #[.int .i64 z] U (fun e w' => e = .returned (.string ⟨(txt (((z : Int) : Rat))).toArray⟩) ∧ Below wr.heap.size wr w')) := fun U hU => (itoa_any z (by omega) (by omega) U (HT.out.of (hB.out.trans (hU.mono hB.out.size)))).mono (fun e w' ⟨h1, h3⟩ => ⟨by rw [txt_int]; exact h1, hU.trans (h3.mono hU.size)⟩)
          have KC1 : Hid (∀ U, Below wr.heap.size wr U → Calls Tryd.prog 32 #[p, .string ⟨(txt (xj)).toArray⟩, .string ⟨(txt (((z : Int) : Rat))).toArray⟩] U (fun e w' => e = .returned (.string ⟨(txt (xj * ((z : Int) : Rat))).toArray⟩) ∧ Below wr.heap.size wr w')) := fun U hU => (k_mul p xj ((z : Int) : Rat) 128 5 U HXD.out HDZ.out (by omega) (by omega) (by omega) (by omega) (HT.out.of (hB.out.trans (hU.mono hB.out.size)))).mono (fun e w' ⟨h1, h3⟩ => ⟨h1, hU.trans (h3.mono hU.size)⟩)
          have dsh0 : wr.drew.cell? ⟨g, j * 3, none⟩ = some (.string ⟨(txt (xj)).toArray⟩) := ((Below.refl wr.heap.size wr).drew.cell (p := ⟨g, j * 3, none⟩) sl).trans sh0
          have da0 : wr.drew.cell? ⟨ub, uo + j * 3, none⟩ = some (.slice (some ⟨db, dof, none⟩) pool.length dc) := ((Below.refl wr.heap.size wr).drew.cell (p := ⟨ub, uo + j * 3, none⟩) hbl).trans a0
          have dcd : wr.drew.cell? ⟨db, dof + k, none⟩ = some (.int .i64 z) := ((Below.refl wr.heap.size wr).drew.cell (p := ⟨db, dof + k, none⟩) hdb).trans cd
          go_region_held3 (fun w' => w'.cell? ⟨g, j * 3, none⟩ = some (.string ⟨(txt (xj)).toArray⟩) ∧ w'.cell? ⟨ub, uo + j * 3, none⟩ = some (.slice (some ⟨db, dof, none⟩) pool.length dc) ∧ w'.cell? ⟨db, dof + k, none⟩ = some (.int .i64 z)) (first | exact SK.out _ (Below.refl _ _).drew | exact SK.out _ hb41g0 | exact SK.out _ hb41g1)
            (first | (go_at_call 32; refine (KC1.out _ ?hU).mono ?_; (case hU => exact hb41g0); rintro e41g1 w41g1 ⟨rfl, hb41g1⟩) | (go_at_call 33; refine (KC0.out _ ?hU).mono ?_; (case hU => exact (Below.refl _ _).drew); rintro e41g0 w41g0 ⟨rfl, hb41g0⟩))
          clear SK KC0 KC1 dsh0 da0 dcd
          have Ro_42 := hid (hO.out.below hb41g1)
          have HB_42 : Hid (Below w.heap.size w w41g1) := hB.out.trans (hb41g1.mono hB.out.size)
          clear hO hB
          clear hb41g0 hb41g1
          clear sh0 sl a0 cd
          go_wp2_with fail
          refine (k_add p (totF us (endS pool us).ts k j) (xj * ((z : Int) : Rat)) 128 133 _ HDJ.out (HXD.out.mul HDZ.out) (by omega) (by omega) (by omega) (by omega) (HT.out.of HB_42.out)).mono ?_
          rintro e42 w42 ⟨rfl, hb42⟩
          have Ro_43 := hid (Ro_42.out.below hb42)
          have HB_43 : Hid (Below w.heap.size w w42) := HB_42.out.trans (hb42.mono HB_42.out.size)
          clear Ro_42 HB_42
          clear hb42
          go_wp2
          go_roundg (us.length - (j + 1))
          case measure => omega
          case rel => exact ⟨j + 1, rfl, by omega, by go_num, by rw [HST.out], Ro_43.out, HB_43.out⟩
        · obtain rfl : j = us.length := by omega
          have leW : w.heap.size ≤ wr.heap.size := hB.out.size
          have HTE : Hid (usedL pool us (k + 1) = usedL pool us k ++ [(totF us (endS pool us).ts k us.length)]) := rfl
          generalize (totF us (endS pool us).ts k us.length) = tq at HTE ⊢
          go_wp2_with (at_builtin; refine wpList_append_txt _ rfl _ _ rfl w.heap.size _ (usedL pool us k) ⟨wr.heap.size, 0, none⟩ 1 tq rfl rfl (hO.out.alloc _) ((bx_new wr #[.string ⟨(txt (tq)).toArray⟩] 9).cell 0 _ rfl) (by omega) (Nat.le_trans leW (by simp)) ?_)
          intro v' w' hO2 hB2
          have HO2 := hid hO2
          have HB2 : Hid (Below w.heap.size w w') := (hB.out.alloc hB.out.size _).trans hB2
          clear hO2 hB2
          go_wp2
          go_roundg (pool.length - (k + 1))
          case measure => omega
          case rel => exact ⟨k + 1, _, rfl, rfl, by omega, by go_num, by rw [HTE.out]; exact HO2.out, HB2.out⟩
    · obtain rfl : k = pool.length := by omega
      go_wp2
      go_ret
      exact ⟨_, rfl, hO.out, hB.out⟩

set_option maxHeartbeats 2000000 in
set_option maxRecDepth 20000 in
theorem holds_any (p : Value) (po : Option Addr) (pc : Nat) (pool : List Int) (ao : Option Addr) (cap : Nat) (us : List Usr) (g : Nat) (st : Nat → Int) (vo : Option Addr) (vc : Nat) (d : FD) (r i : Nat) (w : World) (hp : Arr w 1 po pool.length pc (ints pool)) (hu : Users w ao us.length cap us) (hsh : ShB w g us.length us.length (endS pool us).ts (endS pool us).lv st) (hg : Good us pool.length) (hpa : ∀ i, amtB (lm pool i) = true) (hn6 : us.length ≤ 6) (hk4 : pool.length ≤ 4) (ht : Tab w) (hvu : Arr w 1 vo pool.length vc (strs ((usedL pool us pool.length).map tb))) (ho : d.Of pool us) (hr : r < pool.length) (hi : i < us.length) :
    Calls Tryd.prog 85 #[p, .slice po pool.length pc, .slice ao us.length cap, .slice (some ⟨g, 0, none⟩) us.length us.length, .slice vo pool.length vc, .int .i64 r, .int .i64 i] w fun e w' => e = .returned (.bool (hB d (endS pool us) r i)) ∧ Below w.heap.size w w' := by
  have HP := hid hp
  have HU := hid hu
  have HSH := hid hsh
  have HG := hid hg
  have HPA := hid hpa
  have HT := hid ht
  have HVU := hid hvu
  have HO := hid ho
  clear hp hu hsh hg hpa ht hvu ho
  have HB_0 := hid (Below.refl w.heap.size w)
  have hrp : (r : Int) < (pool.length : Int) := by omega
  have hin : (i : Int) < (us.length : Int) := by omega
  obtain ⟨ub, uo, hao, hubl⟩ : ∃ b o, ao = some ⟨b, o, none⟩ ∧ b < w.heap.size := by obtain ⟨b, o, da, dn, dc, h1, h2, _⟩ := HU.out.get hi; exact ⟨b, o, h1, h2⟩
  subst hao
  obtain ⟨xba, xoa, daa, dna, dca, haoa, hbla, a0, a1, a2, hda⟩ := (HU.out.below HB_0.out).get hi
  cases haoa
  have hdla := hda.len
  rw [ints_len, HG.out.len hi] at hdla
  subst hdla
  obtain ⟨dba, doa, hdaa, hdba⟩ := hda.head (by omega)
  have cda := hda.int hdaa hr
  subst hdaa
  clear a1 a2 hda
  have hxr := amt_rng (HG.out.dem hi r)
  generalize hx : lm (ug us i).dem r = x at cda hxr
  have HX := hid hx
  clear hx
  by_cases hx0 : x = 0
  · subst hx0
    have HE := hid (hB_parts (d := d) (s := endS pool us) (r := r) (i := i) (a := false) (by rw [HO.out.us, HX.out]; rfl) rfl rfl)
    go_enter Tryd.func85, Tryd.ntmps85
    go_upto_region 1 with fail
    go_quiet (fail)
    go_wp2
    go_ret
    exact ⟨by rw [HE.out]; rfl, below_drewN HB_0.out _⟩
  · have hxb : (x == 0) = false := beq_eq_false_iff_ne.2 hx0
    obtain ⟨vb, vof, hvo, hvb⟩ := HVU.out.head (by omega)
    have cv := HVU.out.str hvo hr
    subst hvo
    rw [tx_map _ (by rw [usedL_len]; exact hr), usedL_get _ _ _ _ hr] at cv
    obtain ⟨pb, pof, hpo, hpb⟩ := HP.out.head (by omega)
    have cp := HP.out.int hpo hr
    subst hpo
    have hyr := amt_rng (HPA.out r)
    have HUP := hid (upB_of HO.out (endS pool us).ts r)
    generalize hq : (totF us (endS pool us).ts r us.length) = q at cv HUP
    generalize hy : lm pool r = y at cp hyr HUP
    clear hq hy
    unfold tb at cv
    by_cases hqe : q = ((y : Int) : Rat)
    · rw [decide_eq_true hqe] at HUP
      subst hqe
      have t1 : (txt ((y : Int) : Rat) == txt ((y : Int) : Rat)) = true := by simp
      have t3 : (!txt ((y : Int) : Rat) == txt ((y : Int) : Rat)) = false := by simp
      go_enter Tryd.func85, Tryd.ntmps85
      go_upto_region 1 with fail
      have SK : Hid (∀ U, Below w.heap.size w U → U.cell? ⟨ub, uo + i * 3, none⟩ = some (.slice (some ⟨dba, doa, none⟩) pool.length dca) ∧ U.cell? ⟨dba, doa + r, none⟩ = some (.int .i64 x) ∧ U.cell? ⟨vb, vof + r, none⟩ = some (.string ⟨(txt (((y : Int) : Rat))).toArray⟩) ∧ U.cell? ⟨pb, pof + r, none⟩ = some (.int .i64 y)) := fun U h => ⟨(h.cell (p := ⟨ub, uo + i * 3, none⟩) hbla).trans a0, (h.cell (p := ⟨dba, doa + r, none⟩) hdba).trans cda, (h.cell (p := ⟨vb, vof + r, none⟩) hvb).trans cv, (h.cell (p := ⟨pb, pof + r, none⟩) hpb).trans cp⟩
      have KC0 : Hid (∀ U, Below w.heap.size w U → Calls Tryd.prog 33 #[.int .i64 y] U (fun e w' => e = .returned (.string ⟨(txt (((y : Int) : Rat))).toArray⟩) ∧ Below w.heap.size w w')) := fun U hU => (itoa_any y (by omega) (by omega) U (HT.out.of (HB_0.out.trans (hU.mono HB_0.out.size)))).mono (fun e w' ⟨h1, h3⟩ => ⟨by rw [txt_int]; exact h1, hU.trans (h3.mono hU.size)⟩)
      have da0 : w.drew.cell? ⟨ub, uo + i * 3, none⟩ = some (.slice (some ⟨dba, doa, none⟩) pool.length dca) := ((Below.refl w.heap.size w).drew.cell (p := ⟨ub, uo + i * 3, none⟩) hbla).trans a0
      have dcda : w.drew.cell? ⟨dba, doa + r, none⟩ = some (.int .i64 x) := ((Below.refl w.heap.size w).drew.cell (p := ⟨dba, doa + r, none⟩) hdba).trans cda
      have dcv : w.drew.cell? ⟨vb, vof + r, none⟩ = some (.string ⟨(txt (((y : Int) : Rat))).toArray⟩) := ((Below.refl w.heap.size w).drew.cell (p := ⟨vb, vof + r, none⟩) hvb).trans cv
      have dcp : w.drew.cell? ⟨pb, pof + r, none⟩ = some (.int .i64 y) := ((Below.refl w.heap.size w).drew.cell (p := ⟨pb, pof + r, none⟩) hpb).trans cp
      go_region_held3 (fun w' => w'.cell? ⟨ub, uo + i * 3, none⟩ = some (.slice (some ⟨dba, doa, none⟩) pool.length dca) ∧ w'.cell? ⟨dba, doa + r, none⟩ = some (.int .i64 x) ∧ w'.cell? ⟨vb, vof + r, none⟩ = some (.string ⟨(txt (((y : Int) : Rat))).toArray⟩) ∧ w'.cell? ⟨pb, pof + r, none⟩ = some (.int .i64 y)) (first | exact SK.out _ (Below.refl _ _).drew | exact SK.out _ hb6g0)
        (first | (go_at_call 33; refine (KC0.out _ ?hU).mono ?_; (case hU => exact (Below.refl _ _).drew); rintro e6g0 w6g0 ⟨rfl, hb6g0⟩))
      clear SK KC0 da0 dcda dcv dcp
      have HB_7 : Hid (Below w.heap.size w w6g0) := HB_0.out.trans (hb6g0.mono HB_0.out.size)
      clear HB_0
      clear hb6g0
      clear a0 cda cv cp
      go_wp2
      go_loopg [15] us.length (fun gg ix wr => ∃ j : Nat, gg = us.length - j ∧ j ≤ us.length ∧ ix = .int .i64 j ∧ Hid (highB d (endS pool us).lv i r j = true) ∧ Hid (Below w.heap.size w wr))
      case atStart => exact ⟨0, rfl, Nat.zero_le _, rfl, rfl, HB_7.out⟩
      case round =>
        clear HB_7
        obtain ⟨j, hgj, hj, rfl, hz, hB⟩ := hrel
        by_cases hjt : j < us.length
        · have hjn : (j : Int) < (us.length : Int) := by omega
          obtain ⟨xbb, xob, dab, dnb, dcb, haob, hblb, b0, b1, b2, hdb⟩ := (HU.out.below hB.out).get hjt
          cases haob
          have hdlb := hdb.len
          rw [ints_len, HG.out.len hjt] at hdlb
          subst hdlb
          obtain ⟨dbb, dob, hdab, hdbb⟩ := hdb.head (by omega)
          have cdb := hdb.int hdab hr
          subst hdab
          clear b1 b2 hdb
          have hzr := amt_rng (HG.out.dem hjt r)
          generalize hz2 : lm (ug us j).dem r = z at cdb hzr
          have HZ := hid hz2
          clear hz2
          by_cases hz0 : 0 < z
          · go_upto_region 7 with fail
            clear b0 cdb
            obtain ⟨sj0, sj1, sj2⟩ := (HSH.out.below hB.out).cells hjt
            obtain ⟨si0, si1, si2⟩ := (HSH.out.below hB.out).cells hi
            have sl := (HSH.out.below hB.out).lt
            clear sj0 sj2 si0 si2
            have HDJ := hid (lv_dg HG.out HPA.out hn6 hk4 hjt)
            have HDI := hid (lv_dg HG.out HPA.out hn6 hk4 hi)
            have SK : Hid (∀ U, Below wr.heap.size wr U → U.cell? ⟨g, j * 3 + 1, none⟩ = some (.string ⟨(txt (((endS pool us).lv j))).toArray⟩) ∧ U.cell? ⟨g, i * 3 + 1, none⟩ = some (.string ⟨(txt (((endS pool us).lv i))).toArray⟩)) := fun U h => ⟨(h.cell (p := ⟨g, j * 3 + 1, none⟩) sl).trans sj1, (h.cell (p := ⟨g, i * 3 + 1, none⟩) sl).trans si1⟩
            have KC0 : Hid (∀ U, Below wr.heap.size wr U → Calls Tryd.prog 38 #[p, .string ⟨(txt (((endS pool us).lv j))).toArray⟩, .string ⟨(txt (((endS pool us).lv i))).toArray⟩] U (fun e w' => e = .returned (.int .i64 (cmpQ ((endS pool us).lv j) ((endS pool us).lv i))) ∧ Below wr.heap.size wr w')) := fun U hU => (k_cmp p ((endS pool us).lv j) ((endS pool us).lv i) 139 139 U HDJ.out HDI.out (by omega) (by omega) (by omega) (by omega) (HT.out.of (hB.out.trans (hU.mono hB.out.size)))).mono (fun e w' ⟨h1, h3⟩ => ⟨h1, hU.trans (h3.mono hU.size)⟩)
            have dsj1 : wr.drew.cell? ⟨g, j * 3 + 1, none⟩ = some (.string ⟨(txt (((endS pool us).lv j))).toArray⟩) := ((Below.refl wr.heap.size wr).drew.cell (p := ⟨g, j * 3 + 1, none⟩) sl).trans sj1
            have dsi1 : wr.drew.cell? ⟨g, i * 3 + 1, none⟩ = some (.string ⟨(txt (((endS pool us).lv i))).toArray⟩) := ((Below.refl wr.heap.size wr).drew.cell (p := ⟨g, i * 3 + 1, none⟩) sl).trans si1
            go_region_held3 (fun w' => w'.cell? ⟨g, j * 3 + 1, none⟩ = some (.string ⟨(txt (((endS pool us).lv j))).toArray⟩) ∧ w'.cell? ⟨g, i * 3 + 1, none⟩ = some (.string ⟨(txt (((endS pool us).lv i))).toArray⟩)) (first | exact SK.out _ (Below.refl _ _).drew | exact SK.out _ hb41g0)
              (first | (go_at_call 38; refine (KC0.out _ ?hU).mono ?_; (case hU => exact (Below.refl _ _).drew); rintro e41g0 w41g0 ⟨rfl, hb41g0⟩))
            clear SK KC0 dsj1 dsi1
            have HB_42 : Hid (Below w.heap.size w w41g0) := hB.out.trans (hb41g0.mono hB.out.size)
            clear hB
            clear hb41g0
            clear sj1 si1 sl
            generalize hcq : cmpQ ((endS pool us).lv j) ((endS pool us).lv i) = c
            have HC := hid hcq
            clear hcq
            by_cases hc : 0 < c
            · have HE := hid (hB_parts (d := d) (s := endS pool us) (r := r) (i := i) (c := false) rfl rfl (by rw [HO.out.n]; exact highB_false hjt (by rw [HO.out.us, HZ.out]; exact hz0) (by have h9 := HC.out; rw [← h9] at hc; exact cmp_gt.1 hc)))
              go_wp2
              go_ret
              exact ⟨by rw [HE.out]; simp, HB_42.out⟩
            · have HE : Hid (highB d (endS pool us).lv i r (j + 1) = true) := highB_step hz.out (fun h5 => hc (by rw [← HC.out]; exact cmp_gt.2 h5.2))
              go_wp2
              go_roundg (us.length - (j + 1))
              case measure => omega
              case rel => exact ⟨j + 1, rfl, by omega, by go_num, HE.out, HB_42.out⟩
          · have HE : Hid (highB d (endS pool us).lv i r (j + 1) = true) := highB_step hz.out (fun h5 => hz0 (by rw [← HZ.out, ← HO.out.us]; exact h5.1))
            go_wp2
            go_roundg (us.length - (j + 1))
            case measure => omega
            case rel => exact ⟨j + 1, rfl, by omega, by go_num, HE.out, hB.out⟩
        · obtain rfl : j = us.length := by omega
          have HE := hid (hB_parts (d := d) (s := endS pool us) (r := r) (i := i) (a := true) (c := true) (by rw [HO.out.us, HX.out]; exact decide_eq_true (by omega)) HUP.out (by rw [HO.out.n]; exact hz.out))
          go_wp2
          go_ret
          exact ⟨by rw [HE.out]; rfl, hB.out⟩
    · rw [decide_eq_false hqe] at HUP
      have HE := hid (hB_parts (d := d) (s := endS pool us) (r := r) (i := i) (b := false) rfl HUP.out rfl)
      have t1 : txt q ≠ txt ((y : Int) : Rat) := fun h => hqe (txt_inj h)
      have t2 : (txt q == txt ((y : Int) : Rat)) = false := beq_eq_false_iff_ne.2 t1
      have t3 : (!txt q == txt ((y : Int) : Rat)) = true := by rw [t2]; rfl
      go_enter Tryd.func85, Tryd.ntmps85
      go_upto_region 1 with fail
      have SK : Hid (∀ U, Below w.heap.size w U → U.cell? ⟨ub, uo + i * 3, none⟩ = some (.slice (some ⟨dba, doa, none⟩) pool.length dca) ∧ U.cell? ⟨dba, doa + r, none⟩ = some (.int .i64 x) ∧ U.cell? ⟨vb, vof + r, none⟩ = some (.string ⟨(txt (q)).toArray⟩) ∧ U.cell? ⟨pb, pof + r, none⟩ = some (.int .i64 y)) := fun U h => ⟨(h.cell (p := ⟨ub, uo + i * 3, none⟩) hbla).trans a0, (h.cell (p := ⟨dba, doa + r, none⟩) hdba).trans cda, (h.cell (p := ⟨vb, vof + r, none⟩) hvb).trans cv, (h.cell (p := ⟨pb, pof + r, none⟩) hpb).trans cp⟩
      have KC0 : Hid (∀ U, Below w.heap.size w U → Calls Tryd.prog 33 #[.int .i64 y] U (fun e w' => e = .returned (.string ⟨(txt (((y : Int) : Rat))).toArray⟩) ∧ Below w.heap.size w w')) := fun U hU => (itoa_any y (by omega) (by omega) U (HT.out.of (HB_0.out.trans (hU.mono HB_0.out.size)))).mono (fun e w' ⟨h1, h3⟩ => ⟨by rw [txt_int]; exact h1, hU.trans (h3.mono hU.size)⟩)
      have da0 : w.drew.cell? ⟨ub, uo + i * 3, none⟩ = some (.slice (some ⟨dba, doa, none⟩) pool.length dca) := ((Below.refl w.heap.size w).drew.cell (p := ⟨ub, uo + i * 3, none⟩) hbla).trans a0
      have dcda : w.drew.cell? ⟨dba, doa + r, none⟩ = some (.int .i64 x) := ((Below.refl w.heap.size w).drew.cell (p := ⟨dba, doa + r, none⟩) hdba).trans cda
      have dcv : w.drew.cell? ⟨vb, vof + r, none⟩ = some (.string ⟨(txt (q)).toArray⟩) := ((Below.refl w.heap.size w).drew.cell (p := ⟨vb, vof + r, none⟩) hvb).trans cv
      have dcp : w.drew.cell? ⟨pb, pof + r, none⟩ = some (.int .i64 y) := ((Below.refl w.heap.size w).drew.cell (p := ⟨pb, pof + r, none⟩) hpb).trans cp
      go_region_held3 (fun w' => w'.cell? ⟨ub, uo + i * 3, none⟩ = some (.slice (some ⟨dba, doa, none⟩) pool.length dca) ∧ w'.cell? ⟨dba, doa + r, none⟩ = some (.int .i64 x) ∧ w'.cell? ⟨vb, vof + r, none⟩ = some (.string ⟨(txt (q)).toArray⟩) ∧ w'.cell? ⟨pb, pof + r, none⟩ = some (.int .i64 y)) (first | exact SK.out _ (Below.refl _ _).drew | exact SK.out _ hb6g0)
        (first | (go_at_call 33; refine (KC0.out _ ?hU).mono ?_; (case hU => exact (Below.refl _ _).drew); rintro e6g0 w6g0 ⟨rfl, hb6g0⟩))
      clear SK KC0 da0 dcda dcv dcp
      have HB_7 : Hid (Below w.heap.size w w6g0) := HB_0.out.trans (hb6g0.mono HB_0.out.size)
      clear HB_0
      clear hb6g0
      clear a0 cda cv cp
      go_wp2
      go_ret
      exact ⟨by rw [HE.out]; simp, HB_7.out⟩

set_option maxHeartbeats 2000000 in
set_option maxRecDepth 20000 in
theorem stopped_any (p : Value) (po : Option Addr) (pc : Nat) (pool : List Int) (ao : Option Addr) (cap : Nat) (us : List Usr) (g : Nat) (vo : Option Addr) (vc : Nat) (d : FD) (i : Nat) (w : World) (hp : Arr w 1 po pool.length pc (ints pool)) (hu : Users w ao us.length cap us) (hsh : ShB w g us.length us.length (endS pool us).ts (endS pool us).lv (stopV d (endS pool us))) (hg : Good us pool.length) (hpa : ∀ i, amtB (lm pool i) = true) (hn6 : us.length ≤ 6) (hk4 : pool.length ≤ 4) (ht : Tab w) (hvu : Arr w 1 vo pool.length vc (strs ((usedL pool us pool.length).map tb))) (ho : d.Of pool us) (hi : i < us.length) :
    Calls Tryd.prog 44 #[p, .slice po pool.length pc, .slice ao us.length cap, .slice (some ⟨g, 0, none⟩) us.length us.length, .slice vo pool.length vc, .int .i64 i] w fun e w' => e = .returned (.bool true) ∧ Below w.heap.size w w' := by
  have HP := hid hp
  have HU := hid hu
  have HSH := hid hsh
  have HG := hid hg
  have HPA := hid hpa
  have HT := hid ht
  have HVU := hid hvu
  have HO := hid ho
  clear hp hu hsh hg hpa ht hvu ho
  have HB_0 := hid (Below.refl w.heap.size w)
  have hin : (i : Int) < (us.length : Int) := by omega
  obtain ⟨xba, xoa, daa, dna, dca, haoa, hbla, a0, a1, a2, hda⟩ := (HU.out.below HB_0.out).get hi
  cases haoa
  have hdla := hda.len
  rw [ints_len, HG.out.len hi] at hdla
  subst hdla
  clear a0 a1 hda
  obtain ⟨s0, s1, s2⟩ := HSH.out.cells hi
  have sl := HSH.out.lt
  clear s1
  have hcr := HG.out.cap hi
  have HCP : Hid (ug d.us i = ug us i) := by rw [HO.out.us]; rfl
  generalize hq : (endS pool us).ts i = q at s0
  have HX0 := hid hq
  clear hq
  generalize hcc : (ug us i).cap = c at a2 hcr
  have HC := hid hcc
  clear hcc
  by_cases hqe : q = ((c : Int) : Rat)
  · have hst := hid (stopV_cap (d := d) (s := endS pool us) (i := i) (by rw [HCP.out, HC.out, ← hqe]; exact HX0.out))
    subst hqe
    have n1 : (txt ((c : Int) : Rat) == txt ((c : Int) : Rat)) = true := by simp
    go_enter Tryd.func44, Tryd.ntmps44
    go_upto_region 1 with fail
    have SK : Hid (∀ U, Below w.heap.size w U → U.cell? ⟨g, i * 3, none⟩ = some (.string ⟨(txt (((c : Int) : Rat))).toArray⟩) ∧ U.cell? ⟨xba, xoa + i * 3 + 2, none⟩ = some (.int .i64 c)) := fun U h => ⟨(h.cell (p := ⟨g, i * 3, none⟩) sl).trans s0, (h.cell (p := ⟨xba, xoa + i * 3 + 2, none⟩) hbla).trans a2⟩
    have KC0 : Hid (∀ U, Below w.heap.size w U → Calls Tryd.prog 33 #[.int .i64 c] U (fun e w' => e = .returned (.string ⟨(txt (((c : Int) : Rat))).toArray⟩) ∧ Below w.heap.size w w')) := fun U hU => (itoa_any c (by omega) (by omega) U (HT.out.of (HB_0.out.trans (hU.mono HB_0.out.size)))).mono (fun e w' ⟨h1, h3⟩ => ⟨by rw [txt_int]; exact h1, hU.trans (h3.mono hU.size)⟩)
    have ds0 : w.drew.cell? ⟨g, i * 3, none⟩ = some (.string ⟨(txt (((c : Int) : Rat))).toArray⟩) := ((Below.refl w.heap.size w).drew.cell (p := ⟨g, i * 3, none⟩) sl).trans s0
    have da2 : w.drew.cell? ⟨xba, xoa + i * 3 + 2, none⟩ = some (.int .i64 c) := ((Below.refl w.heap.size w).drew.cell (p := ⟨xba, xoa + i * 3 + 2, none⟩) hbla).trans a2
    go_region_held3 (fun w' => w'.cell? ⟨g, i * 3, none⟩ = some (.string ⟨(txt (((c : Int) : Rat))).toArray⟩) ∧ w'.cell? ⟨xba, xoa + i * 3 + 2, none⟩ = some (.int .i64 c)) (first | exact SK.out _ (Below.refl _ _).drew | exact SK.out _ hb6g0)
      (first | (go_at_call 33; refine (KC0.out _ ?hU).mono ?_; (case hU => exact (Below.refl _ _).drew); rintro e6g0 w6g0 ⟨rfl, hb6g0⟩))
    clear SK KC0 ds0 da2
    have HB_7 : Hid (Below w.heap.size w w6g0) := HB_0.out.trans (hb6g0.mono HB_0.out.size)
    clear HB_0
    clear hb6g0
    clear s0 a2
    obtain ⟨t0, t1, t2⟩ := (HSH.out.below HB_7.out).cells hi
    clear t0 t1 s2
    have sl2 := (HSH.out.below HB_7.out).lt
    rw [hst.out] at t2
    clear hst
    go_wp2
    go_ret
    exact ⟨rfl, HB_7.out⟩
  · have n1 : txt q ≠ txt ((c : Int) : Rat) := fun h => hqe (txt_inj h)
    have n2 : (txt q == txt ((c : Int) : Rat)) = false := beq_eq_false_iff_ne.2 n1
    have HQE := hid hqe
    clear hqe
    go_enter Tryd.func44, Tryd.ntmps44
    go_upto_region 1 with fail
    have SK : Hid (∀ U, Below w.heap.size w U → U.cell? ⟨g, i * 3, none⟩ = some (.string ⟨(txt (q)).toArray⟩) ∧ U.cell? ⟨xba, xoa + i * 3 + 2, none⟩ = some (.int .i64 c)) := fun U h => ⟨(h.cell (p := ⟨g, i * 3, none⟩) sl).trans s0, (h.cell (p := ⟨xba, xoa + i * 3 + 2, none⟩) hbla).trans a2⟩
    have KC0 : Hid (∀ U, Below w.heap.size w U → Calls Tryd.prog 33 #[.int .i64 c] U (fun e w' => e = .returned (.string ⟨(txt (((c : Int) : Rat))).toArray⟩) ∧ Below w.heap.size w w')) := fun U hU => (itoa_any c (by omega) (by omega) U (HT.out.of (HB_0.out.trans (hU.mono HB_0.out.size)))).mono (fun e w' ⟨h1, h3⟩ => ⟨by rw [txt_int]; exact h1, hU.trans (h3.mono hU.size)⟩)
    have ds0 : w.drew.cell? ⟨g, i * 3, none⟩ = some (.string ⟨(txt (q)).toArray⟩) := ((Below.refl w.heap.size w).drew.cell (p := ⟨g, i * 3, none⟩) sl).trans s0
    have da2 : w.drew.cell? ⟨xba, xoa + i * 3 + 2, none⟩ = some (.int .i64 c) := ((Below.refl w.heap.size w).drew.cell (p := ⟨xba, xoa + i * 3 + 2, none⟩) hbla).trans a2
    go_region_held3 (fun w' => w'.cell? ⟨g, i * 3, none⟩ = some (.string ⟨(txt (q)).toArray⟩) ∧ w'.cell? ⟨xba, xoa + i * 3 + 2, none⟩ = some (.int .i64 c)) (first | exact SK.out _ (Below.refl _ _).drew | exact SK.out _ hb6g0)
      (first | (go_at_call 33; refine (KC0.out _ ?hU).mono ?_; (case hU => exact (Below.refl _ _).drew); rintro e6g0 w6g0 ⟨rfl, hb6g0⟩))
    clear SK KC0 ds0 da2
    have HB_7 : Hid (Below w.heap.size w w6g0) := HB_0.out.trans (hb6g0.mono HB_0.out.size)
    clear HB_0
    clear hb6g0
    clear s0 a2
    obtain ⟨t0, t1, t2⟩ := (HSH.out.below HB_7.out).cells hi
    clear t0 t1 s2
    have sl2 := (HSH.out.below HB_7.out).lt
    have HT2 := hid t2
    clear t2 sl2 sl
    go_wp2
    go_loopg [13] pool.length (fun gg ix wr => ∃ r : Nat, gg = pool.length - r ∧ r ≤ pool.length ∧ ix = .int .i64 r ∧ Hid (∀ j, j < r → ¬ HoldsB d (endS pool us) j i) ∧ Hid (Below w.heap.size w wr))
    case atStart => exact ⟨0, rfl, Nat.zero_le _, rfl, fun j hj => by omega, HB_7.out⟩
    case round =>
      clear HB_7 HT2
      obtain ⟨r, hgr, hr, rfl, hz, hB⟩ := hrel
      by_cases hrt : r < pool.length
      · have hrp : (r : Int) < (pool.length : Int) := by omega
        go_wp2_with fail
        refine (holds_any p po pc pool (some ⟨xba, xoa, none⟩) cap us g (stopV d (endS pool us)) vo vc d r i _ (HP.out.below hB.out) (HU.out.below hB.out) (HSH.out.below hB.out) HG.out HPA.out hn6 hk4 (HT.out.of hB.out) (HVU.out.below hB.out) HO.out hrt hi).mono ?_
        rintro e40 w40 ⟨rfl, hb40⟩
        have HB_41 : Hid (Below w.heap.size w w40) := hB.out.trans (hb40.mono hB.out.size)
        clear hB
        clear hb40
        cases hh : hB d (endS pool us) r i with
        | true =>
          have hHo := hB_iff.1 hh
          obtain ⟨t0, t1, t2⟩ := (HSH.out.below HB_41.out).cells hi
          have sl2 := (HSH.out.below HB_41.out).lt
          clear t0 t1
          have hst := stopV_at (d := d) (s := endS pool us) (i := i) (r := r) (by rw [HCP.out, HC.out]; intro h5; exact HQE.out (HX0.out.symm.trans h5)) (by rw [HO.out.kk]; exact hrt) hz.out hHo
          rw [hst] at t2
          clear hst hHo hh
          go_wp2
          go_ret
          exact ⟨rfl, HB_41.out⟩
        | false =>
          have HN : Hid (∀ j, j < r + 1 → ¬ HoldsB d (endS pool us) j i) := fun j hj h5 => by
            by_cases e : j = r
            · subst e; rw [hB_iff.2 h5] at hh; cases hh
            · exact hz.out j (by omega) h5
          clear hh
          go_wp2
          go_roundg (pool.length - (r + 1))
          case measure => omega
          case rel => exact ⟨r + 1, rfl, by omega, by go_num, HN.out, HB_41.out⟩
      · obtain rfl : r = pool.length := by omega
        exfalso
        obtain ⟨r, h1, h2⟩ := stop_some HO.out HG.out HPA.out hi (by rw [HC.out]; intro h5; exact HQE.out (HX0.out.symm.trans h5))
        exact hz.out r h1 h2

end Go.Proofs.YtigokanoflkinaaDoor
