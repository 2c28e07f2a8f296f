/- portionref top, match, and the rise in memory: left, pull. (Laid by mkrise.py.) -/
import Derived.Test.YtigokanoflkinaaGreatDoorRLst
import Derived.Test.YtigokanoflkinaaGreatDoorMBest
import Derived.Test.YtigokanoflkinaaGreatDoorRErr
import Derived.Deep.RegionHeld3
import Derived.Deep.DeepCutAuto
namespace Go.Proofs.YtigokanoflkinaaGreatDoor
set_option linter.unusedSimpArgs false
set_option linter.unusedVariables false
open Go.RowKit Por

/-- what top finds -/
def TopIs (pool : List Int) (u : Usr) (t : Int) : Prop :=
  (t = -1 ∧ ((∃ r, r < pool.length ∧ lm u.dem r ≠ 0 ∧ lm pool r = 0) ∨ ∀ r, r < pool.length → lm u.dem r = 0)) ∨
  (∃ m : Nat, t = m ∧ m < pool.length ∧ 0 < lm u.dem m ∧ 0 < lm pool m ∧ (∀ r, r < pool.length → lm u.dem r ≠ 0 → 0 < lm pool r) ∧ ∀ r, r < pool.length → lm u.dem r * lm pool m ≤ lm u.dem m * lm pool r)
theorem mul_rngs {a b M N : Int} (ha : 0 ≤ a ∧ a ≤ M) (hb : 0 ≤ b ∧ b ≤ N) : 0 ≤ a * b ∧ a * b ≤ M * N :=
  ⟨Int.mul_nonneg ha.1 hb.1, Int.mul_le_mul ha.2 hb.2 hb.1 (by omega)⟩

set_option maxHeartbeats 2000000 in
set_option maxRecDepth 20000 in
theorem ptop_any (po : Option Addr) (pc : Nat) (pool : List Int) (da : Option Addr) (dn dc : Nat) (u : Usr) (w : World) (hp : Arr w 1 po pool.length pc (ints pool)) (hd : Arr w 1 da dn dc (ints u.dem)) (hl : u.dem.length = pool.length) (hpa : ∀ i, amtB (lm pool i) = true) (hda : ∀ i, amtB (lm u.dem i) = true) (hk4 : pool.length ≤ 4) :
    Calls Tryz.prog 36 #[.slice po pool.length pc, .agg #[.slice da dn dc, .int .i64 u.wt, .int .i64 u.cap]] w fun e w' => (∃ t, e = .returned (.int .i64 t) ∧ TopIs pool u t) ∧ Below w.heap.size w w' := by
  have hdl := hd.len
  rw [ints_len, hl] at hdl
  subst hdl
  have HP := hid hp
  have HD := hid hd
  have HPA := hid hpa
  have HDA := hid hda
  clear hp hd hpa hda
  have HB_0 := hid (Below.refl w.heap.size w)
  have XU_1 := hid (bx_new w #[.slice da pool.length dc, .int .i64 u.wt, .int .i64 u.cap] 56)
  have HB_1 : Hid (Below w.heap.size w (w.alloc (.cells #[.slice da pool.length dc, .int .i64 u.wt, .int .i64 u.cap] 56))) := HB_0.out.alloc HB_0.out.size (.cells #[.slice da pool.length dc, .int .i64 u.wt, .int .i64 u.cap] 56)
  have leU : w.heap.size ≤ w.heap.size := HB_0.out.size
  clear HB_0
  go_enter Tryz.func36, Tryz.ntmps36
  go_wp2
  go_loopg [5, 6] pool.length (fun gg s10 ix wr => ∃ (k : Nat) (b : Int), gg = pool.length - k ∧ k ≤ pool.length ∧ ix = .int .i64 k ∧ s10 = .int .i64 b ∧ Hid (BestOk pool u.dem k b) ∧ Hid (Bx wr w.heap.size #[.slice da pool.length dc, .int .i64 u.wt, .int .i64 u.cap] 56) ∧ Hid (Below w.heap.size w wr))
  case atStart => exact ⟨0, -1, rfl, Nat.zero_le _, rfl, rfl, BestOk.zero _ _, XU_1.out, HB_1.out⟩
  case round =>
    clear XU_1 HB_1
    obtain ⟨k, b, hgk, hk, rfl, rfl, hS, hX, hB⟩ := hrel
    have u0 := hX.out.cell 0 _ rfl
    have ltu := hX.out.lt
    by_cases hlt : k < pool.length
    · obtain ⟨db, dof, rfl, hdb⟩ := (HD.out.below hB.out).head (by omega)
      have cd := (HD.out.below hB.out).int rfl hlt
      obtain ⟨pb, pof, rfl, hpb⟩ := (HP.out.below hB.out).head (by omega)
      have cp := (HP.out.below hB.out).int rfl hlt
      have hkp : (k : Int) < (pool.length : Int) := by omega
      have hxr := amt_rng (HDA.out k)
      have hyr := amt_rng (HPA.out k)
      generalize hx : lm u.dem k = x at cd hxr
      have HXE := hid hx
      clear hx
      generalize hy : lm pool k = y at cp hyr
      have HYE := hid hy
      clear hy
      by_cases hx0 : x = 0
      · subst hx0
        go_wp2
        go_roundg (pool.length - (k + 1))
        case measure => omega
        case rel => exact ⟨k + 1, _, rfl, by omega, by go_num, rfl, hS.out.skip HXE.out (by rw [HYE.out]; exact hyr.1), hX.out, hB.out⟩
      · have hxb : (x == 0) = false := beq_eq_false_iff_ne.2 hx0
        by_cases hy0 : y = 0
        · subst hy0
          go_wp2
          go_ret
          exact ⟨⟨-1, rfl, .inl ⟨rfl, .inl ⟨k, hlt, by rw [HXE.out]; exact hx0, HYE.out⟩⟩⟩, hB.out⟩
        · have hyb : (y == 0) = false := beq_eq_false_iff_ne.2 hy0
          obtain ⟨hS1, hS2⟩ := hS.out
          rcases hS2 with ⟨rfl, hS3⟩ | ⟨m, rfl, hm, hdm, hpm, hall⟩
          · clear hS3 hS1
            go_upto_region 8 with fail
            go_quiet (fail)
            go_wp2
            go_roundg (pool.length - (k + 1))
            case measure => omega
            case rel => exact ⟨k + 1, _, rfl, by omega, by go_num, rfl, hS.out.first (fun r => (amt_rng (HPA.out r)).1) (by rw [HXE.out]; omega) (by rw [HYE.out]; omega), hX.out.below (below_drewN (Below.refl _ wr) _) hX.out.lt, below_drewN hB.out _⟩
          · have cdm := (HD.out.below hB.out).int rfl (i := m) (by omega)
            have cpm := (HP.out.below hB.out).int rfl (i := m) (by omega)
            have hmp : (m : Int) < (pool.length : Int) := by omega
            have hm0 : decide ((m : Int) < 0) = false := decide_eq_false (by omega)
            have hzr := amt_rng (HDA.out m)
            have hvr := amt_rng (HPA.out m)
            generalize hz : lm u.dem m = z at cdm hdm hzr
            have HZE := hid hz
            clear hz
            generalize hv : lm pool m = v at cpm hpm hvr
            have HVE := hid hv
            clear hv
            clear hall hS1
            have r1 := mul_rngs hxr hvr
            have r2 := mul_rngs hzr hyr
            have HQ1 : Hid (lm u.dem k * lm pool m = x * v) := by rw [HXE.out, HVE.out]; rfl
            have HQ2 : Hid (lm u.dem m * lm pool k = z * y) := by rw [HZE.out, HYE.out]; rfl
            obtain ⟨P1, hP1⟩ : ∃ P : Int, x * v = P := ⟨_, rfl⟩
            obtain ⟨P2, hP2⟩ : ∃ P : Int, z * y = P := ⟨_, rfl⟩
            rw [hP1] at r1 HQ1
            rw [hP2] at r2 HQ2
            obtain ⟨r11, r12⟩ := r1
            obtain ⟨r21, r22⟩ := r2
            by_cases hc : P2 < P1
            · have HN : Hid (BestOk pool u.dem (k + 1) k) := hS.out.turn (fun r => (amt_rng (HPA.out r)).1) (fun r => (amt_rng (HDA.out r)).1) (by rw [HYE.out]; omega) (by rw [HQ1.out, HQ2.out]; exact hc)
              go_upto_region 8 with fail
              go_quiet (fail)
              go_wp2
              go_roundg (pool.length - (k + 1))
              case measure => omega
              case rel => exact ⟨k + 1, _, rfl, by omega, by go_num, rfl, HN.out, hX.out.below (below_drewN (Below.refl _ wr) _) hX.out.lt, below_drewN hB.out _⟩
            · have HN : Hid (BestOk pool u.dem (k + 1) m) := hS.out.keep (by rw [HYE.out]; omega) (by rw [HQ1.out, HQ2.out]; omega)
              have hcd : decide (P2 < P1) = false := decide_eq_false hc
              go_upto_region 8 with fail
              go_quiet (fail)
              go_wp2
              go_roundg (pool.length - (k + 1))
              case measure => omega
              case rel => exact ⟨k + 1, _, rfl, by omega, by go_num, rfl, HN.out, hX.out.below (below_drewN (Below.refl _ wr) _) hX.out.lt, below_drewN hB.out _⟩
    · obtain rfl : k = pool.length := by omega
      have HT : Hid (TopIs pool u b) := by
        obtain ⟨hS1, hS2⟩ := hS.out
        rcases hS2 with ⟨rfl, hS3⟩ | ⟨m, rfl, hm, hdm, hpm, hall⟩
        · exact .inl ⟨rfl, .inr hS3⟩
        · exact .inr ⟨m, rfl, hm, hdm, hpm, hS1, hall⟩
      go_wp2
      go_ret
      exact ⟨⟨b, rfl, HT.out⟩, hB.out⟩

set_option maxHeartbeats 2000000 in
set_option maxRecDepth 20000 in
theorem pmatch_any (ao bo co eo : Option Addr) (na ca nb cb nc cc nd cd : Nat) (A B C D : Nat) (w : World) (h1 : Row w ao na ca (limbs A)) (h2 : Row w bo nb cb (limbs B)) (h3 : Row w co nc cc (limbs C)) (h4 : Row w eo nd cd (limbs D)) (b1 : na ≤ 10000) (b2 : nb ≤ 10000) (b3 : nc ≤ 10000) (b4 : nd ≤ 10000) :
    Calls Tryz.prog 86 #[.slice ao na ca, .slice bo nb cb, .slice co nc cc, .slice eo nd cd] w fun e w' => e = .returned (.int .i64 (cmp3 (A * D : Nat) (C * B : Nat))) ∧ Below w.heap.size w w' := by
  have h1l := h1.len
  have h2l := h2.len
  have h3l := h3.len
  have h4l := h4.len
  have H1 := hid h1
  have H2 := hid h2
  have H3 := hid h3
  have H4 := hid h4
  clear h1 h2 h3 h4
  have H1L := hid h1l
  have H2L := hid h2l
  have H3L := hid h3l
  have H4L := hid h4l
  clear h1l h2l h3l h4l
  have HB_0 := hid (Below.refl w.heap.size w)
  go_enter Tryz.func86, Tryz.ntmps86
  go_wp2_with fail
  refine (ptimes_any ao eo na ca nd cd A D _ H1.out H4.out (by omega) (by omega)).mono ?_
  rintro ex wx ⟨vx, rfl, ⟨xo, xn, xc, rfl, hxr, _⟩, hbx⟩
  have Ra_6 := hid (H1.out.below hbx)
  have Rb_6 := hid (H2.out.below hbx)
  have Rc_6 := hid (H3.out.below hbx)
  have Rd_6 := hid (H4.out.below hbx)
  have HB_6 : Hid (Below w.heap.size w wx) := HB_0.out.trans (hbx.mono HB_0.out.size)
  clear H1 H2 H3 H4 HB_0
  have HxR := hid hxr
  have lx := hxr.len
  clear hxr hbx
  have lx2 := len_mul A D
  have la := H1L.out
  have lb := H2L.out
  have lc := H3L.out
  have ld := H4L.out
  go_wp2_with fail
  refine (ptimes_any co bo nc cc nb cb C B _ Rc_6.out Rb_6.out (by omega) (by omega)).mono ?_
  rintro ey wy ⟨vy, rfl, ⟨yo, yn, yc, rfl, hyr, _⟩, hby⟩
  have Ra_7 := hid (Ra_6.out.below hby)
  have Rb_7 := hid (Rb_6.out.below hby)
  have Rc_7 := hid (Rc_6.out.below hby)
  have Rd_7 := hid (Rd_6.out.below hby)
  have Rx_7 := hid (HxR.out.below hby)
  have HB_7 : Hid (Below w.heap.size w wy) := HB_6.out.trans (hby.mono HB_6.out.size)
  clear Ra_6 Rb_6 Rc_6 Rd_6 HxR HB_6
  have HyR := hid hyr
  have ly := hyr.len
  clear hyr hby
  have ly2 := len_mul C B
  go_wp2_with fail
  refine (pcmp_any xo yo xn xc yn yc (A * D) (C * B) _ Rx_7.out HyR.out (by omega) (by omega)).mono ?_
  rintro e9 w9 ⟨rfl, hb9⟩
  have Ra_8 := hid (Ra_7.out.below hb9)
  have Rb_8 := hid (Rb_7.out.below hb9)
  have Rc_8 := hid (Rc_7.out.below hb9)
  have Rd_8 := hid (Rd_7.out.below hb9)
  have Rx_8 := hid (Rx_7.out.below hb9)
  have Ry_8 := hid (HyR.out.below hb9)
  have HB_8 : Hid (Below w.heap.size w w9) := HB_7.out.trans (hb9.mono HB_7.out.size)
  clear Ra_7 Rb_7 Rc_7 Rd_7 Rx_7 HyR HB_7
  clear hb9
  go_wp2
  go_ret
  exact ⟨rfl, HB_8.out⟩

end Go.Proofs.YtigokanoflkinaaGreatDoor
