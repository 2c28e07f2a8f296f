/- RRis, RRisB, RRisC, RRisD, RRisE, joined. -/
import Derived.Test.YtigokanoflkinaaGreatDoorRLst
import Derived.Test.YtigokanoflkinaaGreatDoorMBest
import Derived.Test.YtigokanoflkinaaGreatDoorRErr
import Derived.Deep.RegionHeld3
import Derived.Deep.DeepCutAuto
/- portionref top, match, and the rise in memory: left, pull. (Laid by mkrise.py.) -/
namespace Go.Proofs.YtigokanoflkinaaGreatDoor
set_option linter.unusedSimpArgs false
set_option linter.unusedVariables false
open Go.RowKit Por

/-- what top finds -/
def TopIs (pool : List Int) (u : Usr) (t : Int) : Prop :=
  (t = -1 ∧ ((∃ r, r < pool.length ∧ lm u.dem r ≠ 0 ∧ lm pool r = 0) ∨ ∀ r, r < pool.length → lm u.dem r = 0)) ∨
  (∃ m : Nat, t = m ∧ m < pool.length ∧ 0 < lm u.dem m ∧ 0 < lm pool m ∧ (∀ r, r < pool.length → lm u.dem r ≠ 0 → 0 < lm pool r) ∧ ∀ r, r < pool.length → lm u.dem r * lm pool m ≤ lm u.dem m * lm pool r)
theorem mul_rngs {a b M N : Int} (ha : 0 ≤ a ∧ a ≤ M) (hb : 0 ≤ b ∧ b ≤ N) : 0 ≤ a * b ∧ a * b ≤ M * N :=
  ⟨Int.mul_nonneg ha.1 hb.1, Int.mul_le_mul ha.2 hb.2 hb.1 (by omega)⟩

set_option maxHeartbeats 2000000 in
set_option maxRecDepth 20000 in
theorem ptop_any (po : Option Addr) (pc : Nat) (pool : List Int) (da : Option Addr) (dn dc : Nat) (u : Usr) (w : World) (hp : Arr w 1 po pool.length pc (ints pool)) (hd : Arr w 1 da dn dc (ints u.dem)) (hl : u.dem.length = pool.length) (hpa : ∀ i, amtB (lm pool i) = true) (hda : ∀ i, amtB (lm u.dem i) = true) (hk4 : pool.length ≤ 4) :
    Calls Tryz.prog 36 #[.slice po pool.length pc, .agg #[.slice da dn dc, .int .i64 u.wt, .int .i64 u.cap]] w fun e w' => (∃ t, e = .returned (.int .i64 t) ∧ TopIs pool u t) ∧ Below w.heap.size w w' := by
  have hdl := hd.len
  rw [ints_len, hl] at hdl
  subst hdl
  have HP := hid hp
  have HD := hid hd
  have HPA := hid hpa
  have HDA := hid hda
  clear hp hd hpa hda
  have HB_0 := hid (Below.refl w.heap.size w)
  have XU_1 := hid (bx_new w #[.slice da pool.length dc, .int .i64 u.wt, .int .i64 u.cap] 56)
  have HB_1 : Hid (Below w.heap.size w (w.alloc (.cells #[.slice da pool.length dc, .int .i64 u.wt, .int .i64 u.cap] 56))) := HB_0.out.alloc HB_0.out.size (.cells #[.slice da pool.length dc, .int .i64 u.wt, .int .i64 u.cap] 56)
  have leU : w.heap.size ≤ w.heap.size := HB_0.out.size
  clear HB_0
  go_enter Tryz.func36, Tryz.ntmps36
  go_wp2
  go_loopg [5, 6] pool.length (fun gg s10 ix wr => ∃ (k : Nat) (b : Int), gg = pool.length - k ∧ k ≤ pool.length ∧ ix = .int .i64 k ∧ s10 = .int .i64 b ∧ Hid (BestOk pool u.dem k b) ∧ Hid (Bx wr w.heap.size #[.slice da pool.length dc, .int .i64 u.wt, .int .i64 u.cap] 56) ∧ Hid (Below w.heap.size w wr))
  case atStart => exact ⟨0, -1, rfl, Nat.zero_le _, rfl, rfl, BestOk.zero _ _, XU_1.out, HB_1.out⟩
  case round =>
    clear XU_1 HB_1
    obtain ⟨k, b, hgk, hk, rfl, rfl, hS, hX, hB⟩ := hrel
    have u0 := hX.out.cell 0 _ rfl
    have ltu := hX.out.lt
    by_cases hlt : k < pool.length
    · obtain ⟨db, dof, rfl, hdb⟩ := (HD.out.below hB.out).head (by omega)
      have cd := (HD.out.below hB.out).int rfl hlt
      obtain ⟨pb, pof, rfl, hpb⟩ := (HP.out.below hB.out).head (by omega)
      have cp := (HP.out.below hB.out).int rfl hlt
      have hkp : (k : Int) < (pool.length : Int) := by omega
      have hxr := amt_rng (HDA.out k)
      have hyr := amt_rng (HPA.out k)
      generalize hx : lm u.dem k = x at cd hxr
      have HXE := hid hx
      clear hx
      generalize hy : lm pool k = y at cp hyr
      have HYE := hid hy
      clear hy
      by_cases hx0 : x = 0
      · subst hx0
        go_wp2
        go_roundg (pool.length - (k + 1))
        case measure => omega
        case rel => exact ⟨k + 1, _, rfl, by omega, by go_num, rfl, hS.out.skip HXE.out (by rw [HYE.out]; exact hyr.1), hX.out, hB.out⟩
      · have hxb : (x == 0) = false := beq_eq_false_iff_ne.2 hx0
        by_cases hy0 : y = 0
        · subst hy0
          go_wp2
          go_ret
          exact ⟨⟨-1, rfl, .inl ⟨rfl, .inl ⟨k, hlt, by rw [HXE.out]; exact hx0, HYE.out⟩⟩⟩, hB.out⟩
        · have hyb : (y == 0) = false := beq_eq_false_iff_ne.2 hy0
          obtain ⟨hS1, hS2⟩ := hS.out
          rcases hS2 with ⟨rfl, hS3⟩ | ⟨m, rfl, hm, hdm, hpm, hall⟩
          · clear hS3 hS1
            go_upto_region 8 with fail
            go_quiet (fail)
            go_wp2
            go_roundg (pool.length - (k + 1))
            case measure => omega
            case rel => exact ⟨k + 1, _, rfl, by omega, by go_num, rfl, hS.out.first (fun r => (amt_rng (HPA.out r)).1) (by rw [HXE.out]; omega) (by rw [HYE.out]; omega), hX.out.below (below_drewN (Below.refl _ wr) _) hX.out.lt, below_drewN hB.out _⟩
          · have cdm := (HD.out.below hB.out).int rfl (i := m) (by omega)
            have cpm := (HP.out.below hB.out).int rfl (i := m) (by omega)
            have hmp : (m : Int) < (pool.length : Int) := by omega
            have hm0 : decide ((m : Int) < 0) = false := decide_eq_false (by omega)
            have hzr := amt_rng (HDA.out m)
            have hvr := amt_rng (HPA.out m)
            generalize hz : lm u.dem m = z at cdm hdm hzr
            have HZE := hid hz
            clear hz
            generalize hv : lm pool m = v at cpm hpm hvr
            have HVE := hid hv
            clear hv
            clear hall hS1
            have r1 := mul_rngs hxr hvr
            have r2 := mul_rngs hzr hyr
            have HQ1 : Hid (lm u.dem k * lm pool m = x * v) := by rw [HXE.out, HVE.out]; rfl
            have HQ2 : Hid (lm u.dem m * lm pool k = z * y) := by rw [HZE.out, HYE.out]; rfl
            obtain ⟨P1, hP1⟩ : ∃ P : Int, x * v = P := ⟨_, rfl⟩
            obtain ⟨P2, hP2⟩ : ∃ P : Int, z * y = P := ⟨_, rfl⟩
            rw [hP1] at r1 HQ1
            rw [hP2] at r2 HQ2
            obtain ⟨r11, r12⟩ := r1
            obtain ⟨r21, r22⟩ := r2
            by_cases hc : P2 < P1
            · have HN : Hid (BestOk pool u.dem (k + 1) k) := hS.out.turn (fun r => (amt_rng (HPA.out r)).1) (fun r => (amt_rng (HDA.out r)).1) (by rw [HYE.out]; omega) (by rw [HQ1.out, HQ2.out]; exact hc)
              go_upto_region 8 with fail
              go_quiet (fail)
              go_wp2
              go_roundg (pool.length - (k + 1))
              case measure => omega
              case rel => exact ⟨k + 1, _, rfl, by omega, by go_num, rfl, HN.out, hX.out.below (below_drewN (Below.refl _ wr) _) hX.out.lt, below_drewN hB.out _⟩
            · have HN : Hid (BestOk pool u.dem (k + 1) m) := hS.out.keep (by rw [HYE.out]; omega) (by rw [HQ1.out, HQ2.out]; omega)
              have hcd : decide (P2 < P1) = false := decide_eq_false hc
              go_upto_region 8 with fail
              go_quiet (fail)
              go_wp2
              go_roundg (pool.length - (k + 1))
              case measure => omega
              case rel => exact ⟨k + 1, _, rfl, by omega, by go_num, rfl, HN.out, hX.out.below (below_drewN (Below.refl _ wr) _) hX.out.lt, below_drewN hB.out _⟩
    · obtain rfl : k = pool.length := by omega
      have HT : Hid (TopIs pool u b) := by
        obtain ⟨hS1, hS2⟩ := hS.out
        rcases hS2 with ⟨rfl, hS3⟩ | ⟨m, rfl, hm, hdm, hpm, hall⟩
        · exact .inl ⟨rfl, .inr hS3⟩
        · exact .inr ⟨m, rfl, hm, hdm, hpm, hS1, hall⟩
      go_wp2
      go_ret
      exact ⟨⟨b, rfl, HT.out⟩, hB.out⟩

set_option maxHeartbeats 2000000 in
set_option maxRecDepth 20000 in
theorem pmatch_any (ao bo co eo : Option Addr) (na ca nb cb nc cc nd cd : Nat) (A B C D : Nat) (w : World) (h1 : Row w ao na ca (limbs A)) (h2 : Row w bo nb cb (limbs B)) (h3 : Row w co nc cc (limbs C)) (h4 : Row w eo nd cd (limbs D)) (b1 : na ≤ 10000) (b2 : nb ≤ 10000) (b3 : nc ≤ 10000) (b4 : nd ≤ 10000) :
    Calls Tryz.prog 86 #[.slice ao na ca, .slice bo nb cb, .slice co nc cc, .slice eo nd cd] w fun e w' => e = .returned (.int .i64 (cmp3 (A * D : Nat) (C * B : Nat))) ∧ Below w.heap.size w w' := by
  have h1l := h1.len
  have h2l := h2.len
  have h3l := h3.len
  have h4l := h4.len
  have H1 := hid h1
  have H2 := hid h2
  have H3 := hid h3
  have H4 := hid h4
  clear h1 h2 h3 h4
  have H1L := hid h1l
  have H2L := hid h2l
  have H3L := hid h3l
  have H4L := hid h4l
  clear h1l h2l h3l h4l
  have HB_0 := hid (Below.refl w.heap.size w)
  go_enter Tryz.func86, Tryz.ntmps86
  go_wp2_with fail
  refine (ptimes_any ao eo na ca nd cd A D _ H1.out H4.out (by omega) (by omega)).mono ?_
  rintro ex wx ⟨vx, rfl, ⟨xo, xn, xc, rfl, hxr, _⟩, hbx⟩
  have Ra_6 := hid (H1.out.below hbx)
  have Rb_6 := hid (H2.out.below hbx)
  have Rc_6 := hid (H3.out.below hbx)
  have Rd_6 := hid (H4.out.below hbx)
  have HB_6 : Hid (Below w.heap.size w wx) := HB_0.out.trans (hbx.mono HB_0.out.size)
  clear H1 H2 H3 H4 HB_0
  have HxR := hid hxr
  have lx := hxr.len
  clear hxr hbx
  have lx2 := len_mul A D
  have la := H1L.out
  have lb := H2L.out
  have lc := H3L.out
  have ld := H4L.out
  go_wp2_with fail
  refine (ptimes_any co bo nc cc nb cb C B _ Rc_6.out Rb_6.out (by omega) (by omega)).mono ?_
  rintro ey wy ⟨vy, rfl, ⟨yo, yn, yc, rfl, hyr, _⟩, hby⟩
  have Ra_7 := hid (Ra_6.out.below hby)
  have Rb_7 := hid (Rb_6.out.below hby)
  have Rc_7 := hid (Rc_6.out.below hby)
  have Rd_7 := hid (Rd_6.out.below hby)
  have Rx_7 := hid (HxR.out.below hby)
  have HB_7 : Hid (Below w.heap.size w wy) := HB_6.out.trans (hby.mono HB_6.out.size)
  clear Ra_6 Rb_6 Rc_6 Rd_6 HxR HB_6
  have HyR := hid hyr
  have ly := hyr.len
  clear hyr hby
  have ly2 := len_mul C B
  go_wp2_with fail
  refine (pcmp_any xo yo xn xc yn yc (A * D) (C * B) _ Rx_7.out HyR.out (by omega) (by omega)).mono ?_
  rintro e9 w9 ⟨rfl, hb9⟩
  have Ra_8 := hid (Ra_7.out.below hb9)
  have Rb_8 := hid (Rb_7.out.below hb9)
  have Rc_8 := hid (Rc_7.out.below hb9)
  have Rd_8 := hid (Rd_7.out.below hb9)
  have Rx_8 := hid (Rx_7.out.below hb9)
  have Ry_8 := hid (HyR.out.below hb9)
  have HB_8 : Hid (Below w.heap.size w w9) := HB_7.out.trans (hb9.mono HB_7.out.size)
  clear Ra_7 Rb_7 Rc_7 Rd_7 Rx_7 HyR HB_7
  clear hb9
  go_wp2
  go_ret
  exact ⟨rfl, HB_8.out⟩

end Go.Proofs.YtigokanoflkinaaGreatDoor

/- The rise of the reference in memory: left, pull. (Laid by mkriseb.py.) -/
namespace Go.Proofs.YtigokanoflkinaaGreatDoor
set_option linter.unusedSimpArgs false
set_option linter.unusedVariables false
open Go.RowKit Por

/-- where a rise lies, and what it is of -/
structure RD where
  w0 : World
  po : Option Addr
  pc : Nat
  pool : List Int
  ao : Option Addr
  cap : Nat
  us : List Usr
  pb : Nat
  B1 : Nat
  B2 : Nat
/-- the problem in whole numbers -/
def RD.a (d : RD) : NProb := ⟨d.us.length, d.pool.length, fun r => (lm d.pool r).toNat, fun i r => (lm (ug d.us i).dem r).toNat, fun i => (ug d.us i).wt.toNat, fun i => (ug d.us i).cap.toNat⟩
abbrev RD.cells (d : RD) (vt vg vh vs : Value) (qo : Option Addr) (qn qc : Nat) : Array Value := #[.slice d.po d.pool.length d.pc, .slice d.ao d.us.length d.cap, vt, vg, vh, vs, .slice qo qn qc]
/-- what the rise holds: tops, growths, what users have, who grows, the measure -/
structure RV where
  tl : List Int
  gl : List Nat
  hl : List Nat
  sl : List Bool
  q : Nat
def RV.R (s : RV) : RS := ⟨bn s.sl, nn s.hl, s.q⟩
structure RisM (w : World) (d : RD) (s : RV) : Prop where
  box : ∃ vt vg vh vs qo qn qc, Bx w d.pb (d.cells vt vg vh vs qo qn qc) 75 ∧ Own d.B1 w vt s.tl ∧ NLs d.B2 w vg s.gl ∧ NLs d.B1 w vh s.hl ∧ BLs d.B1 w vs s.sl ∧ Row w qo qn qc (limbs s.q) ∧ ∀ b n c, vh = .slice (some ⟨b, 0, none⟩) n c → b < d.B2
  p0 : Arr d.w0 1 d.po d.pool.length d.pc (ints d.pool)
  u0 : Users d.w0 d.ao d.us.length d.cap d.us
  bel : Below d.w0.heap.size d.w0 w
  low : d.w0.heap.size ≤ d.pb
  ord : d.pb < d.B1 ∧ d.B1 ≤ d.B2
theorem RisM.pool {w : World} {d : RD} {s : RV} (h : RisM w d s) : Arr w 1 d.po d.pool.length d.pc (ints d.pool) := h.p0.below h.bel
theorem RisM.users {w : World} {d : RD} {s : RV} (h : RisM w d s) : Users w d.ao d.us.length d.cap d.us := h.u0.below h.bel
theorem RisM.below {w w' : World} {d : RD} {s : RV} (h : RisM w d s) (hb : Below w.heap.size w w') : RisM w' d s := by
  obtain ⟨⟨vt, vg, vh, vs, qo, qn, qc, h1, h2, h3, h4, h5, h6, h7⟩, h8, h9, h10, h11, h12⟩ := h
  exact ⟨⟨vt, vg, vh, vs, qo, qn, qc, h1.below hb h1.lt, h2.below hb, h3.below hb, h4.below hb, h5.below hb, h6.below hb, h7⟩, h8, h9, h10.trans (hb.mono h10.size), h11, h12⟩
/-- what is the same throughout -/
structure RD.Ok (d : RD) : Prop where
  good : Good d.us d.pool.length
  pool : ∀ i, amtB (lm d.pool i) = true
  n6 : d.us.length ≤ 6
  k1 : 1 ≤ d.pool.length
  k4 : d.pool.length ≤ 4
/-- the lists are as long as there are users; nothing is long -/
structure RV.Ok (s : RV) (d : RD) : Prop where
  tl : s.tl.length = d.us.length
  gl : s.gl.length = d.us.length
  hl : s.hl.length = d.us.length
  sl : s.sl.length = d.us.length
  q : (limbs s.q).length ≤ 300
  hs : ∀ i, i < d.us.length → (limbs (nn s.hl i)).length ≤ 300
  gs : ∀ i, i < d.us.length → (limbs (nn s.gl i)).length ≤ 8
theorem RD.P_eq {d : RD} (h : d.Ok) (r : Nat) : lm d.pool r = ((d.a.P r : Nat) : Int) := by
  have := amt_rng (h.pool r)
  show lm d.pool r = (((lm d.pool r).toNat : Nat) : Int); omega
theorem RD.D_eq {d : RD} (h : d.Ok) {i : Nat} (hi : i < d.us.length) (r : Nat) : lm (ug d.us i).dem r = ((d.a.D i r : Nat) : Int) := by
  have := amt_rng (h.good.dem hi r)
  show lm (ug d.us i).dem r = (((lm (ug d.us i).dem r).toNat : Nat) : Int); omega
theorem RD.P_le {d : RD} (h : d.Ok) (r : Nat) : d.a.P r ≤ 10000 := by have := amt_rng (h.pool r); have := d.P_eq h r; omega
theorem RD.D_le {d : RD} (h : d.Ok) {i : Nat} (hi : i < d.us.length) (r : Nat) : d.a.D i r ≤ 10000 := by have := amt_rng (h.good.dem hi r); have := d.D_eq h hi r; omega
theorem leftT_zero (a : NProb) (R : RS) (r : Nat) : leftT a R r 0 = a.P r * R.q := rfl
theorem leftT_still {a : NProb} {R : RS} {r i : Nat} (h : R.still i = true) : leftT a R r (i + 1) = leftT a R r i := by simp [leftT, h]
theorem leftT_stop {a : NProb} {R : RS} {r i : Nat} (h : R.still i = false) : leftT a R r (i + 1) = leftT a R r i - a.D i r * R.hv i := by simp [leftT, h]
theorem leftT_le (a : NProb) (R : RS) (r : Nat) : ∀ i, leftT a R r i ≤ a.P r * R.q := by
  intro i
  induction i with
  | zero => exact Nat.le_refl _
  | succ i ih =>
    cases h : R.still i with
    | true => rw [leftT_still h]; exact ih
    | false => rw [leftT_stop h]; omega

theorem len_sml {N : Nat} (h : N ≤ 10000) : (limbs N).length ≤ 2 := by
  have := len_mono (a := N) (b := 10000) h
  have e : (limbs 10000).length = 2 := by decide
  omega
set_option maxHeartbeats 20000000 in
set_option maxRecDepth 20000 in
theorem pleft_any (d : RD) (s : RV) (r : Nat) (w : World) (h : RisM w d s) (ho : d.Ok) (hs : s.Ok d) (hr : r < d.pool.length) (hle : ∀ i, i < d.us.length → bn s.sl i = false → d.a.D i r * nn s.hl i ≤ leftT d.a s.R r i) :
    Calls Tryz.prog 85 #[.pointer (some ⟨d.pb, 0, none⟩), .int .i64 r] w fun e w' => ∃ xo xn xc, e = .returned (.slice xo xn xc) ∧ Row w' xo xn xc (limbs (lft d.a s.R r)) ∧ xn ≤ 302 ∧ Below w.heap.size w w' := by
  obtain ⟨N, hN⟩ : ∃ N : Nat, lm d.pool r = (N : Int) ∧ N = d.a.P r := ⟨_, d.P_eq ho r, rfl⟩
  have hN2 : N ≤ 10000 := by rw [hN.2]; exact d.P_le ho r
  have hk4 := ho.k4
  have hn6 := ho.n6
  have HN := hid hN
  clear hN
  have H := hid h
  have HO := hid ho
  have HS := hid hs
  have HLE := hid hle
  clear h ho hs hle
  have HB_0 := hid (Below.refl w.heap.size w)
  go_enter Tryz.func85, Tryz.ntmps85
  have hrp : (r : Int) < (d.pool.length : Int) := by omega
  obtain ⟨vt, vg, vh, vs, qo, qn, qc, hbx, hot, hog, hoh, hos, hoq, hlt_⟩ := (H.out.below HB_0.out).box
  have bl := hbx.lt
  obtain ⟨ppb, pof, hpo, hppb⟩ := H.out.pool.head (by omega)
  have cp := H.out.pool.int hpo hr
  have c0 : w.cell? ⟨d.pb, 0, none⟩ = some (.slice d.po d.pool.length d.pc) := hbx.cell 0 _ rfl
  have c6 : w.cell? ⟨d.pb, 6, none⟩ = some (.slice qo qn qc) := hbx.cell 6 _ rfl
  rw [hpo] at c0
  rw [HN.out.1] at cp
  have HQ := hid hoq
  have lq := hoq.len
  have lq2 := HS.out.q
  clear hbx hot hog hoh hos hoq hlt_
  go_upto_region 1 with fail
  have SK : Hid (∀ U, Below w.heap.size w U → U.cell? ⟨d.pb, 0, none⟩ = some (.slice (some ⟨ppb, pof, none⟩) d.pool.length d.pc) ∧ U.cell? ⟨ppb, pof + r, none⟩ = some (.int .i64 (N : Int)) ∧ U.cell? ⟨d.pb, 6, none⟩ = some (.slice qo qn qc)) := fun U h => ⟨(h.cell (p := ⟨d.pb, 0, none⟩) bl).trans c0, (h.cell (p := ⟨ppb, pof + r, none⟩) hppb).trans cp, (h.cell (p := ⟨d.pb, 6, none⟩) bl).trans c6⟩
  have dc0 : w.drew.cell? ⟨d.pb, 0, none⟩ = some (.slice (some ⟨ppb, pof, none⟩) d.pool.length d.pc) := ((Below.refl w.heap.size w).drew.cell (p := ⟨d.pb, 0, none⟩) bl).trans c0
  have dcp : w.drew.cell? ⟨ppb, pof + r, none⟩ = some (.int .i64 (N : Int)) := ((Below.refl w.heap.size w).drew.cell (p := ⟨ppb, pof + r, none⟩) hppb).trans cp
  have dc6 : w.drew.cell? ⟨d.pb, 6, none⟩ = some (.slice qo qn qc) := ((Below.refl w.heap.size w).drew.cell (p := ⟨d.pb, 6, none⟩) bl).trans c6
  go_region_held3 (fun w' => w'.cell? ⟨d.pb, 0, none⟩ = some (.slice (some ⟨ppb, pof, none⟩) d.pool.length d.pc) ∧ w'.cell? ⟨ppb, pof + r, none⟩ = some (.int .i64 (N : Int)) ∧ w'.cell? ⟨d.pb, 6, none⟩ = some (.slice qo qn qc)) (first | exact SK.out _ (Below.refl _ _).drew | exact SK.out _ hv6g0 | exact SK.out _ hv6g1)
    (first | (go_at_call 37; refine (ptimes_any wo qo wn wc qn qc N s.q _ HWR.out (HQ.out.below hv6g0) (by omega) (by omega)).mono ?_; rintro e6g1 w6g1 ⟨v2, rfl, ⟨xo, xn, xc, rfl, hxr, _⟩, hb6g1⟩; have hv6g1 : Below w.heap.size w w6g1 := hv6g0.trans (hb6g1.mono (hv6g0).size); clear hb6g1; have lx : xn ≤ 302 := (by rw [← hxr.len]; have h9 := len_mul N s.q; have h8 := len_sml hN2; omega); have HXR := hid hxr; clear hxr) | (go_at_call 35; refine (pwhole_any N _ (by omega)).mono ?_; rintro e6g0 w6g0 ⟨v1, rfl, ⟨wo, wn, wc, rfl, hwr, _⟩, hb6g0⟩; have hv6g0 : Below w.heap.size w w6g0 := (Below.refl w.heap.size w).drew.trans (hb6g0.mono ((Below.refl w.heap.size w).drew).size); clear hb6g0; have lw : wn ≤ 2 := (by rw [← hwr.len]; exact len_sml hN2); have HWR := hid hwr; clear hwr))
  clear SK dc0 dcp dc6
  have HB_7 : Hid (Below w.heap.size w w6g1) := HB_0.out.trans (hv6g1.mono HB_0.out.size)
  clear HB_0
  clear c0 cp c6 bl
  have HXR2 : Hid (Row w6g1 xo xn xc (limbs (leftT d.a s.R r 0))) := by rw [leftT_zero, ← HN.out.2]; exact HXR.out
  clear HXR HWR
  go_wp2
  go_loopg [5, 6] d.us.length (fun gg s5 ix wr => ∃ (i : Nat) (xo : Option Addr) (xn xc : Nat), gg = d.us.length - i ∧ i ≤ d.us.length ∧ ix = .int .i64 i ∧ s5 = .slice xo xn xc ∧ Hid (Row wr xo xn xc (limbs (leftT d.a s.R r i))) ∧ Hid (Below w.heap.size w wr))
  case atStart => exact ⟨0, _, _, _, rfl, Nat.zero_le _, rfl, rfl, HXR2.out, HB_7.out⟩
  case round =>
    clear HXR2 HB_7
    skip
    obtain ⟨i, yo, yn, yc, hgi, hi, rfl, rfl, hY, hB⟩ := hrel
    have ly : yn ≤ 302 := by rw [← hY.out.len]; have h9 := len_mono (leftT_le d.a s.R r i); have h8 := len_mul (d.a.P r) s.q; have h7 := len_sml (d.P_le HO.out r); have h6 := HS.out.q; have e6 : s.R.q = s.q := rfl; rw [e6] at h9; omega
    obtain ⟨vt2, vg2, vh2, vs2, qo2, qn2, qc2, hbx2, hot2, hog2, hoh2, hos2, hoq2, hlt2_⟩ := (H.out.below hB.out).box
    have bl2 := hbx2.lt
    have e1 : wr.cell? ⟨d.pb, 1, none⟩ = some (.slice d.ao d.us.length d.cap) := hbx2.cell 1 _ rfl
    by_cases hit : i < d.us.length
    · have hin : (i : Int) < (d.us.length : Int) := by omega
      have e5 : wr.cell? ⟨d.pb, 5, none⟩ = some vs2 := hbx2.cell 5 _ rfl
      have e4 : wr.cell? ⟨d.pb, 4, none⟩ = some vh2 := hbx2.cell 4 _ rfl
      have hsl := HS.out.sl
      have hhl := HS.out.hl
      obtain ⟨so, sc, rfl⟩ := hos2.shape
      rw [hsl] at hos2 e5
      obtain ⟨sb, rfl, hsb, cs, _⟩ := hos2.get (i := i) (by omega)
      rw [Nat.zero_add] at cs
      obtain ⟨hoo, hc, rfl⟩ := hoh2.shape
      rw [hhl] at hoh2 e4
      obtain ⟨hb_, ha, hk_, hcap, rfl, hhb, ch, _, hrow⟩ := hoh2.get (i := i) (by omega)
      rw [Nat.zero_add] at ch
      have HROW := hid hrow
      have lrow := hrow.len
      have lrow2 := HS.out.hs i hit
      clear hrow hbx2 hot2 hog2 hoh2 hos2 hoq2 hlt2_
      obtain ⟨ub, uo, da, dn, dc, hao, hbl, a0, a1, a2, hd⟩ := (H.out.users.below hB.out).get hit
      rw [hao] at e1
      have hdl := hd.len
      rw [ints_len, HO.out.good.len hit] at hdl
      subst hdl
      obtain ⟨db, dof, hdo, hdb⟩ := hd.head (by omega)
      have cd := hd.int hdo hr
      subst hdo
      clear a1 a2 hd
      obtain ⟨M, hM⟩ : ∃ M : Nat, lm (ug d.us i).dem r = (M : Int) ∧ M = d.a.D i r := ⟨_, d.D_eq HO.out hit r, rfl⟩
      rw [hM.1] at cd
      have hM2 : M ≤ 10000 := by rw [hM.2]; exact d.D_le HO.out hit r
      have HMD := hid hM.2
      clear hM
      cases hst : bn s.sl i with
      | true =>
        have HE : Hid (leftT d.a s.R r (i + 1) = leftT d.a s.R r i) := leftT_still hst
        go_wp2
        go_roundg (d.us.length - (i + 1))
        case measure => omega
        case rel => exact ⟨i + 1, yo, yn, yc, rfl, by omega, by go_num, rfl, by rw [HE.out]; exact hY.out, hB.out⟩
      | false =>
        have HE : Hid (leftT d.a s.R r (i + 1) = leftT d.a s.R r i - M * nn s.hl i) := by rw [Hid, leftT_stop hst, HMD.out]; rfl
        have HL2 : Hid (M * nn s.hl i ≤ leftT d.a s.R r i) := by have h9 := HLE.out i hit hst; rw [HMD.out]; exact h9
        go_upto_region 6 with fail
        have SK : Hid (∀ U, Below wr.heap.size wr U → U.cell? ⟨d.pb, 1, none⟩ = some (.slice (some ⟨ub, uo, none⟩) d.us.length d.cap) ∧ U.cell? ⟨ub, uo + i * 3, none⟩ = some (.slice (some ⟨db, dof, none⟩) d.pool.length dc) ∧ U.cell? ⟨db, dof + r, none⟩ = some (.int .i64 (M : Int)) ∧ U.cell? ⟨d.pb, 4, none⟩ = some (.slice (some ⟨hb_, 0, none⟩) d.us.length hc) ∧ U.cell? ⟨hb_, i, none⟩ = some (.slice ha hk_ hcap)) := fun U h => ⟨(h.cell (p := ⟨d.pb, 1, none⟩) bl2).trans e1, (h.cell (p := ⟨ub, uo + i * 3, none⟩) hbl).trans a0, (h.cell (p := ⟨db, dof + r, none⟩) hdb).trans cd, (h.cell (p := ⟨d.pb, 4, none⟩) bl2).trans e4, (h.cell (p := ⟨hb_, i, none⟩) hhb).trans ch⟩
        have de1 : wr.drew.cell? ⟨d.pb, 1, none⟩ = some (.slice (some ⟨ub, uo, none⟩) d.us.length d.cap) := ((Below.refl wr.heap.size wr).drew.cell (p := ⟨d.pb, 1, none⟩) bl2).trans e1
        have da0 : wr.drew.cell? ⟨ub, uo + i * 3, none⟩ = some (.slice (some ⟨db, dof, none⟩) d.pool.length dc) := ((Below.refl wr.heap.size wr).drew.cell (p := ⟨ub, uo + i * 3, none⟩) hbl).trans a0
        have dcd : wr.drew.cell? ⟨db, dof + r, none⟩ = some (.int .i64 (M : Int)) := ((Below.refl wr.heap.size wr).drew.cell (p := ⟨db, dof + r, none⟩) hdb).trans cd
        have de4 : wr.drew.cell? ⟨d.pb, 4, none⟩ = some (.slice (some ⟨hb_, 0, none⟩) d.us.length hc) := ((Below.refl wr.heap.size wr).drew.cell (p := ⟨d.pb, 4, none⟩) bl2).trans e4
        have dch : wr.drew.cell? ⟨hb_, i, none⟩ = some (.slice ha hk_ hcap) := ((Below.refl wr.heap.size wr).drew.cell (p := ⟨hb_, i, none⟩) hhb).trans ch
        go_region_held3 (fun w' => w'.cell? ⟨d.pb, 1, none⟩ = some (.slice (some ⟨ub, uo, none⟩) d.us.length d.cap) ∧ w'.cell? ⟨ub, uo + i * 3, none⟩ = some (.slice (some ⟨db, dof, none⟩) d.pool.length dc) ∧ w'.cell? ⟨db, dof + r, none⟩ = some (.int .i64 (M : Int)) ∧ w'.cell? ⟨d.pb, 4, none⟩ = some (.slice (some ⟨hb_, 0, none⟩) d.us.length hc) ∧ w'.cell? ⟨hb_, i, none⟩ = some (.slice ha hk_ hcap)) (first | exact SK.out _ (Below.refl _ _).drew | exact SK.out _ hv41g0 | exact SK.out _ hv41g1)
          (first | (go_at_call 37; refine (ptimes_any wo ha wn wc hk_ hcap M (nn s.hl i) _ HWR.out (HROW.out.below hv41g0) (by omega) (by omega)).mono ?_; rintro e41g1 w41g1 ⟨v2, rfl, ⟨zo, zn, zc, rfl, hzr, _⟩, hb41g1⟩; have hv41g1 : Below wr.heap.size wr w41g1 := hv41g0.trans (hb41g1.mono (hv41g0).size); clear hb41g1; have lz : zn ≤ 302 := (by rw [← hzr.len]; have h9 := len_mul M (nn s.hl i); have h8 := len_sml hM2; omega); have HZR := hid hzr; clear hzr) | (go_at_call 35; refine (pwhole_any M _ (by omega)).mono ?_; rintro e41g0 w41g0 ⟨v1, rfl, ⟨wo, wn, wc, rfl, hwr, _⟩, hb41g0⟩; have hv41g0 : Below wr.heap.size wr w41g0 := (Below.refl wr.heap.size wr).drew.trans (hb41g0.mono ((Below.refl wr.heap.size wr).drew).size); clear hb41g0; have lw : wn ≤ 2 := (by rw [← hwr.len]; exact len_sml hM2); have HWR := hid hwr; clear hwr))
        clear SK de1 da0 dcd de4 dch
        have Ry_42 := hid (hY.out.below hv41g1)
        have HB_42 : Hid (Below w.heap.size w w41g1) := hB.out.trans (hv41g1.mono hB.out.size)
        clear hY hB
        clear e1 a0 cd e4 ch e5 cs
        go_wp2_with fail
        refine (pless_any yo zo yn yc zn zc (leftT d.a s.R r i) (M * nn s.hl i) _ Ry_42.out HZR.out (by omega) (by omega) HL2.out).mono ?_
        rintro e9 w9 ⟨v9, rfl, ⟨ro, rn, rc, rfl, hrr, _⟩, hb9⟩
        have HB_43 : Hid (Below w.heap.size w w9) := HB_42.out.trans (hb9.mono HB_42.out.size)
        clear HB_42
        have HRR := hid hrr
        clear hb9 hrr
        go_wp2
        go_roundg (d.us.length - (i + 1))
        case measure => omega
        case rel => exact ⟨i + 1, ro, rn, rc, rfl, by omega, by go_num, rfl, by rw [HE.out]; exact HRR.out, HB_43.out⟩
    · obtain rfl : i = d.us.length := by omega
      clear hbx2 hot2 hog2 hoh2 hos2 hoq2 hlt2_
      go_wp2
      go_ret
      exact ⟨yo, yn, yc, rfl, hY.out, ly, hB.out⟩

/-- what those that grow want of kind r -/
def pulF (d : RD) (s : RV) (r : Nat) (i : Nat) : Nat := if s.R.still i then d.a.D i r * nn s.gl i else 0
theorem pulF_len {d : RD} {s : RV} (ho : d.Ok) (hs : s.Ok d) (r : Nat) {i : Nat} (hi : i < d.us.length) : (limbs (pulF d s r i)).length ≤ 10 := by
  unfold pulF
  split
  · have h1 := len_mul (d.a.D i r) (nn s.gl i)
    have h2 := len_sml (d.D_le ho hi r)
    have h3 := hs.gs i hi
    omega
  · rw [limbs_zero]; exact Nat.zero_le _
theorem pul_len {d : RD} {s : RV} (ho : d.Ok) (hs : s.Ok d) (r : Nat) : ∀ i, i ≤ d.us.length → (limbs (sumT (pulF d s r) i)).length ≤ 10 + i := by
  intro i
  induction i with
  | zero => intro _; show (limbs 0).length ≤ _; rw [limbs_zero]; exact Nat.zero_le _
  | succ i ih =>
    intro hi
    have h1 := ih (by omega)
    have h2 := pulF_len ho hs r (i := i) (by omega)
    have h3 := len_add (sumT (pulF d s r) i) (pulF d s r i)
    show (limbs (sumT (pulF d s r) i + pulF d s r i)).length ≤ _
    omega

set_option maxHeartbeats 20000000 in
set_option maxRecDepth 20000 in
theorem ppull_any (d : RD) (s : RV) (r : Nat) (w : World) (h : RisM w d s) (ho : d.Ok) (hs : s.Ok d) (hr : r < d.pool.length) :
    Calls Tryz.prog 84 #[.pointer (some ⟨d.pb, 0, none⟩), .int .i64 r] w fun e w' => ∃ xo xn xc, e = .returned (.slice xo xn xc) ∧ Row w' xo xn xc (limbs (pullT d.a (nn s.gl) s.R r)) ∧ xn ≤ 16 ∧ Below w.heap.size w w' := by
  have hk4 := ho.k4
  have hn6 := ho.n6
  have H := hid h
  have HO := hid ho
  have HS := hid hs
  clear h ho hs
  have HB_0 := hid (Below.refl w.heap.size w)
  go_enter Tryz.func84, Tryz.ntmps84
  have hrp : (r : Int) < (d.pool.length : Int) := by omega
  go_wp2
  go_loopg [5, 6] d.us.length (fun gg s5 ix wr => ∃ (i : Nat) (xo : Option Addr) (xn xc : Nat), gg = d.us.length - i ∧ i ≤ d.us.length ∧ ix = .int .i64 i ∧ s5 = .slice xo xn xc ∧ Hid (Row wr xo xn xc (limbs (sumT (pulF d s r) i))) ∧ Hid (Below w.heap.size w wr))
  case atStart => exact ⟨0, _, _, _, rfl, Nat.zero_le _, rfl, rfl, (by show Row w none 0 0 (limbs 0); rw [limbs_zero]; exact Row.nil w), HB_0.out⟩
  case round =>
    clear HB_0
    obtain ⟨i, yo, yn, yc, hgi, hi, rfl, rfl, hY, hB⟩ := hrel
    have ly : yn ≤ 16 := by rw [← hY.out.len]; have h9 := pul_len HO.out HS.out r i hi; omega
    obtain ⟨vt2, vg2, vh2, vs2, qo2, qn2, qc2, hbx2, hot2, hog2, hoh2, hos2, hoq2, hlt2_⟩ := (H.out.below hB.out).box
    have bl2 := hbx2.lt
    have e1 : wr.cell? ⟨d.pb, 1, none⟩ = some (.slice d.ao d.us.length d.cap) := hbx2.cell 1 _ rfl
    by_cases hit : i < d.us.length
    · have hin : (i : Int) < (d.us.length : Int) := by omega
      have e5 : wr.cell? ⟨d.pb, 5, none⟩ = some vs2 := hbx2.cell 5 _ rfl
      have e4 : wr.cell? ⟨d.pb, 3, none⟩ = some vg2 := hbx2.cell 3 _ rfl
      have hsl := HS.out.sl
      have hhl := HS.out.gl
      obtain ⟨so, sc, rfl⟩ := hos2.shape
      rw [hsl] at hos2 e5
      obtain ⟨sb, rfl, hsb, cs, _⟩ := hos2.get (i := i) (by omega)
      rw [Nat.zero_add] at cs
      obtain ⟨hoo, hc, rfl⟩ := hog2.shape
      rw [hhl] at hog2 e4
      obtain ⟨hb_, ha, hk_, hcap, rfl, hhb, ch, _, hrow⟩ := hog2.get (i := i) (by omega)
      rw [Nat.zero_add] at ch
      have HROW := hid hrow
      have lrow := hrow.len
      have lrow2 := HS.out.gs i hit
      clear hrow hbx2 hot2 hog2 hoh2 hos2 hoq2 hlt2_
      obtain ⟨ub, uo, da, dn, dc, hao, hbl, a0, a1, a2, hd⟩ := (H.out.users.below hB.out).get hit
      rw [hao] at e1
      have hdl := hd.len
      rw [ints_len, HO.out.good.len hit] at hdl
      subst hdl
      obtain ⟨db, dof, hdo, hdb⟩ := hd.head (by omega)
      have cd := hd.int hdo hr
      subst hdo
      clear a1 a2 hd
      obtain ⟨M, hM⟩ : ∃ M : Nat, lm (ug d.us i).dem r = (M : Int) ∧ M = d.a.D i r := ⟨_, d.D_eq HO.out hit r, rfl⟩
      rw [hM.1] at cd
      have hM2 : M ≤ 10000 := by rw [hM.2]; exact d.D_le HO.out hit r
      have HMD := hid hM.2
      clear hM
      cases hst : bn s.sl i with
      | false =>
        have HE : Hid (sumT (pulF d s r) (i + 1) = sumT (pulF d s r) i) := by show sumT (pulF d s r) i + pulF d s r i = _; have h9 : pulF d s r i = 0 := if_neg (by show ¬ bn s.sl i = true; rw [hst]; simp); omega
        go_wp2
        go_roundg (d.us.length - (i + 1))
        case measure => omega
        case rel => exact ⟨i + 1, yo, yn, yc, rfl, by omega, by go_num, rfl, by rw [HE.out]; exact hY.out, hB.out⟩
      | true =>
        have HE : Hid (sumT (pulF d s r) (i + 1) = sumT (pulF d s r) i + M * nn s.gl i) := by show sumT (pulF d s r) i + pulF d s r i = _; have h9 : pulF d s r i = d.a.D i r * nn s.gl i := if_pos hst; rw [h9, HMD.out]
        go_upto_region 6 with fail
        have SK : Hid (∀ U, Below wr.heap.size wr U → U.cell? ⟨d.pb, 1, none⟩ = some (.slice (some ⟨ub, uo, none⟩) d.us.length d.cap) ∧ U.cell? ⟨ub, uo + i * 3, none⟩ = some (.slice (some ⟨db, dof, none⟩) d.pool.length dc) ∧ U.cell? ⟨db, dof + r, none⟩ = some (.int .i64 (M : Int)) ∧ U.cell? ⟨d.pb, 3, none⟩ = some (.slice (some ⟨hb_, 0, none⟩) d.us.length hc) ∧ U.cell? ⟨hb_, i, none⟩ = some (.slice ha hk_ hcap)) := fun U h => ⟨(h.cell (p := ⟨d.pb, 1, none⟩) bl2).trans e1, (h.cell (p := ⟨ub, uo + i * 3, none⟩) hbl).trans a0, (h.cell (p := ⟨db, dof + r, none⟩) hdb).trans cd, (h.cell (p := ⟨d.pb, 3, none⟩) bl2).trans e4, (h.cell (p := ⟨hb_, i, none⟩) hhb).trans ch⟩
        have de1 : wr.drew.cell? ⟨d.pb, 1, none⟩ = some (.slice (some ⟨ub, uo, none⟩) d.us.length d.cap) := ((Below.refl wr.heap.size wr).drew.cell (p := ⟨d.pb, 1, none⟩) bl2).trans e1
        have da0 : wr.drew.cell? ⟨ub, uo + i * 3, none⟩ = some (.slice (some ⟨db, dof, none⟩) d.pool.length dc) := ((Below.refl wr.heap.size wr).drew.cell (p := ⟨ub, uo + i * 3, none⟩) hbl).trans a0
        have dcd : wr.drew.cell? ⟨db, dof + r, none⟩ = some (.int .i64 (M : Int)) := ((Below.refl wr.heap.size wr).drew.cell (p := ⟨db, dof + r, none⟩) hdb).trans cd
        have de4 : wr.drew.cell? ⟨d.pb, 3, none⟩ = some (.slice (some ⟨hb_, 0, none⟩) d.us.length hc) := ((Below.refl wr.heap.size wr).drew.cell (p := ⟨d.pb, 3, none⟩) bl2).trans e4
        have dch : wr.drew.cell? ⟨hb_, i, none⟩ = some (.slice ha hk_ hcap) := ((Below.refl wr.heap.size wr).drew.cell (p := ⟨hb_, i, none⟩) hhb).trans ch
        go_region_held3 (fun w' => w'.cell? ⟨d.pb, 1, none⟩ = some (.slice (some ⟨ub, uo, none⟩) d.us.length d.cap) ∧ w'.cell? ⟨ub, uo + i * 3, none⟩ = some (.slice (some ⟨db, dof, none⟩) d.pool.length dc) ∧ w'.cell? ⟨db, dof + r, none⟩ = some (.int .i64 (M : Int)) ∧ w'.cell? ⟨d.pb, 3, none⟩ = some (.slice (some ⟨hb_, 0, none⟩) d.us.length hc) ∧ w'.cell? ⟨hb_, i, none⟩ = some (.slice ha hk_ hcap)) (first | exact SK.out _ (Below.refl _ _).drew | exact SK.out _ hv41g0 | exact SK.out _ hv41g1)
          (first | (go_at_call 37; refine (ptimes_any wo ha wn wc hk_ hcap M (nn s.gl i) _ HWR.out (HROW.out.below hv41g0) (by omega) (by omega)).mono ?_; rintro e41g1 w41g1 ⟨v2, rfl, ⟨zo, zn, zc, rfl, hzr, _⟩, hb41g1⟩; have hv41g1 : Below wr.heap.size wr w41g1 := hv41g0.trans (hb41g1.mono (hv41g0).size); clear hb41g1; have lz : zn ≤ 10 := (by rw [← hzr.len]; have h9 := len_mul M (nn s.gl i); have h8 := len_sml hM2; omega); have HZR := hid hzr; clear hzr) | (go_at_call 35; refine (pwhole_any M _ (by omega)).mono ?_; rintro e41g0 w41g0 ⟨v1, rfl, ⟨wo, wn, wc, rfl, hwr, _⟩, hb41g0⟩; have hv41g0 : Below wr.heap.size wr w41g0 := (Below.refl wr.heap.size wr).drew.trans (hb41g0.mono ((Below.refl wr.heap.size wr).drew).size); clear hb41g0; have lw : wn ≤ 2 := (by rw [← hwr.len]; exact len_sml hM2); have HWR := hid hwr; clear hwr))
        clear SK de1 da0 dcd de4 dch
        have Ry_42 := hid (hY.out.below hv41g1)
        have HB_42 : Hid (Below w.heap.size w w41g1) := hB.out.trans (hv41g1.mono hB.out.size)
        clear hY hB
        clear e1 a0 cd e4 ch e5 cs
        go_wp2_with fail
        refine (pplus_any yo zo yn yc zn zc (sumT (pulF d s r) i) (M * nn s.gl i) _ Ry_42.out HZR.out (by omega) (by omega)).mono ?_
        rintro e9 w9 ⟨v9, rfl, ⟨ro, rn, rc, rfl, hrr, _⟩, hb9⟩
        have HB_43 : Hid (Below w.heap.size w w9) := HB_42.out.trans (hb9.mono HB_42.out.size)
        clear HB_42
        have HRR := hid hrr
        clear hb9 hrr
        go_wp2
        go_roundg (d.us.length - (i + 1))
        case measure => omega
        case rel => exact ⟨i + 1, ro, rn, rc, rfl, by omega, by go_num, rfl, by rw [HE.out]; exact HRR.out, HB_43.out⟩
    · obtain rfl : i = d.us.length := by omega
      clear hbx2 hot2 hog2 hoh2 hos2 hoq2 hlt2_
      go_wp2
      go_ret
      exact ⟨yo, yn, yc, rfl, hY.out, ly, hB.out⟩

end Go.Proofs.YtigokanoflkinaaGreatDoor

/- The rise of the reference: next. (Laid by mkrisec.py.) -/
namespace Go.Proofs.YtigokanoflkinaaGreatDoor
set_option linter.unusedSimpArgs false
set_option linter.unusedVariables false
open Go.RowKit Por

theorem limbs_len_zero {x : Nat} : (limbs x).length = 0 ↔ x = 0 := by
  constructor
  · intro h
    apply Classical.byContradiction
    intro hx
    exact limbs_ne_nil hx (List.length_eq_zero_iff.1 h)
  · rintro rfl; rw [limbs_zero]; rfl
theorem cmp3_neg {x y : Nat} : cmp3 (x : Int) (y : Int) < 0 ↔ x < y := by
  unfold cmp3
  by_cases h : (x : Int) < y
  · rw [if_pos h]; omega
  · rw [if_neg h]
    by_cases e : (x : Int) = y
    · rw [if_pos e]; omega
    · rw [if_neg e]; omega
theorem nextK_skip {a : NProb} {gr : Nat → Nat} {R : RS} {r : Nat} (h : pullT a gr R r = 0) : nextK a gr R (r + 1) = nextK a gr R r := by simp [nextK, h]
theorem nextK_turn {a : NProb} {gr : Nat → Nat} {R : RS} {r : Nat} (h : pullT a gr R r ≠ 0) (h2 : (nextK a gr R r).2.1 = 0 ∨ lft a R r * (nextK a gr R r).2.1 < (nextK a gr R r).1 * pullT a gr R r) : nextK a gr R (r + 1) = (lft a R r, pullT a gr R r, true) := by simp only [nextK]; rw [if_neg h, if_pos h2]
theorem nextK_keep {a : NProb} {gr : Nat → Nat} {R : RS} {r : Nat} (h : pullT a gr R r ≠ 0) (h2 : ¬ ((nextK a gr R r).2.1 = 0 ∨ lft a R r * (nextK a gr R r).2.1 < (nextK a gr R r).1 * pullT a gr R r)) : nextK a gr R (r + 1) = nextK a gr R r := by simp only [nextK]; rw [if_neg h, if_neg h2]
theorem nextU_skip {a : NProb} {gr : Nat → Nat} {R : RS} {x0 : Nat × Nat × Bool} {i : Nat} (h : R.still i = false) : nextU a gr R x0 (i + 1) = nextU a gr R x0 i := by simp [nextU, h]
theorem nextU_turn {a : NProb} {gr : Nat → Nat} {R : RS} {x0 : Nat × Nat × Bool} {i : Nat} (h : R.still i = true) (h2 : a.C i * R.q * (nextU a gr R x0 i).2.1 < (nextU a gr R x0 i).1 * gr i) : nextU a gr R x0 (i + 1) = (a.C i * R.q, gr i, false) := by simp only [nextU]; rw [if_pos h, if_pos h2]
theorem nextU_keep {a : NProb} {gr : Nat → Nat} {R : RS} {x0 : Nat × Nat × Bool} {i : Nat} (h : R.still i = true) (h2 : ¬ a.C i * R.q * (nextU a gr R x0 i).2.1 < (nextU a gr R x0 i).1 * gr i) : nextU a gr R x0 (i + 1) = nextU a gr R x0 i := by simp only [nextU]; rw [if_pos h, if_neg h2]
theorem RD.C_eq {d : RD} (h : d.Ok) {i : Nat} (hi : i < d.us.length) : (ug d.us i).cap = ((d.a.C i : Nat) : Int) := by
  have := h.good.cap hi
  show (ug d.us i).cap = (((ug d.us i).cap.toNat : Nat) : Int); omega
theorem RD.C_le {d : RD} (h : d.Ok) {i : Nat} (hi : i < d.us.length) : d.a.C i ≤ 1000 := by have := h.good.cap hi; have := d.C_eq h hi; omega

set_option maxHeartbeats 20000000 in
set_option maxRecDepth 20000 in
theorem pnext_any (d : RD) (s : RV) (w : World) (h : RisM w d s) (ho : d.Ok) (hs : s.Ok d) (hle : ∀ r, r < d.pool.length → ∀ i, i < d.us.length → bn s.sl i = false → d.a.D i r * nn s.hl i ≤ leftT d.a s.R r i) :
    Calls Tryz.prog 38 #[.pointer (some ⟨d.pb, 0, none⟩)] w fun e w' => ∃ no nm nc so sm sc, e = .returned (.tuple #[.slice no nm nc, .slice so sm sc, .bool (nextT d.a (nn s.gl) s.R).2.2]) ∧ Row w' no nm nc (limbs (nextT d.a (nn s.gl) s.R).1) ∧ Row w' so sm sc (limbs (nextT d.a (nn s.gl) s.R).2.1) ∧ nm ≤ 302 ∧ sm ≤ 16 ∧ Below w.heap.size w w' := by
  have hk4 := ho.k4
  have hn6 := ho.n6
  have H := hid h
  have HO := hid ho
  have HS := hid hs
  have HLE := hid hle
  clear h ho hs hle
  have HB_0 := hid (Below.refl w.heap.size w)
  go_enter Tryz.func38, Tryz.ntmps38
  go_wp2
  go_loopg [5, 6, 7, 8] d.pool.length (fun gg s5 s6 s7 ix wr => ∃ (r : Nat) (no : Option Addr) (nm nc : Nat) (so : Option Addr) (sm sc : Nat), gg = d.pool.length - r ∧ r ≤ d.pool.length ∧ ix = .int .i64 r ∧ s5 = .slice no nm nc ∧ s6 = .slice so sm sc ∧ s7 = .bool (nextK d.a (nn s.gl) s.R r).2.2 ∧ Hid (Row wr no nm nc (limbs (nextK d.a (nn s.gl) s.R r).1)) ∧ Hid (Row wr so sm sc (limbs (nextK d.a (nn s.gl) s.R r).2.1)) ∧ nm ≤ 302 ∧ sm ≤ 16 ∧ Hid (Below w.heap.size w wr))
  case atStart => exact ⟨0, none, 0, 0, none, 0, 0, rfl, Nat.zero_le _, rfl, rfl, rfl, rfl, (by show Row w none 0 0 (limbs 0); rw [limbs_zero]; exact Row.nil w), (by show Row w none 0 0 (limbs 0); rw [limbs_zero]; exact Row.nil w), by omega, by omega, HB_0.out⟩
  case round =>
    clear HB_0
    obtain ⟨r, no, nm, nc, so, sm, sc, hgr, hr, rfl, rfl, rfl, rfl, hN, hSS, ln, ls, hB⟩ := hrel
    obtain ⟨vt2, vg2, vh2, vs2, qo2, qn2, qc2, hbx2, hot2, hog2, hoh2, hos2, hoq2, hlt2_⟩ := (H.out.below hB.out).box
    have bl2 := hbx2.lt
    have e0 : wr.cell? ⟨d.pb, 0, none⟩ = some (.slice d.po d.pool.length d.pc) := hbx2.cell 0 _ rfl
    clear hbx2 hot2 hog2 hoh2 hos2 hoq2 hlt2_
    by_cases hrt : r < d.pool.length
    · have hrn : (r : Int) < (d.pool.length : Int) := by omega
      go_wp2_with fail
      refine (ppull_any d s r _ (H.out.below hB.out) HO.out HS.out hrt).mono ?_
      rintro e1 w1 ⟨fo, fn, fc, rfl, hfr, lf, hb1⟩
      have Rn_31 := hid (hN.out.below hb1)
      have Rs_31 := hid (hSS.out.below hb1)
      have HB_31 : Hid (Below w.heap.size w w1) := hB.out.trans (hb1.mono hB.out.size)
      clear hN hSS hB
      clear hb1 e0 bl2
      have HFR := hid hfr
      have lfn := hfr.len
      clear hfr
      by_cases hp0 : pullT d.a (nn s.gl) s.R r = 0
      · have HE := hid (nextK_skip hp0)
        have hf0 : fn = 0 := by rw [← lfn, hp0, limbs_zero]; rfl
        subst hf0
        clear lfn hp0
        go_wp2
        go_roundg (d.pool.length - (r + 1))
        case measure => omega
        case rel => exact ⟨r + 1, no, nm, nc, so, sm, sc, rfl, by omega, by go_num, rfl, rfl, by rw [HE.out], by rw [HE.out]; exact Rn_31.out, by rw [HE.out]; exact Rs_31.out, by omega, by omega, HB_31.out⟩
      · have hf0 : ((fn : Int) == 0) = false := by rw [beq_eq_false_iff_ne]; intro h5; exact hp0 (limbs_len_zero.1 (by omega))
        clear lfn
        go_wp2_with fail
        refine (pleft_any d s r _ (H.out.below HB_31.out) HO.out HS.out hrt (HLE.out r hrt)).mono ?_
        rintro e2 w2 ⟨vo, vn, vc, rfl, hvr, lv, hb2⟩
        have Rn_32 := hid (Rn_31.out.below hb2)
        have Rs_32 := hid (Rs_31.out.below hb2)
        have Rf_32 := hid (HFR.out.below hb2)
        have HB_32 : Hid (Below w.heap.size w w2) := HB_31.out.trans (hb2.mono HB_31.out.size)
        clear Rn_31 Rs_31 HFR HB_31
        have HVR := hid hvr
        clear hb2 hvr
        have lsm := Rs_32.out.len
        by_cases hs0 : (nextK d.a (nn s.gl) s.R r).2.1 = 0
        · have HE := hid (nextK_turn hp0 (Or.inl hs0))
          have hsm : sm = 0 := by rw [← lsm, hs0, limbs_zero]; rfl
          subst hsm
          clear lsm
          go_wp2
          go_roundg (d.pool.length - (r + 1))
          case measure => omega
          case rel => exact ⟨r + 1, vo, vn, vc, fo, fn, fc, rfl, by omega, by go_num, rfl, rfl, by rw [HE.out], by rw [HE.out]; exact HVR.out, by rw [HE.out]; exact Rf_32.out, by omega, by omega, HB_32.out⟩
        · have hsm : ((sm : Int) == 0) = false := by rw [beq_eq_false_iff_ne]; intro h5; exact hs0 (limbs_len_zero.1 (by omega))
          clear lsm
          go_wp2_with fail
          refine (pmatch_any vo fo no so vn vc fn fc nm nc sm sc (lft d.a s.R r) (pullT d.a (nn s.gl) s.R r) (nextK d.a (nn s.gl) s.R r).1 (nextK d.a (nn s.gl) s.R r).2.1 _ HVR.out Rf_32.out Rn_32.out Rs_32.out (by omega) (by omega) (by omega) (by omega)).mono ?_
          rintro e3 w3 ⟨rfl, hb3⟩
          have Rn_33 := hid (Rn_32.out.below hb3)
          have Rs_33 := hid (Rs_32.out.below hb3)
          have Rf_33 := hid (Rf_32.out.below hb3)
          have Rv_33 := hid (HVR.out.below hb3)
          have HB_33 : Hid (Below w.heap.size w w3) := HB_32.out.trans (hb3.mono HB_32.out.size)
          clear Rn_32 Rs_32 Rf_32 HVR HB_32
          clear hb3
          by_cases hc : lft d.a s.R r * (nextK d.a (nn s.gl) s.R r).2.1 < (nextK d.a (nn s.gl) s.R r).1 * pullT d.a (nn s.gl) s.R r
          · have HE := hid (nextK_turn hp0 (Or.inr hc))
            have hcc : cmp3 ((lft d.a s.R r * (nextK d.a (nn s.gl) s.R r).2.1 : Nat) : Int) (((nextK d.a (nn s.gl) s.R r).1 * pullT d.a (nn s.gl) s.R r : Nat) : Int) < 0 := cmp3_neg.2 hc
            generalize cmp3 ((lft d.a s.R r * (nextK d.a (nn s.gl) s.R r).2.1 : Nat) : Int) (((nextK d.a (nn s.gl) s.R r).1 * pullT d.a (nn s.gl) s.R r : Nat) : Int) = cc at hcc ⊢
            clear hc
            go_wp2
            go_roundg (d.pool.length - (r + 1))
            case measure => omega
            case rel => exact ⟨r + 1, vo, vn, vc, fo, fn, fc, rfl, by omega, by go_num, rfl, rfl, by rw [HE.out], by rw [HE.out]; exact Rv_33.out, by rw [HE.out]; exact Rf_33.out, by omega, by omega, HB_33.out⟩
          · have HE := hid (nextK_keep hp0 (fun h5 => h5.elim hs0 hc))
            have hcc : ¬ cmp3 ((lft d.a s.R r * (nextK d.a (nn s.gl) s.R r).2.1 : Nat) : Int) (((nextK d.a (nn s.gl) s.R r).1 * pullT d.a (nn s.gl) s.R r : Nat) : Int) < 0 := fun h5 => hc (cmp3_neg.1 h5)
            generalize cmp3 ((lft d.a s.R r * (nextK d.a (nn s.gl) s.R r).2.1 : Nat) : Int) (((nextK d.a (nn s.gl) s.R r).1 * pullT d.a (nn s.gl) s.R r : Nat) : Int) = cc at hcc ⊢
            clear hc
            go_wp2
            go_roundg (d.pool.length - (r + 1))
            case measure => omega
            case rel => exact ⟨r + 1, no, nm, nc, so, sm, sc, rfl, by omega, by go_num, rfl, rfl, by rw [HE.out], by rw [HE.out]; exact Rn_33.out, by rw [HE.out]; exact Rs_33.out, by omega, by omega, HB_33.out⟩
    · obtain rfl : r = d.pool.length := by omega
      go_wp2
      go_loopg [5, 6, 7, 11] d.us.length (fun gg s5 s6 s7 ix wr => ∃ (i : Nat) (no : Option Addr) (nm nc : Nat) (so : Option Addr) (sm sc : Nat), gg = d.us.length - i ∧ i ≤ d.us.length ∧ ix = .int .i64 i ∧ s5 = .slice no nm nc ∧ s6 = .slice so sm sc ∧ s7 = .bool (nextU d.a (nn s.gl) s.R (nextK d.a (nn s.gl) s.R d.pool.length) i).2.2 ∧ Hid (Row wr no nm nc (limbs (nextU d.a (nn s.gl) s.R (nextK d.a (nn s.gl) s.R d.pool.length) i).1)) ∧ Hid (Row wr so sm sc (limbs (nextU d.a (nn s.gl) s.R (nextK d.a (nn s.gl) s.R d.pool.length) i).2.1)) ∧ nm ≤ 302 ∧ sm ≤ 16 ∧ Hid (Below w.heap.size w wr))
      case atStart => exact ⟨0, no, nm, nc, so, sm, sc, rfl, Nat.zero_le _, rfl, rfl, rfl, rfl, hN.out, hSS.out, ln, ls, hB.out⟩
      case round =>
        clear hN hSS hB e0 bl2
        obtain ⟨i, no, nm, nc, so, sm, sc, hgi, hi, rfl, rfl, rfl, rfl, hN, hSS, ln, ls, hB⟩ := hrel
        obtain ⟨vt2, vg2, vh2, vs2, qo2, qn2, qc2, hbx2, hot2, hog2, hoh2, hos2, hoq2, hlt2_⟩ := (H.out.below hB.out).box
        have bl2 := hbx2.lt
        have e1 : wr.cell? ⟨d.pb, 1, none⟩ = some (.slice d.ao d.us.length d.cap) := hbx2.cell 1 _ rfl
        by_cases hit : i < d.us.length
        · have hin : (i : Int) < (d.us.length : Int) := by omega
          have e5 : wr.cell? ⟨d.pb, 5, none⟩ = some vs2 := hbx2.cell 5 _ rfl
          have e6 : wr.cell? ⟨d.pb, 6, none⟩ = some (.slice qo2 qn2 qc2) := hbx2.cell 6 _ rfl
          have hsl := HS.out.sl
          obtain ⟨zo, zc, rfl⟩ := hos2.shape
          rw [hsl] at hos2 e5
          obtain ⟨sb, rfl, hsb, cs, _⟩ := hos2.get (i := i) (by omega)
          rw [Nat.zero_add] at cs
          have HQ := hid hoq2
          have lq := hoq2.len
          have lq2 := HS.out.q
          clear hbx2 hot2 hog2 hoh2 hos2 hoq2 hlt2_
          obtain ⟨ub, uo, da, dn, dc, hao, hbl, a0, a1, a2, hd⟩ := (H.out.users.below hB.out).get hit
          rw [hao] at e1
          clear a0 a1 hd
          obtain ⟨M, hM⟩ : ∃ M : Nat, (ug d.us i).cap = (M : Int) ∧ M = d.a.C i := ⟨_, d.C_eq HO.out hit, rfl⟩
          rw [hM.1] at a2
          have hM2 : M ≤ 10000 := by rw [hM.2]; have := d.C_le HO.out hit; omega
          have HMD := hid hM.2
          clear hM
          cases hst : bn s.sl i with
          | false =>
            have HE := hid (nextU_skip (a := d.a) (gr := nn s.gl) (R := s.R) (x0 := (nextK d.a (nn s.gl) s.R d.pool.length)) (i := i) hst)
            go_wp2
            go_roundg (d.us.length - (i + 1))
            case measure => omega
            case rel => exact ⟨i + 1, no, nm, nc, so, sm, sc, rfl, by omega, by go_num, rfl, rfl, by rw [HE.out], by rw [HE.out]; exact hN.out, by rw [HE.out]; exact hSS.out, by omega, by omega, hB.out⟩
          | true =>
            go_upto_region 17 with fail
            have SK : Hid (∀ U, Below wr.heap.size wr U → U.cell? ⟨d.pb, 1, none⟩ = some (.slice (some ⟨ub, uo, none⟩) d.us.length d.cap) ∧ U.cell? ⟨ub, uo + i * 3 + 2, none⟩ = some (.int .i64 (M : Int)) ∧ U.cell? ⟨d.pb, 6, none⟩ = some (.slice qo2 qn2 qc2)) := fun U h => ⟨(h.cell (p := ⟨d.pb, 1, none⟩) bl2).trans e1, (h.cell (p := ⟨ub, uo + i * 3 + 2, none⟩) hbl).trans a2, (h.cell (p := ⟨d.pb, 6, none⟩) bl2).trans e6⟩
            have de1 : wr.drew.cell? ⟨d.pb, 1, none⟩ = some (.slice (some ⟨ub, uo, none⟩) d.us.length d.cap) := ((Below.refl wr.heap.size wr).drew.cell (p := ⟨d.pb, 1, none⟩) bl2).trans e1
            have da2 : wr.drew.cell? ⟨ub, uo + i * 3 + 2, none⟩ = some (.int .i64 (M : Int)) := ((Below.refl wr.heap.size wr).drew.cell (p := ⟨ub, uo + i * 3 + 2, none⟩) hbl).trans a2
            have de6 : wr.drew.cell? ⟨d.pb, 6, none⟩ = some (.slice qo2 qn2 qc2) := ((Below.refl wr.heap.size wr).drew.cell (p := ⟨d.pb, 6, none⟩) bl2).trans e6
            go_region_held3 (fun w' => w'.cell? ⟨d.pb, 1, none⟩ = some (.slice (some ⟨ub, uo, none⟩) d.us.length d.cap) ∧ w'.cell? ⟨ub, uo + i * 3 + 2, none⟩ = some (.int .i64 (M : Int)) ∧ w'.cell? ⟨d.pb, 6, none⟩ = some (.slice qo2 qn2 qc2)) (first | exact SK.out _ (Below.refl _ _).drew | exact SK.out _ hv71g0 | exact SK.out _ hv71g1)
              (first | (go_at_call 37; refine (ptimes_any wo qo2 wn wc qn2 qc2 M s.q _ HWR.out (HQ.out.below hv71g0) (by omega) (by omega)).mono ?_; rintro e71g1 w71g1 ⟨v2, rfl, ⟨vo, vn, vc, rfl, hvr, _⟩, hb71g1⟩; have hv71g1 : Below wr.heap.size wr w71g1 := hv71g0.trans (hb71g1.mono (hv71g0).size); clear hb71g1; have lv : vn ≤ 302 := (by rw [← hvr.len]; have h9 := len_mul M s.q; have h8 := len_sml hM2; omega); have HVR := hid hvr; clear hvr) | (go_at_call 35; refine (pwhole_any M _ (by omega)).mono ?_; rintro e71g0 w71g0 ⟨v1, rfl, ⟨wo, wn, wc, rfl, hwr, _⟩, hb71g0⟩; have hv71g0 : Below wr.heap.size wr w71g0 := (Below.refl wr.heap.size wr).drew.trans (hb71g0.mono ((Below.refl wr.heap.size wr).drew).size); clear hb71g0; have lw : wn ≤ 2 := (by rw [← hwr.len]; exact len_sml hM2); have HWR := hid hwr; clear hwr))
            clear SK de1 da2 de6
            have Rn_72 := hid (hN.out.below hv71g1)
            have Rs_72 := hid (hSS.out.below hv71g1)
            have HB_72 : Hid (Below w.heap.size w w71g1) := hB.out.trans (hv71g1.mono hB.out.size)
            clear hN hSS hB
            clear e1 a2 e6 e5 cs bl2 HWR HQ
            obtain ⟨vt3, vg3, vh3, vs3, qo3, qn3, qc3, hbx3, hot3, hog3, hoh3, hos3, hoq3, hlt3_⟩ := (H.out.below HB_72.out).box
            have bl3 := hbx3.lt
            have e3 : w71g1.cell? ⟨d.pb, 3, none⟩ = some vg3 := hbx3.cell 3 _ rfl
            have hgl := HS.out.gl
            obtain ⟨goo, gcc, rfl⟩ := hog3.shape
            rw [hgl] at hog3 e3
            obtain ⟨gb, ga, gk, gcap, rfl, hgb, cg, _, hgrow⟩ := hog3.get (i := i) (by omega)
            rw [Nat.zero_add] at cg
            have HG := hid hgrow
            have lg : gk ≤ 8 := by rw [← hgrow.len]; exact HS.out.gs i hit
            clear hgrow hbx3 hot3 hog3 hoh3 hos3 hoq3 hlt3_
            go_wp2_with fail
            refine (pmatch_any vo ga no so vn vc gk gcap nm nc sm sc (M * s.q) (nn s.gl i) (nextU d.a (nn s.gl) s.R (nextK d.a (nn s.gl) s.R d.pool.length) i).1 (nextU d.a (nn s.gl) s.R (nextK d.a (nn s.gl) s.R d.pool.length) i).2.1 _ HVR.out HG.out Rn_72.out Rs_72.out (by omega) (by omega) (by omega) (by omega)).mono ?_
            rintro e3_ w3 ⟨rfl, hb3⟩
            have Rn_73 := hid (Rn_72.out.below hb3)
            have Rs_73 := hid (Rs_72.out.below hb3)
            have Rv_73 := hid (HVR.out.below hb3)
            have Rg_73 := hid (HG.out.below hb3)
            have HB_73 : Hid (Below w.heap.size w w3) := HB_72.out.trans (hb3.mono HB_72.out.size)
            clear Rn_72 Rs_72 HVR HG HB_72
            clear hb3 cg e3 hgb bl3
            obtain ⟨vt4, vg4, vh4, vs4, qo4, qn4, qc4, hbx4, hot4, hog4, hoh4, hos4, hoq4, hlt4_⟩ := (H.out.below HB_73.out).box
            have bl4 := hbx4.lt
            have k3 : w3.cell? ⟨d.pb, 3, none⟩ = some vg4 := hbx4.cell 3 _ rfl
            obtain ⟨goo4, gcc4, rfl⟩ := hog4.shape
            rw [hgl] at hog4 k3
            obtain ⟨gb4, ga4, gk4, gcap4, rfl, hgb4, cg4, _, hgrow4⟩ := hog4.get (i := i) (by omega)
            rw [Nat.zero_add] at cg4
            have HG4 := hid hgrow4
            have lg4 : gk4 ≤ 8 := by rw [← hgrow4.len]; exact HS.out.gs i hit
            clear hgrow4 hbx4 hot4 hog4 hoh4 hos4 hoq4 hlt4_
            by_cases hc : M * s.q * (nextU d.a (nn s.gl) s.R (nextK d.a (nn s.gl) s.R d.pool.length) i).2.1 < (nextU d.a (nn s.gl) s.R (nextK d.a (nn s.gl) s.R d.pool.length) i).1 * nn s.gl i
            · have HE : Hid ((nextU d.a (nn s.gl) s.R (nextK d.a (nn s.gl) s.R d.pool.length) (i + 1)) = (M * s.q, nn s.gl i, false)) := by have h9 := nextU_turn (a := d.a) (gr := nn s.gl) (R := s.R) (x0 := (nextK d.a (nn s.gl) s.R d.pool.length)) (i := i) hst (by rw [← HMD.out]; exact hc); rw [← HMD.out] at h9; exact h9
              have hcc : cmp3 ((M * s.q * (nextU d.a (nn s.gl) s.R (nextK d.a (nn s.gl) s.R d.pool.length) i).2.1 : Nat) : Int) (((nextU d.a (nn s.gl) s.R (nextK d.a (nn s.gl) s.R d.pool.length) i).1 * nn s.gl i : Nat) : Int) < 0 := cmp3_neg.2 hc
              generalize cmp3 ((M * s.q * (nextU d.a (nn s.gl) s.R (nextK d.a (nn s.gl) s.R d.pool.length) i).2.1 : Nat) : Int) (((nextU d.a (nn s.gl) s.R (nextK d.a (nn s.gl) s.R d.pool.length) i).1 * nn s.gl i : Nat) : Int) = cc at hcc ⊢
              clear hc
              go_wp2
              go_roundg (d.us.length - (i + 1))
              case measure => omega
              case rel => exact ⟨i + 1, vo, vn, vc, ga4, gk4, gcap4, rfl, by omega, by go_num, rfl, rfl, by rw [HE.out], by rw [HE.out]; exact Rv_73.out, by rw [HE.out]; exact HG4.out, by omega, by omega, HB_73.out⟩
            · have HE : Hid ((nextU d.a (nn s.gl) s.R (nextK d.a (nn s.gl) s.R d.pool.length) (i + 1)) = (nextU d.a (nn s.gl) s.R (nextK d.a (nn s.gl) s.R d.pool.length) i)) := nextU_keep hst (by rw [← HMD.out]; exact hc)
              have hcc : ¬ cmp3 ((M * s.q * (nextU d.a (nn s.gl) s.R (nextK d.a (nn s.gl) s.R d.pool.length) i).2.1 : Nat) : Int) (((nextU d.a (nn s.gl) s.R (nextK d.a (nn s.gl) s.R d.pool.length) i).1 * nn s.gl i : Nat) : Int) < 0 := fun h5 => hc (cmp3_neg.1 h5)
              generalize cmp3 ((M * s.q * (nextU d.a (nn s.gl) s.R (nextK d.a (nn s.gl) s.R d.pool.length) i).2.1 : Nat) : Int) (((nextU d.a (nn s.gl) s.R (nextK d.a (nn s.gl) s.R d.pool.length) i).1 * nn s.gl i : Nat) : Int) = cc at hcc ⊢
              clear hc
              go_wp2
              go_roundg (d.us.length - (i + 1))
              case measure => omega
              case rel => exact ⟨i + 1, no, nm, nc, so, sm, sc, rfl, by omega, by go_num, rfl, rfl, by rw [HE.out], by rw [HE.out]; exact Rn_73.out, by rw [HE.out]; exact Rs_73.out, by omega, by omega, HB_73.out⟩
        · obtain rfl : i = d.us.length := by omega
          clear hbx2 hot2 hog2 hoh2 hos2 hoq2 hlt2_
          go_wp2
          go_ret3
          exact ⟨no, nm, nc, so, sm, sc, rfl, hN.out, hSS.out, ln, ls, hB.out⟩

end Go.Proofs.YtigokanoflkinaaGreatDoor

/- The rise of the reference: stops. (Laid by mkrised.py.) -/
namespace Go.Proofs.YtigokanoflkinaaGreatDoor
set_option linter.unusedSimpArgs false
set_option linter.unusedVariables false
open Go.RowKit Por

theorem cmp3_zero {x y : Nat} : cmp3 (x : Int) (y : Int) = 0 ↔ x = y := by
  unfold cmp3
  by_cases h : (x : Int) < y
  · rw [if_pos h]; omega
  · rw [if_neg h]
    by_cases e : (x : Int) = y
    · rw [if_pos e]; omega
    · rw [if_neg e]; omega

set_option maxHeartbeats 20000000 in
set_option maxRecDepth 20000 in
theorem pstops_any (d : RD) (s : RV) (i : Nat) (no so : Option Addr) (nm nc sm sc N S : Nat) (w : World) (h : RisM w d s) (ho : d.Ok) (hs : s.Ok d) (hle : ∀ r, r < d.pool.length → ∀ i, i < d.us.length → bn s.sl i = false → d.a.D i r * nn s.hl i ≤ leftT d.a s.R r i) (hi : i < d.us.length) (hN : Row w no nm nc (limbs N)) (hS : Row w so sm sc (limbs S)) (ln : nm ≤ 302) (ls : sm ≤ 16) :
    Calls Tryz.prog 39 #[.pointer (some ⟨d.pb, 0, none⟩), .int .i64 i, .slice no nm nc, .slice so sm sc] w fun e w' => (∃ b : Bool, e = .returned (.bool b) ∧ (b = true ↔ stopT d.a (nn s.gl) s.R N S i)) ∧ Below w.heap.size w w' := by
  have hk4 := ho.k4
  have hn6 := ho.n6
  have H := hid h
  have HO := hid ho
  have HS := hid hs
  have HLE := hid hle
  have HN := hid hN
  have HSS := hid hS
  clear h ho hs hle hN hS
  have hin : (i : Int) < (d.us.length : Int) := by omega
  have HB_0 := hid (Below.refl w.heap.size w)
  go_enter Tryz.func39, Tryz.ntmps39
  obtain ⟨vt2, vg2, vh2, vs2, qo2, qn2, qc2, hbx2, hot2, hog2, hoh2, hos2, hoq2, hlt2_⟩ := (H.out.below HB_0.out).box
  have bl2 := hbx2.lt
  have e1 : w.cell? ⟨d.pb, 1, none⟩ = some (.slice d.ao d.us.length d.cap) := hbx2.cell 1 _ rfl
  have e6 : w.cell? ⟨d.pb, 6, none⟩ = some (.slice qo2 qn2 qc2) := hbx2.cell 6 _ rfl
  have HQ := hid hoq2
  have lq := hoq2.len
  have lq2 := HS.out.q
  clear hbx2 hot2 hog2 hoh2 hos2 hoq2 hlt2_
  obtain ⟨ub, uo, da, dn, dc, hao, hbl, a0, a1, a2, hd⟩ := H.out.users.get hi
  rw [hao] at e1
  clear a0 a1 hd
  obtain ⟨M, hM⟩ : ∃ M : Nat, (ug d.us i).cap = (M : Int) ∧ M = d.a.C i := ⟨_, d.C_eq HO.out hi, rfl⟩
  rw [hM.1] at a2
  have hM2 : M ≤ 10000 := by rw [hM.2]; have := d.C_le HO.out hi; omega
  have HMD := hid hM.2
  clear hM
  go_upto_region 1 with fail
  have SK : Hid (∀ U, Below w.heap.size w U → U.cell? ⟨d.pb, 1, none⟩ = some (.slice (some ⟨ub, uo, none⟩) d.us.length d.cap) ∧ U.cell? ⟨ub, uo + i * 3 + 2, none⟩ = some (.int .i64 (M : Int)) ∧ U.cell? ⟨d.pb, 6, none⟩ = some (.slice qo2 qn2 qc2)) := fun U h => ⟨(h.cell (p := ⟨d.pb, 1, none⟩) bl2).trans e1, (h.cell (p := ⟨ub, uo + i * 3 + 2, none⟩) hbl).trans a2, (h.cell (p := ⟨d.pb, 6, none⟩) bl2).trans e6⟩
  have de1 : w.drew.cell? ⟨d.pb, 1, none⟩ = some (.slice (some ⟨ub, uo, none⟩) d.us.length d.cap) := ((Below.refl w.heap.size w).drew.cell (p := ⟨d.pb, 1, none⟩) bl2).trans e1
  have da2 : w.drew.cell? ⟨ub, uo + i * 3 + 2, none⟩ = some (.int .i64 (M : Int)) := ((Below.refl w.heap.size w).drew.cell (p := ⟨ub, uo + i * 3 + 2, none⟩) hbl).trans a2
  have de6 : w.drew.cell? ⟨d.pb, 6, none⟩ = some (.slice qo2 qn2 qc2) := ((Below.refl w.heap.size w).drew.cell (p := ⟨d.pb, 6, none⟩) bl2).trans e6
  go_region_held3 (fun w' => w'.cell? ⟨d.pb, 1, none⟩ = some (.slice (some ⟨ub, uo, none⟩) d.us.length d.cap) ∧ w'.cell? ⟨ub, uo + i * 3 + 2, none⟩ = some (.int .i64 (M : Int)) ∧ w'.cell? ⟨d.pb, 6, none⟩ = some (.slice qo2 qn2 qc2)) (first | exact SK.out _ (Below.refl _ _).drew | exact SK.out _ hv6g0 | exact SK.out _ hv6g1)
    (first | (go_at_call 37; refine (ptimes_any wo qo2 wn wc qn2 qc2 M s.q _ HWR.out (HQ.out.below hv6g0) (by omega) (by omega)).mono ?_; rintro e6g1 w6g1 ⟨v2, rfl, ⟨vo, vn, vc, rfl, hvr, _⟩, hb6g1⟩; have hv6g1 : Below w.heap.size w w6g1 := hv6g0.trans (hb6g1.mono (hv6g0).size); clear hb6g1; have lv : vn ≤ 302 := (by rw [← hvr.len]; have h9 := len_mul M s.q; have h8 := len_sml hM2; omega); have HVR := hid hvr; clear hvr) | (go_at_call 35; refine (pwhole_any M _ (by omega)).mono ?_; rintro e6g0 w6g0 ⟨v1, rfl, ⟨wo, wn, wc, rfl, hwr, _⟩, hb6g0⟩; have hv6g0 : Below w.heap.size w w6g0 := (Below.refl w.heap.size w).drew.trans (hb6g0.mono ((Below.refl w.heap.size w).drew).size); clear hb6g0; have lw : wn ≤ 2 := (by rw [← hwr.len]; exact len_sml hM2); have HWR := hid hwr; clear hwr))
  clear SK de1 da2 de6
  have Rn_7 := hid (HN.out.below hv6g1)
  have Rs_7 := hid (HSS.out.below hv6g1)
  have HB_7 : Hid (Below w.heap.size w w6g1) := HB_0.out.trans (hv6g1.mono HB_0.out.size)
  clear HN HSS HB_0
  clear e1 a2 e6 bl2 HWR HQ
  obtain ⟨vt3, vg3, vh3, vs3, qo3, qn3, qc3, hbx3, hot3, hog3, hoh3, hos3, hoq3, hlt3_⟩ := (H.out.below HB_7.out).box
  have bl3 := hbx3.lt
  have e3 : w6g1.cell? ⟨d.pb, 3, none⟩ = some vg3 := hbx3.cell 3 _ rfl
  have hgl := HS.out.gl
  obtain ⟨goo, gcc, rfl⟩ := hog3.shape
  rw [hgl] at hog3 e3
  obtain ⟨gb, ga, gk, gcap, rfl, hgb, cg, _, hgrow⟩ := hog3.get (i := i) (by omega)
  rw [Nat.zero_add] at cg
  have HG := hid hgrow
  have lg : gk ≤ 8 := by rw [← hgrow.len]; exact HS.out.gs i hi
  clear hgrow hbx3 hot3 hog3 hoh3 hos3 hoq3 hlt3_
  go_wp2_with fail
  refine (pmatch_any vo ga no so vn vc gk gcap nm nc sm sc (M * s.q) (nn s.gl i) N S _ HVR.out HG.out Rn_7.out Rs_7.out (by omega) (by omega) (by omega) (by omega)).mono ?_
  rintro e3_ w3 ⟨rfl, hb3⟩
  have Rn_8 := hid (Rn_7.out.below hb3)
  have Rs_8 := hid (Rs_7.out.below hb3)
  have Rv_8 := hid (HVR.out.below hb3)
  have HB_8 : Hid (Below w.heap.size w w3) := HB_7.out.trans (hb3.mono HB_7.out.size)
  clear Rn_7 Rs_7 HVR HB_7
  clear hb3 cg e3 hgb bl3 HG
  by_cases hc : M * s.q * S = N * nn s.gl i
  · have HST : Hid (stopT d.a (nn s.gl) s.R N S i) := Or.inl (by rw [← HMD.out]; exact hc)
    have hcc : cmp3 ((M * s.q * S : Nat) : Int) ((N * nn s.gl i : Nat) : Int) = 0 := cmp3_zero.2 hc
    rw [hcc]
    clear hc hcc
    go_wp2
    go_ret
    exact ⟨⟨true, rfl, fun _ => HST.out, fun _ => rfl⟩, HB_8.out⟩
  · have HC := hid hc
    have hcc : (cmp3 ((M * s.q * S : Nat) : Int) ((N * nn s.gl i : Nat) : Int) == 0) = false := by rw [beq_eq_false_iff_ne]; exact fun h5 => hc (cmp3_zero.1 h5)
    generalize cmp3 ((M * s.q * S : Nat) : Int) ((N * nn s.gl i : Nat) : Int) = cc at hcc ⊢
    clear hc
    go_wp2
    go_loopg [11] d.pool.length (fun gg ix wr => ∃ r : Nat, gg = d.pool.length - r ∧ r ≤ d.pool.length ∧ ix = .int .i64 r ∧ Hid (∀ r', r' < r → ¬ (0 < d.a.D i r' ∧ lft d.a s.R r' * S = N * pullT d.a (nn s.gl) s.R r')) ∧ Hid (Row wr no nm nc (limbs N)) ∧ Hid (Row wr so sm sc (limbs S)) ∧ Hid (Below w.heap.size w wr))
    case atStart => exact ⟨0, rfl, Nat.zero_le _, rfl, fun r' h5 => by omega, Rn_8.out, Rs_8.out, HB_8.out⟩
    case round =>
      clear Rn_8 Rs_8 Rv_8 HB_8
      obtain ⟨r, hgr, hr, rfl, hz, hNN, hSN, hB⟩ := hrel
      obtain ⟨vt2, vg2, vh2, vs2, qo2, qn2, qc2, hbx2, hot2, hog2, hoh2, hos2, hoq2, hlt2_⟩ := (H.out.below hB.out).box
      have bl2 := hbx2.lt
      have e0 : wr.cell? ⟨d.pb, 0, none⟩ = some (.slice d.po d.pool.length d.pc) := hbx2.cell 0 _ rfl
      have e1 : wr.cell? ⟨d.pb, 1, none⟩ = some (.slice d.ao d.us.length d.cap) := hbx2.cell 1 _ rfl
      clear hbx2 hot2 hog2 hoh2 hos2 hoq2 hlt2_
      by_cases hrt : r < d.pool.length
      · have hrn : (r : Int) < (d.pool.length : Int) := by omega
        obtain ⟨ub, uo, da, dn, dc, hao, hbl, a0, a1, a2, hd⟩ := (H.out.users.below hB.out).get hi
        rw [hao] at e1
        have hdl := hd.len
        rw [ints_len, HO.out.good.len hi] at hdl
        subst hdl
        obtain ⟨db, dof, hdo, hdb⟩ := hd.head (by omega)
        have cd := hd.int hdo hrt
        subst hdo
        clear a1 a2 hd
        obtain ⟨D, hD⟩ : ∃ D : Nat, lm (ug d.us i).dem r = (D : Int) ∧ D = d.a.D i r := ⟨_, d.D_eq HO.out hi r, rfl⟩
        rw [hD.1] at cd
        have HDD := hid hD.2
        clear hD
        have HSTEP : Hid (¬ (0 < d.a.D i r ∧ lft d.a s.R r * S = N * pullT d.a (nn s.gl) s.R r) → ∀ r', r' < r + 1 → ¬ (0 < d.a.D i r' ∧ lft d.a s.R r' * S = N * pullT d.a (nn s.gl) s.R r')) := fun h5 r' h6 => by
          by_cases e : r' = r
          · subst e; exact h5
          · exact hz.out r' (by omega)
        by_cases hD0 : D = 0
        · subst hD0
          have HZ2 := hid (HSTEP.out (fun h5 => by rw [← HDD.out] at h5; exact absurd h5.1 (Nat.lt_irrefl 0)))
          go_wp2
          go_roundg (d.pool.length - (r + 1))
          case measure => omega
          case rel => exact ⟨r + 1, rfl, by omega, by go_num, HZ2.out, hNN.out, hSN.out, hB.out⟩
        · have hD1 : (0 : Int) < (D : Int) := by omega
          go_wp2_with fail
          refine (pleft_any d s r _ (H.out.below hB.out) HO.out HS.out hrt (HLE.out r hrt)).mono ?_
          rintro e7 w7 ⟨lo, lnn, lc, rfl, hlr, ll, hb7⟩
          have Rn_41 := hid (hNN.out.below hb7)
          have Rs_41 := hid (hSN.out.below hb7)
          have HB_41 : Hid (Below w.heap.size w w7) := hB.out.trans (hb7.mono hB.out.size)
          clear hNN hSN hB
          have HLR := hid hlr
          clear hb7 hlr e0 e1 a0 cd hbl hdb bl2
          go_wp2_with fail
          refine (ppull_any d s r _ (H.out.below HB_41.out) HO.out HS.out hrt).mono ?_
          rintro e8 w8 ⟨fo, fn, fc, rfl, hfr, lf, hb8⟩
          have Rn_42 := hid (Rn_41.out.below hb8)
          have Rs_42 := hid (Rs_41.out.below hb8)
          have Rl_42 := hid (HLR.out.below hb8)
          have HB_42 : Hid (Below w.heap.size w w8) := HB_41.out.trans (hb8.mono HB_41.out.size)
          clear Rn_41 Rs_41 HLR HB_41
          have HFR := hid hfr
          clear hb8 hfr
          go_wp2_with fail
          refine (pmatch_any lo fo no so lnn lc fn fc nm nc sm sc (lft d.a s.R r) (pullT d.a (nn s.gl) s.R r) N S _ Rl_42.out HFR.out Rn_42.out Rs_42.out (by omega) (by omega) (by omega) (by omega)).mono ?_
          rintro e9 w9 ⟨rfl, hb9⟩
          have Rn_43 := hid (Rn_42.out.below hb9)
          have Rs_43 := hid (Rs_42.out.below hb9)
          have Rl_43 := hid (Rl_42.out.below hb9)
          have Rf_43 := hid (HFR.out.below hb9)
          have HB_43 : Hid (Below w.heap.size w w9) := HB_42.out.trans (hb9.mono HB_42.out.size)
          clear Rn_42 Rs_42 Rl_42 HFR HB_42
          clear hb9
          by_cases hc : lft d.a s.R r * S = N * pullT d.a (nn s.gl) s.R r
          · have HST : Hid (stopT d.a (nn s.gl) s.R N S i) := Or.inr ⟨r, hrt, by rw [← HDD.out]; omega, hc⟩
            have hcc : cmp3 ((lft d.a s.R r * S : Nat) : Int) ((N * pullT d.a (nn s.gl) s.R r : Nat) : Int) = 0 := cmp3_zero.2 hc
            rw [hcc]
            clear hc hcc
            go_wp2
            go_ret
            exact ⟨⟨true, rfl, fun _ => HST.out, fun _ => rfl⟩, HB_43.out⟩
          · have HZ2 := hid (HSTEP.out (fun h5 => hc h5.2))
            have hcc : (cmp3 ((lft d.a s.R r * S : Nat) : Int) ((N * pullT d.a (nn s.gl) s.R r : Nat) : Int) == 0) = false := by rw [beq_eq_false_iff_ne]; exact fun h5 => hc (cmp3_zero.1 h5)
            generalize cmp3 ((lft d.a s.R r * S : Nat) : Int) ((N * pullT d.a (nn s.gl) s.R r : Nat) : Int) = cc2 at hcc ⊢
            clear hc
            go_wp2
            go_roundg (d.pool.length - (r + 1))
            case measure => omega
            case rel => exact ⟨r + 1, rfl, by omega, by go_num, HZ2.out, Rn_43.out, Rs_43.out, HB_43.out⟩
      · obtain rfl : r = d.pool.length := by omega
        have HNO : Hid (¬ stopT d.a (nn s.gl) s.R N S i) := fun h5 => by
          rcases h5 with h5 | ⟨r, h6, h7, h8⟩
          · exact HC.out (by rw [HMD.out]; exact h5)
          · exact hz.out r h6 ⟨h7, h8⟩
        go_wp2
        go_ret
        exact ⟨⟨false, rfl, fun h5 => (by cases h5), fun h5 => absurd h5 HNO.out⟩, hB.out⟩

end Go.Proofs.YtigokanoflkinaaGreatDoor

/- The rise of the reference: what its stores do. -/
namespace Go.Proofs.YtigokanoflkinaaGreatDoor
set_option linter.unusedSimpArgs false
set_option linter.unusedVariables false
open Go.RowKit Por

theorem Own.touch {T : TypeId} {B C : Nat} {w w' : World} {v : Value} {l : List Int} (h : Own B w v l) (ht : Touch T C w w') (hT : 3 ≠ T) : Own B w' v l := ht.own h hT
theorem BLs.touch {T : TypeId} {B C : Nat} {w w' : World} {v : Value} {l : List Bool} (h : BLs B w v l) (ht : Touch T C w w') (hT : 4 ≠ T) : BLs B w' v l := ht.own h hT
/-- p.have[i] = x -/
theorem RisM.setHave {w : World} {d : RD} {s : RV} (h : RisM w d s) {i x : Nat} (hi : i < s.hl.length) {ao : Option Addr} {k cap : Nat} (hr : Row w ao k cap (limbs x)) :
    ∃ vt vg hb n hc vs qo qn qc, Bx w d.pb (d.cells vt vg (.slice (some ⟨hb, 0, none⟩) n hc) vs qo qn qc) 75 ∧ n = s.hl.length ∧ hb < w.heap.size ∧ d.pb < hb ∧ (∃ y, w.cell? ⟨hb, i, none⟩ = some y) ∧ w.frozen? ⟨hb, i, none⟩ = false ∧ Touch 22 d.B1 w (w.setCell ⟨hb, i, none⟩ (.slice ao k cap)) ∧
      RisM (w.setCell ⟨hb, i, none⟩ (.slice ao k cap)) d { s with hl := s.hl.set i x } := by
  obtain ⟨⟨vt, vg, vh, vs, qo, qn, qc, h1, h2, h3, h4, h5, h6, h7⟩, h8, h9, h10, h11, h12⟩ := h
  obtain ⟨so, sc, rfl⟩ := h4.shape
  obtain ⟨hb, a', k', c', rfl, hlt, cc, cz, _⟩ := h4.get hi
  rw [Nat.zero_add] at cc cz
  obtain ⟨hB, cur, hcur⟩ := h4.at
  have hT : Touch 22 d.B1 w (w.setCell ⟨hb, i, none⟩ (.slice ao k cap)) := Touch.of_set hcur hB
  have hlt2 := h7 hb _ _ rfl
  refine ⟨vt, vg, hb, _, sc, vs, qo, qn, qc, h1, rfl, hlt, by omega, ⟨_, cc⟩, cz, hT, ⟨⟨vt, vg, .slice (some ⟨hb, 0, none⟩) s.hl.length sc, vs, qo, qn, qc, hT.bx h1 (by decide), h2.touch hT (by decide), ?_, h4.set hi hr, h5.touch hT (by decide), h6.touch hT (by decide), ?_⟩, h8, h9, h10.setCell (by show d.w0.heap.size ≤ hb; omega) _, h11, h12⟩⟩
  · obtain ⟨go, gc, rfl⟩ := h3.shape
    refine h3.other hcur (fun a e => ?_)
    subst e
    have hg := h3
    obtain ⟨xs, g1, _⟩ := hg
    rcases g1.2 with ⟨e, _⟩ | ⟨g, cap', cur', e, g3, _⟩
    · cases e
    · cases e; show g ≠ hb; omega
  · intro b n c e; cases e; exact hlt2
/-- p.still[i] = x -/
theorem RisM.setStill {w : World} {d : RD} {s : RV} (h : RisM w d s) {i : Nat} (hi : i < s.sl.length) (x : Bool) :
    ∃ vt vg vh sb n sc qo qn qc, Bx w d.pb (d.cells vt vg vh (.slice (some ⟨sb, 0, none⟩) n sc) qo qn qc) 75 ∧ n = s.sl.length ∧ sb < w.heap.size ∧ d.pb < sb ∧ (∃ y, w.cell? ⟨sb, i, none⟩ = some y) ∧ w.frozen? ⟨sb, i, none⟩ = false ∧ Touch 4 d.B1 w (w.setCell ⟨sb, i, none⟩ (.bool x)) ∧
      RisM (w.setCell ⟨sb, i, none⟩ (.bool x)) d { s with sl := s.sl.set i x } := by
  obtain ⟨⟨vt, vg, vh, vs, qo, qn, qc, h1, h2, h3, h4, h5, h6, h7⟩, h8, h9, h10, h11, h12⟩ := h
  obtain ⟨so, sc, rfl⟩ := h5.shape
  obtain ⟨sb, rfl, hlt, cc, cz⟩ := h5.get hi
  rw [Nat.zero_add] at cc cz
  obtain ⟨hset, hT⟩ := h5.set i x hi
  have hB : d.B1 ≤ sb := by
    rcases h5.2 with ⟨e, _⟩ | ⟨g, cap, cur, e, h3', _⟩
    · cases e
    · cases e; exact h3'
  exact ⟨vt, vg, vh, sb, _, sc, qo, qn, qc, h1, rfl, hlt, by omega, ⟨_, cc⟩, cz, hT, ⟨⟨vt, vg, vh, _, qo, qn, qc, hT.bx h1 (by decide), h2.touch hT (by decide), h3.touch hT (by decide) (by decide), h4.touch hT (by decide) (by decide), hset, h6.touch hT (by decide), h7⟩, h8, h9, h10.setCell (by show d.w0.heap.size ≤ sb; omega) _, h11, h12⟩⟩
/-- p.q = x -/
theorem RisM.setQ {w : World} {d : RD} {s : RV} (h : RisM w d s) {x : Nat} {ao : Option Addr} {k cap : Nat} (hr : Row w ao k cap (limbs x)) :
    RisM (w.setCell ⟨d.pb, 6, none⟩ (.slice ao k cap)) d { s with q := x } ∧ Touch 75 d.pb w (w.setCell ⟨d.pb, 6, none⟩ (.slice ao k cap)) := by
  obtain ⟨⟨vt, vg, vh, vs, qo, qn, qc, h1, h2, h3, h4, h5, h6, h7⟩, h8, h9, h10, h11, h12⟩ := h
  have hT : Touch 75 d.pb w (w.setCell ⟨d.pb, 6, none⟩ (.slice ao k cap)) := Touch.of_set h1 (Nat.le_refl _)
  refine ⟨⟨⟨vt, vg, vh, vs, ao, k, cap, ?_, h2.touch hT (by decide), h3.touch hT (by decide) (by decide), h4.touch hT (by decide) (by decide), h5.touch hT (by decide), hr.touch hT (by decide), h7⟩, h8, h9, h10.setCell h11 _, h11, h12⟩, hT⟩
  exact bx_setq h1 6 (.slice ao k cap)

/-- p.have[i] = x, at the cells that the walk has met -/
theorem RisM.setHaveAt {w : World} {d : RD} {s : RV} (h : RisM w d s) {i x : Nat} (hi : i < s.hl.length) {ao : Option Addr} {k cap : Nat} (hr : Row w ao k cap (limbs x)) {hb n hc : Nat} (e : w.cell? ⟨d.pb, 4, none⟩ = some (.slice (some ⟨hb, 0, none⟩) n hc)) :
    hb < w.heap.size ∧ d.pb < hb ∧ (∃ y, w.cell? ⟨hb, i, none⟩ = some y) ∧ w.frozen? ⟨hb, i, none⟩ = false ∧ Touch 22 d.B1 w (w.setCell ⟨hb, i, none⟩ (.slice ao k cap)) ∧
      RisM (w.setCell ⟨hb, i, none⟩ (.slice ao k cap)) d { s with hl := s.hl.set i x } := by
  obtain ⟨vt, vg, hb', n', hc', vs, qo, qn, qc, hbx, _, h1, h2, h3, h4, h5, h6⟩ := h.setHave hi hr
  have e4 : w.cell? ⟨d.pb, 4, none⟩ = some (.slice (some ⟨hb', 0, none⟩) n' hc') := hbx.cell 4 _ rfl
  rw [e4] at e
  cases e
  exact ⟨h1, h2, h3, h4, h5, h6⟩
theorem RisM.setStillAt {w : World} {d : RD} {s : RV} (h : RisM w d s) {i : Nat} (hi : i < s.sl.length) (x : Bool) {sb n sc : Nat} (e : w.cell? ⟨d.pb, 5, none⟩ = some (.slice (some ⟨sb, 0, none⟩) n sc)) :
    sb < w.heap.size ∧ d.pb < sb ∧ (∃ y, w.cell? ⟨sb, i, none⟩ = some y) ∧ w.frozen? ⟨sb, i, none⟩ = false ∧ Touch 4 d.B1 w (w.setCell ⟨sb, i, none⟩ (.bool x)) ∧
      RisM (w.setCell ⟨sb, i, none⟩ (.bool x)) d { s with sl := s.sl.set i x } := by
  obtain ⟨vt, vg, vh, sb', n', sc', qo, qn, qc, hbx, _, h1, h2, h3, h4, h5, h6⟩ := h.setStill hi x
  have e4 : w.cell? ⟨d.pb, 5, none⟩ = some (.slice (some ⟨sb', 0, none⟩) n' sc') := hbx.cell 5 _ rfl
  rw [e4] at e
  cases e
  exact ⟨h1, h2, h3, h4, h5, h6⟩
theorem cell_set_ne {w : World} {b o g i : Nat} {u : Value} (h : g ≠ b) : (w.setCell ⟨b, o, none⟩ u).cell? ⟨g, i, none⟩ = w.cell? ⟨g, i, none⟩ := World.cell?_of_block (Below.heap_setCell w _ u g h)

/- One turn, in lists. -/
/-- the lists behind a turn: l those that stop -/
theorem turn_of {d : RD} {s s' : RV} {N S : Nat} {kd : Bool} {l : List Nat} (hx : nextT d.a (nn s.gl) s.R = (N, S, kd)) (hl : ∀ j, j ∈ l ↔ j < d.us.length ∧ bn s.sl j = true ∧ stopT d.a (nn s.gl) s.R N S j)
    (hq : s'.q = if kd then s.q * S else s.q) (hs : ∀ j, j < d.us.length → bn s'.sl j = if j ∈ l then false else bn s.sl j)
    (hv : ∀ j, j < d.us.length → nn s'.hl j = if j ∈ l then (if kd then N * nn s.gl j else d.a.C j * s'.q) else if kd then nn s.hl j * S else nn s.hl j) : TurnT d.a (nn s.gl) s.R s'.R := by
  refine ⟨fun i hi => ?_, ?_, fun i hi h1 h2 => ?_, fun i hi h1 => ?_⟩
  · rw [hx]
    show bn s'.sl i = true ↔ bn s.sl i = true ∧ _
    rw [hs i hi]
    by_cases h : i ∈ l
    · rw [if_pos h]
      have h2 := (hl i).1 h
      simp only [Bool.false_eq_true, false_iff]
      exact fun h5 => h5.2 h2.2.2
    · rw [if_neg h]
      constructor
      · intro h5; exact ⟨h5, fun h6 => h ((hl i).2 ⟨hi, h5, h6⟩)⟩
      · exact fun h5 => h5.1
  · rw [hx]; exact hq
  · rw [hx] at h2 ⊢
    show nn s'.hl i = _
    rw [hv i hi, if_pos ((hl i).2 ⟨hi, h1, h2⟩)]; rfl
  · rw [hx] at h1 ⊢
    show nn s'.hl i = _
    rw [hv i hi, if_neg (fun h5 => h1 ((hl i).1 h5).2)]; rfl
end Go.Proofs.YtigokanoflkinaaGreatDoor
