/- The rise of the reference in memory: left, pull. (Laid by mkriseb.py.) -/
import Derived.Test.YtigokanoflkinaaGreatDoorRRis
namespace Go.Proofs.YtigokanoflkinaaGreatDoor
set_option linter.unusedSimpArgs false
set_option linter.unusedVariables false
open Go.RowKit Por

/-- where a rise lies, and what it is of -/
structure RD where
  w0 : World
  po : Option Addr
  pc : Nat
  pool : List Int
  ao : Option Addr
  cap : Nat
  us : List Usr
  pb : Nat
  B1 : Nat
  B2 : Nat
/-- the problem in whole numbers -/
def RD.a (d : RD) : NProb := ⟨d.us.length, d.pool.length, fun r => (lm d.pool r).toNat, fun i r => (lm (ug d.us i).dem r).toNat, fun i => (ug d.us i).wt.toNat, fun i => (ug d.us i).cap.toNat⟩
abbrev RD.cells (d : RD) (vt vg vh vs : Value) (qo : Option Addr) (qn qc : Nat) : Array Value := #[.slice d.po d.pool.length d.pc, .slice d.ao d.us.length d.cap, vt, vg, vh, vs, .slice qo qn qc]
/-- what the rise holds: tops, growths, what users have, who grows, the measure -/
structure RV where
  tl : List Int
  gl : List Nat
  hl : List Nat
  sl : List Bool
  q : Nat
def RV.R (s : RV) : RS := ⟨bn s.sl, nn s.hl, s.q⟩
structure RisM (w : World) (d : RD) (s : RV) : Prop where
  box : ∃ vt vg vh vs qo qn qc, Bx w d.pb (d.cells vt vg vh vs qo qn qc) 75 ∧ Own d.B1 w vt s.tl ∧ NLs d.B2 w vg s.gl ∧ NLs d.B1 w vh s.hl ∧ BLs d.B1 w vs s.sl ∧ Row w qo qn qc (limbs s.q) ∧ ∀ b n c, vh = .slice (some ⟨b, 0, none⟩) n c → b < d.B2
  p0 : Arr d.w0 1 d.po d.pool.length d.pc (ints d.pool)
  u0 : Users d.w0 d.ao d.us.length d.cap d.us
  bel : Below d.w0.heap.size d.w0 w
  low : d.w0.heap.size ≤ d.pb
  ord : d.pb < d.B1 ∧ d.B1 ≤ d.B2
theorem RisM.pool {w : World} {d : RD} {s : RV} (h : RisM w d s) : Arr w 1 d.po d.pool.length d.pc (ints d.pool) := h.p0.below h.bel
theorem RisM.users {w : World} {d : RD} {s : RV} (h : RisM w d s) : Users w d.ao d.us.length d.cap d.us := h.u0.below h.bel
theorem RisM.below {w w' : World} {d : RD} {s : RV} (h : RisM w d s) (hb : Below w.heap.size w w') : RisM w' d s := by
  obtain ⟨⟨vt, vg, vh, vs, qo, qn, qc, h1, h2, h3, h4, h5, h6, h7⟩, h8, h9, h10, h11, h12⟩ := h
  exact ⟨⟨vt, vg, vh, vs, qo, qn, qc, h1.below hb h1.lt, h2.below hb, h3.below hb, h4.below hb, h5.below hb, h6.below hb, h7⟩, h8, h9, h10.trans (hb.mono h10.size), h11, h12⟩
/-- what is the same throughout -/
structure RD.Ok (d : RD) : Prop where
  good : Good d.us d.pool.length
  pool : ∀ i, amtB (lm d.pool i) = true
  n6 : d.us.length ≤ 6
  k1 : 1 ≤ d.pool.length
  k4 : d.pool.length ≤ 4
/-- the lists are as long as there are users; nothing is long -/
structure RV.Ok (s : RV) (d : RD) : Prop where
  tl : s.tl.length = d.us.length
  gl : s.gl.length = d.us.length
  hl : s.hl.length = d.us.length
  sl : s.sl.length = d.us.length
  q : (limbs s.q).length ≤ 300
  hs : ∀ i, i < d.us.length → (limbs (nn s.hl i)).length ≤ 300
  gs : ∀ i, i < d.us.length → (limbs (nn s.gl i)).length ≤ 8
theorem RD.P_eq {d : RD} (h : d.Ok) (r : Nat) : lm d.pool r = ((d.a.P r : Nat) : Int) := by
  have := amt_rng (h.pool r)
  show lm d.pool r = (((lm d.pool r).toNat : Nat) : Int); omega
theorem RD.D_eq {d : RD} (h : d.Ok) {i : Nat} (hi : i < d.us.length) (r : Nat) : lm (ug d.us i).dem r = ((d.a.D i r : Nat) : Int) := by
  have := amt_rng (h.good.dem hi r)
  show lm (ug d.us i).dem r = (((lm (ug d.us i).dem r).toNat : Nat) : Int); omega
theorem RD.P_le {d : RD} (h : d.Ok) (r : Nat) : d.a.P r ≤ 10000 := by have := amt_rng (h.pool r); have := d.P_eq h r; omega
theorem RD.D_le {d : RD} (h : d.Ok) {i : Nat} (hi : i < d.us.length) (r : Nat) : d.a.D i r ≤ 10000 := by have := amt_rng (h.good.dem hi r); have := d.D_eq h hi r; omega
theorem leftT_zero (a : NProb) (R : RS) (r : Nat) : leftT a R r 0 = a.P r * R.q := rfl
theorem leftT_still {a : NProb} {R : RS} {r i : Nat} (h : R.still i = true) : leftT a R r (i + 1) = leftT a R r i := by simp [leftT, h]
theorem leftT_stop {a : NProb} {R : RS} {r i : Nat} (h : R.still i = false) : leftT a R r (i + 1) = leftT a R r i - a.D i r * R.hv i := by simp [leftT, h]
theorem leftT_le (a : NProb) (R : RS) (r : Nat) : ∀ i, leftT a R r i ≤ a.P r * R.q := by
  intro i
  induction i with
  | zero => exact Nat.le_refl _
  | succ i ih =>
    cases h : R.still i with
    | true => rw [leftT_still h]; exact ih
    | false => rw [leftT_stop h]; omega

theorem len_sml {N : Nat} (h : N ≤ 10000) : (limbs N).length ≤ 2 := by
  have := len_mono (a := N) (b := 10000) h
  have e : (limbs 10000).length = 2 := by decide
  omega
set_option maxHeartbeats 20000000 in
set_option maxRecDepth 20000 in
theorem pleft_any (d : RD) (s : RV) (r : Nat) (w : World) (h : RisM w d s) (ho : d.Ok) (hs : s.Ok d) (hr : r < d.pool.length) (hle : ∀ i, i < d.us.length → bn s.sl i = false → d.a.D i r * nn s.hl i ≤ leftT d.a s.R r i) :
    Calls Tryz.prog 85 #[.pointer (some ⟨d.pb, 0, none⟩), .int .i64 r] w fun e w' => ∃ xo xn xc, e = .returned (.slice xo xn xc) ∧ Row w' xo xn xc (limbs (lft d.a s.R r)) ∧ xn ≤ 302 ∧ Below w.heap.size w w' := by
  obtain ⟨N, hN⟩ : ∃ N : Nat, lm d.pool r = (N : Int) ∧ N = d.a.P r := ⟨_, d.P_eq ho r, rfl⟩
  have hN2 : N ≤ 10000 := by rw [hN.2]; exact d.P_le ho r
  have hk4 := ho.k4
  have hn6 := ho.n6
  have HN := hid hN
  clear hN
  have H := hid h
  have HO := hid ho
  have HS := hid hs
  have HLE := hid hle
  clear h ho hs hle
  have HB_0 := hid (Below.refl w.heap.size w)
  go_enter Tryz.func85, Tryz.ntmps85
  have hrp : (r : Int) < (d.pool.length : Int) := by omega
  obtain ⟨vt, vg, vh, vs, qo, qn, qc, hbx, hot, hog, hoh, hos, hoq, hlt_⟩ := (H.out.below HB_0.out).box
  have bl := hbx.lt
  obtain ⟨ppb, pof, hpo, hppb⟩ := H.out.pool.head (by omega)
  have cp := H.out.pool.int hpo hr
  have c0 : w.cell? ⟨d.pb, 0, none⟩ = some (.slice d.po d.pool.length d.pc) := hbx.cell 0 _ rfl
  have c6 : w.cell? ⟨d.pb, 6, none⟩ = some (.slice qo qn qc) := hbx.cell 6 _ rfl
  rw [hpo] at c0
  rw [HN.out.1] at cp
  have HQ := hid hoq
  have lq := hoq.len
  have lq2 := HS.out.q
  clear hbx hot hog hoh hos hoq hlt_
  go_upto_region 1 with fail
  have SK : Hid (∀ U, Below w.heap.size w U → U.cell? ⟨d.pb, 0, none⟩ = some (.slice (some ⟨ppb, pof, none⟩) d.pool.length d.pc) ∧ U.cell? ⟨ppb, pof + r, none⟩ = some (.int .i64 (N : Int)) ∧ U.cell? ⟨d.pb, 6, none⟩ = some (.slice qo qn qc)) := fun U h => ⟨(h.cell (p := ⟨d.pb, 0, none⟩) bl).trans c0, (h.cell (p := ⟨ppb, pof + r, none⟩) hppb).trans cp, (h.cell (p := ⟨d.pb, 6, none⟩) bl).trans c6⟩
  have dc0 : w.drew.cell? ⟨d.pb, 0, none⟩ = some (.slice (some ⟨ppb, pof, none⟩) d.pool.length d.pc) := ((Below.refl w.heap.size w).drew.cell (p := ⟨d.pb, 0, none⟩) bl).trans c0
  have dcp : w.drew.cell? ⟨ppb, pof + r, none⟩ = some (.int .i64 (N : Int)) := ((Below.refl w.heap.size w).drew.cell (p := ⟨ppb, pof + r, none⟩) hppb).trans cp
  have dc6 : w.drew.cell? ⟨d.pb, 6, none⟩ = some (.slice qo qn qc) := ((Below.refl w.heap.size w).drew.cell (p := ⟨d.pb, 6, none⟩) bl).trans c6
  go_region_held3 (fun w' => w'.cell? ⟨d.pb, 0, none⟩ = some (.slice (some ⟨ppb, pof, none⟩) d.pool.length d.pc) ∧ w'.cell? ⟨ppb, pof + r, none⟩ = some (.int .i64 (N : Int)) ∧ w'.cell? ⟨d.pb, 6, none⟩ = some (.slice qo qn qc)) (first | exact SK.out _ (Below.refl _ _).drew | exact SK.out _ hv6g0 | exact SK.out _ hv6g1)
    (first | (go_at_call 37; refine (ptimes_any wo qo wn wc qn qc N s.q _ HWR.out (HQ.out.below hv6g0) (by omega) (by omega)).mono ?_; rintro e6g1 w6g1 ⟨v2, rfl, ⟨xo, xn, xc, rfl, hxr, _⟩, hb6g1⟩; have hv6g1 : Below w.heap.size w w6g1 := hv6g0.trans (hb6g1.mono (hv6g0).size); clear hb6g1; have lx : xn ≤ 302 := (by rw [← hxr.len]; have h9 := len_mul N s.q; have h8 := len_sml hN2; omega); have HXR := hid hxr; clear hxr) | (go_at_call 35; refine (pwhole_any N _ (by omega)).mono ?_; rintro e6g0 w6g0 ⟨v1, rfl, ⟨wo, wn, wc, rfl, hwr, _⟩, hb6g0⟩; have hv6g0 : Below w.heap.size w w6g0 := (Below.refl w.heap.size w).drew.trans (hb6g0.mono ((Below.refl w.heap.size w).drew).size); clear hb6g0; have lw : wn ≤ 2 := (by rw [← hwr.len]; exact len_sml hN2); have HWR := hid hwr; clear hwr))
  clear SK dc0 dcp dc6
  have HB_7 : Hid (Below w.heap.size w w6g1) := HB_0.out.trans (hv6g1.mono HB_0.out.size)
  clear HB_0
  clear c0 cp c6 bl
  have HXR2 : Hid (Row w6g1 xo xn xc (limbs (leftT d.a s.R r 0))) := by rw [leftT_zero, ← HN.out.2]; exact HXR.out
  clear HXR HWR
  go_wp2
  go_loopg [5, 6] d.us.length (fun gg s5 ix wr => ∃ (i : Nat) (xo : Option Addr) (xn xc : Nat), gg = d.us.length - i ∧ i ≤ d.us.length ∧ ix = .int .i64 i ∧ s5 = .slice xo xn xc ∧ Hid (Row wr xo xn xc (limbs (leftT d.a s.R r i))) ∧ Hid (Below w.heap.size w wr))
  case atStart => exact ⟨0, _, _, _, rfl, Nat.zero_le _, rfl, rfl, HXR2.out, HB_7.out⟩
  case round =>
    clear HXR2 HB_7
    skip
    obtain ⟨i, yo, yn, yc, hgi, hi, rfl, rfl, hY, hB⟩ := hrel
    have ly : yn ≤ 302 := by rw [← hY.out.len]; have h9 := len_mono (leftT_le d.a s.R r i); have h8 := len_mul (d.a.P r) s.q; have h7 := len_sml (d.P_le HO.out r); have h6 := HS.out.q; have e6 : s.R.q = s.q := rfl; rw [e6] at h9; omega
    obtain ⟨vt2, vg2, vh2, vs2, qo2, qn2, qc2, hbx2, hot2, hog2, hoh2, hos2, hoq2, hlt2_⟩ := (H.out.below hB.out).box
    have bl2 := hbx2.lt
    have e1 : wr.cell? ⟨d.pb, 1, none⟩ = some (.slice d.ao d.us.length d.cap) := hbx2.cell 1 _ rfl
    by_cases hit : i < d.us.length
    · have hin : (i : Int) < (d.us.length : Int) := by omega
      have e5 : wr.cell? ⟨d.pb, 5, none⟩ = some vs2 := hbx2.cell 5 _ rfl
      have e4 : wr.cell? ⟨d.pb, 4, none⟩ = some vh2 := hbx2.cell 4 _ rfl
      have hsl := HS.out.sl
      have hhl := HS.out.hl
      obtain ⟨so, sc, rfl⟩ := hos2.shape
      rw [hsl] at hos2 e5
      obtain ⟨sb, rfl, hsb, cs, _⟩ := hos2.get (i := i) (by omega)
      rw [Nat.zero_add] at cs
      obtain ⟨hoo, hc, rfl⟩ := hoh2.shape
      rw [hhl] at hoh2 e4
      obtain ⟨hb_, ha, hk_, hcap, rfl, hhb, ch, _, hrow⟩ := hoh2.get (i := i) (by omega)
      rw [Nat.zero_add] at ch
      have HROW := hid hrow
      have lrow := hrow.len
      have lrow2 := HS.out.hs i hit
      clear hrow hbx2 hot2 hog2 hoh2 hos2 hoq2 hlt2_
      obtain ⟨ub, uo, da, dn, dc, hao, hbl, a0, a1, a2, hd⟩ := (H.out.users.below hB.out).get hit
      rw [hao] at e1
      have hdl := hd.len
      rw [ints_len, HO.out.good.len hit] at hdl
      subst hdl
      obtain ⟨db, dof, hdo, hdb⟩ := hd.head (by omega)
      have cd := hd.int hdo hr
      subst hdo
      clear a1 a2 hd
      obtain ⟨M, hM⟩ : ∃ M : Nat, lm (ug d.us i).dem r = (M : Int) ∧ M = d.a.D i r := ⟨_, d.D_eq HO.out hit r, rfl⟩
      rw [hM.1] at cd
      have hM2 : M ≤ 10000 := by rw [hM.2]; exact d.D_le HO.out hit r
      have HMD := hid hM.2
      clear hM
      cases hst : bn s.sl i with
      | true =>
        have HE : Hid (leftT d.a s.R r (i + 1) = leftT d.a s.R r i) := leftT_still hst
        go_wp2
        go_roundg (d.us.length - (i + 1))
        case measure => omega
        case rel => exact ⟨i + 1, yo, yn, yc, rfl, by omega, by go_num, rfl, by rw [HE.out]; exact hY.out, hB.out⟩
      | false =>
        have HE : Hid (leftT d.a s.R r (i + 1) = leftT d.a s.R r i - M * nn s.hl i) := by rw [Hid, leftT_stop hst, HMD.out]; rfl
        have HL2 : Hid (M * nn s.hl i ≤ leftT d.a s.R r i) := by have h9 := HLE.out i hit hst; rw [HMD.out]; exact h9
        go_upto_region 6 with fail
        have SK : Hid (∀ U, Below wr.heap.size wr U → U.cell? ⟨d.pb, 1, none⟩ = some (.slice (some ⟨ub, uo, none⟩) d.us.length d.cap) ∧ U.cell? ⟨ub, uo + i * 3, none⟩ = some (.slice (some ⟨db, dof, none⟩) d.pool.length dc) ∧ U.cell? ⟨db, dof + r, none⟩ = some (.int .i64 (M : Int)) ∧ U.cell? ⟨d.pb, 4, none⟩ = some (.slice (some ⟨hb_, 0, none⟩) d.us.length hc) ∧ U.cell? ⟨hb_, i, none⟩ = some (.slice ha hk_ hcap)) := fun U h => ⟨(h.cell (p := ⟨d.pb, 1, none⟩) bl2).trans e1, (h.cell (p := ⟨ub, uo + i * 3, none⟩) hbl).trans a0, (h.cell (p := ⟨db, dof + r, none⟩) hdb).trans cd, (h.cell (p := ⟨d.pb, 4, none⟩) bl2).trans e4, (h.cell (p := ⟨hb_, i, none⟩) hhb).trans ch⟩
        have de1 : wr.drew.cell? ⟨d.pb, 1, none⟩ = some (.slice (some ⟨ub, uo, none⟩) d.us.length d.cap) := ((Below.refl wr.heap.size wr).drew.cell (p := ⟨d.pb, 1, none⟩) bl2).trans e1
        have da0 : wr.drew.cell? ⟨ub, uo + i * 3, none⟩ = some (.slice (some ⟨db, dof, none⟩) d.pool.length dc) := ((Below.refl wr.heap.size wr).drew.cell (p := ⟨ub, uo + i * 3, none⟩) hbl).trans a0
        have dcd : wr.drew.cell? ⟨db, dof + r, none⟩ = some (.int .i64 (M : Int)) := ((Below.refl wr.heap.size wr).drew.cell (p := ⟨db, dof + r, none⟩) hdb).trans cd
        have de4 : wr.drew.cell? ⟨d.pb, 4, none⟩ = some (.slice (some ⟨hb_, 0, none⟩) d.us.length hc) := ((Below.refl wr.heap.size wr).drew.cell (p := ⟨d.pb, 4, none⟩) bl2).trans e4
        have dch : wr.drew.cell? ⟨hb_, i, none⟩ = some (.slice ha hk_ hcap) := ((Below.refl wr.heap.size wr).drew.cell (p := ⟨hb_, i, none⟩) hhb).trans ch
        go_region_held3 (fun w' => w'.cell? ⟨d.pb, 1, none⟩ = some (.slice (some ⟨ub, uo, none⟩) d.us.length d.cap) ∧ w'.cell? ⟨ub, uo + i * 3, none⟩ = some (.slice (some ⟨db, dof, none⟩) d.pool.length dc) ∧ w'.cell? ⟨db, dof + r, none⟩ = some (.int .i64 (M : Int)) ∧ w'.cell? ⟨d.pb, 4, none⟩ = some (.slice (some ⟨hb_, 0, none⟩) d.us.length hc) ∧ w'.cell? ⟨hb_, i, none⟩ = some (.slice ha hk_ hcap)) (first | exact SK.out _ (Below.refl _ _).drew | exact SK.out _ hv41g0 | exact SK.out _ hv41g1)
          (first | (go_at_call 37; refine (ptimes_any wo ha wn wc hk_ hcap M (nn s.hl i) _ HWR.out (HROW.out.below hv41g0) (by omega) (by omega)).mono ?_; rintro e41g1 w41g1 ⟨v2, rfl, ⟨zo, zn, zc, rfl, hzr, _⟩, hb41g1⟩; have hv41g1 : Below wr.heap.size wr w41g1 := hv41g0.trans (hb41g1.mono (hv41g0).size); clear hb41g1; have lz : zn ≤ 302 := (by rw [← hzr.len]; have h9 := len_mul M (nn s.hl i); have h8 := len_sml hM2; omega); have HZR := hid hzr; clear hzr) | (go_at_call 35; refine (pwhole_any M _ (by omega)).mono ?_; rintro e41g0 w41g0 ⟨v1, rfl, ⟨wo, wn, wc, rfl, hwr, _⟩, hb41g0⟩; have hv41g0 : Below wr.heap.size wr w41g0 := (Below.refl wr.heap.size wr).drew.trans (hb41g0.mono ((Below.refl wr.heap.size wr).drew).size); clear hb41g0; have lw : wn ≤ 2 := (by rw [← hwr.len]; exact len_sml hM2); have HWR := hid hwr; clear hwr))
        clear SK de1 da0 dcd de4 dch
        have Ry_42 := hid (hY.out.below hv41g1)
        have HB_42 : Hid (Below w.heap.size w w41g1) := hB.out.trans (hv41g1.mono hB.out.size)
        clear hY hB
        clear e1 a0 cd e4 ch e5 cs
        go_wp2_with fail
        refine (pless_any yo zo yn yc zn zc (leftT d.a s.R r i) (M * nn s.hl i) _ Ry_42.out HZR.out (by omega) (by omega) HL2.out).mono ?_
        rintro e9 w9 ⟨v9, rfl, ⟨ro, rn, rc, rfl, hrr, _⟩, hb9⟩
        have HB_43 : Hid (Below w.heap.size w w9) := HB_42.out.trans (hb9.mono HB_42.out.size)
        clear HB_42
        have HRR := hid hrr
        clear hb9 hrr
        go_wp2
        go_roundg (d.us.length - (i + 1))
        case measure => omega
        case rel => exact ⟨i + 1, ro, rn, rc, rfl, by omega, by go_num, rfl, by rw [HE.out]; exact HRR.out, HB_43.out⟩
    · obtain rfl : i = d.us.length := by omega
      clear hbx2 hot2 hog2 hoh2 hos2 hoq2 hlt2_
      go_wp2
      go_ret
      exact ⟨yo, yn, yc, rfl, hY.out, ly, hB.out⟩

/-- what those that grow want of kind r -/
def pulF (d : RD) (s : RV) (r : Nat) (i : Nat) : Nat := if s.R.still i then d.a.D i r * nn s.gl i else 0
theorem pulF_len {d : RD} {s : RV} (ho : d.Ok) (hs : s.Ok d) (r : Nat) {i : Nat} (hi : i < d.us.length) : (limbs (pulF d s r i)).length ≤ 10 := by
  unfold pulF
  split
  · have h1 := len_mul (d.a.D i r) (nn s.gl i)
    have h2 := len_sml (d.D_le ho hi r)
    have h3 := hs.gs i hi
    omega
  · rw [limbs_zero]; exact Nat.zero_le _
theorem pul_len {d : RD} {s : RV} (ho : d.Ok) (hs : s.Ok d) (r : Nat) : ∀ i, i ≤ d.us.length → (limbs (sumT (pulF d s r) i)).length ≤ 10 + i := by
  intro i
  induction i with
  | zero => intro _; show (limbs 0).length ≤ _; rw [limbs_zero]; exact Nat.zero_le _
  | succ i ih =>
    intro hi
    have h1 := ih (by omega)
    have h2 := pulF_len ho hs r (i := i) (by omega)
    have h3 := len_add (sumT (pulF d s r) i) (pulF d s r i)
    show (limbs (sumT (pulF d s r) i + pulF d s r i)).length ≤ _
    omega

set_option maxHeartbeats 20000000 in
set_option maxRecDepth 20000 in
theorem ppull_any (d : RD) (s : RV) (r : Nat) (w : World) (h : RisM w d s) (ho : d.Ok) (hs : s.Ok d) (hr : r < d.pool.length) :
    Calls Tryz.prog 84 #[.pointer (some ⟨d.pb, 0, none⟩), .int .i64 r] w fun e w' => ∃ xo xn xc, e = .returned (.slice xo xn xc) ∧ Row w' xo xn xc (limbs (pullT d.a (nn s.gl) s.R r)) ∧ xn ≤ 16 ∧ Below w.heap.size w w' := by
  have hk4 := ho.k4
  have hn6 := ho.n6
  have H := hid h
  have HO := hid ho
  have HS := hid hs
  clear h ho hs
  have HB_0 := hid (Below.refl w.heap.size w)
  go_enter Tryz.func84, Tryz.ntmps84
  have hrp : (r : Int) < (d.pool.length : Int) := by omega
  go_wp2
  go_loopg [5, 6] d.us.length (fun gg s5 ix wr => ∃ (i : Nat) (xo : Option Addr) (xn xc : Nat), gg = d.us.length - i ∧ i ≤ d.us.length ∧ ix = .int .i64 i ∧ s5 = .slice xo xn xc ∧ Hid (Row wr xo xn xc (limbs (sumT (pulF d s r) i))) ∧ Hid (Below w.heap.size w wr))
  case atStart => exact ⟨0, _, _, _, rfl, Nat.zero_le _, rfl, rfl, (by show Row w none 0 0 (limbs 0); rw [limbs_zero]; exact Row.nil w), HB_0.out⟩
  case round =>
    clear HB_0
    obtain ⟨i, yo, yn, yc, hgi, hi, rfl, rfl, hY, hB⟩ := hrel
    have ly : yn ≤ 16 := by rw [← hY.out.len]; have h9 := pul_len HO.out HS.out r i hi; omega
    obtain ⟨vt2, vg2, vh2, vs2, qo2, qn2, qc2, hbx2, hot2, hog2, hoh2, hos2, hoq2, hlt2_⟩ := (H.out.below hB.out).box
    have bl2 := hbx2.lt
    have e1 : wr.cell? ⟨d.pb, 1, none⟩ = some (.slice d.ao d.us.length d.cap) := hbx2.cell 1 _ rfl
    by_cases hit : i < d.us.length
    · have hin : (i : Int) < (d.us.length : Int) := by omega
      have e5 : wr.cell? ⟨d.pb, 5, none⟩ = some vs2 := hbx2.cell 5 _ rfl
      have e4 : wr.cell? ⟨d.pb, 3, none⟩ = some vg2 := hbx2.cell 3 _ rfl
      have hsl := HS.out.sl
      have hhl := HS.out.gl
      obtain ⟨so, sc, rfl⟩ := hos2.shape
      rw [hsl] at hos2 e5
      obtain ⟨sb, rfl, hsb, cs, _⟩ := hos2.get (i := i) (by omega)
      rw [Nat.zero_add] at cs
      obtain ⟨hoo, hc, rfl⟩ := hog2.shape
      rw [hhl] at hog2 e4
      obtain ⟨hb_, ha, hk_, hcap, rfl, hhb, ch, _, hrow⟩ := hog2.get (i := i) (by omega)
      rw [Nat.zero_add] at ch
      have HROW := hid hrow
      have lrow := hrow.len
      have lrow2 := HS.out.gs i hit
      clear hrow hbx2 hot2 hog2 hoh2 hos2 hoq2 hlt2_
      obtain ⟨ub, uo, da, dn, dc, hao, hbl, a0, a1, a2, hd⟩ := (H.out.users.below hB.out).get hit
      rw [hao] at e1
      have hdl := hd.len
      rw [ints_len, HO.out.good.len hit] at hdl
      subst hdl
      obtain ⟨db, dof, hdo, hdb⟩ := hd.head (by omega)
      have cd := hd.int hdo hr
      subst hdo
      clear a1 a2 hd
      obtain ⟨M, hM⟩ : ∃ M : Nat, lm (ug d.us i).dem r = (M : Int) ∧ M = d.a.D i r := ⟨_, d.D_eq HO.out hit r, rfl⟩
      rw [hM.1] at cd
      have hM2 : M ≤ 10000 := by rw [hM.2]; exact d.D_le HO.out hit r
      have HMD := hid hM.2
      clear hM
      cases hst : bn s.sl i with
      | false =>
        have HE : Hid (sumT (pulF d s r) (i + 1) = sumT (pulF d s r) i) := by show sumT (pulF d s r) i + pulF d s r i = _; have h9 : pulF d s r i = 0 := if_neg (by show ¬ bn s.sl i = true; rw [hst]; simp); omega
        go_wp2
        go_roundg (d.us.length - (i + 1))
        case measure => omega
        case rel => exact ⟨i + 1, yo, yn, yc, rfl, by omega, by go_num, rfl, by rw [HE.out]; exact hY.out, hB.out⟩
      | true =>
        have HE : Hid (sumT (pulF d s r) (i + 1) = sumT (pulF d s r) i + M * nn s.gl i) := by show sumT (pulF d s r) i + pulF d s r i = _; have h9 : pulF d s r i = d.a.D i r * nn s.gl i := if_pos hst; rw [h9, HMD.out]
        go_upto_region 6 with fail
        have SK : Hid (∀ U, Below wr.heap.size wr U → U.cell? ⟨d.pb, 1, none⟩ = some (.slice (some ⟨ub, uo, none⟩) d.us.length d.cap) ∧ U.cell? ⟨ub, uo + i * 3, none⟩ = some (.slice (some ⟨db, dof, none⟩) d.pool.length dc) ∧ U.cell? ⟨db, dof + r, none⟩ = some (.int .i64 (M : Int)) ∧ U.cell? ⟨d.pb, 3, none⟩ = some (.slice (some ⟨hb_, 0, none⟩) d.us.length hc) ∧ U.cell? ⟨hb_, i, none⟩ = some (.slice ha hk_ hcap)) := fun U h => ⟨(h.cell (p := ⟨d.pb, 1, none⟩) bl2).trans e1, (h.cell (p := ⟨ub, uo + i * 3, none⟩) hbl).trans a0, (h.cell (p := ⟨db, dof + r, none⟩) hdb).trans cd, (h.cell (p := ⟨d.pb, 3, none⟩) bl2).trans e4, (h.cell (p := ⟨hb_, i, none⟩) hhb).trans ch⟩
        have de1 : wr.drew.cell? ⟨d.pb, 1, none⟩ = some (.slice (some ⟨ub, uo, none⟩) d.us.length d.cap) := ((Below.refl wr.heap.size wr).drew.cell (p := ⟨d.pb, 1, none⟩) bl2).trans e1
        have da0 : wr.drew.cell? ⟨ub, uo + i * 3, none⟩ = some (.slice (some ⟨db, dof, none⟩) d.pool.length dc) := ((Below.refl wr.heap.size wr).drew.cell (p := ⟨ub, uo + i * 3, none⟩) hbl).trans a0
        have dcd : wr.drew.cell? ⟨db, dof + r, none⟩ = some (.int .i64 (M : Int)) := ((Below.refl wr.heap.size wr).drew.cell (p := ⟨db, dof + r, none⟩) hdb).trans cd
        have de4 : wr.drew.cell? ⟨d.pb, 3, none⟩ = some (.slice (some ⟨hb_, 0, none⟩) d.us.length hc) := ((Below.refl wr.heap.size wr).drew.cell (p := ⟨d.pb, 3, none⟩) bl2).trans e4
        have dch : wr.drew.cell? ⟨hb_, i, none⟩ = some (.slice ha hk_ hcap) := ((Below.refl wr.heap.size wr).drew.cell (p := ⟨hb_, i, none⟩) hhb).trans ch
        go_region_held3 (fun w' => w'.cell? ⟨d.pb, 1, none⟩ = some (.slice (some ⟨ub, uo, none⟩) d.us.length d.cap) ∧ w'.cell? ⟨ub, uo + i * 3, none⟩ = some (.slice (some ⟨db, dof, none⟩) d.pool.length dc) ∧ w'.cell? ⟨db, dof + r, none⟩ = some (.int .i64 (M : Int)) ∧ w'.cell? ⟨d.pb, 3, none⟩ = some (.slice (some ⟨hb_, 0, none⟩) d.us.length hc) ∧ w'.cell? ⟨hb_, i, none⟩ = some (.slice ha hk_ hcap)) (first | exact SK.out _ (Below.refl _ _).drew | exact SK.out _ hv41g0 | exact SK.out _ hv41g1)
          (first | (go_at_call 37; refine (ptimes_any wo ha wn wc hk_ hcap M (nn s.gl i) _ HWR.out (HROW.out.below hv41g0) (by omega) (by omega)).mono ?_; rintro e41g1 w41g1 ⟨v2, rfl, ⟨zo, zn, zc, rfl, hzr, _⟩, hb41g1⟩; have hv41g1 : Below wr.heap.size wr w41g1 := hv41g0.trans (hb41g1.mono (hv41g0).size); clear hb41g1; have lz : zn ≤ 10 := (by rw [← hzr.len]; have h9 := len_mul M (nn s.gl i); have h8 := len_sml hM2; omega); have HZR := hid hzr; clear hzr) | (go_at_call 35; refine (pwhole_any M _ (by omega)).mono ?_; rintro e41g0 w41g0 ⟨v1, rfl, ⟨wo, wn, wc, rfl, hwr, _⟩, hb41g0⟩; have hv41g0 : Below wr.heap.size wr w41g0 := (Below.refl wr.heap.size wr).drew.trans (hb41g0.mono ((Below.refl wr.heap.size wr).drew).size); clear hb41g0; have lw : wn ≤ 2 := (by rw [← hwr.len]; exact len_sml hM2); have HWR := hid hwr; clear hwr))
        clear SK de1 da0 dcd de4 dch
        have Ry_42 := hid (hY.out.below hv41g1)
        have HB_42 : Hid (Below w.heap.size w w41g1) := hB.out.trans (hv41g1.mono hB.out.size)
        clear hY hB
        clear e1 a0 cd e4 ch e5 cs
        go_wp2_with fail
        refine (pplus_any yo zo yn yc zn zc (sumT (pulF d s r) i) (M * nn s.gl i) _ Ry_42.out HZR.out (by omega) (by omega)).mono ?_
        rintro e9 w9 ⟨v9, rfl, ⟨ro, rn, rc, rfl, hrr, _⟩, hb9⟩
        have HB_43 : Hid (Below w.heap.size w w9) := HB_42.out.trans (hb9.mono HB_42.out.size)
        clear HB_42
        have HRR := hid hrr
        clear hb9 hrr
        go_wp2
        go_roundg (d.us.length - (i + 1))
        case measure => omega
        case rel => exact ⟨i + 1, ro, rn, rc, rfl, by omega, by go_num, rfl, by rw [HE.out]; exact HRR.out, HB_43.out⟩
    · obtain rfl : i = d.us.length := by omega
      clear hbx2 hot2 hog2 hoh2 hos2 hoq2 hlt2_
      go_wp2
      go_ret
      exact ⟨yo, yn, yc, rfl, hY.out, ly, hB.out⟩

end Go.Proofs.YtigokanoflkinaaGreatDoor
