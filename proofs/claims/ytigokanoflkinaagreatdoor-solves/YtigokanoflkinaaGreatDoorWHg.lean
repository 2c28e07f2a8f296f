/- WHigh, WStopOf, WShares, joined. -/
import Derived.Test.YtigokanoflkinaaGreatDoorWStp
/- fill isHighest, stopOf. (Laid by mksolve.py.) -/
namespace Go.Proofs.YtigokanoflkinaaGreatDoor
set_option linter.unusedSimpArgs false
set_option linter.unusedVariables false
open Go.RowKit Por

/-- has no user that wants kind r, of the first m, a greater level than user i? -/
def highB (d : FD) (lv : Nat → Rat) (i r : Nat) : Nat → Bool
  | 0 => true
  | m + 1 => highB d lv i r m && !(decide (0 < lm (ug d.us m).dem r) && decide (lv i < lv m))
theorem highB_false {d : FD} {lv : Nat → Rat} {i r j m : Nat} (hj : j < m) (h0 : 0 < lm (ug d.us j).dem r) (h1 : lv i < lv j) : highB d lv i r m = false := by
  induction m with
  | zero => omega
  | succ m ih =>
    simp only [highB]
    by_cases e : j = m
    · subst e; simp [h0, h1]
    · rw [ih (by omega)]; rfl
/-- the first kind that holds user i; -1 if there is none -/
def stopN (d : FD) (s : St) (i : Nat) : Nat → Nat → Int
  | _, 0 => -1
  | k, m + 1 => if 0 < lm (ug d.us i).dem k ∧ upB d s.ts k = true ∧ highB d s.lv i k d.n = true then (k : Int) else stopN d s i (k + 1) m
def stopV (d : FD) (s : St) (i : Nat) : Int := if capB d s.ts i = true then -1 else stopN d s i 0 d.kk

set_option maxHeartbeats 2000000 in
set_option maxRecDepth 20000 in
theorem isHighest_any (w0 : World) (d : FD) (s : St) (i r : Nat) (w : World) (h : FS w0 d w s) (ho : d.Ok w0) (hs : ∀ i, i < d.n → Sm (s.lv i) 60) (hi : i < d.n) (hr : r < d.kk) :
    Calls Tryz.prog 111 #[.pointer (some ⟨d.sb, 0, none⟩), .int .i64 i, .int .i64 r] w fun e w' => e = .returned (.bool (highB d s.lv i r d.n)) ∧ Below w.heap.size w w' := by
  have hn6 := ho.n6
  have hk4 := ho.k4
  have hul := ho.len
  have hib : (i : Int) < (d.n : Int) := by omega
  have H := hid h
  have HO := hid ho
  have HS := hid hs
  clear h ho hs
  obtain ⟨la, lb, lc, ld, le, lf, hbx, hlr1, hlr2⟩ := H.out.box
  have ltsb := hbx.lt
  have g0 : w.cell? ⟨d.sb, 0, none⟩ = some (.slice d.ao d.n d.cap) := hbx.cell 0 _ rfl
  have HLR1 := hid hlr1
  have HLR2 := hid hlr2
  clear hlr1 hlr2
  clear hbx HLR1 HLR2
  have HB_0 := hid (Below.refl w.heap.size w)
  go_enter Tryz.func111, Tryz.ntmps111
  go_wp2
  go_loopg [14] d.n (fun g ix wr => ∃ k : Nat, g = d.n - k ∧ k ≤ d.n ∧ ix = .int .i64 k ∧ Hid (highB d s.lv i r k = true) ∧ Hid (Below w.heap.size w wr))
  case atStart => exact ⟨0, rfl, Nat.zero_le _, rfl, rfl, HB_0.out⟩
  case round =>
    clear g0
    obtain ⟨k, hgk, hk, rfl, hz, hB⟩ := hrel
    clear HB_0
    have HFW := hid (H.out.below hB.out)
    by_cases hlt : k < d.n
    · have hkn : (k : Int) < (d.n : Int) := by omega
      obtain ⟨b, o, da, dn, dc, hao, hbl, c0, c1, c2, hd⟩ := (HO.out.users.below HFW.out.bel).get hlt
      have hdl := hd.len
      rw [ints_len, HO.out.good.len (i := k) (by omega)] at hdl
      have hdr : (r : Int) < (dn : Int) := by omega
      have hdr2 : r < dn := by omega
      have HDL := hid hdl
      clear hdl
      have HAO := hid hao
      clear hao
      obtain ⟨db, dof, rfl, hdb⟩ := hd.head (by omega)
      have hdm := amt_rng (HO.out.good.dem (i := k) (by omega) r)
      have HD := hid hd
      clear hd
      have XU_21 := hid (bx_new wr #[.slice (some ⟨db, dof, none⟩) dn dc, .int .i64 (ug d.us k).wt, .int .i64 (ug d.us k).cap] 56)
      have Rd_21 := hid (HD.out.alloc (.cells #[.slice (some ⟨db, dof, none⟩) dn dc, .int .i64 (ug d.us k).wt, .int .i64 (ug d.us k).cap] 56))
      have HB_21 : Hid (Below w.heap.size w (wr.alloc (.cells #[.slice (some ⟨db, dof, none⟩) dn dc, .int .i64 (ug d.us k).wt, .int .i64 (ug d.us k).cap] 56))) := hB.out.alloc hB.out.size (.cells #[.slice (some ⟨db, dof, none⟩) dn dc, .int .i64 (ug d.us k).wt, .int .i64 (ug d.us k).cap] 56)
      have leU : w.heap.size ≤ wr.heap.size := hB.out.size
      clear HD hB
      rw [HAO.out]
      go_wp2_with fail
      obtain ⟨V, hV⟩ : ∃ V, V = (wr.alloc (.cells #[.slice (some ⟨db, dof, none⟩) dn dc, .int .i64 (ug d.us k).wt, .int .i64 (ug d.us k).cap] 56)) := ⟨_, rfl⟩
      rw [← hV] at XU_21 Rd_21 HB_21 ⊢
      clear hV
      clear c0 c1 c2
      have cd := Rd_21.out.int rfl hdr2
      have ltd : db < V.heap.size := by obtain ⟨b9, o9, e9, h9⟩ := Rd_21.out.head (by omega); cases e9; exact h9
      have m0 := XU_21.out.cell 0 _ rfl
      have m1 := XU_21.out.cell 1 _ rfl
      have m2 := XU_21.out.cell 2 _ rfl
      have ltU := XU_21.out.lt
      generalize hx : lm (ug d.us k).dem r = x at cd hdm
      have HX := hid hx
      clear hx
      by_cases h0 : 0 < x
      · have HFS := hid (H.out.below HB_21.out)
        obtain ⟨la, lb, lc, ld, le, lf, hbx, hlr1, hlr2⟩ := HFS.out.box
        have ltsb := hbx.lt
        have f7 : V.cell? ⟨d.sb, 7, none⟩ = some (.slice (some ⟨d.gl, 0, none⟩) d.n d.n) := hbx.cell 7 _ rfl
        clear hbx hlr1 hlr2
        have ltgl := HFS.out.lv.lt
        obtain ⟨ua, ub, uc, ud, ue, uf, u0, u1, u2, hu1, hu2⟩ := HFS.out.lv.cells hlt
        have lu1 := hu1.sm1 (HS.out k hlt)
        have lu2 := hu2.sm2 (HS.out k hlt)
        have Hu1 := hid hu1
        have Hu2 := hid hu2
        clear hu1 hu2
        obtain ⟨va, vb, vc, vd, ve, vf, v0, v1, v2, hv1, hv2⟩ := HFS.out.lv.cells hi
        have lv1 := hv1.sm1 (HS.out i hi)
        have lv2 := hv2.sm2 (HS.out i hi)
        have Hv1 := hid hv1
        have Hv2 := hid hv2
        clear hv1 hv2
        obtain ⟨c, hcq⟩ : ∃ c, cmpQ (s.lv k) (s.lv i) = c := ⟨_, rfl⟩
        have HCQ := hid hcq
        clear hcq
        have h0d : decide (0 < x) = true := decide_eq_true h0
        by_cases hc : 0 < c
        · have HE := hid (highB_false (d := d) (lv := s.lv) (i := i) (r := r) hlt (by rw [HX.out]; exact h0) (by have h9 := HCQ.out; rw [← h9] at hc; exact cmp_gt.1 hc))
          have SK : Hid (∀ U, Below V.heap.size V U → U.cell? ⟨wr.heap.size, 0, none⟩ = some (.slice (some ⟨db, dof, none⟩) dn dc) ∧ U.cell? ⟨db, dof + r, none⟩ = some (.int .i64 x) ∧ U.cell? ⟨d.sb, 7, none⟩ = some (.slice (some ⟨d.gl, 0, none⟩) d.n d.n) ∧ U.cell? ⟨d.gl, k * 3, none⟩ = some (.bool (negB (s.lv k))) ∧ U.cell? ⟨d.gl, k * 3 + 1, none⟩ = some (.slice ua ub uc) ∧ U.cell? ⟨d.gl, k * 3 + 2, none⟩ = some (.slice ud ue uf) ∧ U.cell? ⟨d.gl, i * 3, none⟩ = some (.bool (negB (s.lv i))) ∧ U.cell? ⟨d.gl, i * 3 + 1, none⟩ = some (.slice va vb vc) ∧ U.cell? ⟨d.gl, i * 3 + 2, none⟩ = some (.slice vd ve vf)) := fun U h => ⟨(h.cell (p := ⟨wr.heap.size, 0, none⟩) ltU).trans m0, (h.cell (p := ⟨db, dof + r, none⟩) ltd).trans cd, (h.cell (p := ⟨d.sb, 7, none⟩) ltsb).trans f7, (h.cell (p := ⟨d.gl, k * 3, none⟩) ltgl).trans u0, (h.cell (p := ⟨d.gl, k * 3 + 1, none⟩) ltgl).trans u1, (h.cell (p := ⟨d.gl, k * 3 + 2, none⟩) ltgl).trans u2, (h.cell (p := ⟨d.gl, i * 3, none⟩) ltgl).trans v0, (h.cell (p := ⟨d.gl, i * 3 + 1, none⟩) ltgl).trans v1, (h.cell (p := ⟨d.gl, i * 3 + 2, none⟩) ltgl).trans v2⟩
          have KC : Hid (∀ U, Below V.heap.size V U → Calls Tryz.prog 101 #[.agg #[.bool (negB (s.lv k)), .slice ua ub uc, .slice ud ue uf], .agg #[.bool (negB (s.lv i)), .slice va vb vc, .slice vd ve vf]] U (fun e w' => e = .returned (.int .i64 c) ∧ Below V.heap.size V w')) := fun U hU => (rcmp_any ua ud va vd ub uc ue uf vb vc ve vf (s.lv k) (s.lv i) U (Hu1.out.below hU) (Hu2.out.below hU) (Hv1.out.below hU) (Hv2.out.below hU) (by omega) (by omega) (by omega) (by omega)).mono (fun e w' ⟨h1, h3⟩ => ⟨h1.trans (by rw [HCQ.out]), hU.trans (h3.mono hU.size)⟩)
          have dm0 : V.drew.cell? ⟨wr.heap.size, 0, none⟩ = some (.slice (some ⟨db, dof, none⟩) dn dc) := ((Below.refl V.heap.size V).drew.cell (p := ⟨wr.heap.size, 0, none⟩) ltU).trans m0
          have dcd : V.drew.cell? ⟨db, dof + r, none⟩ = some (.int .i64 x) := ((Below.refl V.heap.size V).drew.cell (p := ⟨db, dof + r, none⟩) ltd).trans cd
          have df7 : V.drew.cell? ⟨d.sb, 7, none⟩ = some (.slice (some ⟨d.gl, 0, none⟩) d.n d.n) := ((Below.refl V.heap.size V).drew.cell (p := ⟨d.sb, 7, none⟩) ltsb).trans f7
          have du0 : V.drew.cell? ⟨d.gl, k * 3, none⟩ = some (.bool (negB (s.lv k))) := ((Below.refl V.heap.size V).drew.cell (p := ⟨d.gl, k * 3, none⟩) ltgl).trans u0
          have du1 : V.drew.cell? ⟨d.gl, k * 3 + 1, none⟩ = some (.slice ua ub uc) := ((Below.refl V.heap.size V).drew.cell (p := ⟨d.gl, k * 3 + 1, none⟩) ltgl).trans u1
          have du2 : V.drew.cell? ⟨d.gl, k * 3 + 2, none⟩ = some (.slice ud ue uf) := ((Below.refl V.heap.size V).drew.cell (p := ⟨d.gl, k * 3 + 2, none⟩) ltgl).trans u2
          have dv0 : V.drew.cell? ⟨d.gl, i * 3, none⟩ = some (.bool (negB (s.lv i))) := ((Below.refl V.heap.size V).drew.cell (p := ⟨d.gl, i * 3, none⟩) ltgl).trans v0
          have dv1 : V.drew.cell? ⟨d.gl, i * 3 + 1, none⟩ = some (.slice va vb vc) := ((Below.refl V.heap.size V).drew.cell (p := ⟨d.gl, i * 3 + 1, none⟩) ltgl).trans v1
          have dv2 : V.drew.cell? ⟨d.gl, i * 3 + 2, none⟩ = some (.slice vd ve vf) := ((Below.refl V.heap.size V).drew.cell (p := ⟨d.gl, i * 3 + 2, none⟩) ltgl).trans v2
          go_region_held3 (fun w' => w'.cell? ⟨wr.heap.size, 0, none⟩ = some (.slice (some ⟨db, dof, none⟩) dn dc) ∧ w'.cell? ⟨db, dof + r, none⟩ = some (.int .i64 x) ∧ w'.cell? ⟨d.sb, 7, none⟩ = some (.slice (some ⟨d.gl, 0, none⟩) d.n d.n) ∧ w'.cell? ⟨d.gl, k * 3, none⟩ = some (.bool (negB (s.lv k))) ∧ w'.cell? ⟨d.gl, k * 3 + 1, none⟩ = some (.slice ua ub uc) ∧ w'.cell? ⟨d.gl, k * 3 + 2, none⟩ = some (.slice ud ue uf) ∧ w'.cell? ⟨d.gl, i * 3, none⟩ = some (.bool (negB (s.lv i))) ∧ w'.cell? ⟨d.gl, i * 3 + 1, none⟩ = some (.slice va vb vc) ∧ w'.cell? ⟨d.gl, i * 3 + 2, none⟩ = some (.slice vd ve vf)) (first | exact SK.out _ (Below.refl _ _).drew | exact SK.out _ hb7)
            (first | (go_at_call 101; refine (KC.out _ ?hU).mono ?_; (case hU => exact (Below.refl _ _).drew); rintro e7 w7 ⟨rfl, hb7⟩))
          have XU_24 := hid (XU_21.out.keep hb7)
          have Rd_24 := hid (Rd_21.out.below hb7)
          have HB_24 : Hid (Below w.heap.size w w7) := HB_21.out.trans (hb7.mono HB_21.out.size)
          clear XU_21 Rd_21 HB_21
          clear hb7 SK KC
          go_wp2
          go_ret
          exact ⟨by rw [HE.out]; rfl, HB_24.out⟩
        · have E : highB d s.lv i r (k + 1) = true := by
            simp only [highB]
            rw [hz.out, decide_eq_false (p := s.lv i < s.lv k) (fun h => hc (by rw [← HCQ.out]; exact cmp_gt.2 h))]; simp
          have HE := hid E; clear E
          have SK : Hid (∀ U, Below V.heap.size V U → U.cell? ⟨wr.heap.size, 0, none⟩ = some (.slice (some ⟨db, dof, none⟩) dn dc) ∧ U.cell? ⟨db, dof + r, none⟩ = some (.int .i64 x) ∧ U.cell? ⟨d.sb, 7, none⟩ = some (.slice (some ⟨d.gl, 0, none⟩) d.n d.n) ∧ U.cell? ⟨d.gl, k * 3, none⟩ = some (.bool (negB (s.lv k))) ∧ U.cell? ⟨d.gl, k * 3 + 1, none⟩ = some (.slice ua ub uc) ∧ U.cell? ⟨d.gl, k * 3 + 2, none⟩ = some (.slice ud ue uf) ∧ U.cell? ⟨d.gl, i * 3, none⟩ = some (.bool (negB (s.lv i))) ∧ U.cell? ⟨d.gl, i * 3 + 1, none⟩ = some (.slice va vb vc) ∧ U.cell? ⟨d.gl, i * 3 + 2, none⟩ = some (.slice vd ve vf)) := fun U h => ⟨(h.cell (p := ⟨wr.heap.size, 0, none⟩) ltU).trans m0, (h.cell (p := ⟨db, dof + r, none⟩) ltd).trans cd, (h.cell (p := ⟨d.sb, 7, none⟩) ltsb).trans f7, (h.cell (p := ⟨d.gl, k * 3, none⟩) ltgl).trans u0, (h.cell (p := ⟨d.gl, k * 3 + 1, none⟩) ltgl).trans u1, (h.cell (p := ⟨d.gl, k * 3 + 2, none⟩) ltgl).trans u2, (h.cell (p := ⟨d.gl, i * 3, none⟩) ltgl).trans v0, (h.cell (p := ⟨d.gl, i * 3 + 1, none⟩) ltgl).trans v1, (h.cell (p := ⟨d.gl, i * 3 + 2, none⟩) ltgl).trans v2⟩
          have KC : Hid (∀ U, Below V.heap.size V U → Calls Tryz.prog 101 #[.agg #[.bool (negB (s.lv k)), .slice ua ub uc, .slice ud ue uf], .agg #[.bool (negB (s.lv i)), .slice va vb vc, .slice vd ve vf]] U (fun e w' => e = .returned (.int .i64 c) ∧ Below V.heap.size V w')) := fun U hU => (rcmp_any ua ud va vd ub uc ue uf vb vc ve vf (s.lv k) (s.lv i) U (Hu1.out.below hU) (Hu2.out.below hU) (Hv1.out.below hU) (Hv2.out.below hU) (by omega) (by omega) (by omega) (by omega)).mono (fun e w' ⟨h1, h3⟩ => ⟨h1.trans (by rw [HCQ.out]), hU.trans (h3.mono hU.size)⟩)
          have dm0 : V.drew.cell? ⟨wr.heap.size, 0, none⟩ = some (.slice (some ⟨db, dof, none⟩) dn dc) := ((Below.refl V.heap.size V).drew.cell (p := ⟨wr.heap.size, 0, none⟩) ltU).trans m0
          have dcd : V.drew.cell? ⟨db, dof + r, none⟩ = some (.int .i64 x) := ((Below.refl V.heap.size V).drew.cell (p := ⟨db, dof + r, none⟩) ltd).trans cd
          have df7 : V.drew.cell? ⟨d.sb, 7, none⟩ = some (.slice (some ⟨d.gl, 0, none⟩) d.n d.n) := ((Below.refl V.heap.size V).drew.cell (p := ⟨d.sb, 7, none⟩) ltsb).trans f7
          have du0 : V.drew.cell? ⟨d.gl, k * 3, none⟩ = some (.bool (negB (s.lv k))) := ((Below.refl V.heap.size V).drew.cell (p := ⟨d.gl, k * 3, none⟩) ltgl).trans u0
          have du1 : V.drew.cell? ⟨d.gl, k * 3 + 1, none⟩ = some (.slice ua ub uc) := ((Below.refl V.heap.size V).drew.cell (p := ⟨d.gl, k * 3 + 1, none⟩) ltgl).trans u1
          have du2 : V.drew.cell? ⟨d.gl, k * 3 + 2, none⟩ = some (.slice ud ue uf) := ((Below.refl V.heap.size V).drew.cell (p := ⟨d.gl, k * 3 + 2, none⟩) ltgl).trans u2
          have dv0 : V.drew.cell? ⟨d.gl, i * 3, none⟩ = some (.bool (negB (s.lv i))) := ((Below.refl V.heap.size V).drew.cell (p := ⟨d.gl, i * 3, none⟩) ltgl).trans v0
          have dv1 : V.drew.cell? ⟨d.gl, i * 3 + 1, none⟩ = some (.slice va vb vc) := ((Below.refl V.heap.size V).drew.cell (p := ⟨d.gl, i * 3 + 1, none⟩) ltgl).trans v1
          have dv2 : V.drew.cell? ⟨d.gl, i * 3 + 2, none⟩ = some (.slice vd ve vf) := ((Below.refl V.heap.size V).drew.cell (p := ⟨d.gl, i * 3 + 2, none⟩) ltgl).trans v2
          go_region_held3 (fun w' => w'.cell? ⟨wr.heap.size, 0, none⟩ = some (.slice (some ⟨db, dof, none⟩) dn dc) ∧ w'.cell? ⟨db, dof + r, none⟩ = some (.int .i64 x) ∧ w'.cell? ⟨d.sb, 7, none⟩ = some (.slice (some ⟨d.gl, 0, none⟩) d.n d.n) ∧ w'.cell? ⟨d.gl, k * 3, none⟩ = some (.bool (negB (s.lv k))) ∧ w'.cell? ⟨d.gl, k * 3 + 1, none⟩ = some (.slice ua ub uc) ∧ w'.cell? ⟨d.gl, k * 3 + 2, none⟩ = some (.slice ud ue uf) ∧ w'.cell? ⟨d.gl, i * 3, none⟩ = some (.bool (negB (s.lv i))) ∧ w'.cell? ⟨d.gl, i * 3 + 1, none⟩ = some (.slice va vb vc) ∧ w'.cell? ⟨d.gl, i * 3 + 2, none⟩ = some (.slice vd ve vf)) (first | exact SK.out _ (Below.refl _ _).drew | exact SK.out _ hb7)
            (first | (go_at_call 101; refine (KC.out _ ?hU).mono ?_; (case hU => exact (Below.refl _ _).drew); rintro e7 w7 ⟨rfl, hb7⟩))
          have XU_24 := hid (XU_21.out.keep hb7)
          have Rd_24 := hid (Rd_21.out.below hb7)
          have HB_24 : Hid (Below w.heap.size w w7) := HB_21.out.trans (hb7.mono HB_21.out.size)
          clear XU_21 Rd_21 HB_21
          clear hb7 SK KC
          go_wp2
          rw [← HAO.out]
          go_roundg (d.n - (k + 1))
          case measure => omega
          case rel => exact ⟨k + 1, rfl, by omega, by go_num, HE.out, HB_24.out⟩
      · have h0d : decide (0 < x) = false := decide_eq_false h0
        have E : highB d s.lv i r (k + 1) = true := by
          simp only [highB]
          rw [hz.out, HX.out, h0d]; rfl
        have HE := hid E; clear E
        go_quiet (fail)
        go_wp2
        rw [← HAO.out]
        go_roundg (d.n - (k + 1))
        case measure => omega
        case rel => exact ⟨k + 1, rfl, by omega, by go_num, HE.out, below_drewN HB_21.out _⟩
    · obtain rfl : k = d.n := by omega
      go_wp2
      go_ret
      exact ⟨by rw [hz.out]; rfl, hB.out⟩

end Go.Proofs.YtigokanoflkinaaGreatDoor

/- fill stopOf. (Laid by mksolve.py.) -/
namespace Go.Proofs.YtigokanoflkinaaGreatDoor
set_option linter.unusedSimpArgs false
set_option linter.unusedVariables false
open Go.RowKit Por

theorem stopN_next {d : FD} {s : St} {i k m : Nat} (h : ¬ (0 < lm (ug d.us i).dem k ∧ upB d s.ts k = true ∧ highB d s.lv i k d.n = true)) : stopN d s i k (m + 1) = stopN d s i (k + 1) m := by
  rw [stopN, if_neg h]
theorem stopN_here {d : FD} {s : St} {i k m : Nat} (h1 : 0 < lm (ug d.us i).dem k) (h2 : upB d s.ts k = true) (h3 : highB d s.lv i k d.n = true) : stopN d s i k (m + 1) = (k : Int) := by
  rw [stopN, if_pos ⟨h1, h2, h3⟩]

set_option maxHeartbeats 2000000 in
set_option maxRecDepth 20000 in
theorem stopOf_any (w0 : World) (d : FD) (s : St) (i L g : Nat) (w : World) (h : FS w0 d w s) (ho : d.Ok w0) (hs : ∀ i, i < d.n → Sm (s.lv i) 60) (hts : ∀ i, i < d.n → Sm (s.ts i) L) (hL : L ≤ 10000) (hbb : BB w g d.kk d.kk (upB d s.ts)) (hi : i < d.n) :
    Calls Tryz.prog 57 #[.pointer (some ⟨d.sb, 0, none⟩), .int .i64 i, .slice (some ⟨g, 0, none⟩) d.kk d.kk] w fun e w' => e = .returned (.int .i64 (stopV d s i)) ∧ Below w.heap.size w w' := by
  have hn6 := ho.n6
  have hk4 := ho.k4
  have hul := ho.len
  have hib : (i : Int) < (d.n : Int) := by omega
  have H := hid h
  have HO := hid ho
  have HS := hid hs
  have HTS := hid hts
  have HBB := hid hbb
  clear h ho hs hts hbb
  have HB_0 := hid (Below.refl w.heap.size w)
  go_enter Tryz.func57, Tryz.ntmps57
  go_wp2_with fail
  refine (isAtCap_any w0 d s L i _ H.out HO.out HTS.out hL hi).mono ?_
  rintro e10 w10 ⟨rfl, hb10⟩
  have HB_11 : Hid (Below w.heap.size w w10) := HB_0.out.trans (hb10.mono HB_0.out.size)
  clear HB_0
  clear hb10
  cases hcb : capB d s.ts i with
  | true =>
    have HCB := hid hcb
    clear hcb
    go_wp2
    go_ret
    exact ⟨by unfold stopV; rw [if_pos HCB.out]; rfl, HB_11.out⟩
  | false =>
    have HCB := hid hcb
    clear hcb
    have HFS := hid (H.out.below HB_11.out)
    obtain ⟨la, lb, lc, ld, le, lf, hbx, hlr1, hlr2⟩ := HFS.out.box
    have ltsb := hbx.lt
    have g0 : w10.cell? ⟨d.sb, 0, none⟩ = some (.slice d.ao d.n d.cap) := hbx.cell 0 _ rfl
    clear hbx hlr1 hlr2
    obtain ⟨b, o, da, dn, dc, hao, hbl, c0, c1, c2, hd⟩ := (HO.out.users.below HFS.out.bel).get hi
    have hdl := hd.len
    rw [ints_len, HO.out.good.len (i := i) (by omega)] at hdl
    rw [hao] at g0
    have HAO := hid hao
    clear hao
    have HDL := hid hdl
    clear hdl
    have HD := hid hd
    clear hd
    go_wp2
    go_loopg [21] dn (fun g ix wr => ∃ k : Nat, g = dn - k ∧ k ≤ dn ∧ ix = .int .i64 k ∧ Hid (stopN d s i 0 d.kk = stopN d s i k (d.kk - k)) ∧ Hid (Below w10.heap.size w10 wr))
    case atStart => exact ⟨0, rfl, Nat.zero_le _, rfl, rfl, Below.refl _ _⟩
    case round =>
      clear g0 c0 c1 c2
      obtain ⟨k, hgk, hk, rfl, hz, hB⟩ := hrel
      have HBW : Hid (Below w.heap.size w wr) := HB_11.out.trans (hB.out.mono HB_11.out.size)
      have hkd : k ≤ d.kk := by have := HDL.out; omega
      by_cases hlt : k < dn
      · have hkk : k < d.kk := by have := HDL.out; omega
        obtain ⟨m, hm⟩ : ∃ m, d.kk - k = m + 1 := ⟨d.kk - k - 1, by omega⟩
        have hm2 : d.kk - (k + 1) = m := by omega
        have HM := hid hm
        have HM2 := hid hm2
        clear hm hm2
        have hkk2 : (k : Int) < (d.kk : Int) := by omega
        obtain ⟨db, dof, rfl, hdb⟩ := HD.out.head (by omega)
        have cd := (HD.out.below hB.out).int rfl hlt
        have q0 := (HBB.out.below HBW.out).cell hkk
        have ltg := (HBB.out.below HBW.out).lt
        generalize hx : lm (ug d.us i).dem k = x at cd
        have HX := hid hx
        clear hx
        generalize hy : upB d s.ts k = y at q0
        have HY := hid hy
        clear hy
        by_cases h0 : 0 < x
        · cases y with
          | false =>
            have E : stopN d s i 0 d.kk = stopN d s i (k + 1) (d.kk - (k + 1)) := by rw [hz.out, HM.out, HM2.out]; exact stopN_next (fun h => by rw [HY.out] at h; cases h.2.1)
            have HE := hid E; clear E
            go_wp2
            go_roundg (dn - (k + 1))
            case measure => omega
            case rel => exact ⟨k + 1, rfl, by omega, by go_num, HE.out, hB.out⟩
          | true =>
            go_wp2_with fail
            refine (isHighest_any w0 d s i k _ (H.out.below HBW.out) HO.out HS.out hi hkk).mono ?_
            rintro e7 w7 ⟨rfl, hb7⟩
            have HB7 : Hid (Below w.heap.size w w7) := HBW.out.trans (hb7.mono HBW.out.size)
            have HB8 : Hid (Below w10.heap.size w10 w7) := hB.out.trans (hb7.mono hB.out.size)
            clear hb7
            cases hh : highB d s.lv i k d.n with
            | false =>
              have HH := hid hh
              clear hh
              have E : stopN d s i 0 d.kk = stopN d s i (k + 1) (d.kk - (k + 1)) := by rw [hz.out, HM.out, HM2.out]; exact stopN_next (fun h => by rw [HH.out] at h; cases h.2.2)
              have HE := hid E; clear E
              go_wp2
              go_roundg (dn - (k + 1))
              case measure => omega
              case rel => exact ⟨k + 1, rfl, by omega, by go_num, HE.out, HB8.out⟩
            | true =>
              have HH := hid hh
              clear hh
              have E : stopN d s i 0 d.kk = (k : Int) := by rw [hz.out, HM.out]; exact stopN_here (by rw [HX.out]; exact h0) HY.out HH.out
              have HE := hid E; clear E
              go_wp2
              go_ret
              exact ⟨by unfold stopV; rw [if_neg (by rw [HCB.out]; simp), HE.out]; rfl, HB7.out⟩
        · have E : stopN d s i 0 d.kk = stopN d s i (k + 1) (d.kk - (k + 1)) := by rw [hz.out, HM.out, HM2.out]; exact stopN_next (fun h => h0 (by have h9 := h.1; rw [HX.out] at h9; exact h9))
          have HE := hid E; clear E
          go_wp2
          go_roundg (dn - (k + 1))
          case measure => omega
          case rel => exact ⟨k + 1, rfl, by omega, by go_num, HE.out, hB.out⟩
      · obtain rfl : k = dn := by omega
        have E : stopN d s i 0 d.kk = -1 := by rw [hz.out]; have := HDL.out; rw [show d.kk - k = 0 by omega]; rfl
        have HE := hid E; clear E
        go_wp2
        go_ret
        exact ⟨by unfold stopV; rw [if_neg (by rw [HCB.out]; simp), HE.out]; rfl, HBW.out⟩

end Go.Proofs.YtigokanoflkinaaGreatDoor

/- fill shares. (Laid by mksolve.py.) -/
namespace Go.Proofs.YtigokanoflkinaaGreatDoor
set_option linter.unusedSimpArgs false
set_option linter.unusedVariables false
open Go.RowKit Por

/-- block g: room for n shares, of which the first k are told -/
def ShB (w : World) (g n k : Nat) (ts lv : Nat → Rat) (st : Nat → Int) : Prop := ∃ arr, w.heap[g]? = some (.cells arr 35 (0, 0)) ∧ arr.size = n * 3 ∧ ∀ i, i < k → arr[i * 3]? = some (.string ⟨(txt (ts i)).toArray⟩) ∧ arr[i * 3 + 1]? = some (.string ⟨(txt (lv i)).toArray⟩) ∧ arr[i * 3 + 2]? = some (.int .i64 (st i))
theorem ShB.lt {w : World} {g n k : Nat} {ts lv : Nat → Rat} {st : Nat → Int} (h : ShB w g n k ts lv st) : g < w.heap.size := by
  obtain ⟨arr, h1, _⟩ := h; exact (Array.getElem?_eq_some_iff.1 h1).1
theorem ShB.below {w w' : World} {g n k : Nat} {ts lv : Nat → Rat} {st : Nat → Int} (h : ShB w g n k ts lv st) (hb : Below w.heap.size w w') : ShB w' g n k ts lv st := by
  obtain ⟨arr, h1, h2, h3⟩ := h
  exact ⟨arr, (hb.block g (Array.getElem?_eq_some_iff.1 h1).1).trans h1, h2, h3⟩
theorem ShB.frozen {w : World} {g n k : Nat} {ts lv : Nat → Rat} {st : Nat → Int} (h : ShB w g n k ts lv st) (j : Nat) : w.frozen? ⟨g, j, none⟩ = false := by
  obtain ⟨arr, h1, _⟩ := h; exact frozen_of_row w g j _ _ h1
theorem ShB.has {w : World} {g n k : Nat} {ts lv : Nat → Rat} {st : Nat → Int} (h : ShB w g n k ts lv st) {j : Nat} (hj : j < n * 3) : ∃ x, w.cell? ⟨g, j, none⟩ = some x := by
  obtain ⟨arr, h1, h2, _⟩ := h
  exact ⟨arr[j]'(by omega), (cell_of_row w g j _ _ _ h1).trans (Array.getElem?_eq_getElem (by omega))⟩
/-- share k, of which the first j cells (of three) are written -/
def ShP (w : World) (g n k j : Nat) (ts lv : Nat → Rat) (st : Nat → Int) : Prop := ∃ arr, w.heap[g]? = some (.cells arr 35 (0, 0)) ∧ arr.size = n * 3 ∧ (∀ i, i < k → arr[i * 3]? = some (.string ⟨(txt (ts i)).toArray⟩) ∧ arr[i * 3 + 1]? = some (.string ⟨(txt (lv i)).toArray⟩) ∧ arr[i * 3 + 2]? = some (.int .i64 (st i))) ∧ (1 ≤ j → arr[k * 3]? = some (.string ⟨(txt (ts k)).toArray⟩)) ∧ (2 ≤ j → arr[k * 3 + 1]? = some (.string ⟨(txt (lv k)).toArray⟩))
theorem ShP.below {w w' : World} {g n k j : Nat} {ts lv : Nat → Rat} {st : Nat → Int} (h : ShP w g n k j ts lv st) (hb : Below w.heap.size w w') : ShP w' g n k j ts lv st := by
  obtain ⟨arr, h1, h2, h3⟩ := h
  exact ⟨arr, (hb.block g (Array.getElem?_eq_some_iff.1 h1).1).trans h1, h2, h3⟩
theorem ShP.lt {w : World} {g n k j : Nat} {ts lv : Nat → Rat} {st : Nat → Int} (h : ShP w g n k j ts lv st) : g < w.heap.size := by
  obtain ⟨arr, h1, _⟩ := h; exact (Array.getElem?_eq_some_iff.1 h1).1
theorem ShP.frozen {w : World} {g n k j : Nat} {ts lv : Nat → Rat} {st : Nat → Int} (h : ShP w g n k j ts lv st) (i : Nat) : w.frozen? ⟨g, i, none⟩ = false := by
  obtain ⟨arr, h1, _⟩ := h; exact frozen_of_row w g i _ _ h1
theorem ShP.has {w : World} {g n k j : Nat} {ts lv : Nat → Rat} {st : Nat → Int} (h : ShP w g n k j ts lv st) {i : Nat} (hj : i < n * 3) : ∃ x, w.cell? ⟨g, i, none⟩ = some x := by
  obtain ⟨arr, h1, h2, _⟩ := h
  exact ⟨arr[i]'(by omega), (cell_of_row w g i _ _ _ h1).trans (Array.getElem?_eq_getElem (by omega))⟩
theorem ShB.part {w : World} {g n k : Nat} {ts lv : Nat → Rat} {st : Nat → Int} (h : ShB w g n k ts lv st) : ShP w g n k 0 ts lv st := by
  obtain ⟨arr, h1, h2, h3⟩ := h
  exact ⟨arr, h1, h2, h3, fun h => by omega, fun h => by omega⟩
theorem ShP.put0 {w : World} {g n k : Nat} {ts lv : Nat → Rat} {st : Nat → Int} (h : ShP w g n k 0 ts lv st) (hk : k < n) : ShP (w.setCell ⟨g, k * 3, none⟩ (.string ⟨(txt (ts k)).toArray⟩)) g n k 1 ts lv st := by
  obtain ⟨arr, h1, h2, h3, _⟩ := h
  refine ⟨_, heap_setCell_same w g _ _ _ _ h1, by simp [h2], fun i hi => ?_, fun _ => ?_, fun h => by omega⟩
  · rw [Array.getElem?_setIfInBounds_ne (by omega), Array.getElem?_setIfInBounds_ne (by omega), Array.getElem?_setIfInBounds_ne (by omega)]; exact h3 i hi
  · rw [Array.getElem?_setIfInBounds_self_of_lt (by omega)]
theorem ShP.put1 {w : World} {g n k : Nat} {ts lv : Nat → Rat} {st : Nat → Int} (h : ShP w g n k 1 ts lv st) (hk : k < n) : ShP (w.setCell ⟨g, k * 3 + 1, none⟩ (.string ⟨(txt (lv k)).toArray⟩)) g n k 2 ts lv st := by
  obtain ⟨arr, h1, h2, h3, h4, _⟩ := h
  refine ⟨_, heap_setCell_same w g _ _ _ _ h1, by simp [h2], fun i hi => ?_, fun _ => ?_, fun _ => ?_⟩
  · rw [Array.getElem?_setIfInBounds_ne (by omega), Array.getElem?_setIfInBounds_ne (by omega), Array.getElem?_setIfInBounds_ne (by omega)]; exact h3 i hi
  · rw [Array.getElem?_setIfInBounds_ne (by omega)]; exact h4 (by omega)
  · rw [Array.getElem?_setIfInBounds_self_of_lt (by omega)]
theorem ShP.put2 {w : World} {g n k : Nat} {ts lv : Nat → Rat} {st : Nat → Int} (h : ShP w g n k 2 ts lv st) (hk : k < n) : ShB (w.setCell ⟨g, k * 3 + 2, none⟩ (.int .i64 (st k))) g n (k + 1) ts lv st := by
  obtain ⟨arr, h1, h2, h3, h4, h5⟩ := h
  refine ⟨_, heap_setCell_same w g _ _ _ _ h1, by simp [h2], fun i hi => ?_⟩
  by_cases e : i = k
  · subst e
    rw [Array.getElem?_setIfInBounds_ne (by omega), Array.getElem?_setIfInBounds_ne (by omega), Array.getElem?_setIfInBounds_self_of_lt (by omega)]
    exact ⟨h4 (by omega), h5 (by omega), rfl⟩
  · rw [Array.getElem?_setIfInBounds_ne (by omega), Array.getElem?_setIfInBounds_ne (by omega), Array.getElem?_setIfInBounds_ne (by omega)]; exact h3 i (by omega)
theorem Tryz.infoShare : (Tryz.prog.info? 35).map (fun i => (i.zero, i.size, i.bytes)) = some (some (.agg #[.string ⟨#[]⟩, .string ⟨#[]⟩, .int .i64 0]), 3, 40) := by kernel_rfl
theorem wpList_make_shares (w : World) {ops : Array Oper} {rest : List Oper} {o : Oper} {a : Act} {Q : Exit → Act → World → Prop}
    (hg : o.guard = none) (l c : Operand) (hop : o.op = Op.makeSlice 24 l c) (L C : Int) (n : Nat) (hl : a.eval l = .int .i64 L) (hc : a.eval c = .int .i64 C) (hL : L = (n : Int)) (hC : C = (n : Int)) (hn : n ≤ 1000000)
    (hK : ∀ w', (∀ ts lv st, ShB w' w.heap.size n 0 ts lv st) → Below w.heap.size w w' → w.heap.size < w'.heap.size → wpList Tryz.prog ops Q rest (a.put o.dst (.slice (some ⟨w.heap.size, 0, none⟩) n n)) w') :
    wpList Tryz.prog ops Q (o :: rest) a w := by
  obtain ⟨i, hi, hz0, hz1, hz2⟩ := info_parts Tryz.infoShare
  refine wpList_make_full w hg l c 24 hop w.heap.size 35 i (.agg #[.string ⟨#[]⟩, .string ⟨#[]⟩, .int .i64 0]) 3 Tryz.underlying24 hi hz0 hz1 .i64 .i64 L C n hl hc hL hC (by rw [hz2]; omega) (by unfold maxLen; omega) (Nat.le_refl _) ?_
  intro w' ho hgr
  have hb : Below w.heap.size w w' := (Below.refl _ _).grown hgr (Nat.le_refl _) (fun k e => by cases e)
  rcases ho.2 with ⟨h', _⟩ | ⟨g, cap, cur, h', _, hh, h1, h2, h3, h4⟩
  · cases h'
  · simp only [Value.slice.injEq, Option.some.injEq, Addr.mk.injEq, and_true, true_and] at h'
    obtain ⟨rfl, rfl⟩ := h'
    exact hK w' (fun ts lv st => ⟨cur, hh, h3, fun i hi => by omega⟩) hb (Array.getElem?_eq_some_iff.1 hh).1
set_option maxHeartbeats 2000000 in
set_option maxRecDepth 20000 in
theorem shares_any (w0 : World) (d : FD) (s : St) (w : World) (h : FS w0 d w s) (ho : d.Ok w0) (hs : Small d s 60) :
    Calls Tryz.prog 26 #[.pointer (some ⟨d.sb, 0, none⟩)] w fun e w' => ∃ g, w.heap.size ≤ g ∧ e = .returned (.slice (some ⟨g, 0, none⟩) d.n d.n) ∧ ShB w' g d.n d.n s.ts s.lv (stopV d s) ∧ Below w.heap.size w w' := by
  have hn6 := ho.n6
  have hk4 := ho.k4
  have hul := ho.len
  have H := hid h
  have HO := hid ho
  have HS := hid hs
  clear h ho hs
  have HB_0 := hid (Below.refl w.heap.size w)
  go_enter Tryz.func26, Tryz.ntmps26
  have hbg : 5 + d.n * (60 + 3) ≤ 10000 := by have := Nat.mul_le_mul_right 63 hn6; omega
  go_wp2_with fail
  refine (usedUp_any w0 d s 60 _ H.out HO.out HS.out.ts hbg).mono ?_
  rintro e1 w1 ⟨rfl, hbb, hb1⟩
  have HB1 := hid hb1
  have HBB := hid hbb
  have hw1 : w.heap.size < w1.heap.size := hbb.lt
  clear hbb hb1
  have HFS1 := hid (H.out.below HB1.out)
  obtain ⟨la, lb, lc, ld, le, lf, hbx, hlr1, hlr2⟩ := HFS1.out.box
  have ltsb := hbx.lt
  have g0 : w1.cell? ⟨d.sb, 0, none⟩ = some (.slice d.ao d.n d.cap) := hbx.cell 0 _ rfl
  have HLR1 := hid hlr1
  have HLR2 := hid hlr2
  clear hlr1 hlr2
  clear hbx HLR1 HLR2
  go_wp2_with (at_make; refine wpList_make_shares _ rfl _ _ rfl _ _ d.n rfl rfl rfl rfl (by omega) ?_)
  intro w2 hsb hb2 hlt2
  have HSB := hid (hsb s.ts s.lv (stopV d s))
  have HB2 : Hid (Below w.heap.size w w2) := HB1.out.trans (hb2.mono HB1.out.size)
  have q0 := (hb2.cell (p := ⟨d.sb, 0, none⟩) ltsb).trans g0
  have ltq : d.sb < w2.heap.size := by omega
  have HB21 := hid hb2
  clear hsb hb2 g0
  go_wp2
  go_loopg [19] d.n (fun g ix wr => ∃ k : Nat, g = d.n - k ∧ k ≤ d.n ∧ ix = .int .i64 k ∧ Hid (ShB wr w1.heap.size d.n k s.ts s.lv (stopV d s)) ∧ Hid (Below w1.heap.size w1 wr))
  case atStart => exact ⟨0, rfl, Nat.zero_le _, rfl, HSB.out, HB21.out⟩
  case round =>
    clear q0 HSB HB2 HB21
    obtain ⟨k, hgk, hk, rfl, hF, hB⟩ := hrel
    have HBW : Hid (Below w.heap.size w wr) := HB1.out.trans (hB.out.mono HB1.out.size)
    by_cases hlt : k < d.n
    · have hkn : (k : Int) < (d.n : Int) := by omega
      have HP0 := hid hF.out.part
      have HBWa := HBW
      have HBa1 := hB
      have HFS0 := hid (H.out.below HBWa.out)
      obtain ⟨la, lb, lc, ld, le, lf, hbx, hlr1, hlr2⟩ := HFS0.out.box
      have lts0 := hbx.lt
      have f0 : wr.cell? ⟨d.sb, 6, none⟩ = some (.slice (some ⟨d.gt, 0, none⟩) d.n d.n) := hbx.cell 6 _ rfl
      clear hbx hlr1 hlr2
      obtain ⟨ua, ub, uc, ud, ue, uf, c0, c1, c2, hu1, hu2⟩ := HFS0.out.ts.cells hlt
      have ltg0 := HFS0.out.ts.lt
      have lu1 := hu1.sm1 (HS.out.ts k hlt)
      have lu2 := hu2.sm2 (HS.out.ts k hlt)
      have HU1 := hid hu1
      have HU2 := hid hu2
      clear hu1 hu2
      go_wp2_with fail
      refine (rtext_any ua ud ub uc ue uf (s.ts k) _ HU1.out HU2.out (by omega) (by omega) (HO.out.tab.of HFS0.out.bel)).mono ?_
      rintro e0 x0 ⟨rfl, hbx0⟩
      have HQ0 := hid (HP0.out.below hbx0)
      have HBWb := hid (HBWa.out.trans (hbx0.mono HBWa.out.size))
      have HBb1 := hid (HBa1.out.trans (hbx0.mono HBa1.out.size))
      clear hbx0 f0 c0 c1 c2 HU1 HU2 HFS0 HBWa HBa1 lts0 ltg0 lu1 lu2
      obtain ⟨y0, hy0⟩ := HQ0.out.has (i := k * 3) (by omega)
      have z0 := HQ0.out.frozen (k * 3)
      have lg0 := HQ0.out.lt
      have HP1 := hid (HQ0.out.put0 hlt)
      have HBWa : Hid (Below w.heap.size w (x0.setCell ⟨w1.heap.size, k * 3, none⟩ (.string ⟨(txt (s.ts k)).toArray⟩))) := HBWb.out.setCell (Nat.le_of_lt hw1) _
      have HBa1 : Hid (Below w1.heap.size w1 (x0.setCell ⟨w1.heap.size, k * 3, none⟩ (.string ⟨(txt (s.ts k)).toArray⟩))) := HBb1.out.setCell (Nat.le_refl _) _
      clear HBWb HBb1
      go_upto_region 7 with fail
      obtain ⟨N0, hV⟩ : ∃ N0, N0 = x0.setCell ⟨w1.heap.size, k * 3, none⟩ (.string ⟨(txt (s.ts k)).toArray⟩) := ⟨_, rfl⟩
      rw [← hV] at HP1 HBWa HBa1 ⊢
      clear hV hy0 z0 lg0 HQ0
      have HFS1 := hid (H.out.below HBWa.out)
      obtain ⟨la, lb, lc, ld, le, lf, hbx, hlr1, hlr2⟩ := HFS1.out.box
      have lts1 := hbx.lt
      have f1 : N0.cell? ⟨d.sb, 7, none⟩ = some (.slice (some ⟨d.gl, 0, none⟩) d.n d.n) := hbx.cell 7 _ rfl
      clear hbx hlr1 hlr2
      obtain ⟨ua, ub, uc, ud, ue, uf, c0, c1, c2, hu1, hu2⟩ := HFS1.out.lv.cells hlt
      have ltg1 := HFS1.out.lv.lt
      have lu1 := hu1.sm1 (HS.out.lv k hlt)
      have lu2 := hu2.sm2 (HS.out.lv k hlt)
      have HU1 := hid hu1
      have HU2 := hid hu2
      clear hu1 hu2
      go_wp2_with fail
      refine (rtext_any ua ud ub uc ue uf (s.lv k) _ HU1.out HU2.out (by omega) (by omega) (HO.out.tab.of HFS1.out.bel)).mono ?_
      rintro e1 x1 ⟨rfl, hbx1⟩
      have HQ1 := hid (HP1.out.below hbx1)
      have HBWb := hid (HBWa.out.trans (hbx1.mono HBWa.out.size))
      have HBb1 := hid (HBa1.out.trans (hbx1.mono HBa1.out.size))
      clear hbx1 f1 c0 c1 c2 HU1 HU2 HFS1 HBWa HBa1 lts1 ltg1 lu1 lu2
      obtain ⟨y1, hy1⟩ := HQ1.out.has (i := k * 3 + 1) (by omega)
      have z1 := HQ1.out.frozen (k * 3 + 1)
      have lg1 := HQ1.out.lt
      have HP2 := hid (HQ1.out.put1 hlt)
      have HBWa : Hid (Below w.heap.size w (x1.setCell ⟨w1.heap.size, k * 3 + 1, none⟩ (.string ⟨(txt (s.lv k)).toArray⟩))) := HBWb.out.setCell (Nat.le_of_lt hw1) _
      have HBa1 : Hid (Below w1.heap.size w1 (x1.setCell ⟨w1.heap.size, k * 3 + 1, none⟩ (.string ⟨(txt (s.lv k)).toArray⟩))) := HBb1.out.setCell (Nat.le_refl _) _
      clear HBWb HBb1
      go_upto_region 8 with fail
      obtain ⟨N1, hV⟩ : ∃ N1, N1 = x1.setCell ⟨w1.heap.size, k * 3 + 1, none⟩ (.string ⟨(txt (s.lv k)).toArray⟩) := ⟨_, rfl⟩
      rw [← hV] at HP2 HBWa HBa1 ⊢
      clear hV hy1 z1 lg1 HQ1
      go_wp2_with fail
      refine (stopOf_any w0 d s k 60 w.heap.size _ (H.out.below HBWa.out) HO.out HS.out.lv HS.out.ts (by omega) (HBB.out.below HBa1.out) hlt).mono ?_
      rintro e9 x9 ⟨rfl, hbx9⟩
      have HQ9 := hid (HP2.out.below hbx9)
      have HBW9 := hid (HBWa.out.trans (hbx9.mono HBWa.out.size))
      have HB19 := hid (HBa1.out.trans (hbx9.mono HBa1.out.size))
      clear hbx9
      obtain ⟨y9, hy9⟩ := HQ9.out.has (i := k * 3 + 2) (by omega)
      have z9 := HQ9.out.frozen (k * 3 + 2)
      have lg9 := HQ9.out.lt
      go_wp2
      go_roundg (d.n - (k + 1))
      case measure => omega
      case rel => exact ⟨k + 1, rfl, by omega, by go_num, HQ9.out.put2 hlt, HB19.out.setCell (Nat.le_refl _) _⟩
    · obtain rfl : k = d.n := by omega
      go_wp2
      go_ret
      exact ⟨w1.heap.size, by omega, rfl, hF.out, HBW.out⟩

end Go.Proofs.YtigokanoflkinaaGreatDoor
