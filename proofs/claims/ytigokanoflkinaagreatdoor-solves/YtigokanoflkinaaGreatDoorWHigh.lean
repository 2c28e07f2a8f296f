/- fill isHighest, stopOf. (Laid by mksolve.py.) -/
import Derived.Test.YtigokanoflkinaaGreatDoorWStop
namespace Go.Proofs.YtigokanoflkinaaGreatDoor
set_option linter.unusedSimpArgs false
set_option linter.unusedVariables false
open Go.RowKit Por

/-- has no user that wants kind r, of the first m, a greater level than user i? -/
def highB (d : FD) (lv : Nat → Rat) (i r : Nat) : Nat → Bool
  | 0 => true
  | m + 1 => highB d lv i r m && !(decide (0 < lm (ug d.us m).dem r) && decide (lv i < lv m))
theorem highB_false {d : FD} {lv : Nat → Rat} {i r j m : Nat} (hj : j < m) (h0 : 0 < lm (ug d.us j).dem r) (h1 : lv i < lv j) : highB d lv i r m = false := by
  induction m with
  | zero => omega
  | succ m ih =>
    simp only [highB]
    by_cases e : j = m
    · subst e; simp [h0, h1]
    · rw [ih (by omega)]; rfl
/-- the first kind that holds user i; -1 if there is none -/
def stopN (d : FD) (s : St) (i : Nat) : Nat → Nat → Int
  | _, 0 => -1
  | k, m + 1 => if 0 < lm (ug d.us i).dem k ∧ upB d s.ts k = true ∧ highB d s.lv i k d.n = true then (k : Int) else stopN d s i (k + 1) m
def stopV (d : FD) (s : St) (i : Nat) : Int := if capB d s.ts i = true then -1 else stopN d s i 0 d.kk

set_option maxHeartbeats 2000000 in
set_option maxRecDepth 20000 in
theorem isHighest_any (w0 : World) (d : FD) (s : St) (i r : Nat) (w : World) (h : FS w0 d w s) (ho : d.Ok w0) (hs : ∀ i, i < d.n → Sm (s.lv i) 60) (hi : i < d.n) (hr : r < d.kk) :
    Calls Tryz.prog 111 #[.pointer (some ⟨d.sb, 0, none⟩), .int .i64 i, .int .i64 r] w fun e w' => e = .returned (.bool (highB d s.lv i r d.n)) ∧ Below w.heap.size w w' := by
  have hn6 := ho.n6
  have hk4 := ho.k4
  have hul := ho.len
  have hib : (i : Int) < (d.n : Int) := by omega
  have H := hid h
  have HO := hid ho
  have HS := hid hs
  clear h ho hs
  obtain ⟨la, lb, lc, ld, le, lf, hbx, hlr1, hlr2⟩ := H.out.box
  have ltsb := hbx.lt
  have g0 : w.cell? ⟨d.sb, 0, none⟩ = some (.slice d.ao d.n d.cap) := hbx.cell 0 _ rfl
  have HLR1 := hid hlr1
  have HLR2 := hid hlr2
  clear hlr1 hlr2
  clear hbx HLR1 HLR2
  have HB_0 := hid (Below.refl w.heap.size w)
  go_enter Tryz.func111, Tryz.ntmps111
  go_wp2
  go_loopg [14] d.n (fun g ix wr => ∃ k : Nat, g = d.n - k ∧ k ≤ d.n ∧ ix = .int .i64 k ∧ Hid (highB d s.lv i r k = true) ∧ Hid (Below w.heap.size w wr))
  case atStart => exact ⟨0, rfl, Nat.zero_le _, rfl, rfl, HB_0.out⟩
  case round =>
    clear g0
    obtain ⟨k, hgk, hk, rfl, hz, hB⟩ := hrel
    clear HB_0
    have HFW := hid (H.out.below hB.out)
    by_cases hlt : k < d.n
    · have hkn : (k : Int) < (d.n : Int) := by omega
      obtain ⟨b, o, da, dn, dc, hao, hbl, c0, c1, c2, hd⟩ := (HO.out.users.below HFW.out.bel).get hlt
      have hdl := hd.len
      rw [ints_len, HO.out.good.len (i := k) (by omega)] at hdl
      have hdr : (r : Int) < (dn : Int) := by omega
      have hdr2 : r < dn := by omega
      have HDL := hid hdl
      clear hdl
      have HAO := hid hao
      clear hao
      obtain ⟨db, dof, rfl, hdb⟩ := hd.head (by omega)
      have hdm := amt_rng (HO.out.good.dem (i := k) (by omega) r)
      have HD := hid hd
      clear hd
      have XU_21 := hid (bx_new wr #[.slice (some ⟨db, dof, none⟩) dn dc, .int .i64 (ug d.us k).wt, .int .i64 (ug d.us k).cap] 56)
      have Rd_21 := hid (HD.out.alloc (.cells #[.slice (some ⟨db, dof, none⟩) dn dc, .int .i64 (ug d.us k).wt, .int .i64 (ug d.us k).cap] 56))
      have HB_21 : Hid (Below w.heap.size w (wr.alloc (.cells #[.slice (some ⟨db, dof, none⟩) dn dc, .int .i64 (ug d.us k).wt, .int .i64 (ug d.us k).cap] 56))) := hB.out.alloc hB.out.size (.cells #[.slice (some ⟨db, dof, none⟩) dn dc, .int .i64 (ug d.us k).wt, .int .i64 (ug d.us k).cap] 56)
      have leU : w.heap.size ≤ wr.heap.size := hB.out.size
      clear HD hB
      rw [HAO.out]
      go_wp2_with fail
      obtain ⟨V, hV⟩ : ∃ V, V = (wr.alloc (.cells #[.slice (some ⟨db, dof, none⟩) dn dc, .int .i64 (ug d.us k).wt, .int .i64 (ug d.us k).cap] 56)) := ⟨_, rfl⟩
      rw [← hV] at XU_21 Rd_21 HB_21 ⊢
      clear hV
      clear c0 c1 c2
      have cd := Rd_21.out.int rfl hdr2
      have ltd : db < V.heap.size := by obtain ⟨b9, o9, e9, h9⟩ := Rd_21.out.head (by omega); cases e9; exact h9
      have m0 := XU_21.out.cell 0 _ rfl
      have m1 := XU_21.out.cell 1 _ rfl
      have m2 := XU_21.out.cell 2 _ rfl
      have ltU := XU_21.out.lt
      generalize hx : lm (ug d.us k).dem r = x at cd hdm
      have HX := hid hx
      clear hx
      by_cases h0 : 0 < x
      · have HFS := hid (H.out.below HB_21.out)
        obtain ⟨la, lb, lc, ld, le, lf, hbx, hlr1, hlr2⟩ := HFS.out.box
        have ltsb := hbx.lt
        have f7 : V.cell? ⟨d.sb, 7, none⟩ = some (.slice (some ⟨d.gl, 0, none⟩) d.n d.n) := hbx.cell 7 _ rfl
        clear hbx hlr1 hlr2
        have ltgl := HFS.out.lv.lt
        obtain ⟨ua, ub, uc, ud, ue, uf, u0, u1, u2, hu1, hu2⟩ := HFS.out.lv.cells hlt
        have lu1 := hu1.sm1 (HS.out k hlt)
        have lu2 := hu2.sm2 (HS.out k hlt)
        have Hu1 := hid hu1
        have Hu2 := hid hu2
        clear hu1 hu2
        obtain ⟨va, vb, vc, vd, ve, vf, v0, v1, v2, hv1, hv2⟩ := HFS.out.lv.cells hi
        have lv1 := hv1.sm1 (HS.out i hi)
        have lv2 := hv2.sm2 (HS.out i hi)
        have Hv1 := hid hv1
        have Hv2 := hid hv2
        clear hv1 hv2
        obtain ⟨c, hcq⟩ : ∃ c, cmpQ (s.lv k) (s.lv i) = c := ⟨_, rfl⟩
        have HCQ := hid hcq
        clear hcq
        have h0d : decide (0 < x) = true := decide_eq_true h0
        by_cases hc : 0 < c
        · have HE := hid (highB_false (d := d) (lv := s.lv) (i := i) (r := r) hlt (by rw [HX.out]; exact h0) (by have h9 := HCQ.out; rw [← h9] at hc; exact cmp_gt.1 hc))
          have SK : Hid (∀ U, Below V.heap.size V U → U.cell? ⟨wr.heap.size, 0, none⟩ = some (.slice (some ⟨db, dof, none⟩) dn dc) ∧ U.cell? ⟨db, dof + r, none⟩ = some (.int .i64 x) ∧ U.cell? ⟨d.sb, 7, none⟩ = some (.slice (some ⟨d.gl, 0, none⟩) d.n d.n) ∧ U.cell? ⟨d.gl, k * 3, none⟩ = some (.bool (negB (s.lv k))) ∧ U.cell? ⟨d.gl, k * 3 + 1, none⟩ = some (.slice ua ub uc) ∧ U.cell? ⟨d.gl, k * 3 + 2, none⟩ = some (.slice ud ue uf) ∧ U.cell? ⟨d.gl, i * 3, none⟩ = some (.bool (negB (s.lv i))) ∧ U.cell? ⟨d.gl, i * 3 + 1, none⟩ = some (.slice va vb vc) ∧ U.cell? ⟨d.gl, i * 3 + 2, none⟩ = some (.slice vd ve vf)) := fun U h => ⟨(h.cell (p := ⟨wr.heap.size, 0, none⟩) ltU).trans m0, (h.cell (p := ⟨db, dof + r, none⟩) ltd).trans cd, (h.cell (p := ⟨d.sb, 7, none⟩) ltsb).trans f7, (h.cell (p := ⟨d.gl, k * 3, none⟩) ltgl).trans u0, (h.cell (p := ⟨d.gl, k * 3 + 1, none⟩) ltgl).trans u1, (h.cell (p := ⟨d.gl, k * 3 + 2, none⟩) ltgl).trans u2, (h.cell (p := ⟨d.gl, i * 3, none⟩) ltgl).trans v0, (h.cell (p := ⟨d.gl, i * 3 + 1, none⟩) ltgl).trans v1, (h.cell (p := ⟨d.gl, i * 3 + 2, none⟩) ltgl).trans v2⟩
          have KC : Hid (∀ U, Below V.heap.size V U → Calls Tryz.prog 101 #[.agg #[.bool (negB (s.lv k)), .slice ua ub uc, .slice ud ue uf], .agg #[.bool (negB (s.lv i)), .slice va vb vc, .slice vd ve vf]] U (fun e w' => e = .returned (.int .i64 c) ∧ Below V.heap.size V w')) := fun U hU => (rcmp_any ua ud va vd ub uc ue uf vb vc ve vf (s.lv k) (s.lv i) U (Hu1.out.below hU) (Hu2.out.below hU) (Hv1.out.below hU) (Hv2.out.below hU) (by omega) (by omega) (by omega) (by omega)).mono (fun e w' ⟨h1, h3⟩ => ⟨h1.trans (by rw [HCQ.out]), hU.trans (h3.mono hU.size)⟩)
          have dm0 : V.drew.cell? ⟨wr.heap.size, 0, none⟩ = some (.slice (some ⟨db, dof, none⟩) dn dc) := ((Below.refl V.heap.size V).drew.cell (p := ⟨wr.heap.size, 0, none⟩) ltU).trans m0
          have dcd : V.drew.cell? ⟨db, dof + r, none⟩ = some (.int .i64 x) := ((Below.refl V.heap.size V).drew.cell (p := ⟨db, dof + r, none⟩) ltd).trans cd
          have df7 : V.drew.cell? ⟨d.sb, 7, none⟩ = some (.slice (some ⟨d.gl, 0, none⟩) d.n d.n) := ((Below.refl V.heap.size V).drew.cell (p := ⟨d.sb, 7, none⟩) ltsb).trans f7
          have du0 : V.drew.cell? ⟨d.gl, k * 3, none⟩ = some (.bool (negB (s.lv k))) := ((Below.refl V.heap.size V).drew.cell (p := ⟨d.gl, k * 3, none⟩) ltgl).trans u0
          have du1 : V.drew.cell? ⟨d.gl, k * 3 + 1, none⟩ = some (.slice ua ub uc) := ((Below.refl V.heap.size V).drew.cell (p := ⟨d.gl, k * 3 + 1, none⟩) ltgl).trans u1
          have du2 : V.drew.cell? ⟨d.gl, k * 3 + 2, none⟩ = some (.slice ud ue uf) := ((Below.refl V.heap.size V).drew.cell (p := ⟨d.gl, k * 3 + 2, none⟩) ltgl).trans u2
          have dv0 : V.drew.cell? ⟨d.gl, i * 3, none⟩ = some (.bool (negB (s.lv i))) := ((Below.refl V.heap.size V).drew.cell (p := ⟨d.gl, i * 3, none⟩) ltgl).trans v0
          have dv1 : V.drew.cell? ⟨d.gl, i * 3 + 1, none⟩ = some (.slice va vb vc) := ((Below.refl V.heap.size V).drew.cell (p := ⟨d.gl, i * 3 + 1, none⟩) ltgl).trans v1
          have dv2 : V.drew.cell? ⟨d.gl, i * 3 + 2, none⟩ = some (.slice vd ve vf) := ((Below.refl V.heap.size V).drew.cell (p := ⟨d.gl, i * 3 + 2, none⟩) ltgl).trans v2
          go_region_held3 (fun w' => w'.cell? ⟨wr.heap.size, 0, none⟩ = some (.slice (some ⟨db, dof, none⟩) dn dc) ∧ w'.cell? ⟨db, dof + r, none⟩ = some (.int .i64 x) ∧ w'.cell? ⟨d.sb, 7, none⟩ = some (.slice (some ⟨d.gl, 0, none⟩) d.n d.n) ∧ w'.cell? ⟨d.gl, k * 3, none⟩ = some (.bool (negB (s.lv k))) ∧ w'.cell? ⟨d.gl, k * 3 + 1, none⟩ = some (.slice ua ub uc) ∧ w'.cell? ⟨d.gl, k * 3 + 2, none⟩ = some (.slice ud ue uf) ∧ w'.cell? ⟨d.gl, i * 3, none⟩ = some (.bool (negB (s.lv i))) ∧ w'.cell? ⟨d.gl, i * 3 + 1, none⟩ = some (.slice va vb vc) ∧ w'.cell? ⟨d.gl, i * 3 + 2, none⟩ = some (.slice vd ve vf)) (first | exact SK.out _ (Below.refl _ _).drew | exact SK.out _ hb7)
            (first | (go_at_call 101; refine (KC.out _ ?hU).mono ?_; (case hU => exact (Below.refl _ _).drew); rintro e7 w7 ⟨rfl, hb7⟩))
          have XU_24 := hid (XU_21.out.keep hb7)
          have Rd_24 := hid (Rd_21.out.below hb7)
          have HB_24 : Hid (Below w.heap.size w w7) := HB_21.out.trans (hb7.mono HB_21.out.size)
          clear XU_21 Rd_21 HB_21
          clear hb7 SK KC
          go_wp2
          go_ret
          exact ⟨by rw [HE.out]; rfl, HB_24.out⟩
        · have E : highB d s.lv i r (k + 1) = true := by
            simp only [highB]
            rw [hz.out, decide_eq_false (p := s.lv i < s.lv k) (fun h => hc (by rw [← HCQ.out]; exact cmp_gt.2 h))]; simp
          have HE := hid E; clear E
          have SK : Hid (∀ U, Below V.heap.size V U → U.cell? ⟨wr.heap.size, 0, none⟩ = some (.slice (some ⟨db, dof, none⟩) dn dc) ∧ U.cell? ⟨db, dof + r, none⟩ = some (.int .i64 x) ∧ U.cell? ⟨d.sb, 7, none⟩ = some (.slice (some ⟨d.gl, 0, none⟩) d.n d.n) ∧ U.cell? ⟨d.gl, k * 3, none⟩ = some (.bool (negB (s.lv k))) ∧ U.cell? ⟨d.gl, k * 3 + 1, none⟩ = some (.slice ua ub uc) ∧ U.cell? ⟨d.gl, k * 3 + 2, none⟩ = some (.slice ud ue uf) ∧ U.cell? ⟨d.gl, i * 3, none⟩ = some (.bool (negB (s.lv i))) ∧ U.cell? ⟨d.gl, i * 3 + 1, none⟩ = some (.slice va vb vc) ∧ U.cell? ⟨d.gl, i * 3 + 2, none⟩ = some (.slice vd ve vf)) := fun U h => ⟨(h.cell (p := ⟨wr.heap.size, 0, none⟩) ltU).trans m0, (h.cell (p := ⟨db, dof + r, none⟩) ltd).trans cd, (h.cell (p := ⟨d.sb, 7, none⟩) ltsb).trans f7, (h.cell (p := ⟨d.gl, k * 3, none⟩) ltgl).trans u0, (h.cell (p := ⟨d.gl, k * 3 + 1, none⟩) ltgl).trans u1, (h.cell (p := ⟨d.gl, k * 3 + 2, none⟩) ltgl).trans u2, (h.cell (p := ⟨d.gl, i * 3, none⟩) ltgl).trans v0, (h.cell (p := ⟨d.gl, i * 3 + 1, none⟩) ltgl).trans v1, (h.cell (p := ⟨d.gl, i * 3 + 2, none⟩) ltgl).trans v2⟩
          have KC : Hid (∀ U, Below V.heap.size V U → Calls Tryz.prog 101 #[.agg #[.bool (negB (s.lv k)), .slice ua ub uc, .slice ud ue uf], .agg #[.bool (negB (s.lv i)), .slice va vb vc, .slice vd ve vf]] U (fun e w' => e = .returned (.int .i64 c) ∧ Below V.heap.size V w')) := fun U hU => (rcmp_any ua ud va vd ub uc ue uf vb vc ve vf (s.lv k) (s.lv i) U (Hu1.out.below hU) (Hu2.out.below hU) (Hv1.out.below hU) (Hv2.out.below hU) (by omega) (by omega) (by omega) (by omega)).mono (fun e w' ⟨h1, h3⟩ => ⟨h1.trans (by rw [HCQ.out]), hU.trans (h3.mono hU.size)⟩)
          have dm0 : V.drew.cell? ⟨wr.heap.size, 0, none⟩ = some (.slice (some ⟨db, dof, none⟩) dn dc) := ((Below.refl V.heap.size V).drew.cell (p := ⟨wr.heap.size, 0, none⟩) ltU).trans m0
          have dcd : V.drew.cell? ⟨db, dof + r, none⟩ = some (.int .i64 x) := ((Below.refl V.heap.size V).drew.cell (p := ⟨db, dof + r, none⟩) ltd).trans cd
          have df7 : V.drew.cell? ⟨d.sb, 7, none⟩ = some (.slice (some ⟨d.gl, 0, none⟩) d.n d.n) := ((Below.refl V.heap.size V).drew.cell (p := ⟨d.sb, 7, none⟩) ltsb).trans f7
          have du0 : V.drew.cell? ⟨d.gl, k * 3, none⟩ = some (.bool (negB (s.lv k))) := ((Below.refl V.heap.size V).drew.cell (p := ⟨d.gl, k * 3, none⟩) ltgl).trans u0
          have du1 : V.drew.cell? ⟨d.gl, k * 3 + 1, none⟩ = some (.slice ua ub uc) := ((Below.refl V.heap.size V).drew.cell (p := ⟨d.gl, k * 3 + 1, none⟩) ltgl).trans u1
          have du2 : V.drew.cell? ⟨d.gl, k * 3 + 2, none⟩ = some (.slice ud ue uf) := ((Below.refl V.heap.size V).drew.cell (p := ⟨d.gl, k * 3 + 2, none⟩) ltgl).trans u2
          have dv0 : V.drew.cell? ⟨d.gl, i * 3, none⟩ = some (.bool (negB (s.lv i))) := ((Below.refl V.heap.size V).drew.cell (p := ⟨d.gl, i * 3, none⟩) ltgl).trans v0
          have dv1 : V.drew.cell? ⟨d.gl, i * 3 + 1, none⟩ = some (.slice va vb vc) := ((Below.refl V.heap.size V).drew.cell (p := ⟨d.gl, i * 3 + 1, none⟩) ltgl).trans v1
          have dv2 : V.drew.cell? ⟨d.gl, i * 3 + 2, none⟩ = some (.slice vd ve vf) := ((Below.refl V.heap.size V).drew.cell (p := ⟨d.gl, i * 3 + 2, none⟩) ltgl).trans v2
          go_region_held3 (fun w' => w'.cell? ⟨wr.heap.size, 0, none⟩ = some (.slice (some ⟨db, dof, none⟩) dn dc) ∧ w'.cell? ⟨db, dof + r, none⟩ = some (.int .i64 x) ∧ w'.cell? ⟨d.sb, 7, none⟩ = some (.slice (some ⟨d.gl, 0, none⟩) d.n d.n) ∧ w'.cell? ⟨d.gl, k * 3, none⟩ = some (.bool (negB (s.lv k))) ∧ w'.cell? ⟨d.gl, k * 3 + 1, none⟩ = some (.slice ua ub uc) ∧ w'.cell? ⟨d.gl, k * 3 + 2, none⟩ = some (.slice ud ue uf) ∧ w'.cell? ⟨d.gl, i * 3, none⟩ = some (.bool (negB (s.lv i))) ∧ w'.cell? ⟨d.gl, i * 3 + 1, none⟩ = some (.slice va vb vc) ∧ w'.cell? ⟨d.gl, i * 3 + 2, none⟩ = some (.slice vd ve vf)) (first | exact SK.out _ (Below.refl _ _).drew | exact SK.out _ hb7)
            (first | (go_at_call 101; refine (KC.out _ ?hU).mono ?_; (case hU => exact (Below.refl _ _).drew); rintro e7 w7 ⟨rfl, hb7⟩))
          have XU_24 := hid (XU_21.out.keep hb7)
          have Rd_24 := hid (Rd_21.out.below hb7)
          have HB_24 : Hid (Below w.heap.size w w7) := HB_21.out.trans (hb7.mono HB_21.out.size)
          clear XU_21 Rd_21 HB_21
          clear hb7 SK KC
          go_wp2
          rw [← HAO.out]
          go_roundg (d.n - (k + 1))
          case measure => omega
          case rel => exact ⟨k + 1, rfl, by omega, by go_num, HE.out, HB_24.out⟩
      · have h0d : decide (0 < x) = false := decide_eq_false h0
        have E : highB d s.lv i r (k + 1) = true := by
          simp only [highB]
          rw [hz.out, HX.out, h0d]; rfl
        have HE := hid E; clear E
        go_quiet (fail)
        go_wp2
        rw [← HAO.out]
        go_roundg (d.n - (k + 1))
        case measure => omega
        case rel => exact ⟨k + 1, rfl, by omega, by go_num, HE.out, below_drewN HB_21.out _⟩
    · obtain rfl : k = d.n := by omega
      go_wp2
      go_ret
      exact ⟨by rw [hz.out]; rfl, hB.out⟩

end Go.Proofs.YtigokanoflkinaaGreatDoor
