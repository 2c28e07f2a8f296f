/- fill stop. (Laid by mksolve.py.) -/
import Derived.Test.YtigokanoflkinaaGreatDoorWCapW
namespace Go.Proofs.YtigokanoflkinaaGreatDoor
set_option linter.unusedSimpArgs false
set_option linter.unusedVariables false
open Go.RowKit Por

theorem BB.putA_other {w : World} {g n k : Nat} {f : Nat → Bool} (h : BB w g n k f) {b o : Nat} (u0 u1 u2 : Value) (hne : b ≠ g) : BB (wputA w b o u0 u1 u2) g n k f := by
  obtain ⟨arr, h1, h2, h3⟩ := h
  refine ⟨arr, ?_, h2, h3⟩
  unfold wputA
  rw [heap_setCell_other _ _ g _ (fun e => hne e.symm), heap_setCell_other _ _ g _ (fun e => hne e.symm), heap_setCell_other _ _ g _ (fun e => hne e.symm)]
  exact h1
/-- does user i stop? -/
def stB (d : FD) (ts : Nat → Rat) (i : Nat) : Bool := capB d ts i || wantB (ug d.us i).dem (upB d ts) d.kk
/-- the rates when the first k users have been looked at -/
def midRt (d : FD) (s : St) (k : Nat) : Nat → Rat := fun i => if i < k ∧ stB d s.ts i = true then ((0 : Int) : Rat) else s.rt i
def midS (d : FD) (s : St) (k : Nat) : St := ⟨s.lev, midRt d s k, s.ts, s.lv⟩
theorem cell_putA {w : World} {b g i o : Nat} {u0 u1 u2 : Value} (h : g ≠ b) : (wputA w b o u0 u1 u2).cell? ⟨g, i, none⟩ = w.cell? ⟨g, i, none⟩ := by
  unfold wputA
  have e : ∀ (w : World) (j : Nat) (u : Value), (w.setCell ⟨b, j, none⟩ u).cell? ⟨g, i, none⟩ = w.cell? ⟨g, i, none⟩ := fun w j u => World.cell?_of_block (Below.heap_setCell w _ u g h)
  rw [e, e, e]

set_option maxHeartbeats 2000000 in
set_option maxRecDepth 20000 in
theorem stop_any (w0 : World) (d : FD) (s : St) (L : Nat) (w : World) (h : FS w0 d w s) (ho : d.Ok w0) (hs : ∀ i, i < d.n → Sm (s.ts i) L) (hL : 5 + d.n * (L + 3) ≤ 10000) :
    Calls Tryz.prog 54 #[.pointer (some ⟨d.sb, 0, none⟩)] w fun e w' => e = .returned (.tuple #[]) ∧ FS w0 d w' (midS d s d.n) := by
  have hn6 := ho.n6
  have hk4 := ho.k4
  have hul := ho.len
  have hap := ho.ap
  have H := hid h
  have HO := hid ho
  have HS := hid hs
  clear h ho hs
  go_enter Tryz.func54, Tryz.ntmps54
  go_wp2_with fail
  refine (usedUp_any w0 d s L _ H.out HO.out HS.out hL).mono ?_
  rintro e1 w1 ⟨rfl, hbb, hb1⟩
  have HFS1 := hid (H.out.below hb1)
  have HBB := hid hbb
  have hlts := H.out.lts
  have hw1 := hb1.size
  clear hbb hb1
  obtain ⟨la, lb, lc, ld, le, lf, hbx, hlr1, hlr2⟩ := HFS1.out.box
  have ltsb := hbx.lt
  have g0 : w1.cell? ⟨d.sb, 0, none⟩ = some (.slice d.ao d.n d.cap) := hbx.cell 0 _ rfl
  have HLR1 := hid hlr1
  have HLR2 := hid hlr2
  clear hlr1 hlr2
  clear hbx HLR1 HLR2
  go_wp2
  go_loopg [13] d.n (fun g i wr => ∃ k : Nat, g = d.n - k ∧ k ≤ d.n ∧ i = .int .i64 k ∧ Hid (FS w0 d wr (midS d s k)) ∧ Hid (BB wr w.heap.size d.kk d.kk (upB d s.ts)))
  case atStart => exact ⟨0, rfl, Nat.zero_le _, rfl, HFS1.out.congr rfl (fun i hi => by unfold midS midRt; simp) (fun i hi => rfl) (fun i hi => rfl), HBB.out⟩
  case round =>
    clear g0
    obtain ⟨k, hgk, hk, rfl, hF, hBB⟩ := hrel
    have hBel := hid hF.out.bel
    by_cases hlt : k < d.n
    · have hLL : L + 8 ≤ 10000 := by have := Nat.mul_le_mul_right (L + 3) (show 1 ≤ d.n by omega); omega
      obtain ⟨b, o, da, dn, dc, hao, hbl, c0, c1, c2, hd⟩ := (HO.out.users.below hBel.out).get hlt
      have hdl := hd.len
      rw [ints_len, HO.out.good.len (i := k) (by omega)] at hdl
      have HDK := hid hdl.symm
      clear hdl
      have HAO := hid hao
      clear hao
      have HD := hid hd
      clear hd
      have XU_21 := hid (bx_new wr #[.slice da dn dc, .int .i64 (ug d.us k).wt, .int .i64 (ug d.us k).cap] 56)
      have Rfs_21 := hid (hF.out.alloc (.cells #[.slice da dn dc, .int .i64 (ug d.us k).wt, .int .i64 (ug d.us k).cap] 56))
      have Rbb_21 := hid (hBB.out.alloc (.cells #[.slice da dn dc, .int .i64 (ug d.us k).wt, .int .i64 (ug d.us k).cap] 56))
      have Rd_21 := hid (HD.out.alloc (.cells #[.slice da dn dc, .int .i64 (ug d.us k).wt, .int .i64 (ug d.us k).cap] 56))
      have HB_21 : Hid (Below w0.heap.size w0 (wr.alloc (.cells #[.slice da dn dc, .int .i64 (ug d.us k).wt, .int .i64 (ug d.us k).cap] 56))) := hBel.out.alloc hBel.out.size (.cells #[.slice da dn dc, .int .i64 (ug d.us k).wt, .int .i64 (ug d.us k).cap] 56)
      have leU : w0.heap.size ≤ wr.heap.size := hBel.out.size
      clear hF hBB HD hBel
      rw [HAO.out]
      go_wp2_with fail
      refine (isAtCap_any w0 d (midS d s k) L k _ Rfs_21.out HO.out HS.out (by omega) hlt).mono ?_
      rintro e21 w21 ⟨rfl, hb21⟩
      have XU_22 := hid (XU_21.out.keep hb21)
      have Rfs_22 := hid (Rfs_21.out.below hb21)
      have Rbb_22 := hid (Rbb_21.out.below hb21)
      have Rd_22 := hid (Rd_21.out.below hb21)
      have HB_22 : Hid (Below w0.heap.size w0 w21) := HB_21.out.trans (hb21.mono HB_21.out.size)
      clear XU_21 Rfs_21 Rbb_21 Rd_21 HB_21
      clear hb21
      clear c0 c1 c2
      cases hcb : capB d (midS d s k).ts k with
      | true =>
        have HCB := hid hcb
        clear hcb
        have E : stB d s.ts k = true := by unfold stB; rw [show capB d s.ts k = true from HCB.out]; rfl
        have HE := hid E; clear E
        go_wp2_with fail
        obtain ⟨V, hV⟩ : ∃ V, V = w21 := ⟨_, rfl⟩
        rw [← hV] at XU_22 Rfs_22 Rbb_22 Rd_22 HB_22 ⊢
        clear hV
        have HFSV := Rfs_22
        obtain ⟨la, lb, lc, ld, le, lf, hbx, hlr1, hlr2⟩ := HFSV.out.box
        have ltsb2 := hbx.lt
        have f5 : V.cell? ⟨d.sb, 5, none⟩ = some (.slice (some ⟨d.gr, 0, none⟩) d.n d.n) := hbx.cell 5 _ rfl
        clear hbx hlr1 hlr2
        have hkn : (k : Int) < (d.n : Int) := by omega
        have SK : Hid (∀ U, Below V.heap.size V U → U.cell? ⟨d.sb, 5, none⟩ = some (.slice (some ⟨d.gr, 0, none⟩) d.n d.n)) := fun U h => (h.cell (p := ⟨d.sb, 5, none⟩) ltsb2).trans f5
        have KC : Hid (∀ U, Below V.heap.size V U → Calls Tryz.prog 46 #[.int .i64 0] U (fun e w' => ∃ v, e = .returned v ∧ Frac w' v (((0 : Int) : Rat)) ∧ Below V.heap.size V w')) := fun U hU => (whole_any 0 (by omega) (by omega) U (HO.out.tab.of (HFSV.out.below hU).bel)).mono (fun e w' ⟨v, h1, h2, h3⟩ => ⟨v, h1, h2, hU.trans (h3.mono hU.size)⟩)
        have df5 : V.drew.cell? ⟨d.sb, 5, none⟩ = some (.slice (some ⟨d.gr, 0, none⟩) d.n d.n) := ((Below.refl V.heap.size V).drew.cell (p := ⟨d.sb, 5, none⟩) ltsb2).trans f5
        go_region_held3 (fun w' => w'.cell? ⟨d.sb, 5, none⟩ = some (.slice (some ⟨d.gr, 0, none⟩) d.n d.n)) (first | exact SK.out _ (Below.refl _ _).drew | exact SK.out _ hb7 | exact SK.out _ hb7 | exact (cell_putA hap.a2).trans (SK.out _ hb7))
          (first | (go_at_call 46; refine (KC.out _ ?hU).mono ?_; (case hU => exact (Below.refl _ _).drew); rintro e7 w7 ⟨v7, rfl, ⟨za, zb, zc, zd, ze, zf, rfl, hz1, hz2⟩, hb7⟩; obtain ⟨x0, hx0⟩ := (HFSV.out.rt.below hb7).has (j := k * 3) (by omega); have z0 := (HFSV.out.rt.below hb7).frozen (k * 3); obtain ⟨x1, hx1⟩ := (HFSV.out.rt.below hb7).has (j := k * 3 + 1) (by omega); have z1 := (HFSV.out.rt.below hb7).frozen (k * 3 + 1); obtain ⟨x2, hx2⟩ := (HFSV.out.rt.below hb7).has (j := k * 3 + 2) (by omega); have z2 := (HFSV.out.rt.below hb7).frozen (k * 3 + 2); have ltt := (HFSV.out.rt.below hb7).lt))
        have XU_25 := hid (XU_22.out.keep hb7)
        have Rfs_25 := hid (Rfs_22.out.below hb7)
        have Rbb_25 := hid (Rbb_22.out.below hb7)
        have Rd_25 := hid (Rd_22.out.below hb7)
        have HB_25 : Hid (Below w0.heap.size w0 w7) := HB_22.out.trans (hb7.mono HB_22.out.size)
        clear XU_22 Rfs_22 Rbb_22 Rd_22 HB_22
        clear SK KC
        have Rz1_25 := hid hz1
        have Rz2_25 := hid hz2
        have SMz := hid (show Sm (((0 : Int) : Rat)) 5 from Sm.zero5)
        have lz1 := hz1.sm1 SMz.out
        have lz2 := hz2.sm2 SMz.out
        clear hz1 hz2 hb7
        go_wp2
        rw [← HAO.out]
        go_roundg (d.n - (k + 1))
        case measure => omega
        case rel =>
          have h5 := Rfs_25.out.putRt hap hlt ((0 : Int) : Rat) Rz1_25.out Rz2_25.out
          refine ⟨k + 1, rfl, by omega, by go_num, h5.congr rfl (fun j hj => ?_) (fun j hj => rfl) (fun j hj => rfl), Rbb_25.out.putA_other _ _ _ (by omega)⟩
          show upd (midRt d s k) k _ j = midRt d s (k + 1) j
          unfold midRt
          by_cases e : j = k
          · subst e; rw [upd_same, if_pos ⟨by omega, HE.out⟩]
          · rw [upd_other _ _ e]
            by_cases e2 : j < k ∧ stB d s.ts j = true
            · rw [if_pos e2, if_pos ⟨by omega, e2.2⟩]
            · rw [if_neg e2, if_neg (fun h => e2 ⟨by omega, h.2⟩)]
      | false =>
        have HCB := hid hcb
        clear hcb
        have ltU := XU_22.out.lt
        have cU0 := XU_22.out.cell 0 _ rfl
        have cU1 := XU_22.out.cell 1 _ rfl
        have cU2 := XU_22.out.cell 2 _ rfl
        go_wp2_with fail
        clear ltU cU0 cU1 cU2
        refine (wantsOneOf_any da dn dc (ug d.us k) w.heap.size d.kk (upB d s.ts) _ Rd_22.out Rbb_22.out (Nat.le_of_eq HDK.out) hk4).mono ?_
        rintro e22 w22 ⟨rfl, hb22⟩
        have XU_23 := hid (XU_22.out.keep hb22)
        have Rfs_23 := hid (Rfs_22.out.below hb22)
        have Rbb_23 := hid (Rbb_22.out.below hb22)
        have Rd_23 := hid (Rd_22.out.below hb22)
        have HB_23 : Hid (Below w0.heap.size w0 w22) := HB_22.out.trans (hb22.mono HB_22.out.size)
        clear XU_22 Rfs_22 Rbb_22 Rd_22 HB_22
        clear hb22
        rw [HDK.out]
        cases hwb : wantB (ug d.us k).dem (upB d s.ts) d.kk with
        | true =>
          have HWB := hid hwb
          clear hwb
          have E : stB d s.ts k = true := by unfold stB; rw [HWB.out]; simp
          have HE := hid E; clear E
          go_wp2_with fail
          obtain ⟨V, hV⟩ : ∃ V, V = w22 := ⟨_, rfl⟩
          rw [← hV] at XU_23 Rfs_23 Rbb_23 Rd_23 HB_23 ⊢
          clear hV
          have HFSV := Rfs_23
          obtain ⟨la, lb, lc, ld, le, lf, hbx, hlr1, hlr2⟩ := HFSV.out.box
          have ltsb2 := hbx.lt
          have f5 : V.cell? ⟨d.sb, 5, none⟩ = some (.slice (some ⟨d.gr, 0, none⟩) d.n d.n) := hbx.cell 5 _ rfl
          clear hbx hlr1 hlr2
          have hkn : (k : Int) < (d.n : Int) := by omega
          have SK : Hid (∀ U, Below V.heap.size V U → U.cell? ⟨d.sb, 5, none⟩ = some (.slice (some ⟨d.gr, 0, none⟩) d.n d.n)) := fun U h => (h.cell (p := ⟨d.sb, 5, none⟩) ltsb2).trans f5
          have KC : Hid (∀ U, Below V.heap.size V U → Calls Tryz.prog 46 #[.int .i64 0] U (fun e w' => ∃ v, e = .returned v ∧ Frac w' v (((0 : Int) : Rat)) ∧ Below V.heap.size V w')) := fun U hU => (whole_any 0 (by omega) (by omega) U (HO.out.tab.of (HFSV.out.below hU).bel)).mono (fun e w' ⟨v, h1, h2, h3⟩ => ⟨v, h1, h2, hU.trans (h3.mono hU.size)⟩)
          have df5 : V.drew.cell? ⟨d.sb, 5, none⟩ = some (.slice (some ⟨d.gr, 0, none⟩) d.n d.n) := ((Below.refl V.heap.size V).drew.cell (p := ⟨d.sb, 5, none⟩) ltsb2).trans f5
          go_region_held3 (fun w' => w'.cell? ⟨d.sb, 5, none⟩ = some (.slice (some ⟨d.gr, 0, none⟩) d.n d.n)) (first | exact SK.out _ (Below.refl _ _).drew | exact SK.out _ hb7 | exact SK.out _ hb7 | exact (cell_putA hap.a2).trans (SK.out _ hb7))
            (first | (go_at_call 46; refine (KC.out _ ?hU).mono ?_; (case hU => exact (Below.refl _ _).drew); rintro e7 w7 ⟨v7, rfl, ⟨za, zb, zc, zd, ze, zf, rfl, hz1, hz2⟩, hb7⟩; obtain ⟨x0, hx0⟩ := (HFSV.out.rt.below hb7).has (j := k * 3) (by omega); have z0 := (HFSV.out.rt.below hb7).frozen (k * 3); obtain ⟨x1, hx1⟩ := (HFSV.out.rt.below hb7).has (j := k * 3 + 1) (by omega); have z1 := (HFSV.out.rt.below hb7).frozen (k * 3 + 1); obtain ⟨x2, hx2⟩ := (HFSV.out.rt.below hb7).has (j := k * 3 + 2) (by omega); have z2 := (HFSV.out.rt.below hb7).frozen (k * 3 + 2); have ltt := (HFSV.out.rt.below hb7).lt))
          have XU_26 := hid (XU_23.out.keep hb7)
          have Rfs_26 := hid (Rfs_23.out.below hb7)
          have Rbb_26 := hid (Rbb_23.out.below hb7)
          have Rd_26 := hid (Rd_23.out.below hb7)
          have HB_26 : Hid (Below w0.heap.size w0 w7) := HB_23.out.trans (hb7.mono HB_23.out.size)
          clear XU_23 Rfs_23 Rbb_23 Rd_23 HB_23
          clear SK KC
          have Rz1_26 := hid hz1
          have Rz2_26 := hid hz2
          have SMz := hid (show Sm (((0 : Int) : Rat)) 5 from Sm.zero5)
          have lz1 := hz1.sm1 SMz.out
          have lz2 := hz2.sm2 SMz.out
          clear hz1 hz2 hb7
          go_wp2
          rw [← HAO.out]
          go_roundg (d.n - (k + 1))
          case measure => omega
          case rel =>
            have h5 := Rfs_26.out.putRt hap hlt ((0 : Int) : Rat) Rz1_26.out Rz2_26.out
            refine ⟨k + 1, rfl, by omega, by go_num, h5.congr rfl (fun j hj => ?_) (fun j hj => rfl) (fun j hj => rfl), Rbb_26.out.putA_other _ _ _ (by omega)⟩
            show upd (midRt d s k) k _ j = midRt d s (k + 1) j
            unfold midRt
            by_cases e : j = k
            · subst e; rw [upd_same, if_pos ⟨by omega, HE.out⟩]
            · rw [upd_other _ _ e]
              by_cases e2 : j < k ∧ stB d s.ts j = true
              · rw [if_pos e2, if_pos ⟨by omega, e2.2⟩]
              · rw [if_neg e2, if_neg (fun h => e2 ⟨by omega, h.2⟩)]
        | false =>
          have HWB := hid hwb
          clear hwb
          have E : stB d s.ts k = false := by unfold stB; rw [show capB d s.ts k = false from HCB.out, HWB.out]; rfl
          have HE := hid E; clear E
          go_wp2
          rw [← HAO.out]
          go_roundg (d.n - (k + 1))
          case measure => omega
          case rel =>
            refine ⟨k + 1, rfl, by omega, by go_num, Rfs_23.out.congr rfl (fun j hj => ?_) (fun j hj => rfl) (fun j hj => rfl), Rbb_23.out⟩
            show midRt d s k j = midRt d s (k + 1) j
            unfold midRt
            by_cases e : j = k
            · subst e; rw [if_neg (fun h => by omega), if_neg (fun h => by rw [HE.out] at h; cases h.2)]
            · by_cases e2 : j < k ∧ stB d s.ts j = true
              · rw [if_pos e2, if_pos ⟨by omega, e2.2⟩]
              · rw [if_neg e2, if_neg (fun h => e2 ⟨by omega, h.2⟩)]
    · obtain rfl : k = d.n := by omega
      go_wp2
      go_end0
      exact ⟨rfl, hF.out⟩

end Go.Proofs.YtigokanoflkinaaGreatDoor
