/- fill isAtCap, wantsOneOf, isHighest, stopOf. (Laid by mksolve.py.) -/
import Derived.Test.YtigokanoflkinaaGreatDoorWUsed
namespace Go.Proofs.YtigokanoflkinaaGreatDoor
set_option linter.unusedSimpArgs false
set_option linter.unusedVariables false
open Go.RowKit Por

/-- has user i its cap? -/
def capB (d : FD) (ts : Nat → Rat) (i : Nat) : Bool := decide (ts i = ((ug d.us i).cap : Rat))

set_option maxHeartbeats 2000000 in
set_option maxRecDepth 20000 in
theorem isAtCap_any (w0 : World) (d : FD) (s : St) (L i : Nat) (w : World) (h : FS w0 d w s) (ho : d.Ok w0) (hs : ∀ i, i < d.n → Sm (s.ts i) L) (hL : L ≤ 10000) (hi : i < d.n) :
    Calls Tryz.prog 107 #[.pointer (some ⟨d.sb, 0, none⟩), .int .i64 i] w fun e w' => e = .returned (.bool (capB d s.ts i)) ∧ Below w.heap.size w w' := by
  unfold capB
  have hn6 := ho.n6
  have hk4 := ho.k4
  have hul := ho.len
  have hcp := ho.good.cap (i := i) (by omega)
  have hib : (i : Int) < (d.n : Int) := by omega
  have H := hid h
  have HO := hid ho
  have HS := hid hs
  clear h ho hs
  obtain ⟨la, lb, lc, ld, le, lf, hbx, hlr1, hlr2⟩ := H.out.box
  have ltsb := hbx.lt
  have g0 : w.cell? ⟨d.sb, 0, none⟩ = some (.slice d.ao d.n d.cap) := hbx.cell 0 _ rfl
  have HLR1 := hid hlr1
  have HLR2 := hid hlr2
  clear hlr1 hlr2
  clear hbx
  obtain ⟨b, o, da, dn, dc, hao, hbl, u0, u1, u2, hd⟩ := (HO.out.users.below H.out.bel).get hi
  clear hd
  rw [hao] at g0
  have HB_0 := hid (Below.refl w.heap.size w)
  go_enter Tryz.func107, Tryz.ntmps107
  go_wp2_with fail
  refine (whole_any (ug d.us i).cap (by omega) (by omega) _ (HO.out.tab.of H.out.bel)).mono ?_
  rintro e0 w0 ⟨v0, rfl, ⟨ma, mb, mc, md, me, mf, rfl, hm1, hm2⟩, hb0⟩
  have HB_1 : Hid (Below w.heap.size w w0) := HB_0.out.trans (hb0.mono HB_0.out.size)
  clear HB_0
  clear hb0
  have Rm1_1 := hid hm1
  have Rm2_1 := hid hm2
  have SMm := hid (show Sm (((ug d.us i).cap : Rat)) 5 from Sm.int (by omega) (by omega))
  have lm1 := hm1.sm1 SMm.out
  have lm2 := hm2.sm2 SMm.out
  clear hm1 hm2
  clear g0 u0 u1 u2
  have XM_2 := hid (bx_new w0 #[.bool (negB ((ug d.us i).cap : Rat)), .slice ma mb mc, .slice md me mf] 90)
  have Rm1_2 := hid (Rm1_1.out.alloc (.cells #[.bool (negB ((ug d.us i).cap : Rat)), .slice ma mb mc, .slice md me mf] 90))
  have Rm2_2 := hid (Rm2_1.out.alloc (.cells #[.bool (negB ((ug d.us i).cap : Rat)), .slice ma mb mc, .slice md me mf] 90))
  have HB_2 : Hid (Below w.heap.size w (w0.alloc (.cells #[.bool (negB ((ug d.us i).cap : Rat)), .slice ma mb mc, .slice md me mf] 90))) := HB_1.out.alloc HB_1.out.size (.cells #[.bool (negB ((ug d.us i).cap : Rat)), .slice ma mb mc, .slice md me mf] 90)
  have leM : w.heap.size ≤ w0.heap.size := HB_1.out.size
  clear Rm1_1 Rm2_1 HB_1
  go_wp2_with fail
  obtain ⟨V, hV⟩ : ∃ V, V = (w0.alloc (.cells #[.bool (negB ((ug d.us i).cap : Rat)), .slice ma mb mc, .slice md me mf] 90)) := ⟨_, rfl⟩
  rw [← hV] at XM_2 Rm1_2 Rm2_2 HB_2 ⊢
  clear hV
  have HFS := hid (H.out.below HB_2.out)
  obtain ⟨la2, lb2, lc2, ld2, le2, lf2, hbx, hlr1, hlr2⟩ := HFS.out.box
  have ltsb2 := hbx.lt
  have f6 := hbx.cell 6 _ rfl
  clear hbx hlr1 hlr2
  obtain ⟨ua, ub, uc, ud, ue, uf, c0, c1, c2, hu1, hu2⟩ := HFS.out.ts.cells hi
  have ltgt := HFS.out.ts.lt
  have lu1 := hu1.sm1 (HS.out i hi)
  have lu2 := hu2.sm2 (HS.out i hi)
  have m0 := XM_2.out.cell 0 _ rfl
  have m1 := XM_2.out.cell 1 _ rfl
  have m2 := XM_2.out.cell 2 _ rfl
  have ltM := XM_2.out.lt
  have Ru1_3 := hid hu1
  have Ru2_3 := hid hu2
  clear hu1 hu2
  obtain ⟨c, hcq⟩ : ∃ c, cmpQ (s.ts i) ((ug d.us i).cap : Rat) = c := ⟨_, rfl⟩
  have HCQ := hid hcq
  clear hcq
  have SK : Hid (∀ U, Below V.heap.size V U → U.cell? ⟨d.sb, 6, none⟩ = some (.slice (some ⟨d.gt, 0, none⟩) d.n d.n) ∧ U.cell? ⟨d.gt, i * 3, none⟩ = some (.bool (negB (s.ts i))) ∧ U.cell? ⟨d.gt, i * 3 + 1, none⟩ = some (.slice ua ub uc) ∧ U.cell? ⟨d.gt, i * 3 + 2, none⟩ = some (.slice ud ue uf) ∧ U.cell? ⟨w0.heap.size, 0, none⟩ = some (.bool (negB ((ug d.us i).cap : Rat))) ∧ U.cell? ⟨w0.heap.size, 1, none⟩ = some (.slice ma mb mc) ∧ U.cell? ⟨w0.heap.size, 2, none⟩ = some (.slice md me mf)) := fun U h => ⟨(h.cell (p := ⟨d.sb, 6, none⟩) ltsb2).trans f6, (h.cell (p := ⟨d.gt, i * 3, none⟩) ltgt).trans c0, (h.cell (p := ⟨d.gt, i * 3 + 1, none⟩) ltgt).trans c1, (h.cell (p := ⟨d.gt, i * 3 + 2, none⟩) ltgt).trans c2, (h.cell (p := ⟨w0.heap.size, 0, none⟩) ltM).trans m0, (h.cell (p := ⟨w0.heap.size, 1, none⟩) ltM).trans m1, (h.cell (p := ⟨w0.heap.size, 2, none⟩) ltM).trans m2⟩
  have KC : Hid (∀ U, Below V.heap.size V U → Calls Tryz.prog 101 #[.agg #[.bool (negB (s.ts i)), .slice ua ub uc, .slice ud ue uf], .agg #[.bool (negB ((ug d.us i).cap : Rat)), .slice ma mb mc, .slice md me mf]] U (fun e w' => e = .returned (.int .i64 c) ∧ Below V.heap.size V w')) := fun U hU => (rcmp_any ua ud ma md ub uc ue uf mb mc me mf (s.ts i) ((ug d.us i).cap : Rat) U (Ru1_3.out.below hU) (Ru2_3.out.below hU) (Rm1_2.out.below hU) (Rm2_2.out.below hU) (by omega) (by omega) (by omega) (by omega)).mono (fun e w' ⟨h1, h3⟩ => ⟨h1.trans (by rw [HCQ.out]), hU.trans (h3.mono hU.size)⟩)
  have df6 : V.drew.cell? ⟨d.sb, 6, none⟩ = some (.slice (some ⟨d.gt, 0, none⟩) d.n d.n) := ((Below.refl V.heap.size V).drew.cell (p := ⟨d.sb, 6, none⟩) ltsb2).trans f6
  have dc0 : V.drew.cell? ⟨d.gt, i * 3, none⟩ = some (.bool (negB (s.ts i))) := ((Below.refl V.heap.size V).drew.cell (p := ⟨d.gt, i * 3, none⟩) ltgt).trans c0
  have dc1 : V.drew.cell? ⟨d.gt, i * 3 + 1, none⟩ = some (.slice ua ub uc) := ((Below.refl V.heap.size V).drew.cell (p := ⟨d.gt, i * 3 + 1, none⟩) ltgt).trans c1
  have dc2 : V.drew.cell? ⟨d.gt, i * 3 + 2, none⟩ = some (.slice ud ue uf) := ((Below.refl V.heap.size V).drew.cell (p := ⟨d.gt, i * 3 + 2, none⟩) ltgt).trans c2
  have dm0 : V.drew.cell? ⟨w0.heap.size, 0, none⟩ = some (.bool (negB ((ug d.us i).cap : Rat))) := ((Below.refl V.heap.size V).drew.cell (p := ⟨w0.heap.size, 0, none⟩) ltM).trans m0
  have dm1 : V.drew.cell? ⟨w0.heap.size, 1, none⟩ = some (.slice ma mb mc) := ((Below.refl V.heap.size V).drew.cell (p := ⟨w0.heap.size, 1, none⟩) ltM).trans m1
  have dm2 : V.drew.cell? ⟨w0.heap.size, 2, none⟩ = some (.slice md me mf) := ((Below.refl V.heap.size V).drew.cell (p := ⟨w0.heap.size, 2, none⟩) ltM).trans m2
  go_region_held3 (fun w' => w'.cell? ⟨d.sb, 6, none⟩ = some (.slice (some ⟨d.gt, 0, none⟩) d.n d.n) ∧ w'.cell? ⟨d.gt, i * 3, none⟩ = some (.bool (negB (s.ts i))) ∧ w'.cell? ⟨d.gt, i * 3 + 1, none⟩ = some (.slice ua ub uc) ∧ w'.cell? ⟨d.gt, i * 3 + 2, none⟩ = some (.slice ud ue uf) ∧ w'.cell? ⟨w0.heap.size, 0, none⟩ = some (.bool (negB ((ug d.us i).cap : Rat))) ∧ w'.cell? ⟨w0.heap.size, 1, none⟩ = some (.slice ma mb mc) ∧ w'.cell? ⟨w0.heap.size, 2, none⟩ = some (.slice md me mf)) (first | exact SK.out _ (Below.refl _ _).drew | exact SK.out _ hb7)
    (first | (go_at_call 101; refine (KC.out _ ?hU).mono ?_; (case hU => exact (Below.refl _ _).drew); rintro e7 w7 ⟨rfl, hb7⟩))
  have XM_5 := hid (XM_2.out.keep hb7)
  have Rm1_5 := hid (Rm1_2.out.below hb7)
  have Rm2_5 := hid (Rm2_2.out.below hb7)
  have Ru1_5 := hid (Ru1_3.out.below hb7)
  have Ru2_5 := hid (Ru2_3.out.below hb7)
  have HB_5 : Hid (Below w.heap.size w w7) := HB_2.out.trans (hb7.mono HB_2.out.size)
  clear XM_2 Rm1_2 Rm2_2 Ru1_3 Ru2_3 HB_2
  clear hb7 SK KC
  have E : (c == 0) = decide (s.ts i = ((ug d.us i).cap : Rat)) := by
    have h9 := HCQ.out
    rw [← h9]
    by_cases hq : s.ts i = ((ug d.us i).cap : Rat)
    · rw [decide_eq_true hq, beq_iff_eq]; exact cmp_eq.2 hq
    · rw [decide_eq_false hq, beq_eq_false_iff_ne]; exact fun h => hq (cmp_eq.1 h)
  have HE := hid E; clear E
  go_wp2
  go_ret
  exact ⟨by rw [← HE.out]; rfl, HB_5.out⟩

set_option maxHeartbeats 2000000 in
set_option maxRecDepth 20000 in
theorem wantsOneOf_any (da : Option Addr) (dn dc : Nat) (u : Usr) (g kk : Nat) (f : Nat → Bool) (w : World) (hd : Arr w 1 da dn dc (ints u.dem)) (hb : BB w g kk kk f) (hk : dn ≤ kk) (hk4 : kk ≤ 4) :
    Calls Tryz.prog 108 #[.agg #[.slice da dn dc, .int .i64 u.wt, .int .i64 u.cap], .slice (some ⟨g, 0, none⟩) kk kk] w fun e w' => e = .returned (.bool (wantB u.dem f dn)) ∧ Below w.heap.size w w' := by
  have hdl := hd.len
  rw [ints_len] at hdl
  have hdm := Nat.le_trans hd.le hd.cm
  unfold maxLen at hdm
  have HD := hid hd
  have HB := hid hb
  clear hd hb
  have HB_0 := hid (Below.refl w.heap.size w)
  have XU_1 := hid (bx_new w #[.slice da dn dc, .int .i64 u.wt, .int .i64 u.cap] 56)
  have HB_1 : Hid (Below w.heap.size w (w.alloc (.cells #[.slice da dn dc, .int .i64 u.wt, .int .i64 u.cap] 56))) := HB_0.out.alloc HB_0.out.size (.cells #[.slice da dn dc, .int .i64 u.wt, .int .i64 u.cap] 56)
  have leU : w.heap.size ≤ w.heap.size := HB_0.out.size
  clear HB_0
  go_enter Tryz.func108, Tryz.ntmps108
  go_wp2
  go_loop [10] (fun i => ∃ k : Nat, k ≤ dn ∧ i = .int .i64 k ∧ Hid (wantB u.dem f k = false)) (fun i => dn - (intOf i).toNat)
  case atStart => exact ⟨0, Nat.zero_le _, rfl, rfl⟩
  case round =>
    obtain ⟨k, hk, rfl, hz⟩ := hrel
    by_cases hlt : k < dn
    · obtain ⟨b, o, rfl, hbl⟩ := HD.out.head (by omega)
      have c0 := HD.out.int rfl hlt
      have q0 := HB.out.cell (i := k) (by omega)
      have ltg := HB.out.lt
      have hkk : (k : Int) < (kk : Int) := by omega
      generalize hx : lm u.dem k = x at c0
      have HX := hid hx
      clear hx
      generalize hy : f k = y at q0
      have HY := hid hy
      clear hy
      by_cases h0 : 0 < x
      · cases y with
        | true =>
          have HE := hid (wantB_true (dem := u.dem) (f := f) hlt (by rw [HX.out]; exact h0) HY.out)
          go_wp2
          go_ret
          exact ⟨by rw [HE.out]; rfl, HB_1.out⟩
        | false =>
          have E : wantB u.dem f (k + 1) = false := by simp only [wantB]; rw [hz.out, HY.out]; simp
          have HE := hid E; clear E
          go_wp2
          exact ⟨⟨k + 1, by omega, by go_num, HE.out⟩, by simp [intOf]; omega⟩
      · have E : wantB u.dem f (k + 1) = false := by simp only [wantB]; rw [hz.out, HX.out, decide_eq_false h0]; rfl
        have HE := hid E; clear E
        go_wp2
        exact ⟨⟨k + 1, by omega, by go_num, HE.out⟩, by simp [intOf]; omega⟩
    · obtain rfl : k = dn := by omega
      go_wp2
      go_ret
      exact ⟨by rw [hz.out]; rfl, HB_1.out⟩

end Go.Proofs.YtigokanoflkinaaGreatDoor
