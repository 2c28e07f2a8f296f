/- fill steps. (Laid by mksolve.py.) -/
import Derived.Test.YtigokanoflkinaaGreatDoorWStp
namespace Go.Proofs.YtigokanoflkinaaGreatDoor
set_option linter.unusedSimpArgs false
set_option linter.unusedVariables false
open Go.RowKit Por

/-- by how much the level must rise for each cap, then for each kind -/
def suL (d : FD) (s : St) : Nat → List Rat
  | 0 => []
  | i + 1 => if s.rt i = 0 then suL d s i else suL d s i ++ [(((ug d.us i).cap : Int) - s.ts i) / s.rt i]
def skL (d : FD) (s : St) (l : List Rat) : Nat → List Rat
  | 0 => l
  | r + 1 => if totF d.us s.rt r d.n = 0 then skL d s l r else skL d s l r ++ [(d.room r - totF d.us s.ts r d.n) / totF d.us s.rt r d.n]
theorem suL_len (d : FD) (s : St) (k : Nat) : (suL d s k).length ≤ k := by
  induction k with
  | zero => exact Nat.le_refl _
  | succ k ih =>
    simp only [suL]; split
    · omega
    · rw [List.length_append, List.length_singleton]; omega
theorem skL_len (d : FD) (s : St) (l : List Rat) (k : Nat) : (skL d s l k).length ≤ l.length + k := by
  induction k with
  | zero => exact Nat.le_refl _
  | succ k ih =>
    simp only [skL]; split
    · omega
    · rw [List.length_append, List.length_singleton]; omega
def stepsF (d : FD) (s : St) : List Rat := skL d s (suL d s d.n) d.kk
theorem isZ_of {q : Rat} (h : q = 0) : isZ q.num.natAbs = true := by rw [h]; rfl

set_option maxHeartbeats 4000000 in
set_option maxRecDepth 20000 in
theorem steps_any (w0 : World) (d : FD) (s : St) (w : World) (h : FS w0 d w s) (ho : d.Ok w0) (hs : Small d s 60) :
    Calls Tryz.prog 49 #[.pointer (some ⟨d.sb, 0, none⟩)] w fun e w' => ∃ v, e = .returned v ∧ FO w.heap.size w' v (stepsF d s) ∧ Below w.heap.size w w' := by
  have hn6 := ho.n6
  have hk4 := ho.k4
  have hul := ho.len
  have H := hid h
  have HO := hid ho
  have HS := hid hs
  clear h ho hs
  obtain ⟨la, lb, lc, ld, le, lf, hbx, hlr1, hlr2⟩ := H.out.box
  have ltsb := hbx.lt
  have g0 : w.cell? ⟨d.sb, 0, none⟩ = some (.slice d.ao d.n d.cap) := hbx.cell 0 _ rfl
  have HLR1 := hid hlr1
  have HLR2 := hid hlr2
  clear hlr1 hlr2
  clear hbx HLR1 HLR2
  have HB_0 := hid (Below.refl w.heap.size w)
  go_enter Tryz.func49, Tryz.ntmps49
  go_wp2
  go_loopg [3, 22] d.n (fun g s3 i wr => ∃ (k : Nat) (v3 : Value), v3 = s3 ∧ g = d.n - k ∧ k ≤ d.n ∧ i = .int .i64 k ∧ Hid (FO w.heap.size wr v3 (suL d s k)) ∧ Hid (Below w.heap.size w wr))
  case atStart => exact ⟨0, _, rfl, rfl, Nat.zero_le _, rfl, FO.nil _ _, HB_0.out⟩
  case round =>
    clear g0
    obtain ⟨k, v3, rfl, hgk, hk, rfl, hO, hB⟩ := hrel
    clear HB_0
    have hol := suL_len d s k
    have hB0 := hB.out.size
    have HFW := hid (H.out.below hB.out)
    by_cases hlt : k < d.n
    · have hcp := HO.out.good.cap (i := k) (by omega)
      have hib : (k : Int) < (d.n : Int) := by omega
      have SC := hid (Sm.int (n := (ug d.us k).cap) (by omega) (by omega))
      obtain ⟨b, o, da, dn, dc, hao, hbl, c0, c1, c2, hd⟩ := (HO.out.users.below HFW.out.bel).get hlt
      have HAO := hid hao
      clear hao hd
      have XU_21 := hid (bx_new wr #[.slice da dn dc, .int .i64 (ug d.us k).wt, .int .i64 (ug d.us k).cap] 56)
      have Ro_21 := hid (hO.out.alloc (.cells #[.slice da dn dc, .int .i64 (ug d.us k).wt, .int .i64 (ug d.us k).cap] 56))
      have HB_21 : Hid (Below w.heap.size w (wr.alloc (.cells #[.slice da dn dc, .int .i64 (ug d.us k).wt, .int .i64 (ug d.us k).cap] 56))) := hB.out.alloc hB.out.size (.cells #[.slice da dn dc, .int .i64 (ug d.us k).wt, .int .i64 (ug d.us k).cap] 56)
      have leU : w.heap.size ≤ wr.heap.size := hB.out.size
      clear hO hB
      rw [HAO.out]
      go_wp2_with fail
      refine (whole_any (ug d.us k).cap (by omega) (by omega) _ (HO.out.tab.of (HFW.out.bel.alloc HFW.out.bel.size _))).mono ?_
      rintro e21 w21 ⟨v21, rfl, ⟨ma, mb, mc, md, me, mf, rfl, hm1, hm2⟩, hb21⟩
      have XU_22 := hid (XU_21.out.keep hb21)
      have Ro_22 := hid (Ro_21.out.below hb21)
      have HB_22 : Hid (Below w.heap.size w w21) := HB_21.out.trans (hb21.mono HB_21.out.size)
      clear XU_21 Ro_21 HB_21
      clear hb21
      have Rm1_22 := hid hm1
      have Rm2_22 := hid hm2
      have SMm := hid (show Sm ((((ug d.us k).cap : Int) : Rat)) 5 from SC.out)
      have lm1 := hm1.sm1 SMm.out
      have lm2 := hm2.sm2 SMm.out
      clear hm1 hm2
      clear c0 c1 c2
      have XU_23 := hid (bx_past XU_22.out (.cells #[.bool (negB (((ug d.us k).cap : Int) : Rat)), .slice ma mb mc, .slice md me mf] 90))
      have XM_23 := hid (bx_new w21 #[.bool (negB (((ug d.us k).cap : Int) : Rat)), .slice ma mb mc, .slice md me mf] 90)
      have Ro_23 := hid (Ro_22.out.alloc (.cells #[.bool (negB (((ug d.us k).cap : Int) : Rat)), .slice ma mb mc, .slice md me mf] 90))
      have Rm1_23 := hid (Rm1_22.out.alloc (.cells #[.bool (negB (((ug d.us k).cap : Int) : Rat)), .slice ma mb mc, .slice md me mf] 90))
      have Rm2_23 := hid (Rm2_22.out.alloc (.cells #[.bool (negB (((ug d.us k).cap : Int) : Rat)), .slice ma mb mc, .slice md me mf] 90))
      have HB_23 : Hid (Below w.heap.size w (w21.alloc (.cells #[.bool (negB (((ug d.us k).cap : Int) : Rat)), .slice ma mb mc, .slice md me mf] 90))) := HB_22.out.alloc HB_22.out.size (.cells #[.bool (negB (((ug d.us k).cap : Int) : Rat)), .slice ma mb mc, .slice md me mf] 90)
      have leM : w.heap.size ≤ w21.heap.size := HB_22.out.size
      clear XU_22 Ro_22 Rm1_22 Rm2_22 HB_22
      go_wp2_with fail
      obtain ⟨V, hV⟩ : ∃ V, V = (w21.alloc (.cells #[.bool (negB (((ug d.us k).cap : Int) : Rat)), .slice ma mb mc, .slice md me mf] 90)) := ⟨_, rfl⟩
      rw [← hV] at XU_23 XM_23 Ro_23 Rm1_23 Rm2_23 HB_23 ⊢
      clear hV
      have HFSA := hid (H.out.below HB_23.out)
      obtain ⟨la, lb, lc, ld, le, lf, hbx, hlr1, hlr2⟩ := HFSA.out.box
      have ltsbA := hbx.lt
      have fAx : V.cell? ⟨d.sb, 6, none⟩ = some (.slice (some ⟨d.gt, 0, none⟩) d.n d.n) := hbx.cell 6 _ rfl
      clear hbx hlr1 hlr2
      obtain ⟨ua, ub, uc, ud, ue, uf, u0, u1, u2, hu1, hu2⟩ := HFSA.out.ts.cells hlt
      have ltug := HFSA.out.ts.lt
      have lu1 := hu1.sm1 (HS.out.ts k hlt)
      have lu2 := hu2.sm2 (HS.out.ts k hlt)
      have Hu1 := hid hu1
      have Hu2 := hid hu2
      clear hu1 hu2
      have m0 := XM_23.out.cell 0 _ rfl
      have m1 := XM_23.out.cell 1 _ rfl
      have m2 := XM_23.out.cell 2 _ rfl
      have ltM := XM_23.out.lt
      have SK : Hid (∀ U, Below V.heap.size V U → U.cell? ⟨d.sb, 6, none⟩ = some (.slice (some ⟨d.gt, 0, none⟩) d.n d.n) ∧ U.cell? ⟨d.gt, k * 3, none⟩ = some (.bool (negB (s.ts k))) ∧ U.cell? ⟨d.gt, k * 3 + 1, none⟩ = some (.slice ua ub uc) ∧ U.cell? ⟨d.gt, k * 3 + 2, none⟩ = some (.slice ud ue uf) ∧ U.cell? ⟨w21.heap.size, 0, none⟩ = some (.bool (negB (((ug d.us k).cap : Int) : Rat))) ∧ U.cell? ⟨w21.heap.size, 1, none⟩ = some (.slice ma mb mc) ∧ U.cell? ⟨w21.heap.size, 2, none⟩ = some (.slice md me mf)) := fun U h => ⟨(h.cell (p := ⟨d.sb, 6, none⟩) ltsbA).trans fAx, (h.cell (p := ⟨d.gt, k * 3, none⟩) ltug).trans u0, (h.cell (p := ⟨d.gt, k * 3 + 1, none⟩) ltug).trans u1, (h.cell (p := ⟨d.gt, k * 3 + 2, none⟩) ltug).trans u2, (h.cell (p := ⟨w21.heap.size, 0, none⟩) ltM).trans m0, (h.cell (p := ⟨w21.heap.size, 1, none⟩) ltM).trans m1, (h.cell (p := ⟨w21.heap.size, 2, none⟩) ltM).trans m2⟩
      have KC : Hid (∀ U, Below V.heap.size V U → Calls Tryz.prog 98 #[.agg #[.bool (negB (((ug d.us k).cap : Int) : Rat)), .slice ma mb mc, .slice md me mf], .agg #[.bool (negB (s.ts k)), .slice ua ub uc, .slice ud ue uf]] U (fun e w' => ∃ v, e = .returned v ∧ Frac w' v ((((ug d.us k).cap : Int) : Rat) - s.ts k) ∧ Below V.heap.size V w' ∧ Below U.heap.size U w')) := fun U hU => (rsub_any ma md ua ud mb mc me mf ub uc ue uf (((ug d.us k).cap : Int) : Rat) (s.ts k) U (Rm1_23.out.below hU) (Rm2_23.out.below hU) (Hu1.out.below hU) (Hu2.out.below hU) (by omega) (by omega) (by omega) (by omega)).mono (fun e w' ⟨v, h1, h2, h3⟩ => ⟨v, h1, h2, hU.trans (h3.mono hU.size), h3⟩)
      go_cut [7, 22, 3, 4] (fun pp y0 y1 y2 wx => ∃ (PB : Nat) (pa : Option Addr) (pb pc : Nat) (pd : Option Addr) (pe pf : Nat), pp = .pointer (some ⟨PB, 0, none⟩) ∧ .int .i64 (k : Nat) = y0 ∧ v3 = y1 ∧ .int .i64 (k : Nat) = y2 ∧ Hid (FO w.heap.size wx v3 (suL d s k)) ∧ Hid (Bx wx PB #[.bool (negB ((((ug d.us k).cap : Int) : Rat) - s.ts k)), .slice pa pb pc, .slice pd pe pf] 90) ∧ Hid (Row wx pa pb pc (limbs ((((ug d.us k).cap : Int) : Rat) - s.ts k).num.natAbs)) ∧ Hid (Row wx pd pe pf (limbs ((((ug d.us k).cap : Int) : Rat) - s.ts k).den)) ∧ Hid (Below w.heap.size w wx) ∧ V.heap.size ≤ PB)
      case first =>
        have dfAx : V.drew.cell? ⟨d.sb, 6, none⟩ = some (.slice (some ⟨d.gt, 0, none⟩) d.n d.n) := ((Below.refl V.heap.size V).drew.cell (p := ⟨d.sb, 6, none⟩) ltsbA).trans fAx
        have du0 : V.drew.cell? ⟨d.gt, k * 3, none⟩ = some (.bool (negB (s.ts k))) := ((Below.refl V.heap.size V).drew.cell (p := ⟨d.gt, k * 3, none⟩) ltug).trans u0
        have du1 : V.drew.cell? ⟨d.gt, k * 3 + 1, none⟩ = some (.slice ua ub uc) := ((Below.refl V.heap.size V).drew.cell (p := ⟨d.gt, k * 3 + 1, none⟩) ltug).trans u1
        have du2 : V.drew.cell? ⟨d.gt, k * 3 + 2, none⟩ = some (.slice ud ue uf) := ((Below.refl V.heap.size V).drew.cell (p := ⟨d.gt, k * 3 + 2, none⟩) ltug).trans u2
        have dm0 : V.drew.cell? ⟨w21.heap.size, 0, none⟩ = some (.bool (negB (((ug d.us k).cap : Int) : Rat))) := ((Below.refl V.heap.size V).drew.cell (p := ⟨w21.heap.size, 0, none⟩) ltM).trans m0
        have dm1 : V.drew.cell? ⟨w21.heap.size, 1, none⟩ = some (.slice ma mb mc) := ((Below.refl V.heap.size V).drew.cell (p := ⟨w21.heap.size, 1, none⟩) ltM).trans m1
        have dm2 : V.drew.cell? ⟨w21.heap.size, 2, none⟩ = some (.slice md me mf) := ((Below.refl V.heap.size V).drew.cell (p := ⟨w21.heap.size, 2, none⟩) ltM).trans m2
        go_region_held3 (fun w' => w'.cell? ⟨d.sb, 6, none⟩ = some (.slice (some ⟨d.gt, 0, none⟩) d.n d.n) ∧ w'.cell? ⟨d.gt, k * 3, none⟩ = some (.bool (negB (s.ts k))) ∧ w'.cell? ⟨d.gt, k * 3 + 1, none⟩ = some (.slice ua ub uc) ∧ w'.cell? ⟨d.gt, k * 3 + 2, none⟩ = some (.slice ud ue uf) ∧ w'.cell? ⟨w21.heap.size, 0, none⟩ = some (.bool (negB (((ug d.us k).cap : Int) : Rat))) ∧ w'.cell? ⟨w21.heap.size, 1, none⟩ = some (.slice ma mb mc) ∧ w'.cell? ⟨w21.heap.size, 2, none⟩ = some (.slice md me mf)) (first | exact SK.out _ (Below.refl _ _).drew | exact SK.out _ ((Below.refl _ _).alloc (Nat.le_refl _) _).drew | exact SK.out _ hb7 | exact SK.out _ (hb7.alloc hb7.size _) | exact SK.out _ (below_put3 hb7 (Nat.le_refl _) _ _ _))
          (first | (go_at_call 98; refine (KC.out _ ?hU).mono ?_; (case hU => first | exact (Below.refl _ _).drew | exact ((Below.refl _ _).alloc (Nat.le_refl _) _).drew); rintro e7 w7 ⟨v7, rfl, ⟨pa, pb, pc, pd, pe, pf, rfl, hp1, hp2⟩, hb7, hu7⟩; try (have XP7 := (bx_new V #[.bool false, .slice none 0 0, .slice none 0 0] 90).drew.keep hu7; have xp0 := XP7.cell 0 _ rfl; have xp1 := XP7.cell 1 _ rfl; have xp2 := XP7.cell 2 _ rfl; have xf0 := XP7.frozen 0; have xf1 := XP7.frozen 1; have xf2 := XP7.frozen 2; have xl := XP7.lt; clear XP7)))
        all_goals (go_wp2_with fail; go_meet)
        all_goals (first | exact ⟨w7.heap.size, pa, pb, pc, pd, pe, pf, rfl, rfl, rfl, rfl, (Ro_23.out.below hb7).alloc _, bx_new w7 _ _, hp1.alloc _, hp2.alloc _, (HB_23.out.trans (hb7.mono HB_23.out.size)).alloc (Nat.le_trans HB_23.out.size hb7.size) _, hb7.size⟩ | exact ⟨V.heap.size, pa, pb, pc, pd, pe, pf, rfl, rfl, rfl, rfl, Ro_23.out.below (below_put3 hb7 (Nat.le_refl _) _ _ _), Bx.put3 ((bx_new V #[.bool false, .slice none 0 0, .slice none 0 0] 90).drew.keep hu7) _ _ _, hp1.put3 ((bx_new V #[.bool false, .slice none 0 0, .slice none 0 0] 90).drew.keep hu7) (by decide) _ _ _, hp2.put3 ((bx_new V #[.bool false, .slice none 0 0, .slice none 0 0] 90).drew.keep hu7) (by decide) _ _ _, below_put3 (HB_23.out.trans (hb7.mono HB_23.out.size)) HB_23.out.size _ _ _, Nat.le_refl _⟩)
      case rest =>
        obtain ⟨PBp, pa, pb, pc, pd, pe, pf, rfl, rfl, rfl, rfl, Ro_26, XpB_26, Rp1_26, Rp2_26, HB_26, lePBp⟩ := hcut
        clear SK KC XU_23 XM_23 Ro_23 HB_23
        have SMp := hid (show Sm ((((ug d.us k).cap : Int) : Rat) - s.ts k) 66 from SC.out.sub (HS.out.ts k hlt))
        have lp1 := Rp1_26.out.sm1 SMp.out
        have lp2 := Rp2_26.out.sm2 SMp.out
        go_wp2_with fail
        obtain ⟨V2, hV⟩ : ∃ V2, V2 = wc := ⟨_, rfl⟩
        rw [← hV] at XpB_26 Ro_26 Rp1_26 Rp2_26 HB_26 ⊢
        clear hV
        have HFSB := hid (H.out.below HB_26.out)
        obtain ⟨la, lb, lc, ld, le, lf, hbx, hlr1, hlr2⟩ := HFSB.out.box
        have ltsbB := hbx.lt
        have fBx : V2.cell? ⟨d.sb, 5, none⟩ = some (.slice (some ⟨d.gr, 0, none⟩) d.n d.n) := hbx.cell 5 _ rfl
        clear hbx hlr1 hlr2
        obtain ⟨ra, rb, rc, rd, re, rf, r0, r1, r2, hr1, hr2⟩ := HFSB.out.rt.cells hlt
        have ltrg := HFSB.out.rt.lt
        have lr1 := hr1.sm1 (HS.out.rt k hlt)
        have lr2 := hr2.sm2 (HS.out.rt k hlt)
        have Hr1 := hid hr1
        have Hr2 := hid hr2
        clear hr1 hr2
        have n0 := XpB_26.out.cell 0 _ rfl
        have n1 := XpB_26.out.cell 1 _ rfl
        have n2 := XpB_26.out.cell 2 _ rfl
        have ltP := XpB_26.out.lt
        by_cases hz : s.rt k = 0
        · have HZ := hid hz
          have HZR := hid (isZ_of hz)
          clear hz
          have SK : Hid (∀ U, Below V2.heap.size V2 U → U.cell? ⟨d.sb, 5, none⟩ = some (.slice (some ⟨d.gr, 0, none⟩) d.n d.n) ∧ U.cell? ⟨d.gr, k * 3, none⟩ = some (.bool (negB (s.rt k))) ∧ U.cell? ⟨d.gr, k * 3 + 1, none⟩ = some (.slice ra rb rc) ∧ U.cell? ⟨d.gr, k * 3 + 2, none⟩ = some (.slice rd re rf) ∧ U.cell? ⟨PBp, 0, none⟩ = some (.bool (negB ((((ug d.us k).cap : Int) : Rat) - s.ts k))) ∧ U.cell? ⟨PBp, 1, none⟩ = some (.slice pa pb pc) ∧ U.cell? ⟨PBp, 2, none⟩ = some (.slice pd pe pf)) := fun U h => ⟨(h.cell (p := ⟨d.sb, 5, none⟩) ltsbB).trans fBx, (h.cell (p := ⟨d.gr, k * 3, none⟩) ltrg).trans r0, (h.cell (p := ⟨d.gr, k * 3 + 1, none⟩) ltrg).trans r1, (h.cell (p := ⟨d.gr, k * 3 + 2, none⟩) ltrg).trans r2, (h.cell (p := ⟨PBp, 0, none⟩) ltP).trans n0, (h.cell (p := ⟨PBp, 1, none⟩) ltP).trans n1, (h.cell (p := ⟨PBp, 2, none⟩) ltP).trans n2⟩
          have KC : Hid (∀ U, Below V2.heap.size V2 U → Calls Tryz.prog 99 #[.agg #[.bool (negB ((((ug d.us k).cap : Int) : Rat) - s.ts k)), .slice pa pb pc, .slice pd pe pf], .agg #[.bool (negB (s.rt k)), .slice ra rb rc, .slice rd re rf]] U (fun e w' => e = .returned (.tuple #[.agg #[.bool false, .slice none 0 0, .slice none 0 0], .bool false]) ∧ Below V2.heap.size V2 w' ∧ Below U.heap.size U w')) := fun U hU => (rdiv_no pa pd ra rd pb pc pe pf rb rc re rf ((((ug d.us k).cap : Int) : Rat) - s.ts k) (s.rt k) U (Rp1_26.out.below hU) (Rp2_26.out.below hU) (Hr1.out.below hU) (Hr2.out.below hU) (by omega) (by omega) (by omega) (by omega) HZR.out).mono (fun e w' ⟨h1, h3⟩ => ⟨h1, hU.trans (h3.mono hU.size), h3⟩)
          go_cut [8, 22, 3, 9] (fun pp y0 y1 y2 wx => ∃ (PB : Nat), pp = .pointer (some ⟨PB, 0, none⟩) ∧ .int .i64 (k : Nat) = y0 ∧ v3 = y1 ∧ .bool false = y2 ∧ Hid (FO w.heap.size wx v3 (suL d s k)) ∧ Hid (Bx wx PB #[.bool false, .slice none 0 0, .slice none 0 0] 90) ∧ Hid (Below w.heap.size w wx) ∧ V2.heap.size ≤ PB)
          case first =>
            have dfBx : V2.drew.cell? ⟨d.sb, 5, none⟩ = some (.slice (some ⟨d.gr, 0, none⟩) d.n d.n) := ((Below.refl V2.heap.size V2).drew.cell (p := ⟨d.sb, 5, none⟩) ltsbB).trans fBx
            have dr0 : V2.drew.cell? ⟨d.gr, k * 3, none⟩ = some (.bool (negB (s.rt k))) := ((Below.refl V2.heap.size V2).drew.cell (p := ⟨d.gr, k * 3, none⟩) ltrg).trans r0
            have dr1 : V2.drew.cell? ⟨d.gr, k * 3 + 1, none⟩ = some (.slice ra rb rc) := ((Below.refl V2.heap.size V2).drew.cell (p := ⟨d.gr, k * 3 + 1, none⟩) ltrg).trans r1
            have dr2 : V2.drew.cell? ⟨d.gr, k * 3 + 2, none⟩ = some (.slice rd re rf) := ((Below.refl V2.heap.size V2).drew.cell (p := ⟨d.gr, k * 3 + 2, none⟩) ltrg).trans r2
            have dn0 : V2.drew.cell? ⟨PBp, 0, none⟩ = some (.bool (negB ((((ug d.us k).cap : Int) : Rat) - s.ts k))) := ((Below.refl V2.heap.size V2).drew.cell (p := ⟨PBp, 0, none⟩) ltP).trans n0
            have dn1 : V2.drew.cell? ⟨PBp, 1, none⟩ = some (.slice pa pb pc) := ((Below.refl V2.heap.size V2).drew.cell (p := ⟨PBp, 1, none⟩) ltP).trans n1
            have dn2 : V2.drew.cell? ⟨PBp, 2, none⟩ = some (.slice pd pe pf) := ((Below.refl V2.heap.size V2).drew.cell (p := ⟨PBp, 2, none⟩) ltP).trans n2
            go_region_held3 (fun w' => w'.cell? ⟨d.sb, 5, none⟩ = some (.slice (some ⟨d.gr, 0, none⟩) d.n d.n) ∧ w'.cell? ⟨d.gr, k * 3, none⟩ = some (.bool (negB (s.rt k))) ∧ w'.cell? ⟨d.gr, k * 3 + 1, none⟩ = some (.slice ra rb rc) ∧ w'.cell? ⟨d.gr, k * 3 + 2, none⟩ = some (.slice rd re rf) ∧ w'.cell? ⟨PBp, 0, none⟩ = some (.bool (negB ((((ug d.us k).cap : Int) : Rat) - s.ts k))) ∧ w'.cell? ⟨PBp, 1, none⟩ = some (.slice pa pb pc) ∧ w'.cell? ⟨PBp, 2, none⟩ = some (.slice pd pe pf)) (first | exact SK.out _ (Below.refl _ _).drew | exact SK.out _ ((Below.refl _ _).alloc (Nat.le_refl _) _).drew | exact SK.out _ hb7 | exact SK.out _ (hb7.alloc hb7.size _) | exact SK.out _ (below_put3 hb7 (Nat.le_refl _) _ _ _))
              (first | (go_at_call 99; refine (KC.out _ ?hU).mono ?_; (case hU => first | exact (Below.refl _ _).drew | exact ((Below.refl _ _).alloc (Nat.le_refl _) _).drew); rintro e7 w7 ⟨rfl, hb7, hu7⟩; try (have XP7 := (bx_new V2 #[.bool false, .slice none 0 0, .slice none 0 0] 90).drew.keep hu7; have xp0 := XP7.cell 0 _ rfl; have xp1 := XP7.cell 1 _ rfl; have xp2 := XP7.cell 2 _ rfl; have xf0 := XP7.frozen 0; have xf1 := XP7.frozen 1; have xf2 := XP7.frozen 2; have xl := XP7.lt; clear XP7)))
            all_goals (go_wp2_with fail; go_meet)
            all_goals (first | exact ⟨w7.heap.size, rfl, rfl, rfl, rfl, (Ro_26.out.below hb7).alloc _, bx_new w7 _ _, (HB_26.out.trans (hb7.mono HB_26.out.size)).alloc (Nat.le_trans HB_26.out.size hb7.size) _, hb7.size⟩ | exact ⟨V2.heap.size, rfl, rfl, rfl, rfl, Ro_26.out.below (below_put3 hb7 (Nat.le_refl _) _ _ _), Bx.put3 ((bx_new V2 #[.bool false, .slice none 0 0, .slice none 0 0] 90).drew.keep hu7) _ _ _, below_put3 (HB_26.out.trans (hb7.mono HB_26.out.size)) HB_26.out.size _ _ _, Nat.le_refl _⟩)
          case rest =>
            obtain ⟨PBq, rfl, rfl, rfl, rfl, Ro_29, XqB_29, HB_29, lePBq⟩ := hcut
            clear SK KC XpB_26 Ro_26 HB_26
            have E : suL d s (k + 1) = suL d s k := by simp only [suL]; rw [if_pos HZ.out]
            have HE := hid E; clear E
            go_wp2
            rw [← HAO.out]
            go_roundg (d.n - (k + 1))
            case measure => omega
            case rel => exact ⟨k + 1, _, rfl, rfl, by omega, by go_num, by rw [HE.out]; exact Ro_29.out, HB_29.out⟩
        · have HZ := hid hz
          clear hz
          have SK : Hid (∀ U, Below V2.heap.size V2 U → U.cell? ⟨d.sb, 5, none⟩ = some (.slice (some ⟨d.gr, 0, none⟩) d.n d.n) ∧ U.cell? ⟨d.gr, k * 3, none⟩ = some (.bool (negB (s.rt k))) ∧ U.cell? ⟨d.gr, k * 3 + 1, none⟩ = some (.slice ra rb rc) ∧ U.cell? ⟨d.gr, k * 3 + 2, none⟩ = some (.slice rd re rf) ∧ U.cell? ⟨PBp, 0, none⟩ = some (.bool (negB ((((ug d.us k).cap : Int) : Rat) - s.ts k))) ∧ U.cell? ⟨PBp, 1, none⟩ = some (.slice pa pb pc) ∧ U.cell? ⟨PBp, 2, none⟩ = some (.slice pd pe pf)) := fun U h => ⟨(h.cell (p := ⟨d.sb, 5, none⟩) ltsbB).trans fBx, (h.cell (p := ⟨d.gr, k * 3, none⟩) ltrg).trans r0, (h.cell (p := ⟨d.gr, k * 3 + 1, none⟩) ltrg).trans r1, (h.cell (p := ⟨d.gr, k * 3 + 2, none⟩) ltrg).trans r2, (h.cell (p := ⟨PBp, 0, none⟩) ltP).trans n0, (h.cell (p := ⟨PBp, 1, none⟩) ltP).trans n1, (h.cell (p := ⟨PBp, 2, none⟩) ltP).trans n2⟩
          have KC : Hid (∀ U, Below V2.heap.size V2 U → Calls Tryz.prog 99 #[.agg #[.bool (negB ((((ug d.us k).cap : Int) : Rat) - s.ts k)), .slice pa pb pc, .slice pd pe pf], .agg #[.bool (negB (s.rt k)), .slice ra rb rc, .slice rd re rf]] U (fun e w' => ∃ v, e = .returned (.tuple #[v, .bool true]) ∧ Frac w' v (((((ug d.us k).cap : Int) : Rat) - s.ts k) / s.rt k) ∧ Below V2.heap.size V2 w' ∧ Below U.heap.size U w')) := fun U hU => (rdiv_yes pa pd ra rd pb pc pe pf rb rc re rf ((((ug d.us k).cap : Int) : Rat) - s.ts k) (s.rt k) U (Rp1_26.out.below hU) (Rp2_26.out.below hU) (Hr1.out.below hU) (Hr2.out.below hU) (by omega) (by omega) (by omega) (by omega) HZ.out).mono (fun e w' ⟨v, h1, h2, h3⟩ => ⟨v, h1, h2, hU.trans (h3.mono hU.size), h3⟩)
          go_cut [8, 22, 3, 9] (fun pp y0 y1 y2 wx => ∃ (PB : Nat) (qa : Option Addr) (qb qc : Nat) (qd : Option Addr) (qe qf : Nat), pp = .pointer (some ⟨PB, 0, none⟩) ∧ .int .i64 (k : Nat) = y0 ∧ v3 = y1 ∧ .bool true = y2 ∧ Hid (FO w.heap.size wx v3 (suL d s k)) ∧ Hid (Bx wx PB #[.bool (negB (((((ug d.us k).cap : Int) : Rat) - s.ts k) / s.rt k)), .slice qa qb qc, .slice qd qe qf] 90) ∧ Hid (Row wx qa qb qc (limbs (((((ug d.us k).cap : Int) : Rat) - s.ts k) / s.rt k).num.natAbs)) ∧ Hid (Row wx qd qe qf (limbs (((((ug d.us k).cap : Int) : Rat) - s.ts k) / s.rt k).den)) ∧ Hid (Below w.heap.size w wx) ∧ V2.heap.size ≤ PB)
          case first =>
            have dfBx : V2.drew.cell? ⟨d.sb, 5, none⟩ = some (.slice (some ⟨d.gr, 0, none⟩) d.n d.n) := ((Below.refl V2.heap.size V2).drew.cell (p := ⟨d.sb, 5, none⟩) ltsbB).trans fBx
            have dr0 : V2.drew.cell? ⟨d.gr, k * 3, none⟩ = some (.bool (negB (s.rt k))) := ((Below.refl V2.heap.size V2).drew.cell (p := ⟨d.gr, k * 3, none⟩) ltrg).trans r0
            have dr1 : V2.drew.cell? ⟨d.gr, k * 3 + 1, none⟩ = some (.slice ra rb rc) := ((Below.refl V2.heap.size V2).drew.cell (p := ⟨d.gr, k * 3 + 1, none⟩) ltrg).trans r1
            have dr2 : V2.drew.cell? ⟨d.gr, k * 3 + 2, none⟩ = some (.slice rd re rf) := ((Below.refl V2.heap.size V2).drew.cell (p := ⟨d.gr, k * 3 + 2, none⟩) ltrg).trans r2
            have dn0 : V2.drew.cell? ⟨PBp, 0, none⟩ = some (.bool (negB ((((ug d.us k).cap : Int) : Rat) - s.ts k))) := ((Below.refl V2.heap.size V2).drew.cell (p := ⟨PBp, 0, none⟩) ltP).trans n0
            have dn1 : V2.drew.cell? ⟨PBp, 1, none⟩ = some (.slice pa pb pc) := ((Below.refl V2.heap.size V2).drew.cell (p := ⟨PBp, 1, none⟩) ltP).trans n1
            have dn2 : V2.drew.cell? ⟨PBp, 2, none⟩ = some (.slice pd pe pf) := ((Below.refl V2.heap.size V2).drew.cell (p := ⟨PBp, 2, none⟩) ltP).trans n2
            go_region_held3 (fun w' => w'.cell? ⟨d.sb, 5, none⟩ = some (.slice (some ⟨d.gr, 0, none⟩) d.n d.n) ∧ w'.cell? ⟨d.gr, k * 3, none⟩ = some (.bool (negB (s.rt k))) ∧ w'.cell? ⟨d.gr, k * 3 + 1, none⟩ = some (.slice ra rb rc) ∧ w'.cell? ⟨d.gr, k * 3 + 2, none⟩ = some (.slice rd re rf) ∧ w'.cell? ⟨PBp, 0, none⟩ = some (.bool (negB ((((ug d.us k).cap : Int) : Rat) - s.ts k))) ∧ w'.cell? ⟨PBp, 1, none⟩ = some (.slice pa pb pc) ∧ w'.cell? ⟨PBp, 2, none⟩ = some (.slice pd pe pf)) (first | exact SK.out _ (Below.refl _ _).drew | exact SK.out _ ((Below.refl _ _).alloc (Nat.le_refl _) _).drew | exact SK.out _ hb7 | exact SK.out _ (hb7.alloc hb7.size _) | exact SK.out _ (below_put3 hb7 (Nat.le_refl _) _ _ _))
              (first | (go_at_call 99; refine (KC.out _ ?hU).mono ?_; (case hU => first | exact (Below.refl _ _).drew | exact ((Below.refl _ _).alloc (Nat.le_refl _) _).drew); rintro e7 w7 ⟨v7, rfl, ⟨qa, qb, qc, qd, qe, qf, rfl, hq1, hq2⟩, hb7, hu7⟩; try (have XP7 := (bx_new V2 #[.bool false, .slice none 0 0, .slice none 0 0] 90).drew.keep hu7; have xp0 := XP7.cell 0 _ rfl; have xp1 := XP7.cell 1 _ rfl; have xp2 := XP7.cell 2 _ rfl; have xf0 := XP7.frozen 0; have xf1 := XP7.frozen 1; have xf2 := XP7.frozen 2; have xl := XP7.lt; clear XP7)))
            all_goals (go_wp2_with fail; go_meet)
            all_goals (first | exact ⟨w7.heap.size, qa, qb, qc, qd, qe, qf, rfl, rfl, rfl, rfl, (Ro_26.out.below hb7).alloc _, bx_new w7 _ _, hq1.alloc _, hq2.alloc _, (HB_26.out.trans (hb7.mono HB_26.out.size)).alloc (Nat.le_trans HB_26.out.size hb7.size) _, hb7.size⟩ | exact ⟨V2.heap.size, qa, qb, qc, qd, qe, qf, rfl, rfl, rfl, rfl, Ro_26.out.below (below_put3 hb7 (Nat.le_refl _) _ _ _), Bx.put3 ((bx_new V2 #[.bool false, .slice none 0 0, .slice none 0 0] 90).drew.keep hu7) _ _ _, hq1.put3 ((bx_new V2 #[.bool false, .slice none 0 0, .slice none 0 0] 90).drew.keep hu7) (by decide) _ _ _, hq2.put3 ((bx_new V2 #[.bool false, .slice none 0 0, .slice none 0 0] 90).drew.keep hu7) (by decide) _ _ _, below_put3 (HB_26.out.trans (hb7.mono HB_26.out.size)) HB_26.out.size _ _ _, Nat.le_refl _⟩)
          case rest =>
            obtain ⟨PBq, qa, qb, qc, qd, qe, qf, rfl, rfl, rfl, rfl, Ro_29, XqB_29, Rq1_29, Rq2_29, HB_29, lePBq⟩ := hcut
            clear SK KC XpB_26 Ro_26 HB_26
            have SMq := hid (show Sm (((((ug d.us k).cap : Int) : Rat) - s.ts k) / s.rt k) 70 from (SC.out.sub (HS.out.ts k hlt)).div (HS.out.rt k hlt) HZ.out)
            have lq1 := Rq1_29.out.sm1 SMq.out
            have lq2 := Rq2_29.out.sm2 SMq.out
            have ltqB := XqB_29.out.lt
            have cqB0 := XqB_29.out.cell 0 _ rfl
            have cqB1 := XqB_29.out.cell 1 _ rfl
            have cqB2 := XqB_29.out.cell 2 _ rfl
            have leW : w.heap.size ≤ wc.heap.size := HB_29.out.size
            go_wp2_with (at_builtin; refine wpList_append_fra _ rfl _ _ rfl w.heap.size _ (suL d s k) ⟨wc.heap.size, 0, none⟩ 1 (((((ug d.us k).cap : Int) : Rat) - s.ts k) / s.rt k) qa qb qc qd qe qf rfl rfl (Ro_29.out.alloc _) ((bx_new wc #[.bool (negB (((((ug d.us k).cap : Int) : Rat) - s.ts k) / s.rt k)), .slice qa qb qc, .slice qd qe qf] 90).cell 0 _ rfl) ((bx_new wc #[.bool (negB (((((ug d.us k).cap : Int) : Rat) - s.ts k) / s.rt k)), .slice qa qb qc, .slice qd qe qf] 90).cell 1 _ rfl) ((bx_new wc #[.bool (negB (((((ug d.us k).cap : Int) : Rat) - s.ts k) / s.rt k)), .slice qa qb qc, .slice qd qe qf] 90).cell 2 _ rfl) (Rq1_29.out.alloc _) (Rq2_29.out.alloc _) (by omega) (Nat.le_trans leW (by simp)) ?_)
            intro v' w' hO2 hB2
            have HO2 := hid hO2
            have HB2 : Hid (Below w.heap.size w w') := (HB_29.out.alloc HB_29.out.size _).trans hB2
            clear hO2 hB2
            have E : suL d s (k + 1) = suL d s k ++ [((((ug d.us k).cap : Int) : Rat) - s.ts k) / s.rt k] := by simp only [suL]; rw [if_neg HZ.out]
            have HE := hid E; clear E
            go_wp2
            rw [← HAO.out]
            go_roundg (d.n - (k + 1))
            case measure => omega
            case rel => exact ⟨k + 1, _, rfl, rfl, by omega, by go_num, by rw [HE.out]; exact HO2.out, HB2.out⟩
    · obtain rfl : k = d.n := by omega
      have HO1 := hO
      have HB1 := hB
      obtain ⟨la, lb, lc, ld, le, lf, hbx, hlr1, hlr2⟩ := HFW.out.box
      have ltsb := hbx.lt
      have g1 : wr.cell? ⟨d.sb, 1, none⟩ = some (.slice (some ⟨d.rb, 0, none⟩) d.kk d.kk) := hbx.cell 1 _ rfl
      clear hbx hlr1 hlr2
      go_wp2
      go_loopg [3, 62] d.kk (fun g s3 i ws => ∃ (k : Nat) (v3 : Value), v3 = s3 ∧ g = d.kk - k ∧ k ≤ d.kk ∧ i = .int .i64 k ∧ Hid (FO w.heap.size ws v3 (skL d s (suL d s d.n) k)) ∧ Hid (Below w.heap.size w ws))
      case atStart => exact ⟨0, _, rfl, rfl, Nat.zero_le _, rfl, HO1.out, HB1.out⟩
      case round =>
        clear g1 hO hB HO1 HB1 HFW hgk hk hlt ltsb
        obtain ⟨k, v3, rfl, hgk, hk, rfl, hO, hB⟩ := hrel
        have hol2 := skL_len d s (suL d s d.n) k
        have hB0 := hB.out.size
        have HFW := hid (H.out.below hB.out)
        by_cases hlt : k < d.kk
        · obtain ⟨ra, rb, rc, rd, re, rf, c0, c1, c2, hr1, hr2⟩ := HFW.out.room.cells hlt
          have SR := hid (HO.out.rooms k hlt)
          have lr1 := hr1.sm1 SR.out
          have lr2 := hr2.sm2 SR.out
          have ltrb := HFW.out.room.lt
          have hkk2 : (k : Int) < (d.kk : Int) := by omega
          have Rr1_60 := hid hr1
          have Rr2_60 := hid hr2
          clear hr1 hr2
          have XR_61 := hid (bx_new wr #[.bool (negB (d.room k)), .slice ra rb rc, .slice rd re rf] 90)
          have Ro_61 := hid (hO.out.alloc (.cells #[.bool (negB (d.room k)), .slice ra rb rc, .slice rd re rf] 90))
          have Rr1_61 := hid (Rr1_60.out.alloc (.cells #[.bool (negB (d.room k)), .slice ra rb rc, .slice rd re rf] 90))
          have Rr2_61 := hid (Rr2_60.out.alloc (.cells #[.bool (negB (d.room k)), .slice ra rb rc, .slice rd re rf] 90))
          have HB_61 : Hid (Below w.heap.size w (wr.alloc (.cells #[.bool (negB (d.room k)), .slice ra rb rc, .slice rd re rf] 90))) := hB.out.alloc hB.out.size (.cells #[.bool (negB (d.room k)), .slice ra rb rc, .slice rd re rf] 90)
          have leR : w.heap.size ≤ wr.heap.size := hB.out.size
          clear hO Rr1_60 Rr2_60 hB
          go_wp2_with fail
          obtain ⟨V3, hV⟩ : ∃ V3, V3 = (wr.alloc (.cells #[.bool (negB (d.room k)), .slice ra rb rc, .slice rd re rf] 90)) := ⟨_, rfl⟩
          rw [← hV] at XR_61 Ro_61 Rr1_61 Rr2_61 HB_61 ⊢
          clear hV
          clear c0 c1 c2
          have HST := hid (tot_sm HO.out.good (by omega) HS.out.ts k d.n (Nat.le_refl _))
          have HSR := hid (tot_sm HO.out.good (by omega) HS.out.rt k d.n (Nat.le_refl _))
          have hn60 : 5 + d.n * (60 + 3) ≤ 383 := by have := Nat.mul_le_mul_right 63 hn6; omega
          have hn4 : 5 + d.n * (4 + 3) ≤ 47 := by have := Nat.mul_le_mul_right 7 hn6; omega
          have HFSC := hid (H.out.below HB_61.out)
          obtain ⟨la, lb, lc, ld, le, lf, hbx, hlr1, hlr2⟩ := HFSC.out.box
          have ltsbC := hbx.lt
          have fC0 : V3.cell? ⟨d.sb, 0, none⟩ = some (.slice d.ao d.n d.cap) := hbx.cell 0 _ rfl
          have fC1 : V3.cell? ⟨d.sb, 6, none⟩ = some (.slice (some ⟨d.gt, 0, none⟩) d.n d.n) := hbx.cell 6 _ rfl
          clear hbx hlr1 hlr2
          have SK : Hid (∀ U, Below V3.heap.size V3 U → U.cell? ⟨d.sb, 0, none⟩ = some (.slice d.ao d.n d.cap) ∧ U.cell? ⟨d.sb, 6, none⟩ = some (.slice (some ⟨d.gt, 0, none⟩) d.n d.n)) := fun U h => ⟨(h.cell (p := ⟨d.sb, 0, none⟩) ltsbC).trans fC0, (h.cell (p := ⟨d.sb, 6, none⟩) ltsbC).trans fC1⟩
          have KC : Hid (∀ U, Below V3.heap.size V3 U → Calls Tryz.prog 100 #[.slice d.ao d.n d.cap, .slice (some ⟨d.gt, 0, none⟩) d.n d.n, .int .i64 k] U (fun e w' => ∃ v, e = .returned v ∧ Frac w' v (totF d.us s.ts k d.n) ∧ Below V3.heap.size V3 w' ∧ Below U.heap.size U w')) := fun U hU => (inAll_any d.ao d.n d.cap d.us (some ⟨d.gt, 0, none⟩) d.n d.kk k 60 s.ts U (HO.out.users.below (HFSC.out.below hU).bel) HO.out.good ((HFSC.out.below hU).ts.frs (by unfold maxLen; omega)) HS.out.ts hlt hk4 (by omega) (HO.out.tab.of (HFSC.out.below hU).bel)).mono (fun e w' ⟨v, h1, h2, h3⟩ => ⟨v, h1, h2, hU.trans (h3.mono hU.size), h3⟩)
          go_cut [12, 62, 3, 10] (fun pp y0 y1 y2 wx => ∃ (PB : Nat) (ta : Option Addr) (tb tc : Nat) (td : Option Addr) (te tf : Nat), pp = .pointer (some ⟨PB, 0, none⟩) ∧ .int .i64 (k : Nat) = y0 ∧ v3 = y1 ∧ .int .i64 (k : Nat) = y2 ∧ Hid (Bx wx wr.heap.size #[.bool (negB (d.room k)), .slice ra rb rc, .slice rd re rf] 90) ∧ Hid (FO w.heap.size wx v3 (skL d s (suL d s d.n) k)) ∧ Hid (Row wx ra rb rc (limbs (d.room k).num.natAbs)) ∧ Hid (Row wx rd re rf (limbs (d.room k).den)) ∧ Hid (Bx wx PB #[.bool (negB (totF d.us s.ts k d.n)), .slice ta tb tc, .slice td te tf] 90) ∧ Hid (Row wx ta tb tc (limbs (totF d.us s.ts k d.n).num.natAbs)) ∧ Hid (Row wx td te tf (limbs (totF d.us s.ts k d.n).den)) ∧ Hid (Below w.heap.size w wx) ∧ V3.heap.size ≤ PB)
          case first =>
            have dfC0 : V3.drew.cell? ⟨d.sb, 0, none⟩ = some (.slice d.ao d.n d.cap) := ((Below.refl V3.heap.size V3).drew.cell (p := ⟨d.sb, 0, none⟩) ltsbC).trans fC0
            have dfC1 : V3.drew.cell? ⟨d.sb, 6, none⟩ = some (.slice (some ⟨d.gt, 0, none⟩) d.n d.n) := ((Below.refl V3.heap.size V3).drew.cell (p := ⟨d.sb, 6, none⟩) ltsbC).trans fC1
            go_region_held3 (fun w' => w'.cell? ⟨d.sb, 0, none⟩ = some (.slice d.ao d.n d.cap) ∧ w'.cell? ⟨d.sb, 6, none⟩ = some (.slice (some ⟨d.gt, 0, none⟩) d.n d.n)) (first | exact SK.out _ (Below.refl _ _).drew | exact SK.out _ ((Below.refl _ _).alloc (Nat.le_refl _) _).drew | exact SK.out _ hb7 | exact SK.out _ (hb7.alloc hb7.size _) | exact SK.out _ (below_put3 hb7 (Nat.le_refl _) _ _ _))
              (first | (go_at_call 100; refine (KC.out _ ?hU).mono ?_; (case hU => first | exact (Below.refl _ _).drew | exact ((Below.refl _ _).alloc (Nat.le_refl _) _).drew); rintro e7 w7 ⟨v7, rfl, ⟨ta, tb, tc, td, te, tf, rfl, ht1, ht2⟩, hb7, hu7⟩; try (have XP7 := (bx_new V3 #[.bool false, .slice none 0 0, .slice none 0 0] 90).drew.keep hu7; have xp0 := XP7.cell 0 _ rfl; have xp1 := XP7.cell 1 _ rfl; have xp2 := XP7.cell 2 _ rfl; have xf0 := XP7.frozen 0; have xf1 := XP7.frozen 1; have xf2 := XP7.frozen 2; have xl := XP7.lt; clear XP7)))
            all_goals (go_wp2_with fail; go_meet)
            all_goals (first | exact ⟨w7.heap.size, ta, tb, tc, td, te, tf, rfl, rfl, rfl, rfl, bx_past (XR_61.out.keep hb7) _, (Ro_61.out.below hb7).alloc _, (Rr1_61.out.below hb7).alloc _, (Rr2_61.out.below hb7).alloc _, bx_new w7 _ _, ht1.alloc _, ht2.alloc _, (HB_61.out.trans (hb7.mono HB_61.out.size)).alloc (Nat.le_trans HB_61.out.size hb7.size) _, hb7.size⟩ | exact ⟨V3.heap.size, ta, tb, tc, td, te, tf, rfl, rfl, rfl, rfl, XR_61.out.keep (below_put3 hb7 (Nat.le_refl _) _ _ _), Ro_61.out.below (below_put3 hb7 (Nat.le_refl _) _ _ _), Rr1_61.out.below (below_put3 hb7 (Nat.le_refl _) _ _ _), Rr2_61.out.below (below_put3 hb7 (Nat.le_refl _) _ _ _), Bx.put3 ((bx_new V3 #[.bool false, .slice none 0 0, .slice none 0 0] 90).drew.keep hu7) _ _ _, ht1.put3 ((bx_new V3 #[.bool false, .slice none 0 0, .slice none 0 0] 90).drew.keep hu7) (by decide) _ _ _, ht2.put3 ((bx_new V3 #[.bool false, .slice none 0 0, .slice none 0 0] 90).drew.keep hu7) (by decide) _ _ _, below_put3 (HB_61.out.trans (hb7.mono HB_61.out.size)) HB_61.out.size _ _ _, Nat.le_refl _⟩)
          case rest =>
            obtain ⟨PBt, ta, tb, tc, td, te, tf, rfl, rfl, rfl, rfl, XR_64, Ro_64, Rr1_64, Rr2_64, XtB_64, Rt1_64, Rt2_64, HB_64, lePBt⟩ := hcut
            clear SK KC XR_61 Ro_61 Rr1_61 Rr2_61 HB_61
            have SMt := hid (show Sm (totF d.us s.ts k d.n) 383 from HST.out.mono hn60)
            have lt1 := Rt1_64.out.sm1 SMt.out
            have lt2 := Rt2_64.out.sm2 SMt.out
            have ltR := XR_64.out.lt
            have cR0 := XR_64.out.cell 0 _ rfl
            have cR1 := XR_64.out.cell 1 _ rfl
            have cR2 := XR_64.out.cell 2 _ rfl
            have lttB := XtB_64.out.lt
            have ctB0 := XtB_64.out.cell 0 _ rfl
            have ctB1 := XtB_64.out.cell 1 _ rfl
            have ctB2 := XtB_64.out.cell 2 _ rfl
            go_wp2_with fail
            clear ltR cR0 cR1 cR2 lttB ctB0 ctB1 ctB2
            refine (rsub_any ra rd ta td rb rc re rf tb tc te tf (d.room k) (totF d.us s.ts k d.n) _ Rr1_64.out Rr2_64.out Rt1_64.out Rt2_64.out (by omega) (by omega) (by omega) (by omega)).mono ?_
            rintro e64 w64 ⟨v64, rfl, ⟨pa, pb, pc, pd, pe, pf, rfl, hp1, hp2⟩, hb64⟩
            have XR_65 := hid (XR_64.out.keep hb64)
            have XtB_65 := hid (XtB_64.out.keep hb64)
            have Ro_65 := hid (Ro_64.out.below hb64)
            have Rr1_65 := hid (Rr1_64.out.below hb64)
            have Rr2_65 := hid (Rr2_64.out.below hb64)
            have Rt1_65 := hid (Rt1_64.out.below hb64)
            have Rt2_65 := hid (Rt2_64.out.below hb64)
            have HB_65 : Hid (Below w.heap.size w w64) := HB_64.out.trans (hb64.mono HB_64.out.size)
            clear XR_64 XtB_64 Ro_64 Rr1_64 Rr2_64 Rt1_64 Rt2_64 HB_64
            clear hb64
            have Rp1_65 := hid hp1
            have Rp2_65 := hid hp2
            have SMp := hid (show Sm (d.room k - totF d.us s.ts k d.n) 386 from SR.out.sub (HST.out.mono hn60))
            have lp1 := hp1.sm1 SMp.out
            have lp2 := hp2.sm2 SMp.out
            clear hp1 hp2
            have XR_66 := hid (bx_past XR_65.out (.cells #[.bool (negB (d.room k - totF d.us s.ts k d.n)), .slice pa pb pc, .slice pd pe pf] 90))
            have XtB_66 := hid (bx_past XtB_65.out (.cells #[.bool (negB (d.room k - totF d.us s.ts k d.n)), .slice pa pb pc, .slice pd pe pf] 90))
            have XP_66 := hid (bx_new w64 #[.bool (negB (d.room k - totF d.us s.ts k d.n)), .slice pa pb pc, .slice pd pe pf] 90)
            have Ro_66 := hid (Ro_65.out.alloc (.cells #[.bool (negB (d.room k - totF d.us s.ts k d.n)), .slice pa pb pc, .slice pd pe pf] 90))
            have Rr1_66 := hid (Rr1_65.out.alloc (.cells #[.bool (negB (d.room k - totF d.us s.ts k d.n)), .slice pa pb pc, .slice pd pe pf] 90))
            have Rr2_66 := hid (Rr2_65.out.alloc (.cells #[.bool (negB (d.room k - totF d.us s.ts k d.n)), .slice pa pb pc, .slice pd pe pf] 90))
            have Rt1_66 := hid (Rt1_65.out.alloc (.cells #[.bool (negB (d.room k - totF d.us s.ts k d.n)), .slice pa pb pc, .slice pd pe pf] 90))
            have Rt2_66 := hid (Rt2_65.out.alloc (.cells #[.bool (negB (d.room k - totF d.us s.ts k d.n)), .slice pa pb pc, .slice pd pe pf] 90))
            have Rp1_66 := hid (Rp1_65.out.alloc (.cells #[.bool (negB (d.room k - totF d.us s.ts k d.n)), .slice pa pb pc, .slice pd pe pf] 90))
            have Rp2_66 := hid (Rp2_65.out.alloc (.cells #[.bool (negB (d.room k - totF d.us s.ts k d.n)), .slice pa pb pc, .slice pd pe pf] 90))
            have HB_66 : Hid (Below w.heap.size w (w64.alloc (.cells #[.bool (negB (d.room k - totF d.us s.ts k d.n)), .slice pa pb pc, .slice pd pe pf] 90))) := HB_65.out.alloc HB_65.out.size (.cells #[.bool (negB (d.room k - totF d.us s.ts k d.n)), .slice pa pb pc, .slice pd pe pf] 90)
            have leP : w.heap.size ≤ w64.heap.size := HB_65.out.size
            clear XR_65 XtB_65 Ro_65 Rr1_65 Rr2_65 Rt1_65 Rt2_65 Rp1_65 Rp2_65 HB_65
            go_wp2_with fail
            obtain ⟨V4, hV⟩ : ∃ V4, V4 = (w64.alloc (.cells #[.bool (negB (d.room k - totF d.us s.ts k d.n)), .slice pa pb pc, .slice pd pe pf] 90)) := ⟨_, rfl⟩
            rw [← hV] at XP_66 Ro_66 Rp1_66 Rp2_66 HB_66 ⊢
            clear hV
            have HFSD := hid (H.out.below HB_66.out)
            obtain ⟨la, lb, lc, ld, le, lf, hbx, hlr1, hlr2⟩ := HFSD.out.box
            have ltsbD := hbx.lt
            have fD0 : V4.cell? ⟨d.sb, 0, none⟩ = some (.slice d.ao d.n d.cap) := hbx.cell 0 _ rfl
            have fD1 : V4.cell? ⟨d.sb, 5, none⟩ = some (.slice (some ⟨d.gr, 0, none⟩) d.n d.n) := hbx.cell 5 _ rfl
            clear hbx hlr1 hlr2
            have SK : Hid (∀ U, Below V4.heap.size V4 U → U.cell? ⟨d.sb, 0, none⟩ = some (.slice d.ao d.n d.cap) ∧ U.cell? ⟨d.sb, 5, none⟩ = some (.slice (some ⟨d.gr, 0, none⟩) d.n d.n)) := fun U h => ⟨(h.cell (p := ⟨d.sb, 0, none⟩) ltsbD).trans fD0, (h.cell (p := ⟨d.sb, 5, none⟩) ltsbD).trans fD1⟩
            have KC : Hid (∀ U, Below V4.heap.size V4 U → Calls Tryz.prog 100 #[.slice d.ao d.n d.cap, .slice (some ⟨d.gr, 0, none⟩) d.n d.n, .int .i64 k] U (fun e w' => ∃ v, e = .returned v ∧ Frac w' v (totF d.us s.rt k d.n) ∧ Below V4.heap.size V4 w' ∧ Below U.heap.size U w')) := fun U hU => (inAll_any d.ao d.n d.cap d.us (some ⟨d.gr, 0, none⟩) d.n d.kk k 4 s.rt U (HO.out.users.below (HFSD.out.below hU).bel) HO.out.good ((HFSD.out.below hU).rt.frs (by unfold maxLen; omega)) HS.out.rt hlt hk4 (by omega) (HO.out.tab.of (HFSD.out.below hU).bel)).mono (fun e w' ⟨v, h1, h2, h3⟩ => ⟨v, h1, h2, hU.trans (h3.mono hU.size), h3⟩)
            go_cut [14, 62, 3] (fun pp y0 y1 wx => ∃ (PB : Nat) (ta : Option Addr) (tb tc : Nat) (td : Option Addr) (te tf : Nat), pp = .pointer (some ⟨PB, 0, none⟩) ∧ .int .i64 (k : Nat) = y0 ∧ v3 = y1 ∧ Hid (Bx wx w64.heap.size #[.bool (negB (d.room k - totF d.us s.ts k d.n)), .slice pa pb pc, .slice pd pe pf] 90) ∧ Hid (FO w.heap.size wx v3 (skL d s (suL d s d.n) k)) ∧ Hid (Row wx pa pb pc (limbs (d.room k - totF d.us s.ts k d.n).num.natAbs)) ∧ Hid (Row wx pd pe pf (limbs (d.room k - totF d.us s.ts k d.n).den)) ∧ Hid (Bx wx PB #[.bool (negB (totF d.us s.rt k d.n)), .slice ta tb tc, .slice td te tf] 90) ∧ Hid (Row wx ta tb tc (limbs (totF d.us s.rt k d.n).num.natAbs)) ∧ Hid (Row wx td te tf (limbs (totF d.us s.rt k d.n).den)) ∧ Hid (Below w.heap.size w wx) ∧ V4.heap.size ≤ PB)
            case first =>
              have dfD0 : V4.drew.cell? ⟨d.sb, 0, none⟩ = some (.slice d.ao d.n d.cap) := ((Below.refl V4.heap.size V4).drew.cell (p := ⟨d.sb, 0, none⟩) ltsbD).trans fD0
              have dfD1 : V4.drew.cell? ⟨d.sb, 5, none⟩ = some (.slice (some ⟨d.gr, 0, none⟩) d.n d.n) := ((Below.refl V4.heap.size V4).drew.cell (p := ⟨d.sb, 5, none⟩) ltsbD).trans fD1
              go_region_held3 (fun w' => w'.cell? ⟨d.sb, 0, none⟩ = some (.slice d.ao d.n d.cap) ∧ w'.cell? ⟨d.sb, 5, none⟩ = some (.slice (some ⟨d.gr, 0, none⟩) d.n d.n)) (first | exact SK.out _ (Below.refl _ _).drew | exact SK.out _ ((Below.refl _ _).alloc (Nat.le_refl _) _).drew | exact SK.out _ hb7 | exact SK.out _ (hb7.alloc hb7.size _) | exact SK.out _ (below_put3 hb7 (Nat.le_refl _) _ _ _))
                (first | (go_at_call 100; refine (KC.out _ ?hU).mono ?_; (case hU => first | exact (Below.refl _ _).drew | exact ((Below.refl _ _).alloc (Nat.le_refl _) _).drew); rintro e7 w7 ⟨v7, rfl, ⟨ta, tb, tc, td, te, tf, rfl, ht1, ht2⟩, hb7, hu7⟩; try (have XP7 := (bx_new V4 #[.bool false, .slice none 0 0, .slice none 0 0] 90).drew.keep hu7; have xp0 := XP7.cell 0 _ rfl; have xp1 := XP7.cell 1 _ rfl; have xp2 := XP7.cell 2 _ rfl; have xf0 := XP7.frozen 0; have xf1 := XP7.frozen 1; have xf2 := XP7.frozen 2; have xl := XP7.lt; clear XP7)))
              all_goals (go_wp2_with fail; go_meet)
              all_goals (first | exact ⟨w7.heap.size, ta, tb, tc, td, te, tf, rfl, rfl, rfl, bx_past (XP_66.out.keep hb7) _, (Ro_66.out.below hb7).alloc _, (Rp1_66.out.below hb7).alloc _, (Rp2_66.out.below hb7).alloc _, bx_new w7 _ _, ht1.alloc _, ht2.alloc _, (HB_66.out.trans (hb7.mono HB_66.out.size)).alloc (Nat.le_trans HB_66.out.size hb7.size) _, hb7.size⟩ | exact ⟨V4.heap.size, ta, tb, tc, td, te, tf, rfl, rfl, rfl, XP_66.out.keep (below_put3 hb7 (Nat.le_refl _) _ _ _), Ro_66.out.below (below_put3 hb7 (Nat.le_refl _) _ _ _), Rp1_66.out.below (below_put3 hb7 (Nat.le_refl _) _ _ _), Rp2_66.out.below (below_put3 hb7 (Nat.le_refl _) _ _ _), Bx.put3 ((bx_new V4 #[.bool false, .slice none 0 0, .slice none 0 0] 90).drew.keep hu7) _ _ _, ht1.put3 ((bx_new V4 #[.bool false, .slice none 0 0, .slice none 0 0] 90).drew.keep hu7) (by decide) _ _ _, ht2.put3 ((bx_new V4 #[.bool false, .slice none 0 0, .slice none 0 0] 90).drew.keep hu7) (by decide) _ _ _, below_put3 (HB_66.out.trans (hb7.mono HB_66.out.size)) HB_66.out.size _ _ _, Nat.le_refl _⟩)
            case rest =>
              obtain ⟨PBt, ta, tb, tc, td, te, tf, rfl, rfl, rfl, XP_69, Ro_69, Rp1_69, Rp2_69, XtB_69, Rt1_69, Rt2_69, HB_69, lePBt⟩ := hcut
              clear SK KC XP_66 Ro_66 Rp1_66 Rp2_66 HB_66
              have SMt := hid (show Sm (totF d.us s.rt k d.n) 47 from HSR.out.mono hn4)
              have lt1 := Rt1_69.out.sm1 SMt.out
              have lt2 := Rt2_69.out.sm2 SMt.out
              have ltP := XP_69.out.lt
              have cP0 := XP_69.out.cell 0 _ rfl
              have cP1 := XP_69.out.cell 1 _ rfl
              have cP2 := XP_69.out.cell 2 _ rfl
              have lttB := XtB_69.out.lt
              have ctB0 := XtB_69.out.cell 0 _ rfl
              have ctB1 := XtB_69.out.cell 1 _ rfl
              have ctB2 := XtB_69.out.cell 2 _ rfl
              by_cases hz : totF d.us s.rt k d.n = 0
              · have HZ := hid hz
                have HZR := hid (isZ_of hz)
                clear hz
                go_wp2_with fail
                clear ltP cP0 cP1 cP2 lttB ctB0 ctB1 ctB2
                refine (rdiv_no pa pd ta td pb pc pe pf tb tc te tf (d.room k - totF d.us s.ts k d.n) (totF d.us s.rt k d.n) _ Rp1_69.out Rp2_69.out Rt1_69.out Rt2_69.out (by omega) (by omega) (by omega) (by omega) HZR.out).mono ?_
                rintro e69 w69 ⟨rfl, hb69⟩
                have XP_70 := hid (XP_69.out.keep hb69)
                have XtB_70 := hid (XtB_69.out.keep hb69)
                have Ro_70 := hid (Ro_69.out.below hb69)
                have Rp1_70 := hid (Rp1_69.out.below hb69)
                have Rp2_70 := hid (Rp2_69.out.below hb69)
                have Rt1_70 := hid (Rt1_69.out.below hb69)
                have Rt2_70 := hid (Rt2_69.out.below hb69)
                have HB_70 : Hid (Below w.heap.size w w69) := HB_69.out.trans (hb69.mono HB_69.out.size)
                clear XP_69 XtB_69 Ro_69 Rp1_69 Rp2_69 Rt1_69 Rt2_69 HB_69
                clear hb69
                have E : skL d s (suL d s d.n) (k + 1) = skL d s (suL d s d.n) k := by simp only [skL]; rw [if_pos HZ.out]
                have HE := hid E; clear E
                go_wp2
                go_roundg (d.kk - (k + 1))
                case measure => omega
                case rel => exact ⟨k + 1, _, rfl, rfl, by omega, by go_num, by rw [HE.out]; exact Ro_70.out.alloc _, HB_70.out.alloc HB_70.out.size _⟩
              · have HZ := hid hz
                clear hz
                go_wp2_with fail
                clear ltP cP0 cP1 cP2 lttB ctB0 ctB1 ctB2
                refine (rdiv_yes pa pd ta td pb pc pe pf tb tc te tf (d.room k - totF d.us s.ts k d.n) (totF d.us s.rt k d.n) _ Rp1_69.out Rp2_69.out Rt1_69.out Rt2_69.out (by omega) (by omega) (by omega) (by omega) HZ.out).mono ?_
                rintro e69 w69 ⟨v69, rfl, ⟨qa, qb, qc, qd, qe, qf, rfl, hq1, hq2⟩, hb69⟩
                have XP_70 := hid (XP_69.out.keep hb69)
                have XtB_70 := hid (XtB_69.out.keep hb69)
                have Ro_70 := hid (Ro_69.out.below hb69)
                have Rp1_70 := hid (Rp1_69.out.below hb69)
                have Rp2_70 := hid (Rp2_69.out.below hb69)
                have Rt1_70 := hid (Rt1_69.out.below hb69)
                have Rt2_70 := hid (Rt2_69.out.below hb69)
                have HB_70 : Hid (Below w.heap.size w w69) := HB_69.out.trans (hb69.mono HB_69.out.size)
                clear XP_69 XtB_69 Ro_69 Rp1_69 Rp2_69 Rt1_69 Rt2_69 HB_69
                clear hb69
                have Rq1_70 := hid hq1
                have Rq2_70 := hid hq2
                have SMq := hid (show Sm ((d.room k - totF d.us s.ts k d.n) / totF d.us s.rt k d.n) 433 from (SR.out.sub (HST.out.mono hn60)).div (HSR.out.mono hn4) HZ.out)
                clear hq1 hq2
                have XP_71 := hid (bx_past XP_70.out (.cells #[.bool (negB ((d.room k - totF d.us s.ts k d.n) / totF d.us s.rt k d.n)), .slice qa qb qc, .slice qd qe qf] 90))
                have XtB_71 := hid (bx_past XtB_70.out (.cells #[.bool (negB ((d.room k - totF d.us s.ts k d.n) / totF d.us s.rt k d.n)), .slice qa qb qc, .slice qd qe qf] 90))
                have XQ_71 := hid (bx_new w69 #[.bool (negB ((d.room k - totF d.us s.ts k d.n) / totF d.us s.rt k d.n)), .slice qa qb qc, .slice qd qe qf] 90)
                have Ro_71 := hid (Ro_70.out.alloc (.cells #[.bool (negB ((d.room k - totF d.us s.ts k d.n) / totF d.us s.rt k d.n)), .slice qa qb qc, .slice qd qe qf] 90))
                have Rp1_71 := hid (Rp1_70.out.alloc (.cells #[.bool (negB ((d.room k - totF d.us s.ts k d.n) / totF d.us s.rt k d.n)), .slice qa qb qc, .slice qd qe qf] 90))
                have Rp2_71 := hid (Rp2_70.out.alloc (.cells #[.bool (negB ((d.room k - totF d.us s.ts k d.n) / totF d.us s.rt k d.n)), .slice qa qb qc, .slice qd qe qf] 90))
                have Rt1_71 := hid (Rt1_70.out.alloc (.cells #[.bool (negB ((d.room k - totF d.us s.ts k d.n) / totF d.us s.rt k d.n)), .slice qa qb qc, .slice qd qe qf] 90))
                have Rt2_71 := hid (Rt2_70.out.alloc (.cells #[.bool (negB ((d.room k - totF d.us s.ts k d.n) / totF d.us s.rt k d.n)), .slice qa qb qc, .slice qd qe qf] 90))
                have Rq1_71 := hid (Rq1_70.out.alloc (.cells #[.bool (negB ((d.room k - totF d.us s.ts k d.n) / totF d.us s.rt k d.n)), .slice qa qb qc, .slice qd qe qf] 90))
                have Rq2_71 := hid (Rq2_70.out.alloc (.cells #[.bool (negB ((d.room k - totF d.us s.ts k d.n) / totF d.us s.rt k d.n)), .slice qa qb qc, .slice qd qe qf] 90))
                have HB_71 : Hid (Below w.heap.size w (w69.alloc (.cells #[.bool (negB ((d.room k - totF d.us s.ts k d.n) / totF d.us s.rt k d.n)), .slice qa qb qc, .slice qd qe qf] 90))) := HB_70.out.alloc HB_70.out.size (.cells #[.bool (negB ((d.room k - totF d.us s.ts k d.n) / totF d.us s.rt k d.n)), .slice qa qb qc, .slice qd qe qf] 90)
                have leQ : w.heap.size ≤ w69.heap.size := HB_70.out.size
                clear XP_70 XtB_70 Ro_70 Rp1_70 Rp2_70 Rt1_70 Rt2_70 Rq1_70 Rq2_70 HB_70
                have ap0 := (bx_new (w69.alloc (.cells #[.bool (negB ((d.room k - totF d.us s.ts k d.n) / totF d.us s.rt k d.n)), .slice qa qb qc, .slice qd qe qf] 90)) #[.bool (negB ((d.room k - totF d.us s.ts k d.n) / totF d.us s.rt k d.n)), .slice qa qb qc, .slice qd qe qf] 90).cell 0 _ rfl
                rw [World.size_alloc] at ap0
                have ap1 := (bx_new (w69.alloc (.cells #[.bool (negB ((d.room k - totF d.us s.ts k d.n) / totF d.us s.rt k d.n)), .slice qa qb qc, .slice qd qe qf] 90)) #[.bool (negB ((d.room k - totF d.us s.ts k d.n) / totF d.us s.rt k d.n)), .slice qa qb qc, .slice qd qe qf] 90).cell 1 _ rfl
                rw [World.size_alloc] at ap1
                have ap2 := (bx_new (w69.alloc (.cells #[.bool (negB ((d.room k - totF d.us s.ts k d.n) / totF d.us s.rt k d.n)), .slice qa qb qc, .slice qd qe qf] 90)) #[.bool (negB ((d.room k - totF d.us s.ts k d.n) / totF d.us s.rt k d.n)), .slice qa qb qc, .slice qd qe qf] 90).cell 2 _ rfl
                rw [World.size_alloc] at ap2
                have leW : w.heap.size ≤ ((w69.alloc (.cells #[.bool (negB ((d.room k - totF d.us s.ts k d.n) / totF d.us s.rt k d.n)), .slice qa qb qc, .slice qd qe qf] 90)).alloc (.cells #[.bool (negB ((d.room k - totF d.us s.ts k d.n) / totF d.us s.rt k d.n)), .slice qa qb qc, .slice qd qe qf] 90)).heap.size := by have := HB_71.out.size; simp only [World.size_alloc] at this ⊢; omega
                go_wp2_with (at_builtin; refine wpList_append_fra _ rfl _ _ rfl w.heap.size _ (skL d s (suL d s d.n) k) ⟨w69.heap.size + 1, 0, none⟩ 1 ((d.room k - totF d.us s.ts k d.n) / totF d.us s.rt k d.n) qa qb qc qd qe qf rfl rfl (Ro_71.out.alloc _) ap0 ap1 ap2 (Rq1_71.out.alloc _) (Rq2_71.out.alloc _) (by omega) leW ?_)
                intro v' w' hO2 hB2
                have HO2 := hid hO2
                have HB2 : Hid (Below w.heap.size w w') := (HB_71.out.alloc HB_71.out.size _).trans hB2
                clear hO2 hB2
                have E : skL d s (suL d s d.n) (k + 1) = skL d s (suL d s d.n) k ++ [(d.room k - totF d.us s.ts k d.n) / totF d.us s.rt k d.n] := by simp only [skL]; rw [if_neg HZ.out]
                have HE := hid E; clear E
                go_wp2
                go_roundg (d.kk - (k + 1))
                case measure => omega
                case rel => exact ⟨k + 1, _, rfl, rfl, by omega, by go_num, by rw [HE.out]; exact HO2.out, HB2.out⟩
        · obtain rfl : k = d.kk := by omega
          go_wp2
          go_ret
          exact ⟨_, rfl, hO.out, hB.out⟩

end Go.Proofs.YtigokanoflkinaaGreatDoor
