/- portionkeep.Alone. (Laid by mkalo.py.) -/
import Derived.Test.YtigokanoflkinabDoorKAloA
import Derived.Deep.RegionHeld3
import Derived.Deep.DeepCutAuto
namespace Go.Proofs.YtigokanoflkinabDoor
set_option linter.unusedSimpArgs false
set_option linter.unusedVariables false
open Go.RowKit Por

set_option maxHeartbeats 40000000 in
set_option maxRecDepth 20000 in
theorem alone_any (po : Option Addr) (pn pc : Nat) (pool : List Int) (ao : Option Addr) (n cap : Nat) (us : List Usr) (w : World) (hp : Arr w 1 po pn pc (ints pool)) (hu : Users w ao n cap us) (ht : Tab w) :
    Calls Tryd.prog 3 #[.slice po pn pc, .slice ao n cap] w fun e w' => e = .returned (.bool true) ∧ Below w.heap.size w w' := by
  have hpl := hp.len
  rw [ints_len] at hpl
  have hul := hu.1
  subst hpl
  subst hul
  have HP := hid hp
  have HU := hid hu
  have HT := hid ht
  clear hp hu ht
  go_enter Tryd.func3, Tryd.ntmps3
  go_wp2_with fail
  refine (ask_any po pool.length pc pool ao us.length cap us _ HP.out HU.out HT.out).mono ?_
  rintro e1 w1 hask
  unfold AskEnd at hask
  by_cases he : errOf pool us = 0
  · rw [if_pos he] at hask
    obtain ⟨g, d, rfl, hsol⟩ := hask
    obtain ⟨hpb, hn6, hgood, hpa, hp1, hp4⟩ := errOf_zero he
    have HG := hid hgood
    have HPA := hid hpa
    have HSH := hid hsol.sh
    have HB1 := hid hsol.bel
    have hsl := hsol.sh.lt
    clear hgood hpa hpb he hsol
    have HDG : Hid (∀ i, i < us.length → Dg ((endS pool us).ts i) 128) := fun i hi => due_dg HG.out HPA.out hn6 hp4 hi
    have HU1 := hid (HU.out.below HB1.out)
    have HP1 := hid (HP.out.below HB1.out)
    have HT1 := hid (HT.out.of HB1.out)
    have HK0 := hid (bx_new w1 #[.bool false] 29)
    have HB0 := hid ((Below.refl w1.heap.size w1).alloc (Nat.le_refl _) (.cells #[.bool false] 29))
    go_wp2
    go_loopg [9, 10] us.length (fun gg sm ix wr => ∃ k : Nat, gg = us.length - k ∧ k ≤ us.length ∧ ix = .int .i64 k ∧ sm = .int .i64 (wsum us k) ∧ Hid (Below w1.heap.size w1 wr) ∧ Hid (Bx wr w1.heap.size #[.bool false] 29))
    case atStart => exact ⟨0, rfl, Nat.zero_le _, rfl, rfl, HB0.out, HK0.out⟩
    case round =>
      clear HK0 HB0
      obtain ⟨k, hgk, hk, rfl, rfl, hB, hK⟩ := hrel
      have hrg := wsum_rng HG.out k hk
      by_cases hlt : k < us.length
      · obtain ⟨ub, uo, da, dn, dc, hao, hbl, a0, a1, a2, hd⟩ := (HU1.out.below hB.out).get hlt
        subst hao
        have hw := HG.out.wt hlt
        have hkn : (k : Int) < (us.length : Int) := by omega
        have hst : wsum us (k + 1) = wsum us k + (ug us k).wt := rfl
        have HST := hid hst
        clear hst hd a0 a2
        generalize hx : (ug us k).wt = x at a1 hw
        have HXW := hid hx
        clear hx
        generalize hs : wsum us k = t at hrg
        have HTS := hid hs
        clear hs
        go_wp2
        go_roundg (us.length - (k + 1))
        case measure => omega
        case rel => exact ⟨k + 1, rfl, by omega, by go_num, by rw [HST.out, HXW.out, HTS.out], hB.out, hK.out⟩
      · obtain rfl : k = us.length := by omega
        have HWS := hid hrg
        generalize hws : wsum us us.length = ws at hrg
        have HEW := hid hws
        clear hws
        have hB0 := hB
        have hK0 := hK
        go_wp2
        go_loopg [11] us.length (fun gg ix wr => ∃ k : Nat, gg = us.length - k ∧ k ≤ us.length ∧ ix = .int .i64 k ∧ Hid (Below w1.heap.size w1 wr) ∧ Hid (Bx wr w1.heap.size #[.bool false] 29))
        case atStart => exact ⟨0, rfl, Nat.zero_le _, rfl, hB0.out, hK0.out⟩
        case round =>
          clear hB hK hB0 hK0 hk
          obtain ⟨k, hgk, hk, rfl, hB, hK⟩ := hrel
          by_cases hlt : k < us.length
          · have hkn : (k : Int) < (us.length : Int) := by omega
            obtain ⟨ub, uo, hao, hubl⟩ : ∃ b o, ao = some ⟨b, o, none⟩ ∧ b < w1.heap.size := by obtain ⟨b, o, da, dn, dc, h1, h2, _⟩ := HU1.out.get hlt; exact ⟨b, o, h1, h2⟩
            subst hao
            have hB0 := hB
            have hK0 := hK
            go_wp2
            go_loopg [12, 13] pool.length (fun gg s9 ix wr => ∃ (r : Nat) (v9 : Value), v9 = s9 ∧ gg = pool.length - r ∧ r ≤ pool.length ∧ ix = .int .i64 r ∧ Hid (TO (w1.heap.size + 1) wr v9 (partL pool (ug us k).wt ws r)) ∧ Hid (Below w1.heap.size w1 wr) ∧ Hid (Bx wr w1.heap.size #[.bool false] 29))
            case atStart => exact ⟨0, _, rfl, rfl, Nat.zero_le _, rfl, TO.nil _ _, hB0.out, hK0.out⟩
            case round =>
              clear hB hK hB0 hK0
              obtain ⟨r, v9, rfl, hgr, hr, rfl, hO, hB, hK⟩ := hrel
              have hol := partL_len pool (ug us k).wt ws r
              by_cases hrt : r < pool.length
              · obtain ⟨xb, xo, da, dn, dc, hao, hbl, a0, a1, a2, hd⟩ := (HU1.out.below hB.out).get hlt
                cases hao
                clear hd
                obtain ⟨pb, pof, hpo, hpbl⟩ := (HP1.out.below hB.out).head (by omega)
                have c0 := (HP1.out.below hB.out).int hpo hrt
                have hpr := amt_rng (HPA.out r)
                have hwt := HG.out.wt hlt
                have hmr := mul_rng hpr hwt
                have hrd : (r : Int) < (pool.length : Int) := by omega
                subst hpo
                generalize hx : lm pool r = x at c0 hpr hmr
                generalize hy : (ug us k).wt = y at a1 hwt hmr
                have HXE := hid hx
                have HYE := hid hy
                clear hx hy
                obtain ⟨hm0, hm1⟩ := hmr
                have HE : Hid ((partL pool (ug us k).wt ws (r + 1)) = (partL pool (ug us k).wt ws r) ++ [fr (x * y) ws]) := by rw [← HXE.out, ← HYE.out]; rfl
                go_upto_region 17 with fail
                have SK : Hid (∀ U, Below wr.heap.size wr U → U.cell? ⟨pb, pof + r, none⟩ = some (.int .i64 x) ∧ U.cell? ⟨ub, uo + k * 3 + 1, none⟩ = some (.int .i64 y)) := fun U h => ⟨(h.cell (p := ⟨pb, pof + r, none⟩) hpbl).trans c0, (h.cell (p := ⟨ub, uo + k * 3 + 1, none⟩) hbl).trans a1⟩
                have KC : Hid (∀ U, Below wr.heap.size wr U → Calls Tryd.prog 6 #[.pointer (some ⟨w1.heap.size, 0, none⟩), .int .i64 (IntKind.i64.wrap (x * y)), .int .i64 ws] U (fun e w' => e = .returned (.string ⟨(txt (fr (x * y) ws)).toArray⟩) ∧ Below wr.heap.size wr w')) := fun U hU => (of_wrap (.pointer (some ⟨w1.heap.size, 0, none⟩)) (x * y) ws U (by omega) (by omega) (by omega) (by omega) (HT1.out.of (hB.out.trans (hU.mono hB.out.size)))).mono (fun e w' ⟨h1, h3⟩ => ⟨h1, hU.trans (h3.mono hU.size)⟩)
                have dc0 : wr.drew.cell? ⟨pb, pof + r, none⟩ = some (.int .i64 x) := ((Below.refl wr.heap.size wr).drew.cell (p := ⟨pb, pof + r, none⟩) hpbl).trans c0
                have da1 : wr.drew.cell? ⟨ub, uo + k * 3 + 1, none⟩ = some (.int .i64 y) := ((Below.refl wr.heap.size wr).drew.cell (p := ⟨ub, uo + k * 3 + 1, none⟩) hbl).trans a1
                go_region_held3 (fun w' => w'.cell? ⟨pb, pof + r, none⟩ = some (.int .i64 x) ∧ w'.cell? ⟨ub, uo + k * 3 + 1, none⟩ = some (.int .i64 y)) (first | exact SK.out _ (Below.refl _ _).drew | exact SK.out _ hb61g)
                  (first | (go_at_call 6; refine (KC.out _ ?hU).mono ?_; (case hU => exact (Below.refl _ _).drew); rintro e61g w61g ⟨rfl, hb61g⟩))
                clear SK KC dc0 da1
                have XK_62 := hid (hK.out.keep hb61g)
                have Ro_62 := hid (hO.out.below hb61g)
                have HB_62 : Hid (Below w1.heap.size w1 w61g) := hB.out.trans (hb61g.mono hB.out.size)
                clear hK hO hB
                clear hb61g
                clear a0 a1 a2 c0
                have leW : w1.heap.size < w61g.heap.size := XK_62.out.lt
                go_wp2_with (at_builtin; refine wpList_append_txt _ rfl _ _ rfl (w1.heap.size + 1) _ (partL pool (ug us k).wt ws r) ⟨w61g.heap.size, 0, none⟩ 1 (fr (x * y) ws) rfl rfl (Ro_62.out.alloc _) ((bx_new w61g #[.string ⟨(txt (fr (x * y) ws)).toArray⟩] 9).cell 0 _ rfl) (by omega) (by simp only [World.size_alloc]; omega) ?_)
                intro v' w' hO2 hB2
                have HO2 := hid hO2
                have HB2 : Hid (Below w1.heap.size w1 w') := (HB_62.out.alloc HB_62.out.size _).trans (hB2.mono (by omega))
                have HK2 : Hid (Bx w' w1.heap.size #[.bool false] 29) := (bx_past XK_62.out _).below hB2 (by omega)
                clear hO2 hB2
                go_wp2
                go_roundg (pool.length - (r + 1))
                case measure => omega
                case rel => exact ⟨r + 1, _, rfl, rfl, by omega, by go_num, by rw [HE.out]; exact HO2.out, HB2.out, HK2.out⟩
              · obtain rfl : r = pool.length := by omega
                obtain ⟨vo, vc, rfl, har⟩ := hO.out.arr
                rw [hol] at har
                have HAR := hid har
                clear har hO
                obtain ⟨xb, xo, daa, dna, dca, hao, hbl, a0, a1, a2, hd⟩ := (HU1.out.below hB.out).get hlt
                cases hao
                have hdl := hd.len
                rw [ints_len, HG.out.len hlt] at hdl
                have HDL := hid hdl
                have HD := hid hd
                clear hdl hd
                obtain ⟨ash, ash1, ash2⟩ := (HSH.out.below hB.out).cells hlt
                have asl := (HSH.out.below hB.out).lt
                have HPT : Hid (∀ r, r < (partL pool (ug us k).wt ws pool.length).length → Dg (rq (partL pool (ug us k).wt ws pool.length) r) 10 ∧ 0 ≤ rq (partL pool (ug us k).wt ws pool.length) r) := by have h9 := part_all HG.out HPA.out hn6 hlt; rw [HEW.out] at h9; exact h9
                have HUF : Hid (usefulOf (ug us k) ((partL pool (ug us k).wt ws pool.length).map tb) = (txt (useQ (ug us k) (rq (partL pool (ug us k).wt ws pool.length)) pool.length), 0)) := by have h9 := useful_map (u := ug us k) (l := (partL pool (ug us k).wt ws pool.length)) (k := 10) (fun r hr => (HPT.out r hr).1) (by omega) (by omega) (fun r hr => (HPT.out r hr).2) (by rw [partL_len]; omega) (by rw [partL_len]; omega) (by rw [partL_len]; exact HG.out k hlt); rw [partL_len] at h9; exact h9
                have HMD : Hid (Dg (useQ (ug us k) (rq (partL pool (ug us k).wt ws pool.length)) pool.length) 15) := useQ_dg (fun r hr => (HPT.out r (by rw [partL_len]; exact hr)).1) (HG.out.dem hlt) (HG.out.cap hlt) (by omega)
                have HLE : Hid ((useQ (ug us k) (rq (partL pool (ug us k).wt ws pool.length)) pool.length) ≤ ((endS pool us).ts k)) := by have h9 := use_alone HG.out HPA.out hlt; rw [HEW.out] at h9; exact h9
                have HTX := hid (tx_size (l := (partL pool (ug us k).wt ws pool.length)) (k := 10) (fun r hr => (HPT.out r hr).1) (by omega) (by omega))
                have HDT : Hid (decide ((useQ (ug us k) (rq (partL pool (ug us k).wt ws pool.length)) pool.length) ≤ ((endS pool us).ts k)) = true) := decide_eq_true HLE.out
                go_upto_region 19 with fail
                have SK : Hid (∀ U, Below wr.heap.size wr U → U.cell? ⟨ub, uo + k * 3, none⟩ = some (.slice daa dna dca) ∧ U.cell? ⟨ub, uo + k * 3 + 1, none⟩ = some (.int .i64 (ug us k).wt) ∧ U.cell? ⟨ub, uo + k * 3 + 2, none⟩ = some (.int .i64 (ug us k).cap) ∧ U.cell? ⟨g, k * 3, none⟩ = some (.string ⟨(txt (((endS pool us).ts k))).toArray⟩)) := fun U h => ⟨(h.cell (p := ⟨ub, uo + k * 3, none⟩) hbl).trans a0, (h.cell (p := ⟨ub, uo + k * 3 + 1, none⟩) hbl).trans a1, (h.cell (p := ⟨ub, uo + k * 3 + 2, none⟩) hbl).trans a2, (h.cell (p := ⟨g, k * 3, none⟩) asl).trans ash⟩
                have KC : Hid (∀ U, Below wr.heap.size wr U → Calls Tryd.prog 7 #[.pointer (some ⟨w1.heap.size, 0, none⟩), .agg #[.slice daa dna dca, .int .i64 (ug us k).wt, .int .i64 (ug us k).cap], .slice vo pool.length vc, .string ⟨(txt (((endS pool us).ts k))).toArray⟩] U (fun e w' => e = .returned (.bool true) ∧ Below wr.heap.size wr w')) := fun U hU => (atMost_any (.pointer (some ⟨w1.heap.size, 0, none⟩)) daa dna dca (ug us k) vo pool.length vc ((partL pool (ug us k).wt ws pool.length).map tb) (useQ (ug us k) (rq (partL pool (ug us k).wt ws pool.length)) pool.length) ((endS pool us).ts k) 15 128 U (HD.out.below hU) (HAR.out.below hU) HTX.out HUF.out HMD.out (HDG.out k hlt) (by omega) (by omega) (by omega) (by omega) (HT1.out.of (hB.out.trans (hU.mono hB.out.size)))).mono (fun e w' ⟨h1, h3⟩ => ⟨h1.trans (by rw [HDT.out]), hU.trans (h3.mono hU.size)⟩)
                have da0 : wr.drew.cell? ⟨ub, uo + k * 3, none⟩ = some (.slice daa dna dca) := ((Below.refl wr.heap.size wr).drew.cell (p := ⟨ub, uo + k * 3, none⟩) hbl).trans a0
                have da1 : wr.drew.cell? ⟨ub, uo + k * 3 + 1, none⟩ = some (.int .i64 (ug us k).wt) := ((Below.refl wr.heap.size wr).drew.cell (p := ⟨ub, uo + k * 3 + 1, none⟩) hbl).trans a1
                have da2 : wr.drew.cell? ⟨ub, uo + k * 3 + 2, none⟩ = some (.int .i64 (ug us k).cap) := ((Below.refl wr.heap.size wr).drew.cell (p := ⟨ub, uo + k * 3 + 2, none⟩) hbl).trans a2
                have dash : wr.drew.cell? ⟨g, k * 3, none⟩ = some (.string ⟨(txt (((endS pool us).ts k))).toArray⟩) := ((Below.refl wr.heap.size wr).drew.cell (p := ⟨g, k * 3, none⟩) asl).trans ash
                go_region_held3 (fun w' => w'.cell? ⟨ub, uo + k * 3, none⟩ = some (.slice daa dna dca) ∧ w'.cell? ⟨ub, uo + k * 3 + 1, none⟩ = some (.int .i64 (ug us k).wt) ∧ w'.cell? ⟨ub, uo + k * 3 + 2, none⟩ = some (.int .i64 (ug us k).cap) ∧ w'.cell? ⟨g, k * 3, none⟩ = some (.string ⟨(txt (((endS pool us).ts k))).toArray⟩)) (first | exact SK.out _ (Below.refl _ _).drew | exact SK.out _ hb81g)
                  (first | (go_at_call 7; refine (KC.out _ ?hU).mono ?_; (case hU => exact (Below.refl _ _).drew); rintro e81g w81g ⟨rfl, hb81g⟩))
                clear SK KC da0 da1 da2 dash
                have XK_82 := hid (hK.out.keep hb81g)
                have Rua_82 := hid (HD.out.below hb81g)
                have Rlx_82 := hid (HAR.out.below hb81g)
                have HB_82 : Hid (Below w1.heap.size w1 w81g) := hB.out.trans (hb81g.mono hB.out.size)
                clear hK HD HAR hB
                clear hb81g
                clear a0 a1 a2 ash ash1 ash2
                go_wp2
                go_roundg (us.length - (k + 1))
                case measure => omega
                case rel => exact ⟨k + 1, rfl, by omega, by go_num, HB_82.out, XK_82.out⟩
          · obtain rfl : k = us.length := by omega
            have ltK := hK.out.lt
            have cK0 := hK.out.cell 0 _ rfl
            go_wp2
            go_ret
            exact ⟨rfl, HB1.out.trans (hB.out.mono HB1.out.size)⟩
  · rw [if_neg he] at hask
    obtain ⟨rfl, hb1⟩ := hask
    have HB1 := hid hb1
    clear hb1
    go_wp2
    go_ret
    exact ⟨rfl, HB1.out⟩

end Go.Proofs.YtigokanoflkinabDoor
