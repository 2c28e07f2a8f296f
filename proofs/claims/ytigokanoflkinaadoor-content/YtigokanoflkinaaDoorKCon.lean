/- portionkeep.Content: no envy. (Laid by mkcon.py.) -/
import Derived.Test.YtigokanoflkinaaDoorKConA
import Derived.Deep.RegionHeld3
import Derived.Deep.DeepCutAuto
namespace Go.Proofs.YtigokanoflkinaaDoor
set_option linter.unusedSimpArgs false
set_option linter.unusedVariables false
open Go.RowKit Por

set_option maxHeartbeats 40000000 in
set_option maxRecDepth 20000 in
theorem content_any (po : Option Addr) (pn pc : Nat) (pool : List Int) (ao : Option Addr) (n cap : Nat) (us : List Usr) (w : World) (hp : Arr w 1 po pn pc (ints pool)) (hu : Users w ao n cap us) (ht : Tab w) :
    Calls Tryd.prog 9 #[.slice po pn pc, .slice ao n cap] w fun e w' => e = .returned (.bool true) ∧ Below w.heap.size w w' := by
  have hpl := hp.len
  rw [ints_len] at hpl
  have hul := hu.1
  subst hpl
  subst hul
  have HP := hid hp
  have HU := hid hu
  have HT := hid ht
  clear hp hu ht
  go_enter Tryd.func9, Tryd.ntmps9
  go_wp2_with fail
  refine (ask_any po pool.length pc pool ao us.length cap us _ HP.out HU.out HT.out).mono ?_
  rintro e1 w1 hask
  unfold AskEnd at hask
  by_cases he : errOf pool us = 0
  · rw [if_pos he] at hask
    obtain ⟨g, d, rfl, hsol⟩ := hask
    obtain ⟨hpb, hn6, hgood, hpa, hp1, hp4⟩ := errOf_zero he
    have HG := hid hgood
    have HPA := hid hpa
    have HSH := hid hsol.sh
    have HB1 := hid hsol.bel
    have hsl := hsol.sh.lt
    clear hgood hpa hpb he hsol
    have HDG : Hid (∀ i, i < us.length → Dg ((endS pool us).ts i) 128) := fun i hi => due_dg HG.out HPA.out hn6 hp4 hi
    have HX0 : Hid (∀ i, i < us.length → 0 ≤ ((endS pool us).ts i)) := fun i hi => (endS_fair HG.out HPA.out).1.low i hi
    have HU1 := hid (HU.out.below HB1.out)
    have HT1 := hid (HT.out.of HB1.out)
    have HK0 := hid (bx_new w1 #[.bool false] 49)
    have HB0 := hid ((Below.refl w1.heap.size w1).alloc (Nat.le_refl _) (.cells #[.bool false] 49))
    go_wp2
    go_loopg [9] us.length (fun gg ix wr => ∃ k : Nat, gg = us.length - k ∧ k ≤ us.length ∧ ix = .int .i64 k ∧ Hid (Below w1.heap.size w1 wr) ∧ Hid (Bx wr w1.heap.size #[.bool false] 49))
    case atStart => exact ⟨0, rfl, Nat.zero_le _, rfl, HB0.out, HK0.out⟩
    case round =>
      clear HK0 HB0
      obtain ⟨k, hgk, hk, rfl, hB, hK⟩ := hrel
      by_cases hlt : k < us.length
      · have hkn : (k : Int) < (us.length : Int) := by omega
        obtain ⟨ub, uo, hao, hubl⟩ : ∃ b o, ao = some ⟨b, o, none⟩ ∧ b < w1.heap.size := by obtain ⟨b, o, da, dn, dc, h1, h2, _⟩ := HU1.out.get hlt; exact ⟨b, o, h1, h2⟩
        subst hao
        go_wp2
        go_loopg [10] us.length (fun gg ix wr => ∃ j : Nat, gg = us.length - j ∧ j ≤ us.length ∧ ix = .int .i64 j ∧ Hid (Below w1.heap.size w1 wr) ∧ Hid (Bx wr w1.heap.size #[.bool false] 49))
        case atStart => exact ⟨0, rfl, Nat.zero_le _, rfl, hB.out, hK.out⟩
        case round =>
          clear hB hK
          obtain ⟨j, hgj, hj, rfl, hB, hK⟩ := hrel
          by_cases hjt : j < us.length
          · have hjn : (j : Int) < (us.length : Int) := by omega
            go_upto_region 11 with fail
            obtain ⟨xb, xo, daa, dna, dca, haoa, hbla, a0, a1, a2, hda⟩ := (HU1.out.below hB.out).get hlt
            cases haoa
            have hdla := hda.len
            rw [ints_len, HG.out.len hlt] at hdla
            have HDLa := hid hdla
            have HDa := hid hda
            clear hdla hda
            obtain ⟨xb, xo, dab, dnb, dcb, haob, hblb, b0, b1, b2, hdb⟩ := (HU1.out.below hB.out).get hjt
            cases haob
            have hdlb := hdb.len
            rw [ints_len, HG.out.len hjt] at hdlb
            have HDLb := hid hdlb
            have HDb := hid hdb
            clear hdlb hdb
            have hwk := HG.out.wt hlt
            have hwj := HG.out.wt hjt
            have HFR := hid (fr_wt HG.out hlt hjt)
            have SK : Hid (∀ U, Below wr.heap.size wr U → U.cell? ⟨ub, uo + k * 3 + 1, none⟩ = some (.int .i64 (ug us k).wt) ∧ U.cell? ⟨ub, uo + j * 3 + 1, none⟩ = some (.int .i64 (ug us j).wt)) := fun U h => ⟨(h.cell (p := ⟨ub, uo + k * 3 + 1, none⟩) hbla).trans a1, (h.cell (p := ⟨ub, uo + j * 3 + 1, none⟩) hblb).trans b1⟩
            have KC : Hid (∀ U, Below wr.heap.size wr U → Calls Tryd.prog 31 #[.pointer (some ⟨w1.heap.size, 0, none⟩), .int .i64 (ug us k).wt, .int .i64 (ug us j).wt] U (fun e w' => e = .returned (.string ⟨(txt (fr (ug us k).wt (ug us j).wt)).toArray⟩) ∧ Below wr.heap.size wr w')) := fun U hU => (of_any (.pointer (some ⟨w1.heap.size, 0, none⟩)) (ug us k).wt (ug us j).wt U (by omega) (by omega) (by omega) (by omega) (HT1.out.of (hB.out.trans (hU.mono hB.out.size)))).mono (fun e w' ⟨h1, h3⟩ => ⟨h1, hU.trans (h3.mono hU.size)⟩)
            have da1 : wr.drew.cell? ⟨ub, uo + k * 3 + 1, none⟩ = some (.int .i64 (ug us k).wt) := ((Below.refl wr.heap.size wr).drew.cell (p := ⟨ub, uo + k * 3 + 1, none⟩) hbla).trans a1
            have db1 : wr.drew.cell? ⟨ub, uo + j * 3 + 1, none⟩ = some (.int .i64 (ug us j).wt) := ((Below.refl wr.heap.size wr).drew.cell (p := ⟨ub, uo + j * 3 + 1, none⟩) hblb).trans b1
            go_region_held3 (fun w' => w'.cell? ⟨ub, uo + k * 3 + 1, none⟩ = some (.int .i64 (ug us k).wt) ∧ w'.cell? ⟨ub, uo + j * 3 + 1, none⟩ = some (.int .i64 (ug us j).wt)) (first | exact SK.out _ (Below.refl _ _).drew | exact SK.out _ hb61g)
              (first | (go_at_call 31; refine (KC.out _ ?hU).mono ?_; (case hU => exact (Below.refl _ _).drew); rintro e61g w61g ⟨rfl, hb61g⟩))
            clear SK KC da1 db1
            have XK_62 := hid (hK.out.keep hb61g)
            have Rua_62 := hid (HDa.out.below hb61g)
            have Rub_62 := hid (HDb.out.below hb61g)
            have HB_62 : Hid (Below w1.heap.size w1 w61g) := hB.out.trans (hb61g.mono hB.out.size)
            clear hK HDa HDb hB
            clear hb61g
            clear a0 a1 a2 b0 b1 b2
            go_upto_region 12 with fail
            obtain ⟨xb, xo, dab, dnb, dcb, haob, hblb, b0, b1, b2, hdb⟩ := (HU1.out.below HB_62.out).get hjt
            cases haob
            have hdlb := hdb.len
            rw [ints_len, HG.out.len hjt] at hdlb
            have HDLb := hid hdlb
            have HDb := hid hdb
            clear hdlb hdb
            obtain ⟨bsh, bsh1, bsh2⟩ := (HSH.out.below HB_62.out).cells hjt
            have bsl := (HSH.out.below HB_62.out).lt
            have SK : Hid (∀ U, Below w61g.heap.size w61g U → U.cell? ⟨ub, uo + j * 3, none⟩ = some (.slice dab dnb dcb) ∧ U.cell? ⟨ub, uo + j * 3 + 1, none⟩ = some (.int .i64 (ug us j).wt) ∧ U.cell? ⟨ub, uo + j * 3 + 2, none⟩ = some (.int .i64 (ug us j).cap) ∧ U.cell? ⟨g, j * 3, none⟩ = some (.string ⟨(txt (((endS pool us).ts j))).toArray⟩)) := fun U h => ⟨(h.cell (p := ⟨ub, uo + j * 3, none⟩) hblb).trans b0, (h.cell (p := ⟨ub, uo + j * 3 + 1, none⟩) hblb).trans b1, (h.cell (p := ⟨ub, uo + j * 3 + 2, none⟩) hblb).trans b2, (h.cell (p := ⟨g, j * 3, none⟩) bsl).trans bsh⟩
            have KC : Hid (∀ U, Below w61g.heap.size w61g U → Calls Tryd.prog 48 #[.pointer (some ⟨w1.heap.size, 0, none⟩), .agg #[.slice dab dnb dcb, .int .i64 (ug us j).wt, .int .i64 (ug us j).cap], .string ⟨(txt (((endS pool us).ts j))).toArray⟩, .string ⟨(txt (fr (ug us k).wt (ug us j).wt)).toArray⟩] U (fun e w' => ∃ vo vc, e = .returned (.slice vo pool.length vc) ∧ Arr w' 1 vo pool.length vc (strs ((bunL ((endS pool us).ts j) (fr (ug us k).wt (ug us j).wt) (ug us j).dem pool.length).map tb)) ∧ Below w61g.heap.size w61g w')) := fun U hU => (bundle_any (.pointer (some ⟨w1.heap.size, 0, none⟩)) dab dnb dcb (ug us j) ((endS pool us).ts j) (fr (ug us k).wt (ug us j).wt) 128 6 U (HDb.out.below hU) (HG.out.dem hjt) (by have := HDLb.out; omega) (HDG.out j hjt) HFR.out.1 (by omega) (by omega) (by omega) (HT1.out.of (HB_62.out.trans (hU.mono HB_62.out.size)))).mono (fun e w' ⟨v, h1, h2, h3⟩ => by
        obtain ⟨vo, vc, rfl, har⟩ := h2.arr
        rw [show dnb = pool.length from HDLb.out.symm] at har h1
        rw [bunL_len] at har h1
        exact ⟨vo, vc, h1, har, hU.trans (h3.mono hU.size)⟩)
            have db0 : w61g.drew.cell? ⟨ub, uo + j * 3, none⟩ = some (.slice dab dnb dcb) := ((Below.refl w61g.heap.size w61g).drew.cell (p := ⟨ub, uo + j * 3, none⟩) hblb).trans b0
            have db1 : w61g.drew.cell? ⟨ub, uo + j * 3 + 1, none⟩ = some (.int .i64 (ug us j).wt) := ((Below.refl w61g.heap.size w61g).drew.cell (p := ⟨ub, uo + j * 3 + 1, none⟩) hblb).trans b1
            have db2 : w61g.drew.cell? ⟨ub, uo + j * 3 + 2, none⟩ = some (.int .i64 (ug us j).cap) := ((Below.refl w61g.heap.size w61g).drew.cell (p := ⟨ub, uo + j * 3 + 2, none⟩) hblb).trans b2
            have dbsh : w61g.drew.cell? ⟨g, j * 3, none⟩ = some (.string ⟨(txt (((endS pool us).ts j))).toArray⟩) := ((Below.refl w61g.heap.size w61g).drew.cell (p := ⟨g, j * 3, none⟩) bsl).trans bsh
            go_region_held3 (fun w' => w'.cell? ⟨ub, uo + j * 3, none⟩ = some (.slice dab dnb dcb) ∧ w'.cell? ⟨ub, uo + j * 3 + 1, none⟩ = some (.int .i64 (ug us j).wt) ∧ w'.cell? ⟨ub, uo + j * 3 + 2, none⟩ = some (.int .i64 (ug us j).cap) ∧ w'.cell? ⟨g, j * 3, none⟩ = some (.string ⟨(txt (((endS pool us).ts j))).toArray⟩)) (first | exact SK.out _ (Below.refl _ _).drew | exact SK.out _ hb63g)
              (first | (go_at_call 48; refine (KC.out _ ?hU).mono ?_; (case hU => exact (Below.refl _ _).drew); rintro e63g w63g ⟨vox, vcx, rfl, harx, hb63g⟩))
            clear SK KC db0 db1 db2 dbsh
            have XK_64 := hid (XK_62.out.keep hb63g)
            have Rub_64 := hid (HDb.out.below hb63g)
            have HB_64 : Hid (Below w1.heap.size w1 w63g) := HB_62.out.trans (hb63g.mono HB_62.out.size)
            clear XK_62 HDb HB_62
            clear hb63g
            have HARx := hid harx
            clear harx b0 b1 b2 bsh bsh1 bsh2
            go_upto_region 13 with fail
            obtain ⟨xb, xo, daa, dna, dca, haoa, hbla, a0, a1, a2, hda⟩ := (HU1.out.below HB_64.out).get hlt
            cases haoa
            have hdla := hda.len
            rw [ints_len, HG.out.len hlt] at hdla
            have HDLa := hid hdla
            have HDa := hid hda
            clear hdla hda
            obtain ⟨ash, ash1, ash2⟩ := (HSH.out.below HB_64.out).cells hlt
            have asl := (HSH.out.below HB_64.out).lt
            have HBD : Hid (∀ r, r < (bunL ((endS pool us).ts j) (fr (ug us k).wt (ug us j).wt) (ug us j).dem pool.length).length → Dg (rq (bunL ((endS pool us).ts j) (fr (ug us k).wt (ug us j).wt) (ug us j).dem pool.length) r) 139) := bun_dg (HDG.out j hjt) HFR.out.1 (HG.out.dem hjt)
            have HBN : Hid (∀ r, r < (bunL ((endS pool us).ts j) (fr (ug us k).wt (ug us j).wt) (ug us j).dem pool.length).length → 0 ≤ rq (bunL ((endS pool us).ts j) (fr (ug us k).wt (ug us j).wt) (ug us j).dem pool.length) r) := bun_nonneg (HX0.out j hjt) HFR.out.2 (HG.out.dem hjt)
            have HUF : Hid (usefulOf (ug us k) ((bunL ((endS pool us).ts j) (fr (ug us k).wt (ug us j).wt) (ug us j).dem pool.length).map tb) = (txt (useQ (ug us k) (rq (bunL ((endS pool us).ts j) (fr (ug us k).wt (ug us j).wt) (ug us j).dem pool.length)) pool.length), 0)) := by have h9 := useful_map (u := ug us k) HBD.out (by omega) (by omega) HBN.out (by rw [bunL_len]; omega) (by rw [bunL_len]; omega) (by rw [bunL_len]; exact HG.out k hlt); rw [bunL_len] at h9; exact h9
            have HMD : Hid (Dg (useQ (ug us k) (rq (bunL ((endS pool us).ts j) (fr (ug us k).wt (ug us j).wt) (ug us j).dem pool.length)) pool.length) 144) := useQ_dg (fun r hr => HBD.out r (by rw [bunL_len]; exact hr)) (HG.out.dem hlt) (HG.out.cap hlt) (by omega)
            have HLE : Hid ((useQ (ug us k) (rq (bunL ((endS pool us).ts j) (fr (ug us k).wt (ug us j).wt) (ug us j).dem pool.length)) pool.length) ≤ ((endS pool us).ts k)) := use_content HG.out HPA.out hlt hjt
            have HTX := hid (tx_size HBD.out (by omega) (by omega))
            have HDT : Hid (decide ((useQ (ug us k) (rq (bunL ((endS pool us).ts j) (fr (ug us k).wt (ug us j).wt) (ug us j).dem pool.length)) pool.length) ≤ ((endS pool us).ts k)) = true) := decide_eq_true HLE.out
            have SK : Hid (∀ U, Below w63g.heap.size w63g U → U.cell? ⟨ub, uo + k * 3, none⟩ = some (.slice daa dna dca) ∧ U.cell? ⟨ub, uo + k * 3 + 1, none⟩ = some (.int .i64 (ug us k).wt) ∧ U.cell? ⟨ub, uo + k * 3 + 2, none⟩ = some (.int .i64 (ug us k).cap) ∧ U.cell? ⟨g, k * 3, none⟩ = some (.string ⟨(txt (((endS pool us).ts k))).toArray⟩)) := fun U h => ⟨(h.cell (p := ⟨ub, uo + k * 3, none⟩) hbla).trans a0, (h.cell (p := ⟨ub, uo + k * 3 + 1, none⟩) hbla).trans a1, (h.cell (p := ⟨ub, uo + k * 3 + 2, none⟩) hbla).trans a2, (h.cell (p := ⟨g, k * 3, none⟩) asl).trans ash⟩
            have KC : Hid (∀ U, Below w63g.heap.size w63g U → Calls Tryd.prog 49 #[.pointer (some ⟨w1.heap.size, 0, none⟩), .agg #[.slice daa dna dca, .int .i64 (ug us k).wt, .int .i64 (ug us k).cap], .slice vox pool.length vcx, .string ⟨(txt (((endS pool us).ts k))).toArray⟩] U (fun e w' => e = .returned (.bool true) ∧ Below w63g.heap.size w63g w')) := fun U hU => (atMost_any (.pointer (some ⟨w1.heap.size, 0, none⟩)) daa dna dca (ug us k) vox pool.length vcx ((bunL ((endS pool us).ts j) (fr (ug us k).wt (ug us j).wt) (ug us j).dem pool.length).map tb) (useQ (ug us k) (rq (bunL ((endS pool us).ts j) (fr (ug us k).wt (ug us j).wt) (ug us j).dem pool.length)) pool.length) ((endS pool us).ts k) 144 128 U (HDa.out.below hU) (HARx.out.below hU) HTX.out HUF.out HMD.out (HDG.out k hlt) (by omega) (by omega) (by omega) (by omega) (HT1.out.of (HB_64.out.trans (hU.mono HB_64.out.size)))).mono (fun e w' ⟨h1, h3⟩ => ⟨h1.trans (by rw [HDT.out]), hU.trans (h3.mono hU.size)⟩)
            have da0 : w63g.drew.cell? ⟨ub, uo + k * 3, none⟩ = some (.slice daa dna dca) := ((Below.refl w63g.heap.size w63g).drew.cell (p := ⟨ub, uo + k * 3, none⟩) hbla).trans a0
            have da1 : w63g.drew.cell? ⟨ub, uo + k * 3 + 1, none⟩ = some (.int .i64 (ug us k).wt) := ((Below.refl w63g.heap.size w63g).drew.cell (p := ⟨ub, uo + k * 3 + 1, none⟩) hbla).trans a1
            have da2 : w63g.drew.cell? ⟨ub, uo + k * 3 + 2, none⟩ = some (.int .i64 (ug us k).cap) := ((Below.refl w63g.heap.size w63g).drew.cell (p := ⟨ub, uo + k * 3 + 2, none⟩) hbla).trans a2
            have dash : w63g.drew.cell? ⟨g, k * 3, none⟩ = some (.string ⟨(txt (((endS pool us).ts k))).toArray⟩) := ((Below.refl w63g.heap.size w63g).drew.cell (p := ⟨g, k * 3, none⟩) asl).trans ash
            go_region_held3 (fun w' => w'.cell? ⟨ub, uo + k * 3, none⟩ = some (.slice daa dna dca) ∧ w'.cell? ⟨ub, uo + k * 3 + 1, none⟩ = some (.int .i64 (ug us k).wt) ∧ w'.cell? ⟨ub, uo + k * 3 + 2, none⟩ = some (.int .i64 (ug us k).cap) ∧ w'.cell? ⟨g, k * 3, none⟩ = some (.string ⟨(txt (((endS pool us).ts k))).toArray⟩)) (first | exact SK.out _ (Below.refl _ _).drew | exact SK.out _ hb65g)
              (first | (go_at_call 49; refine (KC.out _ ?hU).mono ?_; (case hU => exact (Below.refl _ _).drew); rintro e65g w65g ⟨rfl, hb65g⟩))
            clear SK KC da0 da1 da2 dash
            have XK_66 := hid (XK_64.out.keep hb65g)
            have Rlx_66 := hid (HARx.out.below hb65g)
            have Rua_66 := hid (HDa.out.below hb65g)
            have HB_66 : Hid (Below w1.heap.size w1 w65g) := HB_64.out.trans (hb65g.mono HB_64.out.size)
            clear XK_64 HARx HDa HB_64
            clear hb65g
            clear a0 a1 a2 ash ash1 ash2
            go_wp2
            go_roundg (us.length - (j + 1))
            case measure => omega
            case rel => exact ⟨j + 1, rfl, by omega, by go_num, HB_66.out, XK_66.out⟩
          · obtain rfl : j = us.length := by omega
            go_upto_region 16 with fail
            obtain ⟨xb, xo, dab, dnb, dcb, haob, hblb, b0, b1, b2, hdb⟩ := (HU1.out.below hB.out).get hlt
            cases haob
            have hdlb := hdb.len
            rw [ints_len, HG.out.len hlt] at hdlb
            have HDLb := hid hdlb
            have HDb := hid hdb
            clear hdlb hdb
            obtain ⟨bsh, bsh1, bsh2⟩ := (HSH.out.below hB.out).cells hlt
            have bsl := (HSH.out.below hB.out).lt
            have SK : Hid (∀ U, Below wr.heap.size wr U → U.cell? ⟨ub, uo + k * 3, none⟩ = some (.slice dab dnb dcb) ∧ U.cell? ⟨ub, uo + k * 3 + 1, none⟩ = some (.int .i64 (ug us k).wt) ∧ U.cell? ⟨ub, uo + k * 3 + 2, none⟩ = some (.int .i64 (ug us k).cap) ∧ U.cell? ⟨g, k * 3, none⟩ = some (.string ⟨(txt (((endS pool us).ts k))).toArray⟩)) := fun U h => ⟨(h.cell (p := ⟨ub, uo + k * 3, none⟩) hblb).trans b0, (h.cell (p := ⟨ub, uo + k * 3 + 1, none⟩) hblb).trans b1, (h.cell (p := ⟨ub, uo + k * 3 + 2, none⟩) hblb).trans b2, (h.cell (p := ⟨g, k * 3, none⟩) bsl).trans bsh⟩
            have KC : Hid (∀ U, Below wr.heap.size wr U → Calls Tryd.prog 48 #[.pointer (some ⟨w1.heap.size, 0, none⟩), .agg #[.slice dab dnb dcb, .int .i64 (ug us k).wt, .int .i64 (ug us k).cap], .string ⟨(txt (((endS pool us).ts k))).toArray⟩, .string ⟨#[49]⟩] U (fun e w' => ∃ vo vc, e = .returned (.slice vo pool.length vc) ∧ Arr w' 1 vo pool.length vc (strs ((bunL ((endS pool us).ts k) (1) (ug us k).dem pool.length).map tb)) ∧ Below wr.heap.size wr w')) := fun U hU => (bundle_one (.pointer (some ⟨w1.heap.size, 0, none⟩)) dab dnb dcb (ug us k) ((endS pool us).ts k) 128 U (HDb.out.below hU) (HG.out.dem hlt) (by have := HDLb.out; omega) (HDG.out k hlt) (by omega) (by omega) (HT1.out.of (hB.out.trans (hU.mono hB.out.size)))).mono (fun e w' ⟨v, h1, h2, h3⟩ => by
        obtain ⟨vo, vc, rfl, har⟩ := h2.arr
        rw [show dnb = pool.length from HDLb.out.symm] at har h1
        rw [bunL_len] at har h1
        exact ⟨vo, vc, h1, har, hU.trans (h3.mono hU.size)⟩)
            have db0 : wr.drew.cell? ⟨ub, uo + k * 3, none⟩ = some (.slice dab dnb dcb) := ((Below.refl wr.heap.size wr).drew.cell (p := ⟨ub, uo + k * 3, none⟩) hblb).trans b0
            have db1 : wr.drew.cell? ⟨ub, uo + k * 3 + 1, none⟩ = some (.int .i64 (ug us k).wt) := ((Below.refl wr.heap.size wr).drew.cell (p := ⟨ub, uo + k * 3 + 1, none⟩) hblb).trans b1
            have db2 : wr.drew.cell? ⟨ub, uo + k * 3 + 2, none⟩ = some (.int .i64 (ug us k).cap) := ((Below.refl wr.heap.size wr).drew.cell (p := ⟨ub, uo + k * 3 + 2, none⟩) hblb).trans b2
            have dbsh : wr.drew.cell? ⟨g, k * 3, none⟩ = some (.string ⟨(txt (((endS pool us).ts k))).toArray⟩) := ((Below.refl wr.heap.size wr).drew.cell (p := ⟨g, k * 3, none⟩) bsl).trans bsh
            go_region_held3 (fun w' => w'.cell? ⟨ub, uo + k * 3, none⟩ = some (.slice dab dnb dcb) ∧ w'.cell? ⟨ub, uo + k * 3 + 1, none⟩ = some (.int .i64 (ug us k).wt) ∧ w'.cell? ⟨ub, uo + k * 3 + 2, none⟩ = some (.int .i64 (ug us k).cap) ∧ w'.cell? ⟨g, k * 3, none⟩ = some (.string ⟨(txt (((endS pool us).ts k))).toArray⟩)) (first | exact SK.out _ (Below.refl _ _).drew | exact SK.out _ hb81g)
              (first | (go_at_call 48; refine (KC.out _ ?hU).mono ?_; (case hU => exact (Below.refl _ _).drew); rintro e81g w81g ⟨voy, vcy, rfl, hary, hb81g⟩))
            clear SK KC db0 db1 db2 dbsh
            have XK_82 := hid (hK.out.keep hb81g)
            have Rub_82 := hid (HDb.out.below hb81g)
            have HB_82 : Hid (Below w1.heap.size w1 w81g) := hB.out.trans (hb81g.mono hB.out.size)
            clear hK HDb hB
            clear hb81g
            have HARy := hid hary
            clear hary b0 b1 b2 bsh bsh1 bsh2
            go_upto_region 17 with fail
            have HBD : Hid (∀ r, r < (bunL ((endS pool us).ts k) (1) (ug us k).dem pool.length).length → Dg (rq (bunL ((endS pool us).ts k) (1) (ug us k).dem pool.length) r) 134) := bun_dg (HDG.out k hlt) one_dg (HG.out.dem hlt)
            have HBN : Hid (∀ r, r < (bunL ((endS pool us).ts k) (1) (ug us k).dem pool.length).length → 0 ≤ rq (bunL ((endS pool us).ts k) (1) (ug us k).dem pool.length) r) := bun_nonneg (HX0.out k hlt) (by decide) (HG.out.dem hlt)
            have HUF : Hid (usefulOf (ug us k) ((bunL ((endS pool us).ts k) (1) (ug us k).dem pool.length).map tb) = (txt ((endS pool us).ts k), 0)) := by have h9 := useful_map (u := ug us k) HBD.out (by omega) (by omega) HBN.out (by rw [bunL_len]; omega) (by rw [bunL_len]; omega) (by rw [bunL_len]; exact HG.out k hlt); rw [bunL_len, use_own HG.out HPA.out hlt] at h9; exact h9
            have HTX := hid (tx_size HBD.out (by omega) (by omega))
            go_wp2_with fail
            refine (useful_any dab dnb dcb (ug us k) voy pool.length vcy ((bunL ((endS pool us).ts k) (1) (ug us k).dem pool.length).map tb) _ Rub_82.out HARy.out HTX.out (HT1.out.of HB_82.out)).mono ?_
            rintro e82 w82 ⟨rfl, hb82⟩
            have XK_83 := hid (XK_82.out.keep hb82)
            have Rub_83 := hid (Rub_82.out.below hb82)
            have Rly_83 := hid (HARy.out.below hb82)
            have HB_83 : Hid (Below w1.heap.size w1 w82) := HB_82.out.trans (hb82.mono HB_82.out.size)
            clear XK_82 Rub_82 HARy HB_82
            clear hb82
            rw [HUF.out]
            obtain ⟨csh, csh1, csh2⟩ := (HSH.out.below HB_83.out).cells hlt
            have csl := (HSH.out.below HB_83.out).lt
            clear csh1 csh2
            generalize ((endS pool us).ts k) = Y at csh ⊢
            go_wp2
            go_roundg (us.length - (k + 1))
            case measure => omega
            case rel => exact ⟨k + 1, rfl, by omega, by go_num, HB_83.out, XK_83.out⟩
      · obtain rfl : k = us.length := by omega
        have ltK := hK.out.lt
        have cK0 := hK.out.cell 0 _ rfl
        go_wp2
        go_ret
        exact ⟨rfl, HB1.out.trans (hB.out.mono HB1.out.size)⟩
  · rw [if_neg he] at hask
    obtain ⟨rfl, hb1⟩ := hask
    have HB1 := hid hb1
    clear hb1
    go_wp2
    go_ret
    exact ⟨rfl, HB1.out⟩

end Go.Proofs.YtigokanoflkinaaDoor
