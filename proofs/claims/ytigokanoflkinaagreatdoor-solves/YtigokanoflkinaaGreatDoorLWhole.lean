/- portionlaw whole. (Laid by mkwhole.py.) -/
import Derived.Test.YtigokanoflkinaaGreatDoorLUsrB
namespace Go.Proofs.YtigokanoflkinaaGreatDoor
set_option linter.unusedSimpArgs false
set_option linter.unusedVariables false
open Go.RowKit Por

theorem Blk.arr {w : World} {d : Nat} {xs : List Int} (h : Blk w d (xs ++ [7, 7])) (hn : xs.length + 2 ≤ maxLen) : Arr w 1 (some ⟨d, 0, none⟩) xs.length (xs.length + 2) (ints xs) := by
  refine ⟨by rw [ints_len], by omega, hn, fun _ => ⟨d, 0, rfl, h.lt⟩, ?_⟩
  intro b o e j v hv m u hu
  cases e
  have hj : j < xs.length := by have := (List.getElem?_eq_some_iff.1 hv).1; rwa [ints_len] at this
  rw [ints_get _ hj] at hv
  cases hv
  match m with
  | 0 =>
    have := h.cell j (by simp; omega)
    rw [lm_app_left hj] at this
    simp only [Nat.mul_one, Nat.add_zero, Nat.zero_add]
    rw [this]; exact hu
  | m + 1 => simp [Value.cells] at hu
/-- user i of the crowd: its cells, and its demands' place -/
theorem Crowd.get {w : World} {us : List Usr} {og : Nat} {dl : List Value} (h : Crowd w us og dl) {i : Nat} (hi : i < us.length) : ∃ d, w.cell? ⟨og, i * 3, none⟩ = some (hs d (ug us i).dem.length) ∧ w.cell? ⟨og, i * 3 + 1, none⟩ = some (.int .i64 (ug us i).wt) ∧ w.cell? ⟨og, i * 3 + 2, none⟩ = some (.int .i64 (ug us i).cap) ∧ Blk w d ((ug us i).dem ++ [7, 7]) ∧ dl[i]? = some (hs d (ug us i).dem.length) := by
  obtain ⟨⟨h0, arr, h1, h2, h3⟩, _⟩ := h
  obtain ⟨d, g0, g1, g2, g3, g4, g5⟩ := h3 i hi
  exact ⟨d, (cell_of_row w og _ _ _ _ h1).trans g1, (cell_of_row w og _ _ _ _ h1).trans g2, (cell_of_row w og _ _ _ _ h1).trans g3, g4, g5⟩
theorem Crowd.len {w : World} {us : List Usr} {og : Nat} {dl : List Value} (h : Crowd w us og dl) : dl.length = us.length := h.1.1
/-- a list's elements, one cell each -/
theorem own_get {base T n : Nat} {w : World} {ho : Option Addr} {hc : Nat} {xs : List Value} (h : w.ownsRow base T 1 (.slice ho n hc) n xs) {i : Nat} {v : Value} (hv : xs[i]? = some v) : ∃ b, ho = some ⟨b, 0, none⟩ ∧ b < w.heap.size ∧ w.cell? ⟨b, 0 + i, none⟩ = some v := by
  have hi : i < xs.length := (List.getElem?_eq_some_iff.1 hv).1
  have hl := h.1
  rcases h.2 with ⟨e, h0⟩ | ⟨g, cap, cur, e, h2, h3, h4, h5, h6, h7⟩
  · omega
  · cases e
    refine ⟨g, rfl, (Array.getElem?_eq_some_iff.1 h3).1, ?_⟩
    rw [Nat.zero_add, cell_of_row w g i _ _ _ h3, ← Array.getElem?_toList]
    have e1 : cur.toList[i]? = (cur.toList.take (n * 1))[i]? := by rw [List.getElem?_take, if_pos (by omega)]
    rw [e1, h7]; exact hv

set_option maxHeartbeats 1000000 in
set_option maxRecDepth 20000 in
theorem lwhole_any (ao : Option Addr) (n cap : Nat) (us : List Usr) (og : Nat) (dv : Value) (dl : List Value) (base : Nat) (w : World) (hu : Users w ao n cap us) (hcr : Crowd w us og dl) (hdo : w.ownsRow base 22 1 dv dl.length dl) (hn : n ≤ 3518437208882) (hdl : ∀ i, i < us.length → (ug us i).dem.length ≤ 17592186044416) :
    Calls Tryz.prog 14 #[.agg #[.slice (some ⟨og, 0, none⟩) n (n + 1), dv], .slice ao n cap] w fun e w' => e = .returned (.bool true) ∧ Below w.heap.size w w' := by
  have hul := hu.1
  subst hul
  obtain ⟨ho, hc, rfl⟩ := own_shape hdo
  have hdll := hcr.len
  rw [hdll] at hdo ⊢
  have HU := hid hu
  have HCR := hid hcr
  have HDO := hid hdo
  have HDL := hid hdl
  clear hu hcr hdo hdl
  have HB_0 := hid (Below.refl w.heap.size w)
  have XC_6 := hid (bx_new w #[.slice (some ⟨og, 0, none⟩) us.length (us.length + 1), .slice ho us.length hc] 31)
  have HB_6 : Hid (Below w.heap.size w (w.alloc (.cells #[.slice (some ⟨og, 0, none⟩) us.length (us.length + 1), .slice ho us.length hc] 31))) := HB_0.out.alloc HB_0.out.size (.cells #[.slice (some ⟨og, 0, none⟩) us.length (us.length + 1), .slice ho us.length hc] 31)
  have leC : w.heap.size ≤ w.heap.size := HB_0.out.size
  clear HB_0
  go_enter Tryz.func14, Tryz.ntmps14
  have i3 : (us.length : Int) + 1 ≤ ((us.length + 1 : Nat) : Int) := by omega
  have ltC := XC_6.out.lt
  have cC0 := XC_6.out.cell 0 _ rfl
  have cC1 := XC_6.out.cell 1 _ rfl
  go_wp2
  go_loopg [7] us.length (fun gg ix wr => ∃ k : Nat, gg = us.length - k ∧ k ≤ us.length ∧ ix = .int .i64 k ∧ Hid (Bx wr w.heap.size #[.slice (some ⟨og, 0, none⟩) us.length (us.length + 1), .slice ho us.length hc] 31) ∧ Hid (Below w.heap.size w wr))
  case atStart => exact ⟨0, rfl, Nat.zero_le _, rfl, XC_6.out, HB_6.out⟩
  case round =>
    clear ltC cC0 cC1
    clear XC_6 HB_6
    obtain ⟨k, hgk, hk, rfl, hX, hB⟩ := hrel
    by_cases hlt : k < us.length
    · have hkn : (k : Int) < (us.length : Int) := by omega
      have hkm : (k : Int) < ((us.length + 1 : Nat) : Int) := by omega
      have hkp : (k : Int) < (us.length : Int) + 1 := by omega
      obtain ⟨uba, uoa, daa, dna, dca, haoa, hbla, a0, a1, a2, hda⟩ := (HU.out.below hB.out).get hlt
      obtain ⟨da2, ac0, ac1, ac2, ak, al⟩ := (HCR.out.below hB.out).get hlt
      have aog := (HCR.out.below hB.out).1.lt
      subst haoa
      have hdn := hda.len
      rw [ints_len] at hdn
      subst hdn
      have HDA := hid hda
      have HKA := hid ak
      clear hda ak a1 a2 ac1 ac2 al
      go_upto_region 6 with fail
      unfold hs at ac0
      have hdm := HDL.out k hlt
      have SK : Hid (∀ U, Below wr.heap.size wr U → U.cell? ⟨og, k * 3, none⟩ = some (.slice (some ⟨da2, 0, none⟩) (ug us k).dem.length ((ug us k).dem.length + 2)) ∧ U.cell? ⟨uba, uoa + k * 3, none⟩ = some (.slice daa (ug us k).dem.length dca)) := fun U h => ⟨(h.cell (p := ⟨og, k * 3, none⟩) aog).trans ac0, (h.cell (p := ⟨uba, uoa + k * 3, none⟩) hbla).trans a0⟩
      have KC0 : Hid (∀ U, Below wr.heap.size wr U → Calls Tryz.prog 27 #[.slice (some ⟨da2, 0, none⟩) (ug us k).dem.length ((ug us k).dem.length + 2), .slice daa (ug us k).dem.length dca] U (fun e w' => e = .returned (.bool true) ∧ Below wr.heap.size wr w')) := fun U hU => (reads_any (some ⟨da2, 0, none⟩) daa (ug us k).dem.length ((ug us k).dem.length + 2) (ug us k).dem.length dca (ug us k).dem U ((Blk.arr HKA.out (by unfold maxLen; omega)).below hU) (HDA.out.below hU) (by omega)).mono (fun e w' ⟨h1, h3⟩ => ⟨h1, hU.trans (h3.mono hU.size)⟩)
      have dac0 : wr.drew.cell? ⟨og, k * 3, none⟩ = some (.slice (some ⟨da2, 0, none⟩) (ug us k).dem.length ((ug us k).dem.length + 2)) := ((Below.refl wr.heap.size wr).drew.cell (p := ⟨og, k * 3, none⟩) aog).trans ac0
      have da0 : wr.drew.cell? ⟨uba, uoa + k * 3, none⟩ = some (.slice daa (ug us k).dem.length dca) := ((Below.refl wr.heap.size wr).drew.cell (p := ⟨uba, uoa + k * 3, none⟩) hbla).trans a0
      go_region_held3 (fun w' => w'.cell? ⟨og, k * 3, none⟩ = some (.slice (some ⟨da2, 0, none⟩) (ug us k).dem.length ((ug us k).dem.length + 2)) ∧ w'.cell? ⟨uba, uoa + k * 3, none⟩ = some (.slice daa (ug us k).dem.length dca)) (first | exact SK.out _ (Below.refl _ _).drew | exact SK.out _ hb21g0)
        (first | (go_at_call 27; refine (KC0.out _ ?hU).mono ?_; (case hU => exact (Below.refl _ _).drew); rintro e21g0 w21g0 ⟨rfl, hb21g0⟩))
      clear SK KC0 dac0 da0
      have XC_22 := hid (hX.out.keep hb21g0)
      have HB_22 : Hid (Below w.heap.size w w21g0) := hB.out.trans (hb21g0.mono hB.out.size)
      clear hX hB
      clear hb21g0
      clear a0 ac0 HDA HKA
      obtain ⟨ubb, uob, dab, dnb, dcb, haob, hblb, b0, b1, b2, hdb⟩ := (HU.out.below HB_22.out).get hlt
      obtain ⟨db2, bc0, bc1, bc2, bk, bl⟩ := (HCR.out.below HB_22.out).get hlt
      have bog := (HCR.out.below HB_22.out).1.lt
      cases haob
      have hdnb := hdb.len
      rw [ints_len] at hdnb
      subst hdnb
      have HDB := hid hdb
      have HKB := hid bk
      obtain ⟨lb, hlo, hlbl, lc⟩ := own_get (own_below HDO.out HB_22.out) bl
      subst hlo
      rw [Nat.zero_add] at lc
      unfold hs at lc
      clear hdb bk b1 b2 bc0 bc1 bc2 bl
      have ltC := XC_22.out.lt
      have cC0 := XC_22.out.cell 0 _ rfl
      have cC1 := XC_22.out.cell 1 _ rfl
      go_upto_region 7 with fail
      have SK : Hid (∀ U, Below w21g0.heap.size w21g0 U → U.cell? ⟨w.heap.size, 1, none⟩ = some (.slice (some ⟨lb, 0, none⟩) us.length hc) ∧ U.cell? ⟨lb, k, none⟩ = some (.slice (some ⟨db2, 0, none⟩) (ug us k).dem.length ((ug us k).dem.length + 2)) ∧ U.cell? ⟨uba, uoa + k * 3, none⟩ = some (.slice dab (ug us k).dem.length dcb)) := fun U h => ⟨(h.cell (p := ⟨w.heap.size, 1, none⟩) ltC).trans cC1, (h.cell (p := ⟨lb, k, none⟩) hlbl).trans lc, (h.cell (p := ⟨uba, uoa + k * 3, none⟩) hblb).trans b0⟩
      have KC0 : Hid (∀ U, Below w21g0.heap.size w21g0 U → Calls Tryz.prog 13 #[.slice (some ⟨db2, 0, none⟩) (ug us k).dem.length ((ug us k).dem.length + 2), .slice dab (ug us k).dem.length dcb] U (fun e w' => e = .returned (.bool true) ∧ Below w21g0.heap.size w21g0 w')) := fun U hU => (intact_any db2 dab (ug us k).dem.length dcb (ug us k).dem U (HKB.out.below hU HKB.out.lt) (HDB.out.below hU) (by omega)).mono (fun e w' ⟨h1, h3⟩ => ⟨h1, hU.trans (h3.mono hU.size)⟩)
      have dcC1 : w21g0.drew.cell? ⟨w.heap.size, 1, none⟩ = some (.slice (some ⟨lb, 0, none⟩) us.length hc) := ((Below.refl w21g0.heap.size w21g0).drew.cell (p := ⟨w.heap.size, 1, none⟩) ltC).trans cC1
      have dlc : w21g0.drew.cell? ⟨lb, k, none⟩ = some (.slice (some ⟨db2, 0, none⟩) (ug us k).dem.length ((ug us k).dem.length + 2)) := ((Below.refl w21g0.heap.size w21g0).drew.cell (p := ⟨lb, k, none⟩) hlbl).trans lc
      have db0 : w21g0.drew.cell? ⟨uba, uoa + k * 3, none⟩ = some (.slice dab (ug us k).dem.length dcb) := ((Below.refl w21g0.heap.size w21g0).drew.cell (p := ⟨uba, uoa + k * 3, none⟩) hblb).trans b0
      go_region_held3 (fun w' => w'.cell? ⟨w.heap.size, 1, none⟩ = some (.slice (some ⟨lb, 0, none⟩) us.length hc) ∧ w'.cell? ⟨lb, k, none⟩ = some (.slice (some ⟨db2, 0, none⟩) (ug us k).dem.length ((ug us k).dem.length + 2)) ∧ w'.cell? ⟨uba, uoa + k * 3, none⟩ = some (.slice dab (ug us k).dem.length dcb)) (first | exact SK.out _ (Below.refl _ _).drew | exact SK.out _ hb23g0)
        (first | (go_at_call 13; refine (KC0.out _ ?hU).mono ?_; (case hU => exact (Below.refl _ _).drew); rintro e23g0 w23g0 ⟨rfl, hb23g0⟩))
      clear SK KC0 dcC1 dlc db0
      have XC_24 := hid (XC_22.out.keep hb23g0)
      have HB_24 : Hid (Below w.heap.size w w23g0) := HB_22.out.trans (hb23g0.mono HB_22.out.size)
      clear XC_22 HB_22
      clear hb23g0
      clear ltC cC0 cC1
      clear b0 lc hlbl HDB HKB
      obtain ⟨ube, uoe, dae, dne, dce, haoe, hble, e0, e1, e2, hde⟩ := (HU.out.below HB_24.out).get hlt
      obtain ⟨de, ec0, ec1, ec2, ek, el⟩ := (HCR.out.below HB_24.out).get hlt
      have eog := (HCR.out.below HB_24.out).1.lt
      cases haoe
      clear hde ek el ec0 e0
      generalize (ug us k).wt = wt at e1 ec1
      generalize (ug us k).cap = cp at e2 ec2
      have t0 : (wt != wt) = false := by simp
      have t1 : (cp != cp) = false := by simp
      go_upto_region 8 with fail
      go_quiet (fail)
      go_wp2
      go_roundg (us.length - (k + 1))
      case measure => omega
      case rel => exact ⟨k + 1, rfl, by omega, by go_num, XC_24.out.below (below_drewN (Below.refl _ w23g0) _) XC_24.out.lt, below_drewN HB_24.out _⟩
    · obtain rfl : k = us.length := by omega
      obtain ⟨_, n0, n1, n2⟩ := HCR.out.below hB.out
      have nl := (HCR.out.below hB.out).1.lt
      have i1 : (us.length : Int) < ((us.length + 1 : Nat) : Int) := by omega
      have i2 : (us.length : Int) < (us.length : Int) + 1 := by omega
      have hnil : ∀ w, (binOp .eql 22 (.slice none 0 0) (.slice none 0 0)).run Tryz.prog w = .ok (.bool true) w := fun w => run_eql_nil_slice w 22 3 none 0 0 0 0 Tryz.underlying22
      go_wp2
      go_ret
      exact ⟨rfl, hB.out⟩

end Go.Proofs.YtigokanoflkinaaGreatDoor
