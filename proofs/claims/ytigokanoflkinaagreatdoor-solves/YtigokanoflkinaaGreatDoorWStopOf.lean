/- fill stopOf. (Laid by mksolve.py.) -/
import Derived.Test.YtigokanoflkinaaGreatDoorWHigh
namespace Go.Proofs.YtigokanoflkinaaGreatDoor
set_option linter.unusedSimpArgs false
set_option linter.unusedVariables false
open Go.RowKit Por

theorem stopN_next {d : FD} {s : St} {i k m : Nat} (h : ¬ (0 < lm (ug d.us i).dem k ∧ upB d s.ts k = true ∧ highB d s.lv i k d.n = true)) : stopN d s i k (m + 1) = stopN d s i (k + 1) m := by
  rw [stopN, if_neg h]
theorem stopN_here {d : FD} {s : St} {i k m : Nat} (h1 : 0 < lm (ug d.us i).dem k) (h2 : upB d s.ts k = true) (h3 : highB d s.lv i k d.n = true) : stopN d s i k (m + 1) = (k : Int) := by
  rw [stopN, if_pos ⟨h1, h2, h3⟩]

set_option maxHeartbeats 2000000 in
set_option maxRecDepth 20000 in
theorem stopOf_any (w0 : World) (d : FD) (s : St) (i L g : Nat) (w : World) (h : FS w0 d w s) (ho : d.Ok w0) (hs : ∀ i, i < d.n → Sm (s.lv i) 60) (hts : ∀ i, i < d.n → Sm (s.ts i) L) (hL : L ≤ 10000) (hbb : BB w g d.kk d.kk (upB d s.ts)) (hi : i < d.n) :
    Calls Tryz.prog 57 #[.pointer (some ⟨d.sb, 0, none⟩), .int .i64 i, .slice (some ⟨g, 0, none⟩) d.kk d.kk] w fun e w' => e = .returned (.int .i64 (stopV d s i)) ∧ Below w.heap.size w w' := by
  have hn6 := ho.n6
  have hk4 := ho.k4
  have hul := ho.len
  have hib : (i : Int) < (d.n : Int) := by omega
  have H := hid h
  have HO := hid ho
  have HS := hid hs
  have HTS := hid hts
  have HBB := hid hbb
  clear h ho hs hts hbb
  have HB_0 := hid (Below.refl w.heap.size w)
  go_enter Tryz.func57, Tryz.ntmps57
  go_wp2_with fail
  refine (isAtCap_any w0 d s L i _ H.out HO.out HTS.out hL hi).mono ?_
  rintro e10 w10 ⟨rfl, hb10⟩
  have HB_11 : Hid (Below w.heap.size w w10) := HB_0.out.trans (hb10.mono HB_0.out.size)
  clear HB_0
  clear hb10
  cases hcb : capB d s.ts i with
  | true =>
    have HCB := hid hcb
    clear hcb
    go_wp2
    go_ret
    exact ⟨by unfold stopV; rw [if_pos HCB.out]; rfl, HB_11.out⟩
  | false =>
    have HCB := hid hcb
    clear hcb
    have HFS := hid (H.out.below HB_11.out)
    obtain ⟨la, lb, lc, ld, le, lf, hbx, hlr1, hlr2⟩ := HFS.out.box
    have ltsb := hbx.lt
    have g0 : w10.cell? ⟨d.sb, 0, none⟩ = some (.slice d.ao d.n d.cap) := hbx.cell 0 _ rfl
    clear hbx hlr1 hlr2
    obtain ⟨b, o, da, dn, dc, hao, hbl, c0, c1, c2, hd⟩ := (HO.out.users.below HFS.out.bel).get hi
    have hdl := hd.len
    rw [ints_len, HO.out.good.len (i := i) (by omega)] at hdl
    rw [hao] at g0
    have HAO := hid hao
    clear hao
    have HDL := hid hdl
    clear hdl
    have HD := hid hd
    clear hd
    go_wp2
    go_loopg [21] dn (fun g ix wr => ∃ k : Nat, g = dn - k ∧ k ≤ dn ∧ ix = .int .i64 k ∧ Hid (stopN d s i 0 d.kk = stopN d s i k (d.kk - k)) ∧ Hid (Below w10.heap.size w10 wr))
    case atStart => exact ⟨0, rfl, Nat.zero_le _, rfl, rfl, Below.refl _ _⟩
    case round =>
      clear g0 c0 c1 c2
      obtain ⟨k, hgk, hk, rfl, hz, hB⟩ := hrel
      have HBW : Hid (Below w.heap.size w wr) := HB_11.out.trans (hB.out.mono HB_11.out.size)
      have hkd : k ≤ d.kk := by have := HDL.out; omega
      by_cases hlt : k < dn
      · have hkk : k < d.kk := by have := HDL.out; omega
        obtain ⟨m, hm⟩ : ∃ m, d.kk - k = m + 1 := ⟨d.kk - k - 1, by omega⟩
        have hm2 : d.kk - (k + 1) = m := by omega
        have HM := hid hm
        have HM2 := hid hm2
        clear hm hm2
        have hkk2 : (k : Int) < (d.kk : Int) := by omega
        obtain ⟨db, dof, rfl, hdb⟩ := HD.out.head (by omega)
        have cd := (HD.out.below hB.out).int rfl hlt
        have q0 := (HBB.out.below HBW.out).cell hkk
        have ltg := (HBB.out.below HBW.out).lt
        generalize hx : lm (ug d.us i).dem k = x at cd
        have HX := hid hx
        clear hx
        generalize hy : upB d s.ts k = y at q0
        have HY := hid hy
        clear hy
        by_cases h0 : 0 < x
        · cases y with
          | false =>
            have E : stopN d s i 0 d.kk = stopN d s i (k + 1) (d.kk - (k + 1)) := by rw [hz.out, HM.out, HM2.out]; exact stopN_next (fun h => by rw [HY.out] at h; cases h.2.1)
            have HE := hid E; clear E
            go_wp2
            go_roundg (dn - (k + 1))
            case measure => omega
            case rel => exact ⟨k + 1, rfl, by omega, by go_num, HE.out, hB.out⟩
          | true =>
            go_wp2_with fail
            refine (isHighest_any w0 d s i k _ (H.out.below HBW.out) HO.out HS.out hi hkk).mono ?_
            rintro e7 w7 ⟨rfl, hb7⟩
            have HB7 : Hid (Below w.heap.size w w7) := HBW.out.trans (hb7.mono HBW.out.size)
            have HB8 : Hid (Below w10.heap.size w10 w7) := hB.out.trans (hb7.mono hB.out.size)
            clear hb7
            cases hh : highB d s.lv i k d.n with
            | false =>
              have HH := hid hh
              clear hh
              have E : stopN d s i 0 d.kk = stopN d s i (k + 1) (d.kk - (k + 1)) := by rw [hz.out, HM.out, HM2.out]; exact stopN_next (fun h => by rw [HH.out] at h; cases h.2.2)
              have HE := hid E; clear E
              go_wp2
              go_roundg (dn - (k + 1))
              case measure => omega
              case rel => exact ⟨k + 1, rfl, by omega, by go_num, HE.out, HB8.out⟩
            | true =>
              have HH := hid hh
              clear hh
              have E : stopN d s i 0 d.kk = (k : Int) := by rw [hz.out, HM.out]; exact stopN_here (by rw [HX.out]; exact h0) HY.out HH.out
              have HE := hid E; clear E
              go_wp2
              go_ret
              exact ⟨by unfold stopV; rw [if_neg (by rw [HCB.out]; simp), HE.out]; rfl, HB7.out⟩
        · have E : stopN d s i 0 d.kk = stopN d s i (k + 1) (d.kk - (k + 1)) := by rw [hz.out, HM.out, HM2.out]; exact stopN_next (fun h => h0 (by have h9 := h.1; rw [HX.out] at h9; exact h9))
          have HE := hid E; clear E
          go_wp2
          go_roundg (dn - (k + 1))
          case measure => omega
          case rel => exact ⟨k + 1, rfl, by omega, by go_num, HE.out, hB.out⟩
      · obtain rfl : k = dn := by omega
        have E : stopN d s i 0 d.kk = -1 := by rw [hz.out]; have := HDL.out; rw [show d.kk - k = 0 by omega]; rfl
        have HE := hid E; clear E
        go_wp2
        go_ret
        exact ⟨by unfold stopV; rw [if_neg (by rw [HCB.out]; simp), HE.out]; rfl, HBW.out⟩

end Go.Proofs.YtigokanoflkinaaGreatDoor
