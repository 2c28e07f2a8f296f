/- fill shares. (Laid by mksolve.py.) -/
import Derived.Test.YtigokanoflkinaaGreatDoorWStopOf
namespace Go.Proofs.YtigokanoflkinaaGreatDoor
set_option linter.unusedSimpArgs false
set_option linter.unusedVariables false
open Go.RowKit Por

/-- block g: room for n shares, of which the first k are told -/
def ShB (w : World) (g n k : Nat) (ts lv : Nat → Rat) (st : Nat → Int) : Prop := ∃ arr, w.heap[g]? = some (.cells arr 35 (0, 0)) ∧ arr.size = n * 3 ∧ ∀ i, i < k → arr[i * 3]? = some (.string ⟨(txt (ts i)).toArray⟩) ∧ arr[i * 3 + 1]? = some (.string ⟨(txt (lv i)).toArray⟩) ∧ arr[i * 3 + 2]? = some (.int .i64 (st i))
theorem ShB.lt {w : World} {g n k : Nat} {ts lv : Nat → Rat} {st : Nat → Int} (h : ShB w g n k ts lv st) : g < w.heap.size := by
  obtain ⟨arr, h1, _⟩ := h; exact (Array.getElem?_eq_some_iff.1 h1).1
theorem ShB.below {w w' : World} {g n k : Nat} {ts lv : Nat → Rat} {st : Nat → Int} (h : ShB w g n k ts lv st) (hb : Below w.heap.size w w') : ShB w' g n k ts lv st := by
  obtain ⟨arr, h1, h2, h3⟩ := h
  exact ⟨arr, (hb.block g (Array.getElem?_eq_some_iff.1 h1).1).trans h1, h2, h3⟩
theorem ShB.frozen {w : World} {g n k : Nat} {ts lv : Nat → Rat} {st : Nat → Int} (h : ShB w g n k ts lv st) (j : Nat) : w.frozen? ⟨g, j, none⟩ = false := by
  obtain ⟨arr, h1, _⟩ := h; exact frozen_of_row w g j _ _ h1
theorem ShB.has {w : World} {g n k : Nat} {ts lv : Nat → Rat} {st : Nat → Int} (h : ShB w g n k ts lv st) {j : Nat} (hj : j < n * 3) : ∃ x, w.cell? ⟨g, j, none⟩ = some x := by
  obtain ⟨arr, h1, h2, _⟩ := h
  exact ⟨arr[j]'(by omega), (cell_of_row w g j _ _ _ h1).trans (Array.getElem?_eq_getElem (by omega))⟩
/-- share k, of which the first j cells (of three) are written -/
def ShP (w : World) (g n k j : Nat) (ts lv : Nat → Rat) (st : Nat → Int) : Prop := ∃ arr, w.heap[g]? = some (.cells arr 35 (0, 0)) ∧ arr.size = n * 3 ∧ (∀ i, i < k → arr[i * 3]? = some (.string ⟨(txt (ts i)).toArray⟩) ∧ arr[i * 3 + 1]? = some (.string ⟨(txt (lv i)).toArray⟩) ∧ arr[i * 3 + 2]? = some (.int .i64 (st i))) ∧ (1 ≤ j → arr[k * 3]? = some (.string ⟨(txt (ts k)).toArray⟩)) ∧ (2 ≤ j → arr[k * 3 + 1]? = some (.string ⟨(txt (lv k)).toArray⟩))
theorem ShP.below {w w' : World} {g n k j : Nat} {ts lv : Nat → Rat} {st : Nat → Int} (h : ShP w g n k j ts lv st) (hb : Below w.heap.size w w') : ShP w' g n k j ts lv st := by
  obtain ⟨arr, h1, h2, h3⟩ := h
  exact ⟨arr, (hb.block g (Array.getElem?_eq_some_iff.1 h1).1).trans h1, h2, h3⟩
theorem ShP.lt {w : World} {g n k j : Nat} {ts lv : Nat → Rat} {st : Nat → Int} (h : ShP w g n k j ts lv st) : g < w.heap.size := by
  obtain ⟨arr, h1, _⟩ := h; exact (Array.getElem?_eq_some_iff.1 h1).1
theorem ShP.frozen {w : World} {g n k j : Nat} {ts lv : Nat → Rat} {st : Nat → Int} (h : ShP w g n k j ts lv st) (i : Nat) : w.frozen? ⟨g, i, none⟩ = false := by
  obtain ⟨arr, h1, _⟩ := h; exact frozen_of_row w g i _ _ h1
theorem ShP.has {w : World} {g n k j : Nat} {ts lv : Nat → Rat} {st : Nat → Int} (h : ShP w g n k j ts lv st) {i : Nat} (hj : i < n * 3) : ∃ x, w.cell? ⟨g, i, none⟩ = some x := by
  obtain ⟨arr, h1, h2, _⟩ := h
  exact ⟨arr[i]'(by omega), (cell_of_row w g i _ _ _ h1).trans (Array.getElem?_eq_getElem (by omega))⟩
theorem ShB.part {w : World} {g n k : Nat} {ts lv : Nat → Rat} {st : Nat → Int} (h : ShB w g n k ts lv st) : ShP w g n k 0 ts lv st := by
  obtain ⟨arr, h1, h2, h3⟩ := h
  exact ⟨arr, h1, h2, h3, fun h => by omega, fun h => by omega⟩
theorem ShP.put0 {w : World} {g n k : Nat} {ts lv : Nat → Rat} {st : Nat → Int} (h : ShP w g n k 0 ts lv st) (hk : k < n) : ShP (w.setCell ⟨g, k * 3, none⟩ (.string ⟨(txt (ts k)).toArray⟩)) g n k 1 ts lv st := by
  obtain ⟨arr, h1, h2, h3, _⟩ := h
  refine ⟨_, heap_setCell_same w g _ _ _ _ h1, by simp [h2], fun i hi => ?_, fun _ => ?_, fun h => by omega⟩
  · rw [Array.getElem?_setIfInBounds_ne (by omega), Array.getElem?_setIfInBounds_ne (by omega), Array.getElem?_setIfInBounds_ne (by omega)]; exact h3 i hi
  · rw [Array.getElem?_setIfInBounds_self_of_lt (by omega)]
theorem ShP.put1 {w : World} {g n k : Nat} {ts lv : Nat → Rat} {st : Nat → Int} (h : ShP w g n k 1 ts lv st) (hk : k < n) : ShP (w.setCell ⟨g, k * 3 + 1, none⟩ (.string ⟨(txt (lv k)).toArray⟩)) g n k 2 ts lv st := by
  obtain ⟨arr, h1, h2, h3, h4, _⟩ := h
  refine ⟨_, heap_setCell_same w g _ _ _ _ h1, by simp [h2], fun i hi => ?_, fun _ => ?_, fun _ => ?_⟩
  · rw [Array.getElem?_setIfInBounds_ne (by omega), Array.getElem?_setIfInBounds_ne (by omega), Array.getElem?_setIfInBounds_ne (by omega)]; exact h3 i hi
  · rw [Array.getElem?_setIfInBounds_ne (by omega)]; exact h4 (by omega)
  · rw [Array.getElem?_setIfInBounds_self_of_lt (by omega)]
theorem ShP.put2 {w : World} {g n k : Nat} {ts lv : Nat → Rat} {st : Nat → Int} (h : ShP w g n k 2 ts lv st) (hk : k < n) : ShB (w.setCell ⟨g, k * 3 + 2, none⟩ (.int .i64 (st k))) g n (k + 1) ts lv st := by
  obtain ⟨arr, h1, h2, h3, h4, h5⟩ := h
  refine ⟨_, heap_setCell_same w g _ _ _ _ h1, by simp [h2], fun i hi => ?_⟩
  by_cases e : i = k
  · subst e
    rw [Array.getElem?_setIfInBounds_ne (by omega), Array.getElem?_setIfInBounds_ne (by omega), Array.getElem?_setIfInBounds_self_of_lt (by omega)]
    exact ⟨h4 (by omega), h5 (by omega), rfl⟩
  · rw [Array.getElem?_setIfInBounds_ne (by omega), Array.getElem?_setIfInBounds_ne (by omega), Array.getElem?_setIfInBounds_ne (by omega)]; exact h3 i (by omega)
theorem Tryz.infoShare : (Tryz.prog.info? 35).map (fun i => (i.zero, i.size, i.bytes)) = some (some (.agg #[.string ⟨#[]⟩, .string ⟨#[]⟩, .int .i64 0]), 3, 40) := by kernel_rfl
theorem wpList_make_shares (w : World) {ops : Array Oper} {rest : List Oper} {o : Oper} {a : Act} {Q : Exit → Act → World → Prop}
    (hg : o.guard = none) (l c : Operand) (hop : o.op = Op.makeSlice 24 l c) (L C : Int) (n : Nat) (hl : a.eval l = .int .i64 L) (hc : a.eval c = .int .i64 C) (hL : L = (n : Int)) (hC : C = (n : Int)) (hn : n ≤ 1000000)
    (hK : ∀ w', (∀ ts lv st, ShB w' w.heap.size n 0 ts lv st) → Below w.heap.size w w' → w.heap.size < w'.heap.size → wpList Tryz.prog ops Q rest (a.put o.dst (.slice (some ⟨w.heap.size, 0, none⟩) n n)) w') :
    wpList Tryz.prog ops Q (o :: rest) a w := by
  obtain ⟨i, hi, hz0, hz1, hz2⟩ := info_parts Tryz.infoShare
  refine wpList_make_full w hg l c 24 hop w.heap.size 35 i (.agg #[.string ⟨#[]⟩, .string ⟨#[]⟩, .int .i64 0]) 3 Tryz.underlying24 hi hz0 hz1 .i64 .i64 L C n hl hc hL hC (by rw [hz2]; omega) (by unfold maxLen; omega) (Nat.le_refl _) ?_
  intro w' ho hgr
  have hb : Below w.heap.size w w' := (Below.refl _ _).grown hgr (Nat.le_refl _) (fun k e => by cases e)
  rcases ho.2 with ⟨h', _⟩ | ⟨g, cap, cur, h', _, hh, h1, h2, h3, h4⟩
  · cases h'
  · simp only [Value.slice.injEq, Option.some.injEq, Addr.mk.injEq, and_true, true_and] at h'
    obtain ⟨rfl, rfl⟩ := h'
    exact hK w' (fun ts lv st => ⟨cur, hh, h3, fun i hi => by omega⟩) hb (Array.getElem?_eq_some_iff.1 hh).1
set_option maxHeartbeats 2000000 in
set_option maxRecDepth 20000 in
theorem shares_any (w0 : World) (d : FD) (s : St) (w : World) (h : FS w0 d w s) (ho : d.Ok w0) (hs : Small d s 60) :
    Calls Tryz.prog 26 #[.pointer (some ⟨d.sb, 0, none⟩)] w fun e w' => ∃ g, w.heap.size ≤ g ∧ e = .returned (.slice (some ⟨g, 0, none⟩) d.n d.n) ∧ ShB w' g d.n d.n s.ts s.lv (stopV d s) ∧ Below w.heap.size w w' := by
  have hn6 := ho.n6
  have hk4 := ho.k4
  have hul := ho.len
  have H := hid h
  have HO := hid ho
  have HS := hid hs
  clear h ho hs
  have HB_0 := hid (Below.refl w.heap.size w)
  go_enter Tryz.func26, Tryz.ntmps26
  have hbg : 5 + d.n * (60 + 3) ≤ 10000 := by have := Nat.mul_le_mul_right 63 hn6; omega
  go_wp2_with fail
  refine (usedUp_any w0 d s 60 _ H.out HO.out HS.out.ts hbg).mono ?_
  rintro e1 w1 ⟨rfl, hbb, hb1⟩
  have HB1 := hid hb1
  have HBB := hid hbb
  have hw1 : w.heap.size < w1.heap.size := hbb.lt
  clear hbb hb1
  have HFS1 := hid (H.out.below HB1.out)
  obtain ⟨la, lb, lc, ld, le, lf, hbx, hlr1, hlr2⟩ := HFS1.out.box
  have ltsb := hbx.lt
  have g0 : w1.cell? ⟨d.sb, 0, none⟩ = some (.slice d.ao d.n d.cap) := hbx.cell 0 _ rfl
  have HLR1 := hid hlr1
  have HLR2 := hid hlr2
  clear hlr1 hlr2
  clear hbx HLR1 HLR2
  go_wp2_with (at_make; refine wpList_make_shares _ rfl _ _ rfl _ _ d.n rfl rfl rfl rfl (by omega) ?_)
  intro w2 hsb hb2 hlt2
  have HSB := hid (hsb s.ts s.lv (stopV d s))
  have HB2 : Hid (Below w.heap.size w w2) := HB1.out.trans (hb2.mono HB1.out.size)
  have q0 := (hb2.cell (p := ⟨d.sb, 0, none⟩) ltsb).trans g0
  have ltq : d.sb < w2.heap.size := by omega
  have HB21 := hid hb2
  clear hsb hb2 g0
  go_wp2
  go_loopg [19] d.n (fun g ix wr => ∃ k : Nat, g = d.n - k ∧ k ≤ d.n ∧ ix = .int .i64 k ∧ Hid (ShB wr w1.heap.size d.n k s.ts s.lv (stopV d s)) ∧ Hid (Below w1.heap.size w1 wr))
  case atStart => exact ⟨0, rfl, Nat.zero_le _, rfl, HSB.out, HB21.out⟩
  case round =>
    clear q0 HSB HB2 HB21
    obtain ⟨k, hgk, hk, rfl, hF, hB⟩ := hrel
    have HBW : Hid (Below w.heap.size w wr) := HB1.out.trans (hB.out.mono HB1.out.size)
    by_cases hlt : k < d.n
    · have hkn : (k : Int) < (d.n : Int) := by omega
      have HP0 := hid hF.out.part
      have HBWa := HBW
      have HBa1 := hB
      have HFS0 := hid (H.out.below HBWa.out)
      obtain ⟨la, lb, lc, ld, le, lf, hbx, hlr1, hlr2⟩ := HFS0.out.box
      have lts0 := hbx.lt
      have f0 : wr.cell? ⟨d.sb, 6, none⟩ = some (.slice (some ⟨d.gt, 0, none⟩) d.n d.n) := hbx.cell 6 _ rfl
      clear hbx hlr1 hlr2
      obtain ⟨ua, ub, uc, ud, ue, uf, c0, c1, c2, hu1, hu2⟩ := HFS0.out.ts.cells hlt
      have ltg0 := HFS0.out.ts.lt
      have lu1 := hu1.sm1 (HS.out.ts k hlt)
      have lu2 := hu2.sm2 (HS.out.ts k hlt)
      have HU1 := hid hu1
      have HU2 := hid hu2
      clear hu1 hu2
      go_wp2_with fail
      refine (rtext_any ua ud ub uc ue uf (s.ts k) _ HU1.out HU2.out (by omega) (by omega) (HO.out.tab.of HFS0.out.bel)).mono ?_
      rintro e0 x0 ⟨rfl, hbx0⟩
      have HQ0 := hid (HP0.out.below hbx0)
      have HBWb := hid (HBWa.out.trans (hbx0.mono HBWa.out.size))
      have HBb1 := hid (HBa1.out.trans (hbx0.mono HBa1.out.size))
      clear hbx0 f0 c0 c1 c2 HU1 HU2 HFS0 HBWa HBa1 lts0 ltg0 lu1 lu2
      obtain ⟨y0, hy0⟩ := HQ0.out.has (i := k * 3) (by omega)
      have z0 := HQ0.out.frozen (k * 3)
      have lg0 := HQ0.out.lt
      have HP1 := hid (HQ0.out.put0 hlt)
      have HBWa : Hid (Below w.heap.size w (x0.setCell ⟨w1.heap.size, k * 3, none⟩ (.string ⟨(txt (s.ts k)).toArray⟩))) := HBWb.out.setCell (Nat.le_of_lt hw1) _
      have HBa1 : Hid (Below w1.heap.size w1 (x0.setCell ⟨w1.heap.size, k * 3, none⟩ (.string ⟨(txt (s.ts k)).toArray⟩))) := HBb1.out.setCell (Nat.le_refl _) _
      clear HBWb HBb1
      go_upto_region 7 with fail
      obtain ⟨N0, hV⟩ : ∃ N0, N0 = x0.setCell ⟨w1.heap.size, k * 3, none⟩ (.string ⟨(txt (s.ts k)).toArray⟩) := ⟨_, rfl⟩
      rw [← hV] at HP1 HBWa HBa1 ⊢
      clear hV hy0 z0 lg0 HQ0
      have HFS1 := hid (H.out.below HBWa.out)
      obtain ⟨la, lb, lc, ld, le, lf, hbx, hlr1, hlr2⟩ := HFS1.out.box
      have lts1 := hbx.lt
      have f1 : N0.cell? ⟨d.sb, 7, none⟩ = some (.slice (some ⟨d.gl, 0, none⟩) d.n d.n) := hbx.cell 7 _ rfl
      clear hbx hlr1 hlr2
      obtain ⟨ua, ub, uc, ud, ue, uf, c0, c1, c2, hu1, hu2⟩ := HFS1.out.lv.cells hlt
      have ltg1 := HFS1.out.lv.lt
      have lu1 := hu1.sm1 (HS.out.lv k hlt)
      have lu2 := hu2.sm2 (HS.out.lv k hlt)
      have HU1 := hid hu1
      have HU2 := hid hu2
      clear hu1 hu2
      go_wp2_with fail
      refine (rtext_any ua ud ub uc ue uf (s.lv k) _ HU1.out HU2.out (by omega) (by omega) (HO.out.tab.of HFS1.out.bel)).mono ?_
      rintro e1 x1 ⟨rfl, hbx1⟩
      have HQ1 := hid (HP1.out.below hbx1)
      have HBWb := hid (HBWa.out.trans (hbx1.mono HBWa.out.size))
      have HBb1 := hid (HBa1.out.trans (hbx1.mono HBa1.out.size))
      clear hbx1 f1 c0 c1 c2 HU1 HU2 HFS1 HBWa HBa1 lts1 ltg1 lu1 lu2
      obtain ⟨y1, hy1⟩ := HQ1.out.has (i := k * 3 + 1) (by omega)
      have z1 := HQ1.out.frozen (k * 3 + 1)
      have lg1 := HQ1.out.lt
      have HP2 := hid (HQ1.out.put1 hlt)
      have HBWa : Hid (Below w.heap.size w (x1.setCell ⟨w1.heap.size, k * 3 + 1, none⟩ (.string ⟨(txt (s.lv k)).toArray⟩))) := HBWb.out.setCell (Nat.le_of_lt hw1) _
      have HBa1 : Hid (Below w1.heap.size w1 (x1.setCell ⟨w1.heap.size, k * 3 + 1, none⟩ (.string ⟨(txt (s.lv k)).toArray⟩))) := HBb1.out.setCell (Nat.le_refl _) _
      clear HBWb HBb1
      go_upto_region 8 with fail
      obtain ⟨N1, hV⟩ : ∃ N1, N1 = x1.setCell ⟨w1.heap.size, k * 3 + 1, none⟩ (.string ⟨(txt (s.lv k)).toArray⟩) := ⟨_, rfl⟩
      rw [← hV] at HP2 HBWa HBa1 ⊢
      clear hV hy1 z1 lg1 HQ1
      go_wp2_with fail
      refine (stopOf_any w0 d s k 60 w.heap.size _ (H.out.below HBWa.out) HO.out HS.out.lv HS.out.ts (by omega) (HBB.out.below HBa1.out) hlt).mono ?_
      rintro e9 x9 ⟨rfl, hbx9⟩
      have HQ9 := hid (HP2.out.below hbx9)
      have HBW9 := hid (HBWa.out.trans (hbx9.mono HBWa.out.size))
      have HB19 := hid (HBa1.out.trans (hbx9.mono HBa1.out.size))
      clear hbx9
      obtain ⟨y9, hy9⟩ := HQ9.out.has (i := k * 3 + 2) (by omega)
      have z9 := HQ9.out.frozen (k * 3 + 2)
      have lg9 := HQ9.out.lt
      go_wp2
      go_roundg (d.n - (k + 1))
      case measure => omega
      case rel => exact ⟨k + 1, rfl, by omega, by go_num, HQ9.out.put2 hlt, HB19.out.setCell (Nat.le_refl _) _⟩
    · obtain rfl : k = d.n := by omega
      go_wp2
      go_ret
      exact ⟨w1.heap.size, by omega, rfl, hF.out, HBW.out⟩

end Go.Proofs.YtigokanoflkinaaGreatDoor
