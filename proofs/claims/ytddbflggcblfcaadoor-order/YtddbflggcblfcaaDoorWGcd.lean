/- natural.CommonDivisor: the greatest common divisor of any two numbers. -/
import Derived.Test.YtddbflggcblfcaaDoorWDivD
import Derived.Deep.LoopGhost
namespace Go.Proofs.YtddbflggcblfcaaDoor
set_option linter.unusedSimpArgs false
set_option linter.unusedVariables false
open Go.RowKit Por

theorem Bx.set {w : World} {b : Nat} {v : Value} {T : TypeId} (h : Bx w b #[v] T) (u : Value) : Bx (w.setCell ⟨b, 0, none⟩ u) b #[u] T := by
  unfold Bx
  rw [heap_setCell_same w b 0 _ _ _ h]; rfl
theorem Row.alloc {w : World} {ao : Option Addr} {n cap : Nat} {xs : List Int} (h : Row w ao n cap xs) (o : Obj) : Row (w.alloc o) ao n cap xs := h.below ((Below.refl _ _).alloc (Nat.le_refl _) _)

theorem len_le_of_row {w : World} {ao : Option Addr} {n cap x : Nat} (h : Row w ao n cap (limbs x)) : n = (limbs x).length := h.len.symm

set_option maxHeartbeats 1000000 in
theorem gcd_any (ao bo : Option Addr) (n capa m capb : Nat) (x y : Nat) (w : World) (hr : Row w ao n capa (limbs x)) (hs : Row w bo m capb (limbs y)) (hn : n ≤ 40000) (hm : m ≤ 40000) :
    Calls Tryd.prog 120 #[.agg #[.slice ao n capa], .agg #[.slice bo m capb]] w fun e w' => ∃ v, e = .returned v ∧ Num w' v (Nat.gcd x y) ∧ Below w.heap.size w w' := by
  obtain ⟨c1, c2, c3, c5⟩ := boxes3 w #[.slice ao n capa] #[.slice bo m capb] #[.slice none 0 0] 74 74 74
  have hr1 := hid (hr.below c5)
  have hs1 := hid (hs.below c5)
  have H5 := hid c5
  have X1 := hid c1
  have X2 := hid c2
  have X3 := hid c3
  clear hr hs c5 c1 c2 c3
  go_enter Tryd.func120, Tryd.ntmps120
  go_wp2
  go_loopg [5] y (fun k _ wr => ∃ (ao bo : Option Addr) (n capa m capb a b : Nat), k = b ∧ n ≤ 40000 ∧ m ≤ 40000 ∧ Hid (Nat.gcd a b = Nat.gcd x y) ∧ Hid (Row wr ao n capa (limbs a)) ∧ Hid (Row wr bo m capb (limbs b)) ∧
      Hid (Bx wr w.heap.size #[.slice ao n capa] 74) ∧ Hid (Bx wr (w.heap.size + 1) #[.slice bo m capb] 74) ∧ Hid (Bx wr (w.heap.size + 1 + 1) #[.slice none 0 0] 74) ∧ Hid (Below w.heap.size w wr))
  case atStart => exact ⟨ao, bo, n, capa, m, capb, x, y, rfl, hn, hm, rfl, hr1.out, hs1.out, X1.out, X2.out, X3.out, H5.out⟩
  case round =>
    obtain ⟨ao, bo, n, capa, m, capb, a, b, hgk, hn, hm, hgcd, hra, hrb, B1, B2, B3, hB⟩ := hrel
    have HG := hid hgk
    clear hgk hr1 hs1 X1 X2 X3 H5
    have hsz : w.heap.size + 1 + 1 < wr.heap.size := B3.out.lt
    have b1 := B1.out.cell 0 _ rfl
    have b2 := B2.out.cell 0 _ rfl
    have b3 := B3.out.cell 0 _ rfl
    have fz := B3.out.frozen 0
    by_cases hb0 : b = 0
    · have hz : isZ b = true := by simp [isZ, hb0]
      go_wp2_with fail
      refine (isZero_any bo m capb b _ hrb.out (by omega)).mono ?_
      rintro e w2 ⟨rfl, hb2⟩
      have C1 := hid (B1.out.below hb2 (by omega))
      have C3 := hid (B3.out.below hb2 (by omega))
      have c1 := C1.out.cell 0 _ rfl
      have c3 := C3.out.cell 0 _ rfl
      have f3 := C3.out.frozen 0
      have HR2 := hid (hra.out.below hb2)
      have HB2 : Hid (Below w.heap.size w w2) := hB.out.trans (hb2.mono (by omega))
      have HE : Hid (a = Nat.gcd x y) := by
        have := hgcd.out
        rw [hb0, Nat.gcd_zero_right] at this
        exact this
      clear hb2
      go_wp2
      refine bodyPost_ret (v := .agg #[.slice ao n capa]) (by simp [results, Tryd.results120, go_sem, c3]) rfl ⟨_, rfl, ⟨_, _, _, rfl, ?_⟩, HB2.out.setCell (by simp; omega) _⟩
      rw [← HE.out]
      exact HR2.out.other _ _ _ C3.out (by decide)
    · have hz : isZ b = false := by simp [isZ, hb0]
      go_wp2_with fail
      refine (isZero_any bo m capb b _ hrb.out (by omega)).mono ?_
      rintro e w2 ⟨rfl, hb2⟩
      have hsz2 := hb2.size
      have C1 := hid (B1.out.below hb2 (by omega))
      have C2 := hid (B2.out.below hb2 (by omega))
      have C3 := hid (B3.out.below hb2 (by omega))
      have c1 := C1.out.cell 0 _ rfl
      have c2 := C2.out.cell 0 _ rfl
      have HR2 := hid (hra.out.below hb2)
      have HS2 := hid (hrb.out.below hb2)
      have HB2 : Hid (Below w.heap.size w w2) := hB.out.trans (hb2.mono (by omega))
      clear hb2
      go_wp2_with fail
      refine (remainder_any ao bo n capa m capb a b _ HR2.out HS2.out hn hm).mono ?_
      rintro e w3 ⟨v, rfl, ⟨ro, rn, rcap, rfl, hr3⟩, hb3⟩
      have hsz3 := hb3.size
      have D1 := hid (C1.out.below hb3 (by omega))
      have D2 := hid (C2.out.below hb3 (by omega))
      have D3 := hid (C3.out.below hb3 (by omega))
      have d1 := D1.out.cell 0 _ rfl
      have d2 := D2.out.cell 0 _ rfl
      have f1 := D1.out.frozen 0
      have f2 := D2.out.frozen 0
      have HS3 := hid (HS2.out.below hb3)
      have HR3 := hid hr3
      have HB3 : Hid (Below w.heap.size w w3) := HB2.out.trans (hb3.mono (by omega))
      have hp0 : w.heap.size < w3.heap.size := by omega
      have hp1 : w.heap.size + 1 < w3.heap.size := by omega
      clear hb3 hr3 c1 c2 b1 b2 b3 fz hsz hsz2 hsz3
      have hrn : rn ≤ 40000 := by
        have h1 := HR3.out.len
        have h2 := HS3.out.len
        have := @len_mono (a % b) b (Nat.le_of_lt (Nat.mod_lt a (by omega)))
        omega
      go_wp2
      go_roundg (a % b)
      case measure => rw [HG.out]; exact Nat.mod_lt a (by omega)
      case rel =>
        have E2 := D2.out.other ⟨w.heap.size, 0, none⟩ (.slice bo m capb) (by show w.heap.size ≠ w.heap.size + 1; omega)
        have E1 := (D1.out.set (.slice bo m capb)).other ⟨w.heap.size + 1, 0, none⟩ (.slice ro rn rcap) (by show w.heap.size + 1 ≠ w.heap.size; omega)
        have E3 := (D3.out.other ⟨w.heap.size, 0, none⟩ (.slice bo m capb) (by show w.heap.size ≠ w.heap.size + 1 + 1; omega)).other ⟨w.heap.size + 1, 0, none⟩ (.slice ro rn rcap) (by show w.heap.size + 1 ≠ w.heap.size + 1 + 1; omega)
        refine ⟨bo, ro, m, capb, rn, rcap, b, a % b, rfl, hm, hrn, ?_, ?_, ?_, ?_, ?_, ?_, ?_⟩
        · exact ((Nat.gcd_comm b (a % b)).trans ((Nat.gcd_rec b a).symm.trans (Nat.gcd_comm b a))).trans hgcd.out
        · exact ((HS3.out.other _ _ _ D1.out (by decide)).other _ _ _ E2 (by decide)).alloc _
        · exact ((HR3.out.other _ _ _ D1.out (by decide)).other _ _ _ E2 (by decide)).alloc _
        · exact bx_past E1 _
        · exact bx_past (E2.set _) _
        · exact bx_past E3 _
        · exact ((HB3.out.setCell (Nat.le_refl _) _).setCell (by show w.heap.size ≤ w.heap.size + 1; omega) _).alloc (by simp [World.setCell]; omega) _
end Go.Proofs.YtddbflggcblfcaaDoor
