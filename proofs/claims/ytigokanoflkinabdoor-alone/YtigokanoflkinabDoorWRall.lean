/- fill.readAll, least. (Laid by mkfill.py.) -/
import Derived.Test.YtigokanoflkinabDoorWNeg
namespace Go.Proofs.YtigokanoflkinabDoor
set_option linter.unusedSimpArgs false
set_option linter.unusedVariables false
open Go.RowKit Por

/-- texts in memory -/
def strs (ss : List ByteArray) : List Value := ss.map Value.string
def tx (ss : List ByteArray) (i : Nat) : ByteArray := ss.getD i ByteArray.empty
theorem strs_len (ss : List ByteArray) : (strs ss).length = ss.length := by simp [strs]
theorem strs_get (ss : List ByteArray) {i : Nat} (h : i < ss.length) : (strs ss)[i]? = some (.string (tx ss i)) := by
  unfold strs tx
  rw [List.getElem?_map, List.getElem?_eq_getElem h, List.getD_eq_getElem?_getD, List.getElem?_eq_getElem h]; rfl
theorem Arr.str {w : World} {ao : Option Addr} {n cap : Nat} {ss : List ByteArray} (h : Arr w 1 ao n cap (strs ss)) {b o : Nat} (e : ao = some ⟨b, o, none⟩) {i : Nat} (hi : i < n) : w.cell? ⟨b, o + i, none⟩ = some (.string (tx ss i)) := by
  have hl := h.len
  rw [strs_len] at hl
  have := h.cell b o e i _ (strs_get ss (by omega)) 0 (.string (tx ss i)) rfl
  simpa using this
theorem tx_get (ss : List ByteArray) {i : Nat} (h : i < ss.length) : ss[i] = tx ss i := by
  unfold tx; rw [List.getD_eq_getElem?_getD, List.getElem?_eq_getElem h]; rfl
/-- is it a fraction; which -/
def okS (s : ByteArray) : Bool := (readL s.data.toList).isSome
def sv (s : ByteArray) : Rat := (readL s.data.toList).getD 0
def svs (ss : List ByteArray) (i : Nat) : Rat := sv (tx ss i)

/-- what readAll gives -/
def ReadEnd (w w' : World) (e : Ending) (ss : List ByteArray) : Prop :=
  match ss.all okS with
  | false => e = .returned (.tuple #[.slice none 0 0, .bool false]) ∧ Below w.heap.size w w'
  | true => ∃ ao cap, e = .returned (.tuple #[.slice ao ss.length cap, .bool true]) ∧ Frs w' ao ss.length cap (svs ss) ∧ Below w.heap.size w w'

set_option maxHeartbeats 2000000 in
set_option maxRecDepth 20000 in
theorem readAll_any (ao : Option Addr) (n cap : Nat) (ss : List ByteArray) (w : World) (ha : Arr w 1 ao n cap (strs ss)) (hs : ∀ i, (tx ss i).size ≤ maxLen) (hn : n ≤ 1000000) :
    Calls Tryd.prog 29 #[.slice ao n cap] w fun e w' => ReadEnd w w' e ss := by
  have hlen := ha.len
  rw [strs_len] at hlen
  have HS := hid hs
  have HA := hid ha
  clear ha hs
  go_enter Tryd.func29, Tryd.ntmps29
  go_wp2_with (at_make; refine wpList_make_fras _ rfl _ _ rfl _ _ n rfl rfl rfl rfl hn ?_)
  intro w0 hfb hb0 hlt0
  have HF := hid (hfb (svs ss))
  have HB0 := hid hb0
  clear hfb hb0
  go_wp2
  go_loopw [14] (fun i wr => ∃ k : Nat, k ≤ n ∧ i = .int .i64 k ∧ Hid ((ss.take k).all okS = true) ∧ Hid (FB wr w.heap.size n k (svs ss)) ∧ Hid (Below w.heap.size w wr)) (fun i _ => n - (intOf i).toNat)
  case atStart => exact ⟨0, Nat.zero_le _, rfl, rfl, HF.out, HB0.out⟩
  case round =>
    obtain ⟨k, hk, rfl, hz, hF, hB⟩ := hrel
    by_cases hlt : k < n
    · obtain ⟨b, o, rfl, hb⟩ := HA.out.head (by omega)
      have hc := (HA.out.below hB.out).str rfl hlt
      have hst := hid (take_all_step okS ss (i := k) (by omega))
      have hget := hid (tx_get ss (i := k) (by omega))
      have hsz := HS.out k
      have HSZ := hid hsz
      clear hsz
      have HC := hid hc
      cases hr : readL (tx ss k).data.toList with
      | none =>
        have E : okS (tx ss k) = false := by unfold okS; rw [hr]; rfl
        have EA : ss.all okS = false := all_false_of okS ss (i := k) (by omega) (by rw [hget.out]; exact E)
        have HE := hid EA
        have HR := hid hr
        clear E EA hr
        go_wp2_with fail
        refine (rread_no (tx ss k) _ HSZ.out HR.out).mono ?_
        rintro e1 w1 ⟨rfl, hb1⟩
        have HB1 : Hid (Below w.heap.size w w1) := hB.out.trans (hb1.mono hB.out.size)
        clear hb1
        go_wp2
        go_ret2
        unfold ReadEnd
        rw [HE.out]
        exact ⟨rfl, HB1.out.alloc HB1.out.size _⟩
      | some q =>
        have E : okS (tx ss k) = true := by unfold okS; rw [hr]; rfl
        have EQ : svs ss k = q := by unfold svs sv; rw [hr]; rfl
        have HE := hid E
        have HQ := hid EQ
        have HR := hid hr
        clear E EQ hr
        go_wp2_with fail
        refine (rread_yes (tx ss k) _ q HR.out).mono ?_
        rintro e1 w1 ⟨v, rfl, ⟨pa, pb, pc, pd, pe, pf, rfl, hp1, hp2⟩, hb1⟩
        have P1 := hid hp1
        have P2 := hid hp2
        have F1 := hid (hF.out.below hb1)
        have B1 : Hid (Below w.heap.size w w1) := hB.out.trans (hb1.mono hB.out.size)
        obtain ⟨x0, hx0⟩ := F1.out.has (j := k * 3) (by omega)
        obtain ⟨x1, hx1⟩ := F1.out.has (j := k * 3 + 1) (by omega)
        obtain ⟨x2, hx2⟩ := F1.out.has (j := k * 3 + 2) (by omega)
        have cf := (hF.out.below hb1).lt
        have z0 := (hF.out.below hb1).frozen (k * 3)
        have z1 := (hF.out.below hb1).frozen (k * 3 + 1)
        have z2 := (hF.out.below hb1).frozen (k * 3 + 2)
        clear hp1 hp2 hb1
        go_wp2
        go_roundw
        case rel => exact ⟨k + 1, by omega, by go_num, by rw [Hid, hst.out, hz.out, hget.out, HE.out]; rfl, (by
          have h5 := F1.out.put hlt (Nat.le_refl k) q P1.out P2.out
          rw [if_pos rfl] at h5
          exact (h5.alloc _).congr (fun j hj => by
            by_cases e : j = k
            · subst e; rw [upd_same]; exact HQ.out.symm
            · rw [upd_other _ _ e])), (below_putA B1.out (Nat.le_refl _) _ _ _).alloc (below_putA B1.out (Nat.le_refl _) _ _ _).size _⟩
        case measure => simp [intOf]; omega
    · obtain rfl : k = n := by omega
      have E : ss.all okS = true := by
        have := hz.out
        rwa [List.take_of_length_le (by omega)] at this
      have HE := hid E; clear E
      go_wp2
      go_ret2
      unfold ReadEnd
      rw [HE.out]
      rw [hlen]
      exact ⟨_, _, rfl, hF.out.frs (by unfold maxLen; omega), hB.out⟩

end Go.Proofs.YtigokanoflkinabDoor
