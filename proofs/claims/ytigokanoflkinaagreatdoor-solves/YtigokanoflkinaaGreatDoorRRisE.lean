/- The rise of the reference: what its stores do. -/
import Derived.Test.YtigokanoflkinaaGreatDoorRRisD
namespace Go.Proofs.YtigokanoflkinaaGreatDoor
set_option linter.unusedSimpArgs false
set_option linter.unusedVariables false
open Go.RowKit Por

theorem Own.touch {T : TypeId} {B C : Nat} {w w' : World} {v : Value} {l : List Int} (h : Own B w v l) (ht : Touch T C w w') (hT : 3 ≠ T) : Own B w' v l := ht.own h hT
theorem BLs.touch {T : TypeId} {B C : Nat} {w w' : World} {v : Value} {l : List Bool} (h : BLs B w v l) (ht : Touch T C w w') (hT : 4 ≠ T) : BLs B w' v l := ht.own h hT
/-- p.have[i] = x -/
theorem RisM.setHave {w : World} {d : RD} {s : RV} (h : RisM w d s) {i x : Nat} (hi : i < s.hl.length) {ao : Option Addr} {k cap : Nat} (hr : Row w ao k cap (limbs x)) :
    ∃ vt vg hb n hc vs qo qn qc, Bx w d.pb (d.cells vt vg (.slice (some ⟨hb, 0, none⟩) n hc) vs qo qn qc) 75 ∧ n = s.hl.length ∧ hb < w.heap.size ∧ d.pb < hb ∧ (∃ y, w.cell? ⟨hb, i, none⟩ = some y) ∧ w.frozen? ⟨hb, i, none⟩ = false ∧ Touch 22 d.B1 w (w.setCell ⟨hb, i, none⟩ (.slice ao k cap)) ∧
      RisM (w.setCell ⟨hb, i, none⟩ (.slice ao k cap)) d { s with hl := s.hl.set i x } := by
  obtain ⟨⟨vt, vg, vh, vs, qo, qn, qc, h1, h2, h3, h4, h5, h6, h7⟩, h8, h9, h10, h11, h12⟩ := h
  obtain ⟨so, sc, rfl⟩ := h4.shape
  obtain ⟨hb, a', k', c', rfl, hlt, cc, cz, _⟩ := h4.get hi
  rw [Nat.zero_add] at cc cz
  obtain ⟨hB, cur, hcur⟩ := h4.at
  have hT : Touch 22 d.B1 w (w.setCell ⟨hb, i, none⟩ (.slice ao k cap)) := Touch.of_set hcur hB
  have hlt2 := h7 hb _ _ rfl
  refine ⟨vt, vg, hb, _, sc, vs, qo, qn, qc, h1, rfl, hlt, by omega, ⟨_, cc⟩, cz, hT, ⟨⟨vt, vg, .slice (some ⟨hb, 0, none⟩) s.hl.length sc, vs, qo, qn, qc, hT.bx h1 (by decide), h2.touch hT (by decide), ?_, h4.set hi hr, h5.touch hT (by decide), h6.touch hT (by decide), ?_⟩, h8, h9, h10.setCell (by show d.w0.heap.size ≤ hb; omega) _, h11, h12⟩⟩
  · obtain ⟨go, gc, rfl⟩ := h3.shape
    refine h3.other hcur (fun a e => ?_)
    subst e
    have hg := h3
    obtain ⟨xs, g1, _⟩ := hg
    rcases g1.2 with ⟨e, _⟩ | ⟨g, cap', cur', e, g3, _⟩
    · cases e
    · cases e; show g ≠ hb; omega
  · intro b n c e; cases e; exact hlt2
/-- p.still[i] = x -/
theorem RisM.setStill {w : World} {d : RD} {s : RV} (h : RisM w d s) {i : Nat} (hi : i < s.sl.length) (x : Bool) :
    ∃ vt vg vh sb n sc qo qn qc, Bx w d.pb (d.cells vt vg vh (.slice (some ⟨sb, 0, none⟩) n sc) qo qn qc) 75 ∧ n = s.sl.length ∧ sb < w.heap.size ∧ d.pb < sb ∧ (∃ y, w.cell? ⟨sb, i, none⟩ = some y) ∧ w.frozen? ⟨sb, i, none⟩ = false ∧ Touch 4 d.B1 w (w.setCell ⟨sb, i, none⟩ (.bool x)) ∧
      RisM (w.setCell ⟨sb, i, none⟩ (.bool x)) d { s with sl := s.sl.set i x } := by
  obtain ⟨⟨vt, vg, vh, vs, qo, qn, qc, h1, h2, h3, h4, h5, h6, h7⟩, h8, h9, h10, h11, h12⟩ := h
  obtain ⟨so, sc, rfl⟩ := h5.shape
  obtain ⟨sb, rfl, hlt, cc, cz⟩ := h5.get hi
  rw [Nat.zero_add] at cc cz
  obtain ⟨hset, hT⟩ := h5.set i x hi
  have hB : d.B1 ≤ sb := by
    rcases h5.2 with ⟨e, _⟩ | ⟨g, cap, cur, e, h3', _⟩
    · cases e
    · cases e; exact h3'
  exact ⟨vt, vg, vh, sb, _, sc, qo, qn, qc, h1, rfl, hlt, by omega, ⟨_, cc⟩, cz, hT, ⟨⟨vt, vg, vh, _, qo, qn, qc, hT.bx h1 (by decide), h2.touch hT (by decide), h3.touch hT (by decide) (by decide), h4.touch hT (by decide) (by decide), hset, h6.touch hT (by decide), h7⟩, h8, h9, h10.setCell (by show d.w0.heap.size ≤ sb; omega) _, h11, h12⟩⟩
/-- p.q = x -/
theorem RisM.setQ {w : World} {d : RD} {s : RV} (h : RisM w d s) {x : Nat} {ao : Option Addr} {k cap : Nat} (hr : Row w ao k cap (limbs x)) :
    RisM (w.setCell ⟨d.pb, 6, none⟩ (.slice ao k cap)) d { s with q := x } ∧ Touch 75 d.pb w (w.setCell ⟨d.pb, 6, none⟩ (.slice ao k cap)) := by
  obtain ⟨⟨vt, vg, vh, vs, qo, qn, qc, h1, h2, h3, h4, h5, h6, h7⟩, h8, h9, h10, h11, h12⟩ := h
  have hT : Touch 75 d.pb w (w.setCell ⟨d.pb, 6, none⟩ (.slice ao k cap)) := Touch.of_set h1 (Nat.le_refl _)
  refine ⟨⟨⟨vt, vg, vh, vs, ao, k, cap, ?_, h2.touch hT (by decide), h3.touch hT (by decide) (by decide), h4.touch hT (by decide) (by decide), h5.touch hT (by decide), hr.touch hT (by decide), h7⟩, h8, h9, h10.setCell h11 _, h11, h12⟩, hT⟩
  exact bx_setq h1 6 (.slice ao k cap)

/-- p.have[i] = x, at the cells that the walk has met -/
theorem RisM.setHaveAt {w : World} {d : RD} {s : RV} (h : RisM w d s) {i x : Nat} (hi : i < s.hl.length) {ao : Option Addr} {k cap : Nat} (hr : Row w ao k cap (limbs x)) {hb n hc : Nat} (e : w.cell? ⟨d.pb, 4, none⟩ = some (.slice (some ⟨hb, 0, none⟩) n hc)) :
    hb < w.heap.size ∧ d.pb < hb ∧ (∃ y, w.cell? ⟨hb, i, none⟩ = some y) ∧ w.frozen? ⟨hb, i, none⟩ = false ∧ Touch 22 d.B1 w (w.setCell ⟨hb, i, none⟩ (.slice ao k cap)) ∧
      RisM (w.setCell ⟨hb, i, none⟩ (.slice ao k cap)) d { s with hl := s.hl.set i x } := by
  obtain ⟨vt, vg, hb', n', hc', vs, qo, qn, qc, hbx, _, h1, h2, h3, h4, h5, h6⟩ := h.setHave hi hr
  have e4 : w.cell? ⟨d.pb, 4, none⟩ = some (.slice (some ⟨hb', 0, none⟩) n' hc') := hbx.cell 4 _ rfl
  rw [e4] at e
  cases e
  exact ⟨h1, h2, h3, h4, h5, h6⟩
theorem RisM.setStillAt {w : World} {d : RD} {s : RV} (h : RisM w d s) {i : Nat} (hi : i < s.sl.length) (x : Bool) {sb n sc : Nat} (e : w.cell? ⟨d.pb, 5, none⟩ = some (.slice (some ⟨sb, 0, none⟩) n sc)) :
    sb < w.heap.size ∧ d.pb < sb ∧ (∃ y, w.cell? ⟨sb, i, none⟩ = some y) ∧ w.frozen? ⟨sb, i, none⟩ = false ∧ Touch 4 d.B1 w (w.setCell ⟨sb, i, none⟩ (.bool x)) ∧
      RisM (w.setCell ⟨sb, i, none⟩ (.bool x)) d { s with sl := s.sl.set i x } := by
  obtain ⟨vt, vg, vh, sb', n', sc', qo, qn, qc, hbx, _, h1, h2, h3, h4, h5, h6⟩ := h.setStill hi x
  have e4 : w.cell? ⟨d.pb, 5, none⟩ = some (.slice (some ⟨sb', 0, none⟩) n' sc') := hbx.cell 5 _ rfl
  rw [e4] at e
  cases e
  exact ⟨h1, h2, h3, h4, h5, h6⟩
theorem cell_set_ne {w : World} {b o g i : Nat} {u : Value} (h : g ≠ b) : (w.setCell ⟨b, o, none⟩ u).cell? ⟨g, i, none⟩ = w.cell? ⟨g, i, none⟩ := World.cell?_of_block (Below.heap_setCell w _ u g h)

/- One turn, in lists. -/
/-- the lists behind a turn: l those that stop -/
theorem turn_of {d : RD} {s s' : RV} {N S : Nat} {kd : Bool} {l : List Nat} (hx : nextT d.a (nn s.gl) s.R = (N, S, kd)) (hl : ∀ j, j ∈ l ↔ j < d.us.length ∧ bn s.sl j = true ∧ stopT d.a (nn s.gl) s.R N S j)
    (hq : s'.q = if kd then s.q * S else s.q) (hs : ∀ j, j < d.us.length → bn s'.sl j = if j ∈ l then false else bn s.sl j)
    (hv : ∀ j, j < d.us.length → nn s'.hl j = if j ∈ l then (if kd then N * nn s.gl j else d.a.C j * s'.q) else if kd then nn s.hl j * S else nn s.hl j) : TurnT d.a (nn s.gl) s.R s'.R := by
  refine ⟨fun i hi => ?_, ?_, fun i hi h1 h2 => ?_, fun i hi h1 => ?_⟩
  · rw [hx]
    show bn s'.sl i = true ↔ bn s.sl i = true ∧ _
    rw [hs i hi]
    by_cases h : i ∈ l
    · rw [if_pos h]
      have h2 := (hl i).1 h
      simp only [Bool.false_eq_true, false_iff]
      exact fun h5 => h5.2 h2.2.2
    · rw [if_neg h]
      constructor
      · intro h5; exact ⟨h5, fun h6 => h ((hl i).2 ⟨hi, h5, h6⟩)⟩
      · exact fun h5 => h5.1
  · rw [hx]; exact hq
  · rw [hx] at h2 ⊢
    show nn s'.hl i = _
    rw [hv i hi, if_pos ((hl i).2 ⟨hi, h1, h2⟩)]; rfl
  · rw [hx] at h1 ⊢
    show nn s'.hl i = _
    rw [hv i hi, if_neg (fun h5 => h1 ((hl i).1 h5).2)]; rfl
end Go.Proofs.YtigokanoflkinaaGreatDoor
