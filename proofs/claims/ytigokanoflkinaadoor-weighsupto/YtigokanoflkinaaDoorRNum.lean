/- portionref scaled, fractions; order of fractions that are not in their lowest terms. -/
import Derived.Test.YtigokanoflkinaaDoorRefEnd
import Derived.Test.YtigokanoflkinaaDoorWRall
import Derived.Test.YtigokanoflkinaaDoorRErr
import Derived.Deep.RegionHeld3
import Derived.Deep.DeepCutAuto
namespace Go.Proofs.YtigokanoflkinaaDoor
set_option linter.unusedSimpArgs false
set_option linter.unusedVariables false
open Go.RowKit Por

theorem Tryd.infoNum : (Tryd.prog.info? 82).map (fun i => (i.zero, i.size, i.bytes)) = some (some (.agg #[.bool false, .slice none 0 0, .slice none 0 0]), 3, 56) := by kernel_rfl
/-- a list of the reference's numbers, of the call's own -/
def NO (base : Nat) (w : World) (v : Value) (l : List Rat) : Prop := ∃ xs, w.ownsRow base 82 3 v l.length xs ∧ ∀ i, i < l.length → ∃ uo un uc yo yn yc, xs[i * 3]? = some (.bool (negB (rq l i))) ∧ xs[i * 3 + 1]? = some (.slice uo un uc) ∧ xs[i * 3 + 2]? = some (.slice yo yn yc) ∧ Row w uo un uc (limbs (rq l i).num.natAbs) ∧ Row w yo yn yc (limbs (rq l i).den)
theorem NO.nil (base : Nat) (w : World) : NO base w (.slice none 0 0) [] := ⟨[], World.ownsRow_nil _ _ _ _, fun i hi => by simp at hi⟩
theorem NO.below {base : Nat} {w w' : World} {v : Value} {l : List Rat} (h : NO base w v l) (hb : Below w.heap.size w w') : NO base w' v l := by
  obtain ⟨xs, ⟨h0, h⟩, h2⟩ := h
  refine ⟨xs, ⟨h0, ?_⟩, fun i hi => ?_⟩
  · rcases h with h | ⟨g, cap, cur, h1, h2, h3, h4⟩
    · exact .inl h
    · exact .inr ⟨g, cap, cur, h1, h2, (hb.block g (Array.getElem?_eq_some_iff.1 h3).1).trans h3, h4⟩
  · obtain ⟨uo, un, uc, yo, yn, yc, c0, c1, c2, r1, r2⟩ := h2 i hi
    exact ⟨uo, un, uc, yo, yn, yc, c0, c1, c2, r1.below hb, r2.below hb⟩
theorem NO.frs {base : Nat} {w : World} {v : Value} {l : List Rat} (h : NO base w v l) : ∃ ao cap, v = .slice ao l.length cap ∧ Frs w ao l.length cap (rq l) := by
  obtain ⟨xs, ⟨h0, h⟩, h2⟩ := h
  rcases h with ⟨rfl, h⟩ | ⟨g, cap, cur, rfl, hb, h3, h4, h5, h6, h7⟩
  · obtain rfl : l = [] := List.length_eq_zero_iff.1 h
    exact ⟨none, 0, rfl, [], Arr.nil _ _, fun i v hv => by simp at hv⟩
  · refine ⟨_, _, rfl, ?_⟩
    have hcur : ∀ j, j < l.length * 3 → cur[j]? = xs[j]? := fun j hj => by
      rw [← h7, ← Array.getElem?_toList, List.getElem?_take, if_pos hj]
    refine ⟨(List.range l.length).map (fun i => .agg #[cur.getD (i * 3) (.bool false), cur.getD (i * 3 + 1) (.bool false), cur.getD (i * 3 + 2) (.bool false)]), ⟨by simp, h4, h5, fun _ => ⟨g, 0, rfl, (Array.getElem?_eq_some_iff.1 h3).1⟩, ?_⟩, ?_⟩
    · intro b o e i v hv j u hu
      cases e
      have hi : i < l.length := by simpa using (List.getElem?_eq_some_iff.1 hv).1
      obtain ⟨uo, un, uc, yo, yn, yc, c0, c1, c2, r1, r2⟩ := h2 i hi
      rw [← hcur _ (by omega)] at c0 c1 c2
      rw [List.getElem?_map, List.getElem?_range hi] at hv
      cases hv
      rw [Nat.zero_add, cell_of_row w g _ _ _ _ h3]
      match j with
      | 0 => rw [Nat.add_zero, c0, ← hu]; simp [Value.cells, c0, Array.getD_eq_getD_getElem?]
      | 1 => rw [c1, ← hu]; simp [Value.cells, c1, Array.getD_eq_getD_getElem?]
      | 2 => rw [c2, ← hu]; simp [Value.cells, c2, Array.getD_eq_getD_getElem?]
      | j + 3 => simp [Value.cells] at hu
    · intro i v hv
      have hi : i < l.length := by simpa using (List.getElem?_eq_some_iff.1 hv).1
      obtain ⟨uo, un, uc, yo, yn, yc, c0, c1, c2, r1, r2⟩ := h2 i hi
      rw [← hcur _ (by omega)] at c0 c1 c2
      rw [List.getElem?_map, List.getElem?_range hi] at hv
      cases hv
      simp only [Array.getD_eq_getD_getElem?, c0, c1, c2, Option.getD_some]
      exact ⟨uo, un, uc, yo, yn, yc, rfl, r1, r2⟩
/-- out = append(out, x) -/
theorem wpList_append_num (w : World) {ops : Array Oper} {rest : List Oper} {o : Oper} {a : Act} {Q : Exit → Act → World → Prop} (hgd : o.guard = none) (s x : Operand)
    (hop : o.op = Op.call { callee := Callee.builtin Builtin.append, args := #[s, x], argTypes := #[94, 94] })
    (base : Nat) (v : Value) (l : List Rat) (ad : Addr) (c : Nat) (q : Rat) (uo : Option Addr) (un uc : Nat) (yo : Option Addr) (yn yc : Nat) (hs : a.eval s = v) (hx : a.eval x = .slice (some ad) 1 c) (hown : NO base w v l)
    (h0 : w.cell? (ad.add 0) = some (.bool (negB q))) (h1 : w.cell? (ad.add 1) = some (.slice uo un uc)) (h2 : w.cell? (ad.add 2) = some (.slice yo yn yc)) (r1 : Row w uo un uc (limbs q.num.natAbs)) (r2 : Row w yo yn yc (limbs q.den))
    (hle : l.length ≤ 1000000000) (hb : base ≤ w.heap.size)
    (h : ∀ v' w', NO base w' v' (l ++ [q]) → Below base w w' → wpList Tryd.prog ops Q rest (a.put o.dst v') w') : wpList Tryd.prog ops Q (o :: rest) a w := by
  obtain ⟨i, hi, hz0, hz1, hz2⟩ := info_parts Tryd.infoNum
  obtain ⟨xs, hO, hC⟩ := hown
  have hob : ∀ k, v.ownBlock = some k → base ≤ k := by
    intro k hk
    rcases hO.2 with ⟨rfl, _⟩ | ⟨g, cap, cur, rfl, h2, _⟩
    · cases hk
    · cases hk; exact h2
  refine wpList_append_own w hgd s x _ hop base 82 i (.agg #[.bool false, .slice none 0 0, .slice none 0 0]) 3 56 Tryd.underlying94 hi hz0 hz1 hz2 rfl (by decide) v l.length _ hs hO ad 1 c [.bool (negB q), .slice uo un uc, .slice yo yn yc] hx (by simp) ?_ ?_ (by unfold maxLen; omega) (by omega) hb ?_
  · intro j u hj
    match j with
    | 0 => rw [h0]; simpa using hj
    | 1 => rw [h1]; simpa using hj
    | 2 => rw [h2]; simpa using hj
    | j + 3 => simp at hj
  · intro u hu
    simp at hu
    rcases hu with rfl | rfl | rfl <;> rfl
  · intro v' w' g1 g2 _
    have hkeep : ∀ ao n cap xs, Row w ao n cap xs → Row w' ao n cap xs := by
      intro ao n cap ys hr
      have key : ∀ b o, ao = some ⟨b, o, none⟩ → 0 < n → b < w.heap.size ∧ w'.heap[b]? = w.heap[b]? := by
        intro b o e hn
        obtain ⟨arr, fz, hh⟩ := hr.ib b o e hn
        have hlt := (Array.getElem?_eq_some_iff.1 hh).1
        refine ⟨hlt, g2.block b hlt (fun hc => ?_)⟩
        rcases hO.2 with ⟨rfl, _⟩ | ⟨g, cap, cur, rfl, _, h3, _⟩
        · cases hc
        · cases hc; rw [h3] at hh; cases hh
      refine ⟨hr.len, hr.le, hr.cm, fun hn => ?_, fun b o e hn => ?_, fun b o e j hj => ?_⟩
      · obtain ⟨b, o, e, hlt⟩ := hr.head hn
        exact ⟨b, o, e, Nat.lt_of_lt_of_le hlt g2.size⟩
      · obtain ⟨arr, fz, hh⟩ := hr.ib b o e hn
        exact ⟨arr, fz, (key b o e hn).2.trans hh⟩
      · rw [← hr.cell b o e j hj]
        exact World.cell?_of_block (key b o e (by omega)).2
    have hxl : xs.length = l.length * 3 := hO.1
    refine h v' w' ⟨xs ++ [.bool (negB q), .slice uo un uc, .slice yo yn yc], by rw [List.length_append]; exact g1, fun i hi => ?_⟩ ((Below.refl base w).grown g2 hb hob)
    rw [List.length_append, List.length_singleton] at hi
    by_cases e : i < l.length
    · have hq : rq (l ++ [q]) i = rq l i := by unfold rq; rw [List.getD_eq_getElem?_getD, List.getD_eq_getElem?_getD, List.getElem?_append_left e]
      obtain ⟨ao, an, ac, bo, bn, bc, c0, c1, c2, s1, s2⟩ := hC i e
      rw [hq]
      exact ⟨ao, an, ac, bo, bn, bc, by rw [List.getElem?_append_left (by omega)]; exact c0, by rw [List.getElem?_append_left (by omega)]; exact c1, by rw [List.getElem?_append_left (by omega)]; exact c2, hkeep _ _ _ _ s1, hkeep _ _ _ _ s2⟩
    · obtain rfl : i = l.length := by omega
      have hq : rq (l ++ [q]) l.length = q := by unfold rq; rw [List.getD_eq_getElem?_getD, List.getElem?_append_right (Nat.le_refl _)]; simp
      rw [hq]
      refine ⟨uo, un, uc, yo, yn, yc, ?_, ?_, ?_, hkeep _ _ _ _ r1, hkeep _ _ _ _ r2⟩
      · rw [List.getElem?_append_right (by omega), hxl]; simp
      · rw [List.getElem?_append_right (by omega), hxl]; simp
      · rw [List.getElem?_append_right (by omega), hxl]; simp
/-- how two fractions are ordered -/
def ordZ (ma : Bool) (p1 q1 : Nat) (mb : Bool) (p2 q2 : Nat) : Int := if sg ma (p1 * q2) = sg mb (p2 * q1) then 0 else if sg ma (p1 * q2) < sg mb (p2 * q1) then -1 else 1
theorem ord_gen {ma mb m : Bool} {p1 q1 p2 q2 z : Nat} (h : sg m z = sg ma (p1 * q2) + sg (!mb) (p2 * q1)) : ordZ ma p1 q1 mb p2 q2 = if z = 0 then 0 else if m then -1 else 1 := by
  rw [sg_not] at h
  unfold ordZ
  generalize sg ma (p1 * q2) = a at *
  generalize sg mb (p2 * q1) = b at *
  by_cases hz : z = 0
  · rw [if_pos hz]
    rw [hz] at h
    have : sg m 0 = 0 := by cases m <;> rfl
    rw [if_pos (by omega)]
  · rw [if_neg hz]
    cases m with
    | true =>
      have : sg true z = -(z : Int) := rfl
      rw [if_neg (by omega), if_pos (by omega)]; rfl
    | false =>
      have : sg false z = (z : Int) := rfl
      rw [if_neg (by omega), if_neg (by omega)]; rfl
theorem rat_of (n : Int) (d : Nat) : mkRat n d = (n : Rat) / ((d : Int) : Rat) := by rw [Rat.mkRat_eq_div]; rfl
theorem ordZ_cmp {ma mb : Bool} {p1 q1 p2 q2 : Nat} (h1 : q1 ≠ 0) (h2 : q2 ≠ 0) : ordZ ma p1 q1 mb p2 q2 = cmpQ (mkRat (sg ma p1) q1) (mkRat (sg mb p2) q2) := by
  have e1 : (0 : Rat) < ((q1 : Int) : Rat) := Rat.intCast_pos.2 (by omega)
  have e2 : (0 : Rat) < ((q2 : Int) : Rat) := Rat.intCast_pos.2 (by omega)
  have c1 : sg ma (p1 * q2) = sg ma p1 * (q2 : Int) := sg_scale _ _ _
  have c2 : sg mb (p2 * q1) = sg mb p2 * (q1 : Int) := sg_scale _ _ _
  have hlt : mkRat (sg ma p1) q1 < mkRat (sg mb p2) q2 ↔ sg ma (p1 * q2) < sg mb (p2 * q1) := by
    rw [rat_of, rat_of, c1, c2, ← Rat.intCast_lt_intCast, Rat.intCast_mul, Rat.intCast_mul]
    generalize ((sg ma p1 : Int) : Rat) = a
    generalize ((sg mb p2 : Int) : Rat) = b
    generalize ((q1 : Int) : Rat) = c at *
    generalize ((q2 : Int) : Rat) = d at *
    have ec : c ≠ 0 := fun h => by rw [h] at e1; exact absurd e1 (by decide)
    have ed : d ≠ 0 := fun h => by rw [h] at e2; exact absurd e2 (by decide)
    have k1 : a / c * (c * d) = a * d := by grind
    have k2 : b / d * (c * d) = b * c := by grind
    have hp : 0 < c * d := Rat.mul_pos e1 e2
    rw [← k1, ← k2]
    constructor
    · intro h; rw [Rat.mul_comm (a / c), Rat.mul_comm (b / d)]; exact Rat.mul_lt_mul_of_pos_left h hp
    · intro h
      apply Classical.byContradiction
      intro hn
      have h5 := Rat.mul_le_mul_of_nonneg_right (Rat.not_lt.1 hn) (Rat.le_of_lt hp)
      exact absurd h (Rat.not_lt.2 h5)
  have heq : mkRat (sg ma p1) q1 = mkRat (sg mb p2) q2 ↔ sg ma (p1 * q2) = sg mb (p2 * q1) := by
    rw [c1, c2, Rat.mkRat_eq_iff h1 h2]
  rw [cmpQ_of _ _ _ _ hlt heq]
  unfold ordZ cmp3
  by_cases h5 : sg ma (p1 * q2) = sg mb (p2 * q1)
  · rw [if_pos h5, if_neg (by omega), if_pos h5]
  · rw [if_neg h5]
    by_cases h6 : sg ma (p1 * q2) < sg mb (p2 * q1)
    · rw [if_pos h6, if_pos h6]
    · rw [if_neg h6, if_neg h6, if_neg h5]
theorem sum_lens {p1 q1 p2 q2 z : Nat} (h1 : (limbs p1).length ≤ 900) (h2 : (limbs q1).length ≤ 900) (h3 : (limbs p2).length ≤ 900) (h4 : (limbs q2).length ≤ 900) (hz : z ≤ p1 * q2 + p2 * q1) : (limbs z).length ≤ 1801 := by
  have l1 := len_mul p1 q2
  have l2 := len_mul p2 q1
  have l3 := len_add (p1 * q2) (p2 * q1)
  have l4 := len_mono hz
  omega

set_option maxHeartbeats 2000000 in
set_option maxRecDepth 20000 in
theorem porder_gen (ma mb : Bool) (ao bo co eo : Option Addr) (n capa m capb p capc q capd : Nat) (p1 q1 p2 q2 : Nat) (w : World) (hr1 : Row w ao n capa (limbs p1)) (hr2 : Row w bo m capb (limbs q1)) (hr3 : Row w co p capc (limbs p2)) (hr4 : Row w eo q capd (limbs q2)) (b1 : n ≤ 900) (b2 : m ≤ 900) (b3 : p ≤ 900) (b4 : q ≤ 900) :
    Calls Tryd.prog 61 #[.agg #[.bool ma, .slice ao n capa, .slice bo m capb], .agg #[.bool mb, .slice co p capc, .slice eo q capd]] w fun e w' => e = .returned (.int .i64 (ordZ ma p1 q1 mb p2 q2)) ∧ Below w.heap.size w w' := by
  obtain ⟨c1, c2, c5⟩ := boxes2 w #[.bool ma, .slice ao n capa, .slice bo m capb] #[.bool (!mb), .slice co p capc, .slice eo q capd] 82 82
  have hr1l := hr1.len
  have hr2l := hr2.len
  have hr3l := hr3.len
  have hr4l := hr4.len
  have XA_0 := hid c1
  have XB_0 := hid c2
  have R0_0 := hid (hr1.below c5)
  have R1_0 := hid (hr2.below c5)
  have R2_0 := hid (hr3.below c5)
  have R3_0 := hid (hr4.below c5)
  have HB_0 := hid c5
  clear c1 c2 c5 hr1 hr2 hr3 hr4
  go_enter Tryd.func61, Tryd.ntmps61
  have ltA := XA_0.out.lt
  have cA0 := XA_0.out.cell 0 _ rfl
  have cA1 := XA_0.out.cell 1 _ rfl
  have cA2 := XA_0.out.cell 2 _ rfl
  have ltB := XB_0.out.lt
  have cB0 := XB_0.out.cell 0 _ rfl
  have cB1 := XB_0.out.cell 1 _ rfl
  have cB2 := XB_0.out.cell 2 _ rfl
  go_wp2_with fail
  refine (psum_any ma (!mb) ao bo co eo n capa m capb p capc q capd p1 q1 p2 q2 _ R0_0.out R1_0.out R2_0.out R3_0.out (by omega) (by omega) (by omega) (by omega)).mono ?_
  rintro e2 w2 ⟨v2, mz, z, rfl, hz, hzl, ⟨go, gn, gc, ho, hn, hc, rfl, hg2, hh2⟩, hb2⟩
  have XA_3 := hid (XA_0.out.keep hb2)
  have XB_3 := hid (XB_0.out.keep hb2)
  have R0_3 := hid (R0_0.out.below hb2)
  have R1_3 := hid (R1_0.out.below hb2)
  have R2_3 := hid (R2_0.out.below hb2)
  have R3_3 := hid (R3_0.out.below hb2)
  have HB_3 : Hid (Below w.heap.size w w2) := HB_0.out.trans (hb2.mono HB_0.out.size)
  clear ltA cA0 cA1 cA2 ltB cB0 cB1 cB2
  have ltA := XA_3.out.lt
  have cA0 := XA_3.out.cell 0 _ rfl
  have cA1 := XA_3.out.cell 1 _ rfl
  have cA2 := XA_3.out.cell 2 _ rfl
  have ltB := XB_3.out.lt
  have cB0 := XB_3.out.cell 0 _ rfl
  have cB1 := XB_3.out.cell 1 _ rfl
  have cB2 := XB_3.out.cell 2 _ rfl
  have HZ := hid hz
  have lg : gn ≤ 1801 := by rw [← hg2.len]; exact sum_lens (by rw [hr1l]; exact b1) (by rw [hr2l]; exact b2) (by rw [hr3l]; exact b3) (by rw [hr4l]; exact b4) hzl
  have lh : hn ≤ 1800 := by rw [← hh2.len]; exact Nat.le_trans (len_mul _ _) (by rw [hr2l, hr4l]; omega)
  have leng := hg2.len
  have Rg1_3 := hid hg2
  have Rg2_3 := hid hh2
  clear hb2 hg2 hh2 hz hzl
  clear ltA cA0 cA1 cA2 ltB cB0 cB1 cB2
  have Yg_3 := hid (bx_new w2 #[.bool mz, .slice go gn gc, .slice ho hn hc] 82)
  have Qg1_3 := hid (Rg1_3.out.alloc (.cells #[.bool mz, .slice go gn gc, .slice ho hn hc] 82))
  have Qg2_3 := hid (Rg2_3.out.alloc (.cells #[.bool mz, .slice go gn gc, .slice ho hn hc] 82))
  have HC_3 : Hid (Below w.heap.size w (w2.alloc (.cells #[.bool mz, .slice go gn gc, .slice ho hn hc] 82))) := HB_3.out.alloc HB_3.out.size (.cells #[.bool mz, .slice go gn gc, .slice ho hn hc] 82)
  have HC := hid (ord_gen HZ.out)
  by_cases hz0 : z = 0
  · have hgn : gn = 0 := by rw [← leng, hz0]; rfl
    subst hgn
    go_wp2
    go_ret
    exact ⟨by rw [HC.out, if_pos hz0]; rfl, HC_3.out⟩
  · have hgn : ((gn : Int) == 0) = false := by
      rw [beq_eq_false_iff_ne]; have h2 := List.length_pos_iff.2 (limbs_ne_nil hz0); omega
    have HZ0 := hid hz0
    clear hz0
    cases mz with
    | true =>
      go_wp2
      go_ret
      exact ⟨by rw [HC.out, if_neg HZ0.out]; rfl, HC_3.out⟩
    | false =>
      go_wp2
      go_ret
      exact ⟨by rw [HC.out, if_neg HZ0.out]; rfl, HC_3.out⟩


/-- a number of the reference that is x, of at most L limbs each -/
def PQv (w : World) (v : Value) (x : Rat) (L : Nat) : Prop := ∃ m ao n capa bo k capb p q, v = .agg #[.bool m, .slice ao n capa, .slice bo k capb] ∧ Row w ao n capa (limbs p) ∧ Row w bo k capb (limbs q) ∧ q ≠ 0 ∧ x = mkRat (sg m p) q ∧ n ≤ L ∧ k ≤ L
theorem PQv.below {w w' : World} {v : Value} {x : Rat} {L : Nat} (h : PQv w v x L) (hb : Below w.heap.size w w') : PQv w' v x L := by
  obtain ⟨m, ao, n, capa, bo, k, capb, p, q, h1, h2, h3, h4⟩ := h
  exact ⟨m, ao, n, capa, bo, k, capb, p, q, h1, h2.below hb, h3.below hb, h4⟩
theorem PQv.mono {w : World} {v : Value} {x : Rat} {L M : Nat} (h : PQv w v x L) (hm : L ≤ M) : PQv w v x M := by
  obtain ⟨m, ao, n, capa, bo, k, capb, p, q, h1, h2, h3, h4, h5, h6, h7⟩ := h
  exact ⟨m, ao, n, capa, bo, k, capb, p, q, h1, h2, h3, h4, h5, by omega, by omega⟩
theorem PQv.frac {w : World} {v : Value} {x : Rat} {L : Nat} (h : Frac w v x) (hs : Sm x L) : PQv w v x L := by
  obtain ⟨ao, n, capa, bo, k, capb, h1, h2, h3⟩ := h
  exact ⟨negB x, ao, n, capa, bo, k, capb, _, _, h1, h2, h3, x.den_nz, (rat_mk x).symm, h2.sm1 hs, h3.sm2 hs⟩
theorem porder_pq (u v : Value) (x y : Rat) (w : World) (hx : PQv w u x 900) (hy : PQv w v y 900) :
    Calls Tryd.prog 61 #[u, v] w fun e w' => e = .returned (.int .i64 (cmpQ x y)) ∧ Below w.heap.size w w' := by
  obtain ⟨m, ao, n, capa, bo, k, capb, p, q, rfl, r1, r2, hq, rfl, b1, b2⟩ := hx
  obtain ⟨m', ao', n', capa', bo', k', capb', p', q', rfl, r1', r2', hq', rfl, b1', b2'⟩ := hy
  rw [← ordZ_cmp hq hq']
  exact porder_gen m m' ao bo ao' bo' n capa k capb n' capa' k' capb' p q p' q' w r1 r2 r1' r2' b1 b2 b1' b2'
theorem psum_pq (u v : Value) (x y : Rat) (L M : Nat) (w : World) (hx : PQv w u x L) (hy : PQv w v y M) (hL : L ≤ 1000) (hM : M ≤ 1000) :
    Calls Tryd.prog 54 #[u, v] w fun e w' => ∃ z, e = .returned z ∧ PQv w' z (x + y) (L + M + 1) ∧ Below w.heap.size w w' := by
  obtain ⟨m, ao, n, capa, bo, k, capb, p, q, rfl, r1, r2, hq, rfl, b1, b2⟩ := hx
  obtain ⟨m', ao', n', capa', bo', k', capb', p', q', rfl, r1', r2', hq', rfl, b1', b2'⟩ := hy
  refine (psum_any m m' ao bo ao' bo' n capa k capb n' capa' k' capb' p q p' q' w r1 r2 r1' r2' (by omega) (by omega) (by omega) (by omega)).mono ?_
  rintro e w' ⟨z, mz, zz, rfl, hz, hzl, ⟨go, gn, gc, ho, hn, hc, rfl, hg, hh⟩, hb⟩
  refine ⟨_, rfl, ⟨mz, go, gn, gc, ho, hn, hc, zz, q * q', rfl, hg, hh, Nat.mul_ne_zero hq hq', ?_, ?_, ?_⟩, hb⟩
  · rw [Rat.mkRat_add_mkRat _ _ hq hq', hz, sg_scale, sg_scale]
  · rw [← hg.len]
    have l1 := len_mul p q'
    have l2 := len_mul p' q
    have l3 := len_add (p * q') (p' * q)
    have l4 := len_mono hzl
    have e1 := r1.len
    have e2 := r2.len
    have e3 := r1'.len
    have e4 := r2'.len
    omega
  · rw [← hh.len]
    have l1 := len_mul q q'
    have e2 := r2.len
    have e4 := r2'.len
    omega
end Go.Proofs.YtigokanoflkinaaDoor
