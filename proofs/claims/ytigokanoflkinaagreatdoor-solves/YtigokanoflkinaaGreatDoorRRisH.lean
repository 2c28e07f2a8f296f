/- The rise of the reference: begin. (Laid by mkriseh.py.) -/
import Derived.Test.YtigokanoflkinaaGreatDoorRRsM
import Derived.Deep.RegionHeld3
namespace Go.Proofs.YtigokanoflkinaaGreatDoor
set_option linter.unusedSimpArgs false
set_option linter.unusedVariables false
open Go.RowKit Por

/-- out = append(out, x), of numbers: nothing is touched but such blocks -/
theorem wpList_append_intT (w : World) {ops : Array Oper} {rest : List Oper} {o : Oper} {a : Act} {Q : Exit → Act → World → Prop} (hgd : o.guard = none) (s x : Operand)
    (hop : o.op = Op.call { callee := Callee.builtin Builtin.append, args := #[s, x], argTypes := #[22, 22] })
    (base : Nat) (v : Value) (l : List Int) (ad : Addr) (c : Nat) (u : Int) (hs : a.eval s = v) (hx : a.eval x = .slice (some ad) 1 c) (hown : Own base w v l)
    (h0 : w.cell? (ad.add 0) = some (.int .i64 u)) (hle : l.length + 1 ≤ 1000000) (hb : base ≤ w.heap.size)
    (h : ∀ v' w', Own base w' v' (l ++ [u]) → Touch 3 base w w' → Below base w w' → wpList Tryz.prog ops Q rest (a.put o.dst v') w') : wpList Tryz.prog ops Q (o :: rest) a w := by
  obtain ⟨i, hi, hz0, hz1, hz2⟩ := info_parts Tryz.infoInt
  have hob : ∀ k, v.ownBlock = some k → base ≤ k := by
    intro k hk
    rcases hown.2 with ⟨rfl, _⟩ | ⟨g, cap, cur, rfl, h2, _⟩
    · cases hk
    · cases hk; exact h2
  refine wpList_append_own w hgd s x _ hop base 3 i (.int .i64 0) 1 8 Tryz.underlying22 hi hz0 hz1 hz2 rfl (by decide) v l.length _ hs hown ad 1 c [.int .i64 u] hx (by simp) ?_ ?_ (by unfold maxLen; omega) (by omega) hb ?_
  · intro j z hj
    match j with
    | 0 => rw [h0]; simpa using hj
    | j + 1 => simp at hj
  · intro z hz
    simp at hz
    subst hz; rfl
  · intro v' w' h2 h3 _
    refine h v' w' ?_ (Touch.of_append hown h3) ((Below.refl base w).grown h3 hb hob)
    unfold Own
    rw [List.length_append, List.map_append]
    exact h2
/-- the same of bools, as a step of a region that draws -/
theorem step_append_bool {w : World} {ops : Array Oper} {o : Oper} {a : Act} {K : Act → World → Prop} {Q : Exit → Act → World → Prop} {E : Prop} (hgd : o.guard = none) (s x : Operand)
    (hop : o.op = Op.call { callee := Callee.builtin Builtin.append, args := #[s, x], argTypes := #[73, 73] })
    (base : Nat) (v : Value) (l : List Bool) (ad : Addr) (c : Nat) (u : Bool) (hs : a.eval s = v) (hx : a.eval x = .slice (some ad) 1 c) (hown : BLs base w v l)
    (h0 : w.cell? (ad.add 0) = some (.bool u)) (hle : l.length + 1 ≤ 1000000) (hb : base ≤ w.heap.size)
    (hK : ∀ v' w', BLs base w' v' (l ++ [u]) → Touch 4 base w w' → Below base w w' → K (a.put o.dst v') w') :
    if Region.wanted o (yielded ops a.tmps) = true then Oper.wp Tryz.prog o a w K Q else E := by
  have hw : Region.wanted o (yielded ops a.tmps) = true := by simp [Region.wanted, hgd]
  rw [if_pos hw]
  obtain ⟨i, hi, hz0, hz1, hz2⟩ := info_parts Tryz.infoBl
  have hob : ∀ k, v.ownBlock = some k → base ≤ k := by
    intro k hk
    rcases hown.2 with ⟨rfl, _⟩ | ⟨g, cap, cur, rfl, h2, _⟩
    · cases hk
    · cases hk; exact h2
  obtain ⟨v', w', hrun, r1, r2, _⟩ := run_append_own (P := Tryz.prog) w base 73 o.type 4 i (.bool false) 1 1 Tryz.underlying73 hi hz0 hz1 hz2 rfl (by decide) v l.length _ hown ad 1 c [.bool u] (by simp) (by
      intro j z hj
      match j with
      | 0 => rw [h0]; simpa using hj
      | j + 1 => simp at hj) (by
      intro z hz
      simp at hz
      subst hz; rfl) (by unfold maxLen; omega) (by omega) hb
  unfold Oper.wp
  simp [execOp, hop, resolve, invoke, builtin, hs, hx, hrun, Result.andThen]
  refine hK v' w' ?_ (Touch.of_append hown r2) ((Below.refl base w).grown r2 hb hob)
  unfold BLs
  rw [List.length_append, List.map_append]
  exact r1
/-- a list of lists lies below what is touched -/
theorem NLs.touchB {B C : Nat} {w w' : World} {v : Value} {l : List Nat} (h : NLs B w v l) (ht : Touch 22 C w w') (hlt : ∀ b n c, v = .slice (some ⟨b, 0, none⟩) n c → b < C) : NLs B w' v l := by
  obtain ⟨xs, g1, g2⟩ := h
  refine ⟨xs, ⟨g1.1, ?_⟩, fun i hi => ?_⟩
  · rcases g1.2 with h1 | ⟨g, cap, cur, e, h3, h4, h5⟩
    · exact .inl h1
    · exact .inr ⟨g, cap, cur, e, h3, (ht.block g (Array.getElem?_eq_some_iff.1 h4).1 (.inl (hlt g _ _ e))).trans h4, h5⟩
  · obtain ⟨ao, k, cap, e, hr⟩ := g2 i hi
    exact ⟨ao, k, cap, e, hr.touch ht (by decide)⟩
theorem NLs.lt {B : Nat} {w : World} {v : Value} {l : List Nat} (h : NLs B w v l) : ∀ b n c, v = .slice (some ⟨b, 0, none⟩) n c → b < w.heap.size := by
  intro b n c e
  obtain ⟨xs, g1, _⟩ := h
  rcases g1.2 with ⟨e2, _⟩ | ⟨g, cap, cur, e2, _, h4, _⟩
  · rw [e] at e2; cases e2
  · rw [e] at e2; cases e2; exact (Array.getElem?_eq_some_iff.1 h4).1
/-- p.grow = append(p.grow, g) -/
theorem RisM.appGrow {w w' : World} {d : RD} {s : RV} (h : RisM w d s) {x : Nat} {v' : Value} (hO : NLs d.B2 w' v' (s.gl ++ [x])) (hT : Touch 22 d.B2 w w') (hB : Below d.B2 w w') :
    RisM (w'.setCell ⟨d.pb, 3, none⟩ v') d { s with gl := s.gl ++ [x] } := by
  obtain ⟨⟨vt, vg, vh, vs, qo, qn, qc, h1, h2, h3, h4, h5, h6, h7⟩, h8, h9, h10, h11, h12⟩ := h
  have h1' : Bx w' d.pb (d.cells vt vg vh vs qo qn qc) 75 := h1.below hB (by omega)
  have hT2 : Touch 75 d.pb w' (w'.setCell ⟨d.pb, 3, none⟩ v') := Touch.of_set h1' (Nat.le_refl _)
  refine ⟨⟨vt, v', vh, vs, qo, qn, qc, bx_setq h1' 3 v', (h2.touch hT (by decide)).touch hT2 (by decide), hO.touch hT2 (by decide) (by decide), (h4.touchB hT h7).touch hT2 (by decide) (by decide), (h5.touch hT (by decide)).touch hT2 (by decide), (h6.touch hT (by decide)).touch hT2 (by decide), h7⟩, h8, h9, ?_, h11, h12⟩
  exact (h10.trans (hB.mono (by omega))).setCell h11 _
/-- what begin holds while it looks the users through: the tops, who grows; nobody has anything -/
structure RisP (w : World) (pb : Nat) (pv uv : Value) (qo : Option Addr) (qn qc : Nat) (i : Nat) (tl : List Int) (sl : List Bool) (vt vh vs : Value) : Prop where
  box : Bx w pb #[pv, uv, vt, .slice none 0 0, vh, vs, .slice qo qn qc] 75
  t : Own (pb + 1) w vt tl
  h : w.ownsRow (pb + 1) 22 1 vh i (List.replicate i (Value.slice none 0 0))
  s : BLs (pb + 1) w vs sl
theorem RisP.below {w w' : World} {pb : Nat} {pv uv : Value} {qo : Option Addr} {qn qc i : Nat} {tl : List Int} {sl : List Bool} {vt vh vs : Value} (h : RisP w pb pv uv qo qn qc i tl sl vt vh vs) (hb : Below w.heap.size w w') : RisP w' pb pv uv qo qn qc i tl sl vt vh vs :=
  ⟨h.box.below hb h.box.lt, h.t.below hb, own_below h.h hb, h.s.below hb⟩
theorem RisP.appT {w w' : World} {pb : Nat} {pv uv : Value} {qo : Option Addr} {qn qc i : Nat} {tl : List Int} {sl : List Bool} {vt vh vs v' : Value} {x : Int} (h : RisP w pb pv uv qo qn qc i tl sl vt vh vs) (hO : Own (pb + 1) w' v' (tl ++ [x])) (hT : Touch 3 (pb + 1) w w') : RisP (w'.setCell ⟨pb, 2, none⟩ v') pb pv uv qo qn qc i (tl ++ [x]) sl v' vh vs := by
  have h1' := hT.bx h.box (by decide)
  have hT2 : Touch 75 pb w' (w'.setCell ⟨pb, 2, none⟩ v') := Touch.of_set h1' (Nat.le_refl _)
  exact ⟨bx_setq h1' 2 v', hO.touch hT2 (by decide), hT2.own (hT.own h.h (by decide)) (by decide), (h.s.touch hT (by decide)).touch hT2 (by decide)⟩
theorem RisP.appS {w w' : World} {pb : Nat} {pv uv : Value} {qo : Option Addr} {qn qc i : Nat} {tl : List Int} {sl : List Bool} {vt vh vs v' : Value} {x : Bool} (h : RisP w pb pv uv qo qn qc i tl sl vt vh vs) (hO : BLs (pb + 1) w' v' (sl ++ [x])) (hT : Touch 4 (pb + 1) w w') : RisP (w'.setCell ⟨pb, 5, none⟩ v') pb pv uv qo qn qc i tl (sl ++ [x]) vt vh v' := by
  have h1' := hT.bx h.box (by decide)
  have hT2 : Touch 75 pb w' (w'.setCell ⟨pb, 5, none⟩ v') := Touch.of_set h1' (Nat.le_refl _)
  exact ⟨bx_setq h1' 5 v', (h.t.touch hT (by decide)).touch hT2 (by decide), hT2.own (hT.own h.h (by decide)) (by decide), hO.touch hT2 (by decide)⟩
theorem RisP.appH {w w' : World} {pb : Nat} {pv uv : Value} {qo : Option Addr} {qn qc i : Nat} {tl : List Int} {sl : List Bool} {vt vh vs v' : Value} (h : RisP w pb pv uv qo qn qc i tl sl vt vh vs) (hO : w'.ownsRow (pb + 1) 22 1 v' (i + 1) (List.replicate i (Value.slice none 0 0) ++ [Value.slice none 0 0])) (hT : Touch 22 (pb + 1) w w') : RisP (w'.setCell ⟨pb, 4, none⟩ v') pb pv uv qo qn qc (i + 1) tl sl vt v' vs := by
  have h1' := hT.bx h.box (by decide)
  have hT2 : Touch 75 pb w' (w'.setCell ⟨pb, 4, none⟩ v') := Touch.of_set h1' (Nat.le_refl _)
  have e : List.replicate i (Value.slice none 0 0) ++ [Value.slice none 0 0] = List.replicate (i + 1) (Value.slice none 0 0) := by rw [List.replicate_succ']
  rw [e] at hO
  exact ⟨bx_setq h1' 4 v', (h.t.touch hT (by decide)).touch hT2 (by decide), hT2.own hO (by decide), (h.s.touch hT (by decide)).touch hT2 (by decide)⟩
/-- behind the first look: a rise without growths -/
theorem RisP.rise {w w0 w1 : World} {po : Option Addr} {pc : Nat} {pool : List Int} {ao : Option Addr} {cap : Nat} {us : List Usr} {qo : Option Addr} {qn qc : Nat} {tl : List Int} {sl : List Bool} {vt vh vs : Value}
    (h : RisP w w1.heap.size (.slice po pool.length pc) (.slice ao us.length cap) qo qn qc us.length tl sl vt vh vs) (hp : Arr w0 1 po pool.length pc (ints pool)) (hu : Users w0 ao us.length cap us) (hb1 : Below w0.heap.size w0 w1) (hb : Below w1.heap.size w1 w) (hq : Row w1 qo qn qc (limbs 1)) :
    RisM w ⟨w0, po, pc, pool, ao, cap, us, w1.heap.size, w1.heap.size + 1, w.heap.size⟩ ⟨tl, [], List.replicate us.length 0, sl, 1⟩ := by
  have hlt := h.box.lt
  have hN : NLs (w1.heap.size + 1) w vh (List.replicate us.length 0) := by
    refine ⟨_, by rw [List.length_replicate]; exact h.h, fun i hi => ?_⟩
    rw [List.length_replicate] at hi
    refine ⟨none, 0, 0, by rw [List.getElem?_replicate, if_pos hi], ?_⟩
    have e : nn (List.replicate us.length 0) i = 0 := by unfold nn; simp [hi]
    rw [e, limbs_zero]; exact Row.nil w
  exact ⟨⟨vt, .slice none 0 0, vh, vs, qo, qn, qc, h.box, h.t, NLs.nil _ _, hN, h.s, hq.below hb, hN.lt⟩, hp, hu, hb1.trans (hb.mono hb1.size), hb1.size, by show w1.heap.size < w1.heap.size + 1 ∧ w1.heap.size + 1 ≤ w.heap.size; omega⟩
theorem nat_prodH {a b A B : Nat} (ha : a ≤ A) (hb : b ≤ B) : ∃ X : Nat, (a : Int) * (b : Int) = (X : Int) ∧ X ≤ A * B ∧ X = a * b := ⟨a * b, by rw [Int.natCast_mul], Nat.mul_le_mul ha hb, rfl⟩
theorem gp_len {d : RD} {tl : List Int} (h : d.Ok) {i : Nat} (hi : i < d.us.length) (m j : Nat) (hj : j ≤ d.us.length) : (limbs (d.a.W i * d.a.P m * prdT (gF d tl i) j)).length ≤ 8 := by
  have hn := h.n6
  have e : (limbs (100 * 10000 * 10000 ^ 6)).length = 8 := by decide
  have h1 : d.a.W i * d.a.P m * prdT (gF d tl i) j ≤ 100 * 10000 * 10000 ^ 6 := by
    refine Nat.mul_le_mul (Nat.mul_le_mul (d.W_le h hi).2 (d.P_le h _)) ?_
    refine Nat.le_trans (prdT_le (M := 10000) (by omega) _ (fun k hk => ?_)) (Nat.pow_le_pow_right (by omega) (by omega : j ≤ 6))
    unfold gF RD.tD
    split
    · exact d.D_le h (by omega) _
    · omega
  have := len_mono h1
  omega
theorem lm_app_lt {l : List Int} {x : Int} {i : Nat} (h : i < l.length) : lm (l ++ [x]) i = lm l i := by simp [lm, List.getElem?_append_left h]
theorem lm_app_end (l : List Int) (x : Int) : lm (l ++ [x]) l.length = x := by simp [lm]

set_option maxHeartbeats 20000000 in
set_option maxRecDepth 20000 in
theorem pbegin_any (po : Option Addr) (pc : Nat) (pool : List Int) (ao : Option Addr) (cap : Nat) (us : List Usr) (w : World) (hp : Arr w 1 po pool.length pc (ints pool)) (hu : Users w ao us.length cap us) (hg : Good us pool.length) (hpa : ∀ i, amtB (lm pool i) = true) (hn6 : us.length ≤ 6) (hk1 : 1 ≤ pool.length) (hk4 : pool.length ≤ 4) :
    Calls Tryz.prog 20 #[.slice po pool.length pc, .slice ao us.length cap] w fun e w' => ∃ pb B1 B2 s, e = .returned (.pointer (some ⟨pb, 0, none⟩)) ∧ RisM w' ⟨w, po, pc, pool, ao, cap, us, pb, B1, B2⟩ s ∧ RBeg ⟨w, po, pc, pool, ao, cap, us, pb, B1, B2⟩ s ∧ Below w.heap.size w w' := by
  have HP := hid hp
  have HU := hid hu
  have HG := hid hg
  have HPA := hid hpa
  clear hp hu hg hpa
  have HB_0 := hid (Below.refl w.heap.size w)
  go_enter Tryz.func20, Tryz.ntmps20
  go_wp2_with fail
  refine (pwhole_any 1 _ (by omega)).mono ?_
  rintro e1 w1 ⟨v1, rfl, ⟨qo, qn, qc, rfl, hqr, _⟩, hb1⟩
  have HQ := hid hqr
  have HB1 : Hid (Below w.heap.size w w1) := HB_0.out.trans (hb1.mono HB_0.out.size)
  clear hb1 hqr HB_0
  go_wp2
  have HX0 : Hid (RisP (w1.alloc (.cells #[.slice po pool.length pc, .slice ao us.length cap, .slice none 0 0, .slice none 0 0, .slice none 0 0, .slice none 0 0, .slice qo qn qc] 75)) w1.heap.size (.slice po pool.length pc) (.slice ao us.length cap) qo qn qc 0 [] [] (.slice none 0 0) (.slice none 0 0) (.slice none 0 0)) := ⟨bx_new w1 _ _, Own.nil _ _, ⟨rfl, .inl ⟨rfl, rfl⟩⟩, BLs.nil _ _⟩
  have HBL0 : Hid (Below w1.heap.size w1 (w1.alloc (.cells #[.slice po pool.length pc, .slice ao us.length cap, .slice none 0 0, .slice none 0 0, .slice none 0 0, .slice none 0 0, .slice qo qn qc] 75))) := (Below.refl _ _).alloc (Nat.le_refl _) _
  go_loopg [6] us.length (fun gg ix wr => ∃ (i : Nat) (tl : List Int) (sl : List Bool) (vt vh vs : Value), gg = us.length - i ∧ i ≤ us.length ∧ ix = .int .i64 i ∧ Hid (tl.length = i) ∧ Hid (sl.length = i) ∧ Hid (RisP wr w1.heap.size (.slice po pool.length pc) (.slice ao us.length cap) qo qn qc i tl sl vt vh vs) ∧ Hid (∀ j, j < i → TopIs pool (ug us j) (lm tl j)) ∧ Hid (∀ j, j < i → bn sl j = (decide (0 ≤ lm tl j) && decide (0 < (ug us j).cap))) ∧ Hid (Below w1.heap.size w1 wr))
  case atStart => exact ⟨0, [], [], _, _, _, rfl, Nat.zero_le _, rfl, rfl, rfl, HX0.out, fun j hj => by omega, fun j hj => by omega, HBL0.out⟩
  case round =>
    clear HX0 HBL0
    obtain ⟨i, tl, sl, vt, vh, vs, hgi, hi, rfl, htl, hsl, HR, HTO, HSO, hB⟩ := hrel
    by_cases hit : i < us.length
    · have hin : (i : Int) < (us.length : Int) := by omega
      obtain ⟨ub, uo, da, dn, dc, hao, hbl, a0, a1, a2, hd⟩ := (HU.out.below (HB1.out.trans (hB.out.mono HB1.out.size))).get hit
      subst hao
      have HD := hid hd
      clear hd
      go_wp2_with fail
      refine (ptop_any po pc pool da dn dc (ug us i) _ (HP.out.below (HB1.out.trans (hB.out.mono HB1.out.size))) HD.out (HG.out.len hit) HPA.out (fun j => HG.out.dem hit j) hk4).mono ?_
      rintro e2 w2 ⟨⟨t, rfl, ht⟩, hb2⟩
      have HTI := hid ht
      have HR2 := hid (HR.out.below hb2)
      have HB2 : Hid (Below w1.heap.size w1 w2) := hB.out.trans (hb2.mono hB.out.size)
      have a2b := (hb2.cell (p := ⟨ub, uo + i * 3 + 2, none⟩) hbl).trans a2
      have hbl2 := Nat.lt_of_lt_of_le hbl hb2.size
      clear hb2 ht HR hB a0 a1 a2 hbl HD
      have hbx := HR2.out.box
      obtain ⟨tto, ttc, hvt⟩ := own_shape HR2.out.t
      subst hvt
      have c2 := hbx.cell 2 _ rfl
      have lb := hbx.lt
      clear hbx
      have hsz : w1.heap.size + 1 ≤ w2.heap.size := lb
      go_wp2_with (at_builtin; refine wpList_append_intT _ rfl _ _ rfl (w1.heap.size + 1) _ tl ⟨w2.heap.size, 0, none⟩ 1 t rfl rfl (HR2.out.t.below ((Below.refl _ _).alloc (Nat.le_refl _) _)) ((bx_new w2 #[.int .i64 t] 3).cell 0 _ rfl) (by have := htl.out; omega) (by simp only [World.size_alloc]; omega) ?_)
      intro v3 w3 hO3 hT3 hB3
      obtain ⟨to3, tc3, hv3⟩ := own_shape hO3
      generalize (tl ++ [t]).length = L3 at hv3
      subst hv3
      have hR3 := (HR2.out.below ((Below.refl _ _).alloc (Nat.le_refl _) _)).appT hO3 hT3
      have HB3 : Hid (Below w1.heap.size w1 w3) := (HB2.out.alloc HB2.out.size _).trans (hB3.mono (by omega))
      have c2b := (hT3.bx (HR2.out.below ((Below.refl _ _).alloc (Nat.le_refl _) _)).box (by decide)).cell 2 _ rfl
      have z2b := (hT3.bx (HR2.out.below ((Below.refl _ _).alloc (Nat.le_refl _) _)).box (by decide)).frozen 2
      have lb3 := (hT3.bx (HR2.out.below ((Below.refl _ _).alloc (Nat.le_refl _) _)).box (by decide)).lt
      have HR3 := hid hR3
      have a2c : w3.cell? ⟨ub, uo + i * 3 + 2, none⟩ = some (.int .i64 (ug us i).cap) := by
        have h9 : Below w1.heap.size w1 w3 := HB3.out
        obtain ⟨ub', uo', da', dn', dc', hao', hbl', _, _, a2', _⟩ := (HU.out.below (HB1.out.trans (HB3.out.mono HB1.out.size))).get hit
        cases hao'; exact a2'
      have hbl3 : ub < w3.heap.size := by
        obtain ⟨ub', uo', da', dn', dc', hao', hbl', _, _, a2', _⟩ := (HU.out.below (HB1.out.trans (HB3.out.mono HB1.out.size))).get hit
        cases hao'; exact hbl'
      clear hO3 hT3 hB3 hR3 HR2 HB2 c2 lb hsz a2b hbl2
      go_upto_region 7 with fail
      have HB4 : Hid (Below w1.heap.size w1 (w3.setCell ⟨w1.heap.size, 2, none⟩ (.slice to3 L3 tc3))) := HB3.out.setCell (Nat.le_refl _) _
      obtain ⟨V, hV⟩ : ∃ V, V = w3.setCell ⟨w1.heap.size, 2, none⟩ (.slice to3 L3 tc3) := ⟨_, rfl⟩
      rw [← hV] at HR3 HB4 ⊢
      clear hV HB3 c2b z2b lb3 a2c hbl3
      obtain ⟨ub', uo', da', dn', dc', hao', hbl, _, _, a2, _⟩ := (HU.out.below (HB1.out.trans (HB4.out.mono HB1.out.size))).get hit
      cases hao'
      have hbx := HR3.out.box
      obtain ⟨so5, sc5, hvs⟩ := own_shape HR3.out.s
      subst hvs
      have c5 := hbx.cell 5 _ rfl
      have z5 := hbx.frozen 5
      have lb := hbx.lt
      clear hbx
      have hsz : w1.heap.size + 1 ≤ V.heap.size := lb
      have htv : t = -1 ∨ ∃ m : Nat, t = (m : Int) := by
        rcases HTI.out with ⟨h5, _⟩ | ⟨m, h5, _⟩
        · exact Or.inl h5
        · exact Or.inr ⟨m, h5⟩
      rcases htv with htv | ⟨m, htv⟩
      · subst htv
        have HK : Hid (∀ U, Below V.heap.size V U → U.cell? ⟨ub, uo + i * 3 + 2, none⟩ = some (.int .i64 (ug us i).cap)) := fun U h => (h.cell (p := ⟨ub, uo + i * 3 + 2, none⟩) hbl).trans a2
        have hub : ub ≠ w1.heap.size := by obtain ⟨ub9, uo9, _, _, _, hao9, hbl9, _⟩ := HU.out.get hit; cases hao9; have h9 := HB1.out.size; omega
        refine wp_region_noPanic ?_
        refine wp_region_held_drew (S := fun w' => w'.cell? ⟨ub, uo + i * 3 + 2, none⟩ = some (.int .i64 (ug us i).cap)) (by kernel_rfl) (HK.out _ (Below.refl _ _).drew) (fun hHeld => ?_)
        refine wpAnyH_take (i := 0) (oi := { dst := some 38, op := Go.Op.move (Go.Operand.tmp 5), type := 51, pos := "fill.go:91", after := #[], guard := none }) (v := ?v1) rfl (by kernel_rfl) (by kernel_rfl) (by kernel_rfl) (fun _ _ _ h => h) (Or.inl ⟨by rfl, ?hy1⟩) (by assumption) ?rest1
        case hy1 => (intro w hSw; (try dsimp only at hSw); go_simp; try with_reducible rfl)
        simp only [Act.put, List.setIfInBounds_toArray, List.set_cons_zero, List.set_cons_succ]
        refine wpAnyH_take (i := 1) (oi := { dst := some 39, op := Go.Op.move (Go.Operand.tmp 5), type := 51, pos := "fill.go:91", after := #[], guard := none }) (v := ?v2) rfl (by kernel_rfl) (by kernel_rfl) (by kernel_rfl) (fun _ _ _ h => h) (Or.inl ⟨by rfl, ?hy2⟩) (by assumption) ?rest2
        case hy2 => (intro w hSw; (try dsimp only at hSw); go_simp; try with_reducible rfl)
        simp only [Act.put, List.setIfInBounds_toArray, List.set_cons_zero, List.set_cons_succ]
        refine wpAnyH_take (i := 2) (oi := { dst := some 40, op := Go.Op.nilCheck (Go.Operand.tmp 39), type := 0, pos := "fill.go:91", after := #[{ on := 1, ground := Go.Ground.data }], guard := none }) (v := ?v3) rfl (by kernel_rfl) (by kernel_rfl) (by kernel_rfl) (fun _ _ _ h => h) (Or.inl ⟨by rfl, ?hy3⟩) (by assumption) ?rest3
        case hy3 => (intro w hSw; (try dsimp only at hSw); go_simp; try with_reducible rfl)
        simp only [Act.put, List.setIfInBounds_toArray, List.set_cons_zero, List.set_cons_succ]
        refine wpAnyH_take (i := 3) (oi := { dst := some 41, op := Go.Op.fieldAddr 75 (Go.Operand.tmp 40) 5, type := 0, pos := "fill.go:91", after := #[{ on := 2, ground := Go.Ground.data }], guard := none }) (v := ?v4) rfl (by kernel_rfl) (by kernel_rfl) (by kernel_rfl) (fun _ _ _ h => h) (Or.inl ⟨by rfl, ?hy4⟩) (by assumption) ?rest4
        case hy4 => (intro w hSw; (try dsimp only at hSw); go_simp; try with_reducible rfl)
        simp only [Act.put, List.setIfInBounds_toArray, List.set_cons_zero, List.set_cons_succ]
        refine wpAnyH_take (i := 5) (oi := { dst := some 43, op := Go.Op.move (Go.Operand.tmp 7), type := 3, pos := "fill.go:91", after := #[], guard := none }) (v := ?v5) rfl (by kernel_rfl) (by kernel_rfl) (by kernel_rfl) (fun _ _ _ h => h) (Or.inl ⟨by rfl, ?hy5⟩) (by assumption) ?rest5
        case hy5 => (intro w hSw; (try dsimp only at hSw); go_simp; try with_reducible rfl)
        simp only [Act.put, List.setIfInBounds_toArray, List.set_cons_zero, List.set_cons_succ]
        refine wpAnyH_take (i := 6) (oi := { dst := some 44, op := Go.Op.binOp Go.BinOp.geq 3 (Go.Operand.tmp 43) (Go.Operand.const (Go.Value.int Go.IntKind.i64 0)) 3, type := 4, pos := "fill.go:91", after := #[{ on := 5, ground := Go.Ground.data }], guard := none }) (v := ?v6) rfl (by kernel_rfl) (by kernel_rfl) (by kernel_rfl) (fun _ _ _ h => h) (Or.inl ⟨by rfl, ?hy6⟩) (by assumption) ?rest6
        case hy6 => (intro w hSw; (try dsimp only at hSw); go_simp; try with_reducible rfl)
        simp only [Act.put, List.setIfInBounds_toArray, List.set_cons_zero, List.set_cons_succ]
        refine wpAnyH_take (i := 7) (oi := { dst := some 45, op := Go.Op.move (Go.Operand.tmp 44), type := 4, pos := "fill.go:91", after := #[{ on := 6, ground := Go.Ground.data }], guard := none }) (v := ?v7) rfl (by kernel_rfl) (by kernel_rfl) (by kernel_rfl) (fun _ _ _ h => h) (Or.inl ⟨by rfl, ?hy7⟩) (by assumption) ?rest7
        case hy7 => (intro w hSw; (try dsimp only at hSw); go_simp; try with_reducible rfl)
        simp only [Act.put, List.setIfInBounds_toArray, List.set_cons_zero, List.set_cons_succ]
        refine wpAnyH_take (i := 8) (oi := { dst := some 46, op := Go.Op.move (Go.Operand.tmp 1), type := 23, pos := "fill.go:91", after := #[{ on := 7, ground := Go.Ground.guard }], guard := some (7, true) }) (v := undef) rfl (by kernel_rfl) (by kernel_rfl) (by kernel_rfl) (fun _ _ _ h => h) (Or.inr ⟨by rfl, rfl⟩) (by assumption) ?rest8
        simp only [Act.put, List.setIfInBounds_toArray, List.set_cons_zero, List.set_cons_succ]
        refine wpAnyH_take (i := 9) (oi := { dst := some 47, op := Go.Op.move (Go.Operand.tmp 6), type := 3, pos := "fill.go:91", after := #[{ on := 7, ground := Go.Ground.guard }], guard := some (7, true) }) (v := undef) rfl (by kernel_rfl) (by kernel_rfl) (by kernel_rfl) (fun _ _ _ h => h) (Or.inr ⟨by rfl, rfl⟩) (by assumption) ?rest9
        simp only [Act.put, List.setIfInBounds_toArray, List.set_cons_zero, List.set_cons_succ]
        refine wpAnyH_take (i := 10) (oi := { dst := some 48, op := Go.Op.indexAddr 23 (Go.Operand.tmp 46) (Go.Operand.tmp 47), type := 0, pos := "fill.go:91", after := #[{ on := 8, ground := Go.Ground.data }, { on := 9, ground := Go.Ground.data }, { on := 7, ground := Go.Ground.guard }], guard := some (7, true) }) (v := undef) rfl (by kernel_rfl) (by kernel_rfl) (by kernel_rfl) (fun _ _ _ h => h) (Or.inr ⟨by rfl, rfl⟩) (by assumption) ?rest10
        simp only [Act.put, List.setIfInBounds_toArray, List.set_cons_zero, List.set_cons_succ]
        refine wpAnyH_take (i := 11) (oi := { dst := some 49, op := Go.Op.fieldAddr 56 (Go.Operand.tmp 48) 2, type := 0, pos := "fill.go:91", after := #[{ on := 10, ground := Go.Ground.data }, { on := 7, ground := Go.Ground.guard }], guard := some (7, true) }) (v := undef) rfl (by kernel_rfl) (by kernel_rfl) (by kernel_rfl) (fun _ _ _ h => h) (Or.inr ⟨by rfl, rfl⟩) (by assumption) ?rest11
        simp only [Act.put, List.setIfInBounds_toArray, List.set_cons_zero, List.set_cons_succ]
        refine wpAnyH_take (i := 12) (oi := { dst := some 50, op := Go.Op.load 3 (Go.Operand.tmp 49), type := 3, pos := "fill.go:91", after := #[{ on := 11, ground := Go.Ground.data }, { on := 7, ground := Go.Ground.guard }], guard := some (7, true) }) (v := undef) rfl (by kernel_rfl) (by kernel_rfl) (by kernel_rfl) (fun _ _ _ h => h) (Or.inr ⟨by rfl, rfl⟩) (by assumption) ?rest12
        simp only [Act.put, List.setIfInBounds_toArray, List.set_cons_zero, List.set_cons_succ]
        refine wpAnyH_take (i := 13) (oi := { dst := some 51, op := Go.Op.binOp Go.BinOp.gtr 3 (Go.Operand.tmp 50) (Go.Operand.const (Go.Value.int Go.IntKind.i64 0)) 3, type := 4, pos := "fill.go:91", after := #[{ on := 12, ground := Go.Ground.data }, { on := 7, ground := Go.Ground.guard }], guard := some (7, true) }) (v := undef) rfl (by kernel_rfl) (by kernel_rfl) (by kernel_rfl) (fun _ _ _ h => h) (Or.inr ⟨by rfl, rfl⟩) (by assumption) ?rest13
        simp only [Act.put, List.setIfInBounds_toArray, List.set_cons_zero, List.set_cons_succ]
        refine wpAnyH_take (i := 14) (oi := { dst := some 52, op := Go.Op.pick (Go.Operand.tmp 45) (Go.Operand.tmp 51) (Go.Operand.const (Go.Value.bool false)), type := 4, pos := "fill.go:91", after := #[{ on := 7, ground := Go.Ground.data }, { on := 13, ground := Go.Ground.data }], guard := none }) (v := ?v14) rfl (by kernel_rfl) (by kernel_rfl) (by kernel_rfl) (fun _ _ _ h => h) (Or.inl ⟨by rfl, ?hy14⟩) (by assumption) ?rest14
        case hy14 => (intro w hSw; (try dsimp only at hSw); go_simp; try with_reducible rfl)
        simp only [Act.put, List.setIfInBounds_toArray, List.set_cons_zero, List.set_cons_succ]
        refine wpAnyH_ready (rs := [4, 15]) (by kernel_rfl) (by simp) ?_
        refine AllReadyH.cons (o := { dst := some 42, op := Go.Op.load 73 (Go.Operand.tmp 41), type := 73, pos := "fill.go:91", after := #[{ on := 3, ground := Go.Ground.data }], guard := none }) rfl (fun K hK => ?_) (AllReadyH.cons (o := { dst := some 53, op := Go.Op.buildSlice 73 1 #[(0, Go.Operand.tmp 52)], type := 73, pos := "fill.go:91", after := #[{ on := 14, ground := Go.Ground.data }], guard := none }) rfl (fun K hK => ?_) AllReadyH.nil)
        · have c5d := ((Below.refl V.heap.size V).drew.cell (p := ⟨w1.heap.size, 5, none⟩) lb).trans c5
          go_simp
          refine hK.out _ _ (hHeld) (fun hHeld => ?_)
          clear hK K
          try simp only [Act.put, List.setIfInBounds_toArray, List.set_cons_zero, List.set_cons_succ]
          refine wpAnyH_ready (rs := [15]) (by kernel_rfl) (by simp) ?_
          refine AllReadyH.cons (o := { dst := some 53, op := Go.Op.buildSlice 73 1 #[(0, Go.Operand.tmp 52)], type := 73, pos := "fill.go:91", after := #[{ on := 14, ground := Go.Ground.data }], guard := none }) rfl (fun K hK => ?_) AllReadyH.nil
          go_simp
          refine hK.out _ _ (HK.out _ ((Below.refl _ _).alloc (Nat.le_refl _) _).drew) (fun hHeld => ?_)
          clear hK K
          try simp only [Act.put, List.setIfInBounds_toArray, List.set_cons_zero, List.set_cons_succ]
          refine wpAnyH_ready (rs := [16]) (by kernel_rfl) (by simp) ?_
          refine AllReadyH.cons (o := { dst := some 54, op := Go.Op.call { callee := Go.Callee.builtin Go.Builtin.append, args := #[Go.Operand.tmp 42, Go.Operand.tmp 53], argTypes := #[73, 73] }, type := 73, pos := "fill.go:91", after := #[{ on := 4, ground := Go.Ground.data }, { on := 15, ground := Go.Ground.data }, { on := 7, ground := Go.Ground.chain }], guard := none }) rfl (fun K hK => ?_) AllReadyH.nil
          refine step_append_bool rfl (.tmp 42) (.tmp 53) rfl (w1.heap.size + 1) (.slice so5 sl.length sc5) sl ⟨V.heap.size, 0, none⟩ 1 false rfl rfl (HR3.out.s.below (((Below.refl V.heap.size V).alloc (Nat.le_refl _) _).drew)) ?hc15 (by have := hsl.out; omega) (Nat.le_trans hsz ((((Below.refl V.heap.size V).alloc (Nat.le_refl _) _).drew)).size) ?hk15
          case hc15 => exact (bx_new V #[.bool false] 4).cell 0 _ rfl
          intro v5 w5 hO5 hT5 hB5
          obtain ⟨to5, tc5, hv5⟩ := own_shape hO5
          generalize (sl ++ [false]).length = L5 at hv5
          subst hv5
          have hx5 := hT5.bx (HR3.out.below (((Below.refl V.heap.size V).alloc (Nat.le_refl _) _).drew)).box (by decide)
          have c5b := hx5.cell 5 _ rfl
          have z5b := hx5.frozen 5
          have lb5 := hx5.lt
          have HR5 := hid ((HR3.out.below (((Below.refl V.heap.size V).alloc (Nat.le_refl _) _).drew)).appS hO5 hT5)
          have HBW : Hid (Below w1.heap.size w1 w5) := (HB4.out.trans (((((Below.refl V.heap.size V).alloc (Nat.le_refl _) _).drew)).mono HB4.out.size)).trans (hB5.mono (by omega))
          have HB5 : Hid (Below w1.heap.size w1 (w5.setCell ⟨w1.heap.size, 5, none⟩ (.slice to5 L5 tc5))) := HBW.out.setCell (Nat.le_refl _) _
          have h5S : w5.cell? ⟨ub, uo + i * 3 + 2, none⟩ = some (.int .i64 (ug us i).cap) := by
            obtain ⟨ub9, uo9, _, _, _, hao9, _, _, _, a29, _⟩ := (HU.out.below (HB1.out.trans (HBW.out.mono HB1.out.size))).get hit
            cases hao9; exact a29
          clear hO5 hT5 hB5 hx5
          refine hK.out _ _ h5S (fun hHeld => ?_)
          clear hK K
          try simp only [Act.put, List.setIfInBounds_toArray, List.set_cons_zero, List.set_cons_succ]
          refine wpAnyH_take (i := 17) (oi := { dst := some 55, op := Go.Op.nilCheck (Go.Operand.tmp 38), type := 0, pos := "fill.go:91", after := #[{ on := 0, ground := Go.Ground.data }, { on := 0, ground := Go.Ground.phase }, { on := 1, ground := Go.Ground.phase }, { on := 2, ground := Go.Ground.phase }, { on := 3, ground := Go.Ground.phase }, { on := 4, ground := Go.Ground.phase }, { on := 5, ground := Go.Ground.phase }, { on := 6, ground := Go.Ground.phase }, { on := 7, ground := Go.Ground.phase }, { on := 8, ground := Go.Ground.phase }, { on := 9, ground := Go.Ground.phase }, { on := 10, ground := Go.Ground.phase }, { on := 11, ground := Go.Ground.phase }, { on := 12, ground := Go.Ground.phase }, { on := 13, ground := Go.Ground.phase }, { on := 14, ground := Go.Ground.phase }, { on := 15, ground := Go.Ground.phase }, { on := 16, ground := Go.Ground.phase }], guard := none }) (v := ?v16) rfl (by kernel_rfl) (by kernel_rfl) (by kernel_rfl) (fun _ _ _ h => h) (Or.inl ⟨by rfl, ?hy16⟩) (by assumption) ?rest16
          case hy16 => (intro w hSw; (try dsimp only at hSw); go_simp; try with_reducible rfl)
          simp only [Act.put, List.setIfInBounds_toArray, List.set_cons_zero, List.set_cons_succ]
          refine wpAnyH_take (i := 18) (oi := { dst := some 56, op := Go.Op.fieldAddr 75 (Go.Operand.tmp 55) 5, type := 0, pos := "fill.go:91", after := #[{ on := 17, ground := Go.Ground.data }, { on := 0, ground := Go.Ground.phase }, { on := 1, ground := Go.Ground.phase }, { on := 2, ground := Go.Ground.phase }, { on := 3, ground := Go.Ground.phase }, { on := 4, ground := Go.Ground.phase }, { on := 5, ground := Go.Ground.phase }, { on := 6, ground := Go.Ground.phase }, { on := 7, ground := Go.Ground.phase }, { on := 8, ground := Go.Ground.phase }, { on := 9, ground := Go.Ground.phase }, { on := 10, ground := Go.Ground.phase }, { on := 11, ground := Go.Ground.phase }, { on := 12, ground := Go.Ground.phase }, { on := 13, ground := Go.Ground.phase }, { on := 14, ground := Go.Ground.phase }, { on := 15, ground := Go.Ground.phase }, { on := 16, ground := Go.Ground.phase }], guard := none }) (v := ?v17) rfl (by kernel_rfl) (by kernel_rfl) (by kernel_rfl) (fun _ _ _ h => h) (Or.inl ⟨by rfl, ?hy17⟩) (by assumption) ?rest17
          case hy17 => (intro w hSw; (try dsimp only at hSw); go_simp; try with_reducible rfl)
          simp only [Act.put, List.setIfInBounds_toArray, List.set_cons_zero, List.set_cons_succ]
          refine wpAnyH_ready (rs := [19]) (by kernel_rfl) (by simp) ?_
          refine AllReadyH.cons (o := { dst := none, op := Go.Op.store 73 (Go.Operand.tmp 56) (Go.Operand.tmp 54), type := 0, pos := "fill.go:91", after := #[{ on := 18, ground := Go.Ground.data }, { on := 16, ground := Go.Ground.data }, { on := 16, ground := Go.Ground.chain }, { on := 0, ground := Go.Ground.phase }, { on := 1, ground := Go.Ground.phase }, { on := 2, ground := Go.Ground.phase }, { on := 3, ground := Go.Ground.phase }, { on := 4, ground := Go.Ground.phase }, { on := 5, ground := Go.Ground.phase }, { on := 6, ground := Go.Ground.phase }, { on := 7, ground := Go.Ground.phase }, { on := 8, ground := Go.Ground.phase }, { on := 9, ground := Go.Ground.phase }, { on := 10, ground := Go.Ground.phase }, { on := 11, ground := Go.Ground.phase }, { on := 12, ground := Go.Ground.phase }, { on := 13, ground := Go.Ground.phase }, { on := 14, ground := Go.Ground.phase }, { on := 15, ground := Go.Ground.phase }, { on := 16, ground := Go.Ground.phase }], guard := none }) rfl (fun K hK => ?_) AllReadyH.nil
          go_simp
          refine hK.out _ _ ((cell_set_ne hub).trans h5S) (fun hHeld => ?_)
          clear hK K
          try simp only [Act.put, List.setIfInBounds_toArray, List.set_cons_zero, List.set_cons_succ]
          refine wpAnyH_done (by kernel_rfl) ?_ _
          refine NoPanic.normal ?_
          obtain ⟨V6, hV6⟩ : ∃ V6, V6 = w5.setCell ⟨w1.heap.size, 5, none⟩ (.slice to5 L5 tc5) := ⟨_, rfl⟩
          rw [← hV6] at HR5 HB5 ⊢
          clear hV6 HBW h5S c5b z5b lb5 hHeld HK HR3 HB4 hsz c5 z5 lb a2 hbl c5d
          have hbx := HR5.out.box
          obtain ⟨so4, sc4, hvh⟩ := own_shape HR5.out.h
          subst hvh
          have c4 := hbx.cell 4 _ rfl
          have lb := hbx.lt
          clear hbx
          have hsz : w1.heap.size + 1 ≤ V6.heap.size := lb
          have HAL : Hid (RisP (V6.alloc (.cells #[.slice none 0 0] 22)) w1.heap.size (.slice po pool.length pc) (.slice (some ⟨ub, uo, none⟩) us.length cap) qo qn qc i _ _ _ (.slice so4 i sc4) _) := HR5.out.below ((Below.refl _ _).alloc (Nat.le_refl _) _)
          have HOL : Hid ((V6.alloc (.cells #[.slice none 0 0] 22)).ownsRow (w1.heap.size + 1) 22 1 (.slice so4 i sc4) (List.replicate i (Value.slice none 0 0)).length (List.replicate i (Value.slice none 0 0))) := by rw [List.length_replicate]; exact HAL.out.h
          go_wp2_with (at_builtin; refine wpList_append_lst _ rfl _ _ rfl (w1.heap.size + 1) _ (List.replicate i (Value.slice none 0 0)) ⟨V6.heap.size, 0, none⟩ 1 (.slice none 0 0) rfl rfl HOL.out ((bx_new V6 #[.slice none 0 0] 22).cell 0 _ rfl) rfl (by rw [List.length_replicate]; omega) (by simp only [World.size_alloc]; omega) ?_)
          intro v8 w8 hO8 hT8 hB8
          have hO8 : w8.ownsRow (w1.heap.size + 1) 22 1 v8 (i + 1) (List.replicate i (Value.slice none 0 0) ++ [Value.slice none 0 0]) := by have h9 := hO8; first | exact h9 | (rw [List.length_append, List.length_replicate] at h9; exact h9)
          obtain ⟨to8, tc8, hv8⟩ := own_shape hO8
          generalize hL8 : i + 1 = L8 at hv8
          subst hv8
          clear hL8
          have HR8 := hid (HAL.out.appH hO8 hT8)
          have hx8 := hT8.bx HAL.out.box (by decide)
          have c4b := hx8.cell 4 _ rfl
          have z4b := hx8.frozen 4
          have lb8 := hx8.lt
          have HB8 : Hid (Below w1.heap.size w1 (w8.setCell ⟨w1.heap.size, 4, none⟩ (.slice to8 L8 tc8))) := (((HB5.out.alloc HB5.out.size _).trans (hB8.mono (by omega)))).setCell (Nat.le_refl _) _
          clear hO8 hT8 hB8 hx8 HOL HAL HR5 HB5 c4 lb hsz
          go_wp2
          go_roundg (us.length - (i + 1))
          case measure => omega
          case rel =>
            have htl9 := htl.out
            have hsl9 := hsl.out
            refine ⟨i + 1, _, _, _, _, _, rfl, by omega, by go_num, by show (tl ++ [_]).length = _; simp; omega, by show (sl ++ [_]).length = _; simp; omega, HR8.out, fun j hj => ?_, fun j hj => ?_, HB8.out⟩
            · by_cases e : j = i
              · rw [e]; have e2 := lm_app_end tl (-1 : Int); rw [htl9] at e2; rw [e2]; exact HTI.out
              · rw [lm_app_lt (by omega)]; exact HTO.out j (by omega)
            · by_cases e : j = i
              · rw [e]
                have e1 := bn_end sl false
                rw [hsl9] at e1
                have e2 := lm_app_end tl (-1 : Int)
                rw [htl9] at e2
                rw [e1, e2]; simp
              · rw [bn_app (by omega), lm_app_lt (by omega)]; exact HSO.out j (by omega)
        · go_simp
          refine hK.out _ _ (HK.out _ ((Below.refl _ _).alloc (Nat.le_refl _) _).drew) (fun hHeld => ?_)
          clear hK K
          try simp only [Act.put, List.setIfInBounds_toArray, List.set_cons_zero, List.set_cons_succ]
          have c5d := (((Below.refl V.heap.size V).alloc (Nat.le_refl _) (.cells #[.bool false] 4)).drew.cell (p := ⟨w1.heap.size, 5, none⟩) lb).trans c5
          refine wpAnyH_ready (rs := [4]) (by kernel_rfl) (by simp) ?_
          refine AllReadyH.cons (o := { dst := some 42, op := Go.Op.load 73 (Go.Operand.tmp 41), type := 73, pos := "fill.go:91", after := #[{ on := 3, ground := Go.Ground.data }], guard := none }) rfl (fun K hK => ?_) AllReadyH.nil
          go_simp
          refine hK.out _ _ (hHeld) (fun hHeld => ?_)
          clear hK K
          try simp only [Act.put, List.setIfInBounds_toArray, List.set_cons_zero, List.set_cons_succ]
          refine wpAnyH_ready (rs := [16]) (by kernel_rfl) (by simp) ?_
          refine AllReadyH.cons (o := { dst := some 54, op := Go.Op.call { callee := Go.Callee.builtin Go.Builtin.append, args := #[Go.Operand.tmp 42, Go.Operand.tmp 53], argTypes := #[73, 73] }, type := 73, pos := "fill.go:91", after := #[{ on := 4, ground := Go.Ground.data }, { on := 15, ground := Go.Ground.data }, { on := 7, ground := Go.Ground.chain }], guard := none }) rfl (fun K hK => ?_) AllReadyH.nil
          refine step_append_bool rfl (.tmp 42) (.tmp 53) rfl (w1.heap.size + 1) (.slice so5 sl.length sc5) sl ⟨V.heap.size, 0, none⟩ 1 false rfl rfl (HR3.out.s.below (((Below.refl V.heap.size V).alloc (Nat.le_refl _) _).drew)) ?hc18 (by have := hsl.out; omega) (Nat.le_trans hsz ((((Below.refl V.heap.size V).alloc (Nat.le_refl _) _).drew)).size) ?hk18
          case hc18 => exact (bx_new V #[.bool false] 4).cell 0 _ rfl
          intro v5 w5 hO5 hT5 hB5
          obtain ⟨to5, tc5, hv5⟩ := own_shape hO5
          generalize (sl ++ [false]).length = L5 at hv5
          subst hv5
          have hx5 := hT5.bx (HR3.out.below (((Below.refl V.heap.size V).alloc (Nat.le_refl _) _).drew)).box (by decide)
          have c5b := hx5.cell 5 _ rfl
          have z5b := hx5.frozen 5
          have lb5 := hx5.lt
          have HR5 := hid ((HR3.out.below (((Below.refl V.heap.size V).alloc (Nat.le_refl _) _).drew)).appS hO5 hT5)
          have HBW : Hid (Below w1.heap.size w1 w5) := (HB4.out.trans (((((Below.refl V.heap.size V).alloc (Nat.le_refl _) _).drew)).mono HB4.out.size)).trans (hB5.mono (by omega))
          have HB5 : Hid (Below w1.heap.size w1 (w5.setCell ⟨w1.heap.size, 5, none⟩ (.slice to5 L5 tc5))) := HBW.out.setCell (Nat.le_refl _) _
          have h5S : w5.cell? ⟨ub, uo + i * 3 + 2, none⟩ = some (.int .i64 (ug us i).cap) := by
            obtain ⟨ub9, uo9, _, _, _, hao9, _, _, _, a29, _⟩ := (HU.out.below (HB1.out.trans (HBW.out.mono HB1.out.size))).get hit
            cases hao9; exact a29
          clear hO5 hT5 hB5 hx5
          refine hK.out _ _ h5S (fun hHeld => ?_)
          clear hK K
          try simp only [Act.put, List.setIfInBounds_toArray, List.set_cons_zero, List.set_cons_succ]
          refine wpAnyH_take (i := 17) (oi := { dst := some 55, op := Go.Op.nilCheck (Go.Operand.tmp 38), type := 0, pos := "fill.go:91", after := #[{ on := 0, ground := Go.Ground.data }, { on := 0, ground := Go.Ground.phase }, { on := 1, ground := Go.Ground.phase }, { on := 2, ground := Go.Ground.phase }, { on := 3, ground := Go.Ground.phase }, { on := 4, ground := Go.Ground.phase }, { on := 5, ground := Go.Ground.phase }, { on := 6, ground := Go.Ground.phase }, { on := 7, ground := Go.Ground.phase }, { on := 8, ground := Go.Ground.phase }, { on := 9, ground := Go.Ground.phase }, { on := 10, ground := Go.Ground.phase }, { on := 11, ground := Go.Ground.phase }, { on := 12, ground := Go.Ground.phase }, { on := 13, ground := Go.Ground.phase }, { on := 14, ground := Go.Ground.phase }, { on := 15, ground := Go.Ground.phase }, { on := 16, ground := Go.Ground.phase }], guard := none }) (v := ?v19) rfl (by kernel_rfl) (by kernel_rfl) (by kernel_rfl) (fun _ _ _ h => h) (Or.inl ⟨by rfl, ?hy19⟩) (by assumption) ?rest19
          case hy19 => (intro w hSw; (try dsimp only at hSw); go_simp; try with_reducible rfl)
          simp only [Act.put, List.setIfInBounds_toArray, List.set_cons_zero, List.set_cons_succ]
          refine wpAnyH_take (i := 18) (oi := { dst := some 56, op := Go.Op.fieldAddr 75 (Go.Operand.tmp 55) 5, type := 0, pos := "fill.go:91", after := #[{ on := 17, ground := Go.Ground.data }, { on := 0, ground := Go.Ground.phase }, { on := 1, ground := Go.Ground.phase }, { on := 2, ground := Go.Ground.phase }, { on := 3, ground := Go.Ground.phase }, { on := 4, ground := Go.Ground.phase }, { on := 5, ground := Go.Ground.phase }, { on := 6, ground := Go.Ground.phase }, { on := 7, ground := Go.Ground.phase }, { on := 8, ground := Go.Ground.phase }, { on := 9, ground := Go.Ground.phase }, { on := 10, ground := Go.Ground.phase }, { on := 11, ground := Go.Ground.phase }, { on := 12, ground := Go.Ground.phase }, { on := 13, ground := Go.Ground.phase }, { on := 14, ground := Go.Ground.phase }, { on := 15, ground := Go.Ground.phase }, { on := 16, ground := Go.Ground.phase }], guard := none }) (v := ?v20) rfl (by kernel_rfl) (by kernel_rfl) (by kernel_rfl) (fun _ _ _ h => h) (Or.inl ⟨by rfl, ?hy20⟩) (by assumption) ?rest20
          case hy20 => (intro w hSw; (try dsimp only at hSw); go_simp; try with_reducible rfl)
          simp only [Act.put, List.setIfInBounds_toArray, List.set_cons_zero, List.set_cons_succ]
          refine wpAnyH_ready (rs := [19]) (by kernel_rfl) (by simp) ?_
          refine AllReadyH.cons (o := { dst := none, op := Go.Op.store 73 (Go.Operand.tmp 56) (Go.Operand.tmp 54), type := 0, pos := "fill.go:91", after := #[{ on := 18, ground := Go.Ground.data }, { on := 16, ground := Go.Ground.data }, { on := 16, ground := Go.Ground.chain }, { on := 0, ground := Go.Ground.phase }, { on := 1, ground := Go.Ground.phase }, { on := 2, ground := Go.Ground.phase }, { on := 3, ground := Go.Ground.phase }, { on := 4, ground := Go.Ground.phase }, { on := 5, ground := Go.Ground.phase }, { on := 6, ground := Go.Ground.phase }, { on := 7, ground := Go.Ground.phase }, { on := 8, ground := Go.Ground.phase }, { on := 9, ground := Go.Ground.phase }, { on := 10, ground := Go.Ground.phase }, { on := 11, ground := Go.Ground.phase }, { on := 12, ground := Go.Ground.phase }, { on := 13, ground := Go.Ground.phase }, { on := 14, ground := Go.Ground.phase }, { on := 15, ground := Go.Ground.phase }, { on := 16, ground := Go.Ground.phase }], guard := none }) rfl (fun K hK => ?_) AllReadyH.nil
          go_simp
          refine hK.out _ _ ((cell_set_ne hub).trans h5S) (fun hHeld => ?_)
          clear hK K
          try simp only [Act.put, List.setIfInBounds_toArray, List.set_cons_zero, List.set_cons_succ]
          refine wpAnyH_done (by kernel_rfl) ?_ _
          refine NoPanic.normal ?_
          obtain ⟨V6, hV6⟩ : ∃ V6, V6 = w5.setCell ⟨w1.heap.size, 5, none⟩ (.slice to5 L5 tc5) := ⟨_, rfl⟩
          rw [← hV6] at HR5 HB5 ⊢
          clear hV6 HBW h5S c5b z5b lb5 hHeld HK HR3 HB4 hsz c5 z5 lb a2 hbl c5d
          have hbx := HR5.out.box
          obtain ⟨so4, sc4, hvh⟩ := own_shape HR5.out.h
          subst hvh
          have c4 := hbx.cell 4 _ rfl
          have lb := hbx.lt
          clear hbx
          have hsz : w1.heap.size + 1 ≤ V6.heap.size := lb
          have HAL : Hid (RisP (V6.alloc (.cells #[.slice none 0 0] 22)) w1.heap.size (.slice po pool.length pc) (.slice (some ⟨ub, uo, none⟩) us.length cap) qo qn qc i _ _ _ (.slice so4 i sc4) _) := HR5.out.below ((Below.refl _ _).alloc (Nat.le_refl _) _)
          have HOL : Hid ((V6.alloc (.cells #[.slice none 0 0] 22)).ownsRow (w1.heap.size + 1) 22 1 (.slice so4 i sc4) (List.replicate i (Value.slice none 0 0)).length (List.replicate i (Value.slice none 0 0))) := by rw [List.length_replicate]; exact HAL.out.h
          go_wp2_with (at_builtin; refine wpList_append_lst _ rfl _ _ rfl (w1.heap.size + 1) _ (List.replicate i (Value.slice none 0 0)) ⟨V6.heap.size, 0, none⟩ 1 (.slice none 0 0) rfl rfl HOL.out ((bx_new V6 #[.slice none 0 0] 22).cell 0 _ rfl) rfl (by rw [List.length_replicate]; omega) (by simp only [World.size_alloc]; omega) ?_)
          intro v8 w8 hO8 hT8 hB8
          have hO8 : w8.ownsRow (w1.heap.size + 1) 22 1 v8 (i + 1) (List.replicate i (Value.slice none 0 0) ++ [Value.slice none 0 0]) := by have h9 := hO8; first | exact h9 | (rw [List.length_append, List.length_replicate] at h9; exact h9)
          obtain ⟨to8, tc8, hv8⟩ := own_shape hO8
          generalize hL8 : i + 1 = L8 at hv8
          subst hv8
          clear hL8
          have HR8 := hid (HAL.out.appH hO8 hT8)
          have hx8 := hT8.bx HAL.out.box (by decide)
          have c4b := hx8.cell 4 _ rfl
          have z4b := hx8.frozen 4
          have lb8 := hx8.lt
          have HB8 : Hid (Below w1.heap.size w1 (w8.setCell ⟨w1.heap.size, 4, none⟩ (.slice to8 L8 tc8))) := (((HB5.out.alloc HB5.out.size _).trans (hB8.mono (by omega)))).setCell (Nat.le_refl _) _
          clear hO8 hT8 hB8 hx8 HOL HAL HR5 HB5 c4 lb hsz
          go_wp2
          go_roundg (us.length - (i + 1))
          case measure => omega
          case rel =>
            have htl9 := htl.out
            have hsl9 := hsl.out
            refine ⟨i + 1, _, _, _, _, _, rfl, by omega, by go_num, by show (tl ++ [_]).length = _; simp; omega, by show (sl ++ [_]).length = _; simp; omega, HR8.out, fun j hj => ?_, fun j hj => ?_, HB8.out⟩
            · by_cases e : j = i
              · rw [e]; have e2 := lm_app_end tl (-1 : Int); rw [htl9] at e2; rw [e2]; exact HTI.out
              · rw [lm_app_lt (by omega)]; exact HTO.out j (by omega)
            · by_cases e : j = i
              · rw [e]
                have e1 := bn_end sl false
                rw [hsl9] at e1
                have e2 := lm_app_end tl (-1 : Int)
                rw [htl9] at e2
                rw [e1, e2]; simp
              · rw [bn_app (by omega), lm_app_lt (by omega)]; exact HSO.out j (by omega)
      · subst htv
        have HK : Hid (∀ U, Below V.heap.size V U → U.cell? ⟨ub, uo + i * 3 + 2, none⟩ = some (.int .i64 (ug us i).cap)) := fun U h => (h.cell (p := ⟨ub, uo + i * 3 + 2, none⟩) hbl).trans a2
        have hub : ub ≠ w1.heap.size := by obtain ⟨ub9, uo9, _, _, _, hao9, hbl9, _⟩ := HU.out.get hit; cases hao9; have h9 := HB1.out.size; omega
        refine wp_region_noPanic ?_
        refine wp_region_held_drew (S := fun w' => w'.cell? ⟨ub, uo + i * 3 + 2, none⟩ = some (.int .i64 (ug us i).cap)) (by kernel_rfl) (HK.out _ (Below.refl _ _).drew) (fun hHeld => ?_)
        refine wpAnyH_take (i := 0) (oi := { dst := some 38, op := Go.Op.move (Go.Operand.tmp 5), type := 51, pos := "fill.go:91", after := #[], guard := none }) (v := ?v21) rfl (by kernel_rfl) (by kernel_rfl) (by kernel_rfl) (fun _ _ _ h => h) (Or.inl ⟨by rfl, ?hy21⟩) (by assumption) ?rest21
        case hy21 => (intro w hSw; (try dsimp only at hSw); go_simp; try with_reducible rfl)
        simp only [Act.put, List.setIfInBounds_toArray, List.set_cons_zero, List.set_cons_succ]
        refine wpAnyH_take (i := 1) (oi := { dst := some 39, op := Go.Op.move (Go.Operand.tmp 5), type := 51, pos := "fill.go:91", after := #[], guard := none }) (v := ?v22) rfl (by kernel_rfl) (by kernel_rfl) (by kernel_rfl) (fun _ _ _ h => h) (Or.inl ⟨by rfl, ?hy22⟩) (by assumption) ?rest22
        case hy22 => (intro w hSw; (try dsimp only at hSw); go_simp; try with_reducible rfl)
        simp only [Act.put, List.setIfInBounds_toArray, List.set_cons_zero, List.set_cons_succ]
        refine wpAnyH_take (i := 2) (oi := { dst := some 40, op := Go.Op.nilCheck (Go.Operand.tmp 39), type := 0, pos := "fill.go:91", after := #[{ on := 1, ground := Go.Ground.data }], guard := none }) (v := ?v23) rfl (by kernel_rfl) (by kernel_rfl) (by kernel_rfl) (fun _ _ _ h => h) (Or.inl ⟨by rfl, ?hy23⟩) (by assumption) ?rest23
        case hy23 => (intro w hSw; (try dsimp only at hSw); go_simp; try with_reducible rfl)
        simp only [Act.put, List.setIfInBounds_toArray, List.set_cons_zero, List.set_cons_succ]
        refine wpAnyH_take (i := 3) (oi := { dst := some 41, op := Go.Op.fieldAddr 75 (Go.Operand.tmp 40) 5, type := 0, pos := "fill.go:91", after := #[{ on := 2, ground := Go.Ground.data }], guard := none }) (v := ?v24) rfl (by kernel_rfl) (by kernel_rfl) (by kernel_rfl) (fun _ _ _ h => h) (Or.inl ⟨by rfl, ?hy24⟩) (by assumption) ?rest24
        case hy24 => (intro w hSw; (try dsimp only at hSw); go_simp; try with_reducible rfl)
        simp only [Act.put, List.setIfInBounds_toArray, List.set_cons_zero, List.set_cons_succ]
        refine wpAnyH_take (i := 5) (oi := { dst := some 43, op := Go.Op.move (Go.Operand.tmp 7), type := 3, pos := "fill.go:91", after := #[], guard := none }) (v := ?v25) rfl (by kernel_rfl) (by kernel_rfl) (by kernel_rfl) (fun _ _ _ h => h) (Or.inl ⟨by rfl, ?hy25⟩) (by assumption) ?rest25
        case hy25 => (intro w hSw; (try dsimp only at hSw); go_simp; try with_reducible rfl)
        simp only [Act.put, List.setIfInBounds_toArray, List.set_cons_zero, List.set_cons_succ]
        refine wpAnyH_take (i := 6) (oi := { dst := some 44, op := Go.Op.binOp Go.BinOp.geq 3 (Go.Operand.tmp 43) (Go.Operand.const (Go.Value.int Go.IntKind.i64 0)) 3, type := 4, pos := "fill.go:91", after := #[{ on := 5, ground := Go.Ground.data }], guard := none }) (v := ?v26) rfl (by kernel_rfl) (by kernel_rfl) (by kernel_rfl) (fun _ _ _ h => h) (Or.inl ⟨by rfl, ?hy26⟩) (by assumption) ?rest26
        case hy26 => (intro w hSw; (try dsimp only at hSw); go_simp; try with_reducible rfl)
        simp only [Act.put, List.setIfInBounds_toArray, List.set_cons_zero, List.set_cons_succ]
        refine wpAnyH_take (i := 7) (oi := { dst := some 45, op := Go.Op.move (Go.Operand.tmp 44), type := 4, pos := "fill.go:91", after := #[{ on := 6, ground := Go.Ground.data }], guard := none }) (v := ?v27) rfl (by kernel_rfl) (by kernel_rfl) (by kernel_rfl) (fun _ _ _ h => h) (Or.inl ⟨by rfl, ?hy27⟩) (by assumption) ?rest27
        case hy27 => (intro w hSw; (try dsimp only at hSw); go_simp; try with_reducible rfl)
        simp only [Act.put, List.setIfInBounds_toArray, List.set_cons_zero, List.set_cons_succ]
        refine wpAnyH_take (i := 8) (oi := { dst := some 46, op := Go.Op.move (Go.Operand.tmp 1), type := 23, pos := "fill.go:91", after := #[{ on := 7, ground := Go.Ground.guard }], guard := some (7, true) }) (v := ?v28) rfl (by kernel_rfl) (by kernel_rfl) (by kernel_rfl) (fun _ _ _ h => h) (Or.inl ⟨by rfl, ?hy28⟩) (by assumption) ?rest28
        case hy28 => (intro w hSw; (try dsimp only at hSw); go_simp; try with_reducible rfl)
        simp only [Act.put, List.setIfInBounds_toArray, List.set_cons_zero, List.set_cons_succ]
        refine wpAnyH_take (i := 9) (oi := { dst := some 47, op := Go.Op.move (Go.Operand.tmp 6), type := 3, pos := "fill.go:91", after := #[{ on := 7, ground := Go.Ground.guard }], guard := some (7, true) }) (v := ?v29) rfl (by kernel_rfl) (by kernel_rfl) (by kernel_rfl) (fun _ _ _ h => h) (Or.inl ⟨by rfl, ?hy29⟩) (by assumption) ?rest29
        case hy29 => (intro w hSw; (try dsimp only at hSw); go_simp; try with_reducible rfl)
        simp only [Act.put, List.setIfInBounds_toArray, List.set_cons_zero, List.set_cons_succ]
        refine wpAnyH_take (i := 10) (oi := { dst := some 48, op := Go.Op.indexAddr 23 (Go.Operand.tmp 46) (Go.Operand.tmp 47), type := 0, pos := "fill.go:91", after := #[{ on := 8, ground := Go.Ground.data }, { on := 9, ground := Go.Ground.data }, { on := 7, ground := Go.Ground.guard }], guard := some (7, true) }) (v := ?v30) rfl (by kernel_rfl) (by kernel_rfl) (by kernel_rfl) (fun _ _ _ h => h) (Or.inl ⟨by rfl, ?hy30⟩) (by assumption) ?rest30
        case hy30 => (intro w hSw; (try dsimp only at hSw); go_simp; try with_reducible rfl)
        simp only [Act.put, List.setIfInBounds_toArray, List.set_cons_zero, List.set_cons_succ]
        refine wpAnyH_take (i := 11) (oi := { dst := some 49, op := Go.Op.fieldAddr 56 (Go.Operand.tmp 48) 2, type := 0, pos := "fill.go:91", after := #[{ on := 10, ground := Go.Ground.data }, { on := 7, ground := Go.Ground.guard }], guard := some (7, true) }) (v := ?v31) rfl (by kernel_rfl) (by kernel_rfl) (by kernel_rfl) (fun _ _ _ h => h) (Or.inl ⟨by rfl, ?hy31⟩) (by assumption) ?rest31
        case hy31 => (intro w hSw; (try dsimp only at hSw); go_simp; try with_reducible rfl)
        simp only [Act.put, List.setIfInBounds_toArray, List.set_cons_zero, List.set_cons_succ]
        refine wpAnyH_take (i := 12) (oi := { dst := some 50, op := Go.Op.load 3 (Go.Operand.tmp 49), type := 3, pos := "fill.go:91", after := #[{ on := 11, ground := Go.Ground.data }, { on := 7, ground := Go.Ground.guard }], guard := some (7, true) }) (v := ?v32) rfl (by kernel_rfl) (by kernel_rfl) (by kernel_rfl) (fun _ _ _ h => h) (Or.inl ⟨by rfl, ?hy32⟩) (by assumption) ?rest32
        case hy32 => (intro w hSw; (try dsimp only at hSw); go_simp; try with_reducible rfl)
        simp only [Act.put, List.setIfInBounds_toArray, List.set_cons_zero, List.set_cons_succ]
        refine wpAnyH_take (i := 13) (oi := { dst := some 51, op := Go.Op.binOp Go.BinOp.gtr 3 (Go.Operand.tmp 50) (Go.Operand.const (Go.Value.int Go.IntKind.i64 0)) 3, type := 4, pos := "fill.go:91", after := #[{ on := 12, ground := Go.Ground.data }, { on := 7, ground := Go.Ground.guard }], guard := some (7, true) }) (v := ?v33) rfl (by kernel_rfl) (by kernel_rfl) (by kernel_rfl) (fun _ _ _ h => h) (Or.inl ⟨by rfl, ?hy33⟩) (by assumption) ?rest33
        case hy33 => (intro w hSw; (try dsimp only at hSw); go_simp; try with_reducible rfl)
        simp only [Act.put, List.setIfInBounds_toArray, List.set_cons_zero, List.set_cons_succ]
        refine wpAnyH_take (i := 14) (oi := { dst := some 52, op := Go.Op.pick (Go.Operand.tmp 45) (Go.Operand.tmp 51) (Go.Operand.const (Go.Value.bool false)), type := 4, pos := "fill.go:91", after := #[{ on := 7, ground := Go.Ground.data }, { on := 13, ground := Go.Ground.data }], guard := none }) (v := ?v34) rfl (by kernel_rfl) (by kernel_rfl) (by kernel_rfl) (fun _ _ _ h => h) (Or.inl ⟨by rfl, ?hy34⟩) (by assumption) ?rest34
        case hy34 => (intro w hSw; (try dsimp only at hSw); go_simp; try with_reducible rfl)
        simp only [Act.put, List.setIfInBounds_toArray, List.set_cons_zero, List.set_cons_succ]
        refine wpAnyH_ready (rs := [4, 15]) (by kernel_rfl) (by simp) ?_
        refine AllReadyH.cons (o := { dst := some 42, op := Go.Op.load 73 (Go.Operand.tmp 41), type := 73, pos := "fill.go:91", after := #[{ on := 3, ground := Go.Ground.data }], guard := none }) rfl (fun K hK => ?_) (AllReadyH.cons (o := { dst := some 53, op := Go.Op.buildSlice 73 1 #[(0, Go.Operand.tmp 52)], type := 73, pos := "fill.go:91", after := #[{ on := 14, ground := Go.Ground.data }], guard := none }) rfl (fun K hK => ?_) AllReadyH.nil)
        · have c5d := ((Below.refl V.heap.size V).drew.cell (p := ⟨w1.heap.size, 5, none⟩) lb).trans c5
          go_simp
          refine hK.out _ _ (hHeld) (fun hHeld => ?_)
          clear hK K
          try simp only [Act.put, List.setIfInBounds_toArray, List.set_cons_zero, List.set_cons_succ]
          refine wpAnyH_ready (rs := [15]) (by kernel_rfl) (by simp) ?_
          refine AllReadyH.cons (o := { dst := some 53, op := Go.Op.buildSlice 73 1 #[(0, Go.Operand.tmp 52)], type := 73, pos := "fill.go:91", after := #[{ on := 14, ground := Go.Ground.data }], guard := none }) rfl (fun K hK => ?_) AllReadyH.nil
          go_simp
          refine hK.out _ _ (HK.out _ ((Below.refl _ _).alloc (Nat.le_refl _) _).drew) (fun hHeld => ?_)
          clear hK K
          try simp only [Act.put, List.setIfInBounds_toArray, List.set_cons_zero, List.set_cons_succ]
          refine wpAnyH_ready (rs := [16]) (by kernel_rfl) (by simp) ?_
          refine AllReadyH.cons (o := { dst := some 54, op := Go.Op.call { callee := Go.Callee.builtin Go.Builtin.append, args := #[Go.Operand.tmp 42, Go.Operand.tmp 53], argTypes := #[73, 73] }, type := 73, pos := "fill.go:91", after := #[{ on := 4, ground := Go.Ground.data }, { on := 15, ground := Go.Ground.data }, { on := 7, ground := Go.Ground.chain }], guard := none }) rfl (fun K hK => ?_) AllReadyH.nil
          refine step_append_bool rfl (.tmp 42) (.tmp 53) rfl (w1.heap.size + 1) (.slice so5 sl.length sc5) sl ⟨V.heap.size, 0, none⟩ 1 (decide ((0 : Int) < (ug us i).cap)) rfl rfl (HR3.out.s.below (((Below.refl V.heap.size V).alloc (Nat.le_refl _) _).drew)) ?hc35 (by have := hsl.out; omega) (Nat.le_trans hsz ((((Below.refl V.heap.size V).alloc (Nat.le_refl _) _).drew)).size) ?hk35
          case hc35 => exact (bx_new V #[.bool (decide ((0 : Int) < (ug us i).cap))] 4).cell 0 _ rfl
          intro v5 w5 hO5 hT5 hB5
          obtain ⟨to5, tc5, hv5⟩ := own_shape hO5
          generalize (sl ++ [(decide ((0 : Int) < (ug us i).cap))]).length = L5 at hv5
          subst hv5
          have hx5 := hT5.bx (HR3.out.below (((Below.refl V.heap.size V).alloc (Nat.le_refl _) _).drew)).box (by decide)
          have c5b := hx5.cell 5 _ rfl
          have z5b := hx5.frozen 5
          have lb5 := hx5.lt
          have HR5 := hid ((HR3.out.below (((Below.refl V.heap.size V).alloc (Nat.le_refl _) _).drew)).appS hO5 hT5)
          have HBW : Hid (Below w1.heap.size w1 w5) := (HB4.out.trans (((((Below.refl V.heap.size V).alloc (Nat.le_refl _) _).drew)).mono HB4.out.size)).trans (hB5.mono (by omega))
          have HB5 : Hid (Below w1.heap.size w1 (w5.setCell ⟨w1.heap.size, 5, none⟩ (.slice to5 L5 tc5))) := HBW.out.setCell (Nat.le_refl _) _
          have h5S : w5.cell? ⟨ub, uo + i * 3 + 2, none⟩ = some (.int .i64 (ug us i).cap) := by
            obtain ⟨ub9, uo9, _, _, _, hao9, _, _, _, a29, _⟩ := (HU.out.below (HB1.out.trans (HBW.out.mono HB1.out.size))).get hit
            cases hao9; exact a29
          clear hO5 hT5 hB5 hx5
          refine hK.out _ _ h5S (fun hHeld => ?_)
          clear hK K
          try simp only [Act.put, List.setIfInBounds_toArray, List.set_cons_zero, List.set_cons_succ]
          refine wpAnyH_take (i := 17) (oi := { dst := some 55, op := Go.Op.nilCheck (Go.Operand.tmp 38), type := 0, pos := "fill.go:91", after := #[{ on := 0, ground := Go.Ground.data }, { on := 0, ground := Go.Ground.phase }, { on := 1, ground := Go.Ground.phase }, { on := 2, ground := Go.Ground.phase }, { on := 3, ground := Go.Ground.phase }, { on := 4, ground := Go.Ground.phase }, { on := 5, ground := Go.Ground.phase }, { on := 6, ground := Go.Ground.phase }, { on := 7, ground := Go.Ground.phase }, { on := 8, ground := Go.Ground.phase }, { on := 9, ground := Go.Ground.phase }, { on := 10, ground := Go.Ground.phase }, { on := 11, ground := Go.Ground.phase }, { on := 12, ground := Go.Ground.phase }, { on := 13, ground := Go.Ground.phase }, { on := 14, ground := Go.Ground.phase }, { on := 15, ground := Go.Ground.phase }, { on := 16, ground := Go.Ground.phase }], guard := none }) (v := ?v36) rfl (by kernel_rfl) (by kernel_rfl) (by kernel_rfl) (fun _ _ _ h => h) (Or.inl ⟨by rfl, ?hy36⟩) (by assumption) ?rest36
          case hy36 => (intro w hSw; (try dsimp only at hSw); go_simp; try with_reducible rfl)
          simp only [Act.put, List.setIfInBounds_toArray, List.set_cons_zero, List.set_cons_succ]
          refine wpAnyH_take (i := 18) (oi := { dst := some 56, op := Go.Op.fieldAddr 75 (Go.Operand.tmp 55) 5, type := 0, pos := "fill.go:91", after := #[{ on := 17, ground := Go.Ground.data }, { on := 0, ground := Go.Ground.phase }, { on := 1, ground := Go.Ground.phase }, { on := 2, ground := Go.Ground.phase }, { on := 3, ground := Go.Ground.phase }, { on := 4, ground := Go.Ground.phase }, { on := 5, ground := Go.Ground.phase }, { on := 6, ground := Go.Ground.phase }, { on := 7, ground := Go.Ground.phase }, { on := 8, ground := Go.Ground.phase }, { on := 9, ground := Go.Ground.phase }, { on := 10, ground := Go.Ground.phase }, { on := 11, ground := Go.Ground.phase }, { on := 12, ground := Go.Ground.phase }, { on := 13, ground := Go.Ground.phase }, { on := 14, ground := Go.Ground.phase }, { on := 15, ground := Go.Ground.phase }, { on := 16, ground := Go.Ground.phase }], guard := none }) (v := ?v37) rfl (by kernel_rfl) (by kernel_rfl) (by kernel_rfl) (fun _ _ _ h => h) (Or.inl ⟨by rfl, ?hy37⟩) (by assumption) ?rest37
          case hy37 => (intro w hSw; (try dsimp only at hSw); go_simp; try with_reducible rfl)
          simp only [Act.put, List.setIfInBounds_toArray, List.set_cons_zero, List.set_cons_succ]
          refine wpAnyH_ready (rs := [19]) (by kernel_rfl) (by simp) ?_
          refine AllReadyH.cons (o := { dst := none, op := Go.Op.store 73 (Go.Operand.tmp 56) (Go.Operand.tmp 54), type := 0, pos := "fill.go:91", after := #[{ on := 18, ground := Go.Ground.data }, { on := 16, ground := Go.Ground.data }, { on := 16, ground := Go.Ground.chain }, { on := 0, ground := Go.Ground.phase }, { on := 1, ground := Go.Ground.phase }, { on := 2, ground := Go.Ground.phase }, { on := 3, ground := Go.Ground.phase }, { on := 4, ground := Go.Ground.phase }, { on := 5, ground := Go.Ground.phase }, { on := 6, ground := Go.Ground.phase }, { on := 7, ground := Go.Ground.phase }, { on := 8, ground := Go.Ground.phase }, { on := 9, ground := Go.Ground.phase }, { on := 10, ground := Go.Ground.phase }, { on := 11, ground := Go.Ground.phase }, { on := 12, ground := Go.Ground.phase }, { on := 13, ground := Go.Ground.phase }, { on := 14, ground := Go.Ground.phase }, { on := 15, ground := Go.Ground.phase }, { on := 16, ground := Go.Ground.phase }], guard := none }) rfl (fun K hK => ?_) AllReadyH.nil
          go_simp
          refine hK.out _ _ ((cell_set_ne hub).trans h5S) (fun hHeld => ?_)
          clear hK K
          try simp only [Act.put, List.setIfInBounds_toArray, List.set_cons_zero, List.set_cons_succ]
          refine wpAnyH_done (by kernel_rfl) ?_ _
          refine NoPanic.normal ?_
          obtain ⟨V6, hV6⟩ : ∃ V6, V6 = w5.setCell ⟨w1.heap.size, 5, none⟩ (.slice to5 L5 tc5) := ⟨_, rfl⟩
          rw [← hV6] at HR5 HB5 ⊢
          clear hV6 HBW h5S c5b z5b lb5 hHeld HK HR3 HB4 hsz c5 z5 lb a2 hbl c5d
          have hbx := HR5.out.box
          obtain ⟨so4, sc4, hvh⟩ := own_shape HR5.out.h
          subst hvh
          have c4 := hbx.cell 4 _ rfl
          have lb := hbx.lt
          clear hbx
          have hsz : w1.heap.size + 1 ≤ V6.heap.size := lb
          have HAL : Hid (RisP (V6.alloc (.cells #[.slice none 0 0] 22)) w1.heap.size (.slice po pool.length pc) (.slice (some ⟨ub, uo, none⟩) us.length cap) qo qn qc i _ _ _ (.slice so4 i sc4) _) := HR5.out.below ((Below.refl _ _).alloc (Nat.le_refl _) _)
          have HOL : Hid ((V6.alloc (.cells #[.slice none 0 0] 22)).ownsRow (w1.heap.size + 1) 22 1 (.slice so4 i sc4) (List.replicate i (Value.slice none 0 0)).length (List.replicate i (Value.slice none 0 0))) := by rw [List.length_replicate]; exact HAL.out.h
          go_wp2_with (at_builtin; refine wpList_append_lst _ rfl _ _ rfl (w1.heap.size + 1) _ (List.replicate i (Value.slice none 0 0)) ⟨V6.heap.size, 0, none⟩ 1 (.slice none 0 0) rfl rfl HOL.out ((bx_new V6 #[.slice none 0 0] 22).cell 0 _ rfl) rfl (by rw [List.length_replicate]; omega) (by simp only [World.size_alloc]; omega) ?_)
          intro v8 w8 hO8 hT8 hB8
          have hO8 : w8.ownsRow (w1.heap.size + 1) 22 1 v8 (i + 1) (List.replicate i (Value.slice none 0 0) ++ [Value.slice none 0 0]) := by have h9 := hO8; first | exact h9 | (rw [List.length_append, List.length_replicate] at h9; exact h9)
          obtain ⟨to8, tc8, hv8⟩ := own_shape hO8
          generalize hL8 : i + 1 = L8 at hv8
          subst hv8
          clear hL8
          have HR8 := hid (HAL.out.appH hO8 hT8)
          have hx8 := hT8.bx HAL.out.box (by decide)
          have c4b := hx8.cell 4 _ rfl
          have z4b := hx8.frozen 4
          have lb8 := hx8.lt
          have HB8 : Hid (Below w1.heap.size w1 (w8.setCell ⟨w1.heap.size, 4, none⟩ (.slice to8 L8 tc8))) := (((HB5.out.alloc HB5.out.size _).trans (hB8.mono (by omega)))).setCell (Nat.le_refl _) _
          clear hO8 hT8 hB8 hx8 HOL HAL HR5 HB5 c4 lb hsz
          go_wp2
          go_roundg (us.length - (i + 1))
          case measure => omega
          case rel =>
            have htl9 := htl.out
            have hsl9 := hsl.out
            refine ⟨i + 1, _, _, _, _, _, rfl, by omega, by go_num, by show (tl ++ [_]).length = _; simp; omega, by show (sl ++ [_]).length = _; simp; omega, HR8.out, fun j hj => ?_, fun j hj => ?_, HB8.out⟩
            · by_cases e : j = i
              · rw [e]; have e2 := lm_app_end tl (m : Int); rw [htl9] at e2; rw [e2]; exact HTI.out
              · rw [lm_app_lt (by omega)]; exact HTO.out j (by omega)
            · by_cases e : j = i
              · rw [e]
                have e1 := bn_end sl (decide ((0 : Int) < (ug us i).cap))
                rw [hsl9] at e1
                have e2 := lm_app_end tl (m : Int)
                rw [htl9] at e2
                rw [e1, e2]; simp
              · rw [bn_app (by omega), lm_app_lt (by omega)]; exact HSO.out j (by omega)
        · go_simp
          refine hK.out _ _ (HK.out _ ((Below.refl _ _).alloc (Nat.le_refl _) _).drew) (fun hHeld => ?_)
          clear hK K
          try simp only [Act.put, List.setIfInBounds_toArray, List.set_cons_zero, List.set_cons_succ]
          have c5d := (((Below.refl V.heap.size V).alloc (Nat.le_refl _) (.cells #[.bool (decide ((0 : Int) < (ug us i).cap))] 4)).drew.cell (p := ⟨w1.heap.size, 5, none⟩) lb).trans c5
          refine wpAnyH_ready (rs := [4]) (by kernel_rfl) (by simp) ?_
          refine AllReadyH.cons (o := { dst := some 42, op := Go.Op.load 73 (Go.Operand.tmp 41), type := 73, pos := "fill.go:91", after := #[{ on := 3, ground := Go.Ground.data }], guard := none }) rfl (fun K hK => ?_) AllReadyH.nil
          go_simp
          refine hK.out _ _ (hHeld) (fun hHeld => ?_)
          clear hK K
          try simp only [Act.put, List.setIfInBounds_toArray, List.set_cons_zero, List.set_cons_succ]
          refine wpAnyH_ready (rs := [16]) (by kernel_rfl) (by simp) ?_
          refine AllReadyH.cons (o := { dst := some 54, op := Go.Op.call { callee := Go.Callee.builtin Go.Builtin.append, args := #[Go.Operand.tmp 42, Go.Operand.tmp 53], argTypes := #[73, 73] }, type := 73, pos := "fill.go:91", after := #[{ on := 4, ground := Go.Ground.data }, { on := 15, ground := Go.Ground.data }, { on := 7, ground := Go.Ground.chain }], guard := none }) rfl (fun K hK => ?_) AllReadyH.nil
          refine step_append_bool rfl (.tmp 42) (.tmp 53) rfl (w1.heap.size + 1) (.slice so5 sl.length sc5) sl ⟨V.heap.size, 0, none⟩ 1 (decide ((0 : Int) < (ug us i).cap)) rfl rfl (HR3.out.s.below (((Below.refl V.heap.size V).alloc (Nat.le_refl _) _).drew)) ?hc38 (by have := hsl.out; omega) (Nat.le_trans hsz ((((Below.refl V.heap.size V).alloc (Nat.le_refl _) _).drew)).size) ?hk38
          case hc38 => exact (bx_new V #[.bool (decide ((0 : Int) < (ug us i).cap))] 4).cell 0 _ rfl
          intro v5 w5 hO5 hT5 hB5
          obtain ⟨to5, tc5, hv5⟩ := own_shape hO5
          generalize (sl ++ [(decide ((0 : Int) < (ug us i).cap))]).length = L5 at hv5
          subst hv5
          have hx5 := hT5.bx (HR3.out.below (((Below.refl V.heap.size V).alloc (Nat.le_refl _) _).drew)).box (by decide)
          have c5b := hx5.cell 5 _ rfl
          have z5b := hx5.frozen 5
          have lb5 := hx5.lt
          have HR5 := hid ((HR3.out.below (((Below.refl V.heap.size V).alloc (Nat.le_refl _) _).drew)).appS hO5 hT5)
          have HBW : Hid (Below w1.heap.size w1 w5) := (HB4.out.trans (((((Below.refl V.heap.size V).alloc (Nat.le_refl _) _).drew)).mono HB4.out.size)).trans (hB5.mono (by omega))
          have HB5 : Hid (Below w1.heap.size w1 (w5.setCell ⟨w1.heap.size, 5, none⟩ (.slice to5 L5 tc5))) := HBW.out.setCell (Nat.le_refl _) _
          have h5S : w5.cell? ⟨ub, uo + i * 3 + 2, none⟩ = some (.int .i64 (ug us i).cap) := by
            obtain ⟨ub9, uo9, _, _, _, hao9, _, _, _, a29, _⟩ := (HU.out.below (HB1.out.trans (HBW.out.mono HB1.out.size))).get hit
            cases hao9; exact a29
          clear hO5 hT5 hB5 hx5
          refine hK.out _ _ h5S (fun hHeld => ?_)
          clear hK K
          try simp only [Act.put, List.setIfInBounds_toArray, List.set_cons_zero, List.set_cons_succ]
          refine wpAnyH_take (i := 17) (oi := { dst := some 55, op := Go.Op.nilCheck (Go.Operand.tmp 38), type := 0, pos := "fill.go:91", after := #[{ on := 0, ground := Go.Ground.data }, { on := 0, ground := Go.Ground.phase }, { on := 1, ground := Go.Ground.phase }, { on := 2, ground := Go.Ground.phase }, { on := 3, ground := Go.Ground.phase }, { on := 4, ground := Go.Ground.phase }, { on := 5, ground := Go.Ground.phase }, { on := 6, ground := Go.Ground.phase }, { on := 7, ground := Go.Ground.phase }, { on := 8, ground := Go.Ground.phase }, { on := 9, ground := Go.Ground.phase }, { on := 10, ground := Go.Ground.phase }, { on := 11, ground := Go.Ground.phase }, { on := 12, ground := Go.Ground.phase }, { on := 13, ground := Go.Ground.phase }, { on := 14, ground := Go.Ground.phase }, { on := 15, ground := Go.Ground.phase }, { on := 16, ground := Go.Ground.phase }], guard := none }) (v := ?v39) rfl (by kernel_rfl) (by kernel_rfl) (by kernel_rfl) (fun _ _ _ h => h) (Or.inl ⟨by rfl, ?hy39⟩) (by assumption) ?rest39
          case hy39 => (intro w hSw; (try dsimp only at hSw); go_simp; try with_reducible rfl)
          simp only [Act.put, List.setIfInBounds_toArray, List.set_cons_zero, List.set_cons_succ]
          refine wpAnyH_take (i := 18) (oi := { dst := some 56, op := Go.Op.fieldAddr 75 (Go.Operand.tmp 55) 5, type := 0, pos := "fill.go:91", after := #[{ on := 17, ground := Go.Ground.data }, { on := 0, ground := Go.Ground.phase }, { on := 1, ground := Go.Ground.phase }, { on := 2, ground := Go.Ground.phase }, { on := 3, ground := Go.Ground.phase }, { on := 4, ground := Go.Ground.phase }, { on := 5, ground := Go.Ground.phase }, { on := 6, ground := Go.Ground.phase }, { on := 7, ground := Go.Ground.phase }, { on := 8, ground := Go.Ground.phase }, { on := 9, ground := Go.Ground.phase }, { on := 10, ground := Go.Ground.phase }, { on := 11, ground := Go.Ground.phase }, { on := 12, ground := Go.Ground.phase }, { on := 13, ground := Go.Ground.phase }, { on := 14, ground := Go.Ground.phase }, { on := 15, ground := Go.Ground.phase }, { on := 16, ground := Go.Ground.phase }], guard := none }) (v := ?v40) rfl (by kernel_rfl) (by kernel_rfl) (by kernel_rfl) (fun _ _ _ h => h) (Or.inl ⟨by rfl, ?hy40⟩) (by assumption) ?rest40
          case hy40 => (intro w hSw; (try dsimp only at hSw); go_simp; try with_reducible rfl)
          simp only [Act.put, List.setIfInBounds_toArray, List.set_cons_zero, List.set_cons_succ]
          refine wpAnyH_ready (rs := [19]) (by kernel_rfl) (by simp) ?_
          refine AllReadyH.cons (o := { dst := none, op := Go.Op.store 73 (Go.Operand.tmp 56) (Go.Operand.tmp 54), type := 0, pos := "fill.go:91", after := #[{ on := 18, ground := Go.Ground.data }, { on := 16, ground := Go.Ground.data }, { on := 16, ground := Go.Ground.chain }, { on := 0, ground := Go.Ground.phase }, { on := 1, ground := Go.Ground.phase }, { on := 2, ground := Go.Ground.phase }, { on := 3, ground := Go.Ground.phase }, { on := 4, ground := Go.Ground.phase }, { on := 5, ground := Go.Ground.phase }, { on := 6, ground := Go.Ground.phase }, { on := 7, ground := Go.Ground.phase }, { on := 8, ground := Go.Ground.phase }, { on := 9, ground := Go.Ground.phase }, { on := 10, ground := Go.Ground.phase }, { on := 11, ground := Go.Ground.phase }, { on := 12, ground := Go.Ground.phase }, { on := 13, ground := Go.Ground.phase }, { on := 14, ground := Go.Ground.phase }, { on := 15, ground := Go.Ground.phase }, { on := 16, ground := Go.Ground.phase }], guard := none }) rfl (fun K hK => ?_) AllReadyH.nil
          go_simp
          refine hK.out _ _ ((cell_set_ne hub).trans h5S) (fun hHeld => ?_)
          clear hK K
          try simp only [Act.put, List.setIfInBounds_toArray, List.set_cons_zero, List.set_cons_succ]
          refine wpAnyH_done (by kernel_rfl) ?_ _
          refine NoPanic.normal ?_
          obtain ⟨V6, hV6⟩ : ∃ V6, V6 = w5.setCell ⟨w1.heap.size, 5, none⟩ (.slice to5 L5 tc5) := ⟨_, rfl⟩
          rw [← hV6] at HR5 HB5 ⊢
          clear hV6 HBW h5S c5b z5b lb5 hHeld HK HR3 HB4 hsz c5 z5 lb a2 hbl c5d
          have hbx := HR5.out.box
          obtain ⟨so4, sc4, hvh⟩ := own_shape HR5.out.h
          subst hvh
          have c4 := hbx.cell 4 _ rfl
          have lb := hbx.lt
          clear hbx
          have hsz : w1.heap.size + 1 ≤ V6.heap.size := lb
          have HAL : Hid (RisP (V6.alloc (.cells #[.slice none 0 0] 22)) w1.heap.size (.slice po pool.length pc) (.slice (some ⟨ub, uo, none⟩) us.length cap) qo qn qc i _ _ _ (.slice so4 i sc4) _) := HR5.out.below ((Below.refl _ _).alloc (Nat.le_refl _) _)
          have HOL : Hid ((V6.alloc (.cells #[.slice none 0 0] 22)).ownsRow (w1.heap.size + 1) 22 1 (.slice so4 i sc4) (List.replicate i (Value.slice none 0 0)).length (List.replicate i (Value.slice none 0 0))) := by rw [List.length_replicate]; exact HAL.out.h
          go_wp2_with (at_builtin; refine wpList_append_lst _ rfl _ _ rfl (w1.heap.size + 1) _ (List.replicate i (Value.slice none 0 0)) ⟨V6.heap.size, 0, none⟩ 1 (.slice none 0 0) rfl rfl HOL.out ((bx_new V6 #[.slice none 0 0] 22).cell 0 _ rfl) rfl (by rw [List.length_replicate]; omega) (by simp only [World.size_alloc]; omega) ?_)
          intro v8 w8 hO8 hT8 hB8
          have hO8 : w8.ownsRow (w1.heap.size + 1) 22 1 v8 (i + 1) (List.replicate i (Value.slice none 0 0) ++ [Value.slice none 0 0]) := by have h9 := hO8; first | exact h9 | (rw [List.length_append, List.length_replicate] at h9; exact h9)
          obtain ⟨to8, tc8, hv8⟩ := own_shape hO8
          generalize hL8 : i + 1 = L8 at hv8
          subst hv8
          clear hL8
          have HR8 := hid (HAL.out.appH hO8 hT8)
          have hx8 := hT8.bx HAL.out.box (by decide)
          have c4b := hx8.cell 4 _ rfl
          have z4b := hx8.frozen 4
          have lb8 := hx8.lt
          have HB8 : Hid (Below w1.heap.size w1 (w8.setCell ⟨w1.heap.size, 4, none⟩ (.slice to8 L8 tc8))) := (((HB5.out.alloc HB5.out.size _).trans (hB8.mono (by omega)))).setCell (Nat.le_refl _) _
          clear hO8 hT8 hB8 hx8 HOL HAL HR5 HB5 c4 lb hsz
          go_wp2
          go_roundg (us.length - (i + 1))
          case measure => omega
          case rel =>
            have htl9 := htl.out
            have hsl9 := hsl.out
            refine ⟨i + 1, _, _, _, _, _, rfl, by omega, by go_num, by show (tl ++ [_]).length = _; simp; omega, by show (sl ++ [_]).length = _; simp; omega, HR8.out, fun j hj => ?_, fun j hj => ?_, HB8.out⟩
            · by_cases e : j = i
              · rw [e]; have e2 := lm_app_end tl (m : Int); rw [htl9] at e2; rw [e2]; exact HTI.out
              · rw [lm_app_lt (by omega)]; exact HTO.out j (by omega)
            · by_cases e : j = i
              · rw [e]
                have e1 := bn_end sl (decide ((0 : Int) < (ug us i).cap))
                rw [hsl9] at e1
                have e2 := lm_app_end tl (m : Int)
                rw [htl9] at e2
                rw [e1, e2]; simp
              · rw [bn_app (by omega), lm_app_lt (by omega)]; exact HSO.out j (by omega)
    · obtain rfl : i = us.length := by omega
      obtain ⟨B2, hB2_⟩ : ∃ B2, B2 = wr.heap.size := ⟨_, rfl⟩
      have HM : Hid (RisM wr (⟨w, po, pc, pool, ao, cap, us, w1.heap.size, w1.heap.size + 1, B2⟩ : RD) (⟨tl, [], List.replicate us.length 0, sl, 1⟩ : RV)) := by rw [hB2_]; exact HR.out.rise HP.out HU.out HB1.out hB.out HQ.out
      have HOK : Hid (RD.Ok (⟨w, po, pc, pool, ao, cap, us, w1.heap.size, w1.heap.size + 1, B2⟩ : RD)) := ⟨HG.out, HPA.out, hn6, hk1, hk4⟩
      have HTP : Hid (Tops (⟨w, po, pc, pool, ao, cap, us, w1.heap.size, w1.heap.size + 1, B2⟩ : RD) tl) := HTO.out
      have HTL := htl
      have HLT : Hid (w1.heap.size < B2) := by show w1.heap.size < B2; have := HR.out.box.lt; omega
      have HB20 : Hid (B2 ≤ wr.heap.size) := by show B2 ≤ wr.heap.size; omega
      clear hB2_ HR HTO hB htl
      go_wp2
      go_loopg [8] us.length (fun gg ix wr => ∃ (i : Nat) (gl : List Nat), gg = us.length - i ∧ i ≤ us.length ∧ ix = .int .i64 i ∧ Hid (gl.length = i) ∧ Hid (RisM wr (⟨w, po, pc, pool, ao, cap, us, w1.heap.size, w1.heap.size + 1, B2⟩ : RD) (⟨tl, gl, List.replicate us.length 0, sl, 1⟩ : RV)) ∧ Hid (∀ j, j < i → nn gl j = grT (⟨w, po, pc, pool, ao, cap, us, w1.heap.size, w1.heap.size + 1, B2⟩ : RD) tl j) ∧ Hid (B2 ≤ wr.heap.size))
      case atStart => exact ⟨0, [], rfl, Nat.zero_le _, rfl, rfl, HM.out, fun j hj => by omega, HB20.out⟩
      case round =>
        clear HM HB20
        obtain ⟨i, gl, hgi, hi, rfl, HGL, HM, HGR, HB2_⟩ := hrel
        by_cases hit : i < us.length
        · have hin : (i : Int) < (us.length : Int) := by omega
          obtain ⟨vt2, vg2, vh2, vs2, qo2, qn2, qc2, hbx2, hot2, hog2, hoh2, hos2, hoq2, hlt2_⟩ := HM.out.box
          have bl2 : w1.heap.size < wr.heap.size := hbx2.lt
          have e2a2 : wr.cell? ⟨w1.heap.size, 2, none⟩ = some vt2 := hbx2.cell 2 _ rfl
          obtain ⟨tto2, ttc2, rfl, htra2, _⟩ := hot2.row
          have htr2 : Row wr tto2 us.length ttc2 tl := by have h9 := htra2; rw [show ((⟨tl, gl, List.replicate us.length 0, sl, 1⟩ : RV) : RV).tl = tl from rfl, HTL.out] at h9; exact h9
          have e22 : wr.cell? ⟨w1.heap.size, 2, none⟩ = some (.slice tto2 us.length ttc2) := by have h9 := e2a2; rw [show ((⟨tl, gl, List.replicate us.length 0, sl, 1⟩ : RV) : RV).tl = tl from rfl, HTL.out] at h9; exact h9
          clear e2a2 htra2
          obtain ⟨tb2, tof2, htt2, htb2⟩ := htr2.head (by omega)
          rw [htt2] at e22
          have ct2 := htr2.cell tb2 tof2 htt2 i (by omega)
          clear htr2 htt2
          clear hbx2 hot2 hog2 hoh2 hos2 hoq2 hlt2_
          rcases HTP.out.get HOK.out hit with ⟨htv, _⟩ | ⟨hti, hte, hT1⟩
          · rw [htv] at ct2
            have HG0 : Hid (0 = grT (⟨w, po, pc, pool, ao, cap, us, w1.heap.size, w1.heap.size + 1, B2⟩ : RD) tl i) := by unfold Hid grT; rw [if_neg (by rw [htv]; omega)]
            clear htv
            obtain ⟨vtz, vgz, vhz, vsz, qoz, qnz, qcz, hbxz, hotz, hogz, hohz, hosz, hoqz, hltz_⟩ := HM.out.box
            have blz : w1.heap.size < wr.heap.size := hbxz.lt
            have e3z : wr.cell? ⟨w1.heap.size, 3, none⟩ = some vgz := hbxz.cell 3 _ rfl
            obtain ⟨gz, gcz, rfl⟩ := hogz.shape
            have hsz : B2 ≤ wr.heap.size := HB2_.out
            have HAN := hid (HM.out.below ((Below.refl wr.heap.size wr).alloc (Nat.le_refl _) (.cells #[.slice none 0 0] 22)))
            have HOZ := hid (hogz.below ((Below.refl wr.heap.size wr).alloc (Nat.le_refl _) (.cells #[.slice none 0 0] 22)))
            have HRZ := hid (Row.below (show Row wr none 0 0 (limbs 0) from (by rw [limbs_zero]; exact Row.nil wr)) ((Below.refl wr.heap.size wr).alloc (Nat.le_refl _) (.cells #[.slice none 0 0] 22)))
            clear hbxz hotz hogz hohz hosz hoqz hltz_
            go_wp2_with (at_builtin; refine wpList_append_nat _ rfl _ _ rfl B2 _ gl ⟨wr.heap.size, 0, none⟩ 1 (0) none 0 0 rfl rfl HOZ.out ((bx_new wr #[.slice none 0 0] 22).cell 0 _ rfl) HRZ.out (by have := HGL.out; omega) (by simp only [World.size_alloc]; omega) ?_)
            intro v9 w9 hO9 hT9 hB9
            obtain ⟨so9, sc9, hv9⟩ := hO9.shape
            generalize (gl ++ [0]).length = L9 at hv9
            subst hv9
            have HM9 := hid (HAN.out.appGrow hO9 hT9 hB9)
            have hx9 := (hB9.block w1.heap.size (by have := HLT.out; omega))
            obtain ⟨vt9, vg9, vh9, vs9, qo9, qn9, qc9, hbx9, _⟩ := HAN.out.box
            have hbx9 := hbx9.below hB9 HLT.out
            have c39 := hbx9.cell 3 _ rfl
            have z39 := hbx9.frozen 3
            have lb9 := hbx9.lt
            have HS9 : Hid (B2 ≤ (w9.setCell ⟨w1.heap.size, 3, none⟩ (.slice so9 L9 sc9)).heap.size) := by have h9 := hB9.size; simp only [World.size_alloc] at h9; show B2 ≤ (World.setCell _ _ _).heap.size; simp only [World.setCell]; first | omega | (simp; omega)
            clear hO9 hT9 hB9 hx9 hbx9 HAN HOZ HRZ
            go_wp2
            go_roundg (us.length - (i + 1))
            case measure => omega
            case rel =>
              refine ⟨i + 1, gl ++ [0], rfl, by omega, by go_num, by show (gl ++ [_]).length = _; have := HGL.out; simp; omega, HM9.out, fun j hj => ?_, HS9.out⟩
              have hgl9 := HGL.out
              by_cases e : j = i
              · subst e; rw [← hgl9, nn_end, hgl9]; exact HG0.out
              · rw [nn_app (by omega)]; exact HGR.out j (by omega)
          · have HT1 := hid hT1
            have HTE := hid hte
            have HTI := hid hti
            obtain ⟨m, hm⟩ : ∃ m : Nat, m = (lm tl i).toNat := ⟨_, rfl⟩
            have hmt : lm tl i = (m : Int) := by omega
            rw [hmt] at ct2
            have hmk : m < pool.length := by rw [hm]; exact HT1.out.lt
            have hmki : (m : Int) < (pool.length : Int) := by omega
            have HMT := hid hmt
            have HMM := hid hm
            clear hmt hm hT1 hte hti
            obtain ⟨ub, uo, da, dn, dc, hao, hbl, a0, a1, a2, hd⟩ := HM.out.users.get hit
            change ao = _ at hao
            obtain ⟨ppb, pof, hpo, hppb⟩ := HM.out.pool.head (by show 0 < pool.length; omega)
            have cp := HM.out.pool.int hpo hmk
            change po = _ at hpo
            change wr.cell? _ = some (.int .i64 (lm pool m)) at cp
            clear a0 a2 hd
            obtain ⟨M1, hM1⟩ : ∃ M, M = (⟨w, po, pc, pool, ao, cap, us, w1.heap.size, w1.heap.size + 1, B2⟩ : RD).a.W i := ⟨_, rfl⟩
            obtain ⟨M2, hM2⟩ : ∃ M, M = (⟨w, po, pc, pool, ao, cap, us, w1.heap.size, w1.heap.size + 1, B2⟩ : RD).a.P m := ⟨_, rfl⟩
            have a1b : wr.cell? ⟨ub, uo + i * 3 + 1, none⟩ = some (.int .i64 (M1 : Int)) := by rw [a1, hM1, ← RD.W_eq HOK.out hit]
            have cpb : wr.cell? ⟨ppb, pof + m, none⟩ = some (.int .i64 (M2 : Int)) := by rw [cp, hM2, ← RD.P_eq HOK.out m]
            obtain ⟨X1, hX1, hX1b, hX1e⟩ := nat_prodH (a := M1) (b := M2) (A := 100) (B := 10000) (by rw [hM1]; exact (RD.W_le HOK.out hit).2) (by rw [hM2]; exact RD.P_le HOK.out m)
            have hX1w : IntKind.i64.wrap (X1 : Int) = (X1 : Int) := Go.IntWalk.i64_in _ ⟨by omega, by omega⟩
            have HX1 : Hid (X1 = (⟨w, po, pc, pool, ao, cap, us, w1.heap.size, w1.heap.size + 1, B2⟩ : RD).a.W i * (⟨w, po, pc, pool, ao, cap, us, w1.heap.size, w1.heap.size + 1, B2⟩ : RD).a.P m) := by rw [Hid, hX1e, hM1, hM2]
            clear a1 cp hM1 hM2 hX1e
            subst hao
            subst hpo
            go_upto_region 14 with fail
            have HBZ := hid HM.out.bel
            have SK : Hid (∀ U, Below wr.heap.size wr U → U.cell? ⟨ub, uo + i * 3 + 1, none⟩ = some (.int .i64 (M1 : Int)) ∧ U.cell? ⟨w1.heap.size, 2, none⟩ = some (.slice (some ⟨tb2, tof2, none⟩) us.length ttc2) ∧ U.cell? ⟨tb2, tof2 + i, none⟩ = some (.int .i64 (m : Int)) ∧ U.cell? ⟨ppb, pof + m, none⟩ = some (.int .i64 (M2 : Int))) := fun U h => ⟨(h.cell (p := ⟨ub, uo + i * 3 + 1, none⟩) hbl).trans a1b, (h.cell (p := ⟨w1.heap.size, 2, none⟩) bl2).trans e22, (h.cell (p := ⟨tb2, tof2 + i, none⟩) htb2).trans ct2, (h.cell (p := ⟨ppb, pof + m, none⟩) hppb).trans cpb⟩
            have da1b : wr.drew.cell? ⟨ub, uo + i * 3 + 1, none⟩ = some (.int .i64 (M1 : Int)) := ((Below.refl wr.heap.size wr).drew.cell (p := ⟨ub, uo + i * 3 + 1, none⟩) hbl).trans a1b
            have de22 : wr.drew.cell? ⟨w1.heap.size, 2, none⟩ = some (.slice (some ⟨tb2, tof2, none⟩) us.length ttc2) := ((Below.refl wr.heap.size wr).drew.cell (p := ⟨w1.heap.size, 2, none⟩) bl2).trans e22
            have dct2 : wr.drew.cell? ⟨tb2, tof2 + i, none⟩ = some (.int .i64 (m : Int)) := ((Below.refl wr.heap.size wr).drew.cell (p := ⟨tb2, tof2 + i, none⟩) htb2).trans ct2
            have dcpb : wr.drew.cell? ⟨ppb, pof + m, none⟩ = some (.int .i64 (M2 : Int)) := ((Below.refl wr.heap.size wr).drew.cell (p := ⟨ppb, pof + m, none⟩) hppb).trans cpb
            go_region_held3 (fun w' => w'.cell? ⟨ub, uo + i * 3 + 1, none⟩ = some (.int .i64 (M1 : Int)) ∧ w'.cell? ⟨w1.heap.size, 2, none⟩ = some (.slice (some ⟨tb2, tof2, none⟩) us.length ttc2) ∧ w'.cell? ⟨tb2, tof2 + i, none⟩ = some (.int .i64 (m : Int)) ∧ w'.cell? ⟨ppb, pof + m, none⟩ = some (.int .i64 (M2 : Int))) (first | exact SK.out _ (Below.refl _ _).drew | exact SK.out _ hv61g0)
              (first | (go_at_call 35; refine (pwhole_any X1 _ (by omega)).mono ?_; rintro e61g0 w61g0 ⟨v1, rfl, ⟨wo, wn, wc, rfl, hwr, _⟩, hb61g0⟩; have hv61g0 : Below wr.heap.size wr w61g0 := (Below.refl wr.heap.size wr).drew.trans (hb61g0.mono ((Below.refl wr.heap.size wr).drew).size); clear hb61g0; have HWR := hid hwr; clear hwr))
            clear SK da1b de22 dct2 dcpb
            have Rm_62 := hid (HM.out.below hv61g0)
            have HB_62 : Hid (Below (w.heap.size) w w61g0) := HBZ.out.trans (hv61g0.mono (HBZ.out.size))
            clear HM HBZ
            have HWR2 : Hid (Row w61g0 wo wn wc (limbs ((⟨w, (some ⟨ppb, pof, none⟩), pc, pool, (some ⟨ub, uo, none⟩), cap, us, w1.heap.size, w1.heap.size + 1, B2⟩ : RD).a.W i * (⟨w, (some ⟨ppb, pof, none⟩), pc, pool, (some ⟨ub, uo, none⟩), cap, us, w1.heap.size, w1.heap.size + 1, B2⟩ : RD).a.P m * prdT (gF (⟨w, (some ⟨ppb, pof, none⟩), pc, pool, (some ⟨ub, uo, none⟩), cap, us, w1.heap.size, w1.heap.size + 1, B2⟩ : RD) tl i) 0))) := by show Row _ _ _ _ (limbs (_ * 1)); rw [Nat.mul_one, ← HX1.out]; exact HWR.out
            have HB2o : Hid (B2 ≤ w61g0.heap.size) := Nat.le_trans HB2_.out hv61g0.size
            clear HWR a1b e22 ct2 cpb hbl bl2 htb2 hppb hX1 hX1w hv61g0 HB2_
            go_wp2
            go_loopg [9, 10] us.length (fun gg s9 ix wr => ∃ (j : Nat) (ro : Option Addr) (rn rc : Nat), gg = us.length - j ∧ j ≤ us.length ∧ s9 = .slice ro rn rc ∧ ix = .int .i64 j ∧ Hid (Row wr ro rn rc (limbs ((⟨w, (some ⟨ppb, pof, none⟩), pc, pool, (some ⟨ub, uo, none⟩), cap, us, w1.heap.size, w1.heap.size + 1, B2⟩ : RD).a.W i * (⟨w, (some ⟨ppb, pof, none⟩), pc, pool, (some ⟨ub, uo, none⟩), cap, us, w1.heap.size, w1.heap.size + 1, B2⟩ : RD).a.P m * prdT (gF (⟨w, (some ⟨ppb, pof, none⟩), pc, pool, (some ⟨ub, uo, none⟩), cap, us, w1.heap.size, w1.heap.size + 1, B2⟩ : RD) tl i) j))) ∧ Hid (Below w61g0.heap.size w61g0 wr))
            case atStart => exact ⟨0, _, _, _, rfl, Nat.zero_le _, rfl, rfl, HWR2.out, Below.refl _ _⟩
            case round =>
              clear HWR2
              obtain ⟨j, ro, rn, rc, hgj, hj, rfl, rfl, HRR, HB3⟩ := hrel
              have HM3 := hid (Rm_62.out.below HB3.out)
              have lrn : rn ≤ 8 := by rw [← HRR.out.len]; exact gp_len HOK.out hit m j hj
              by_cases hjt : j < us.length
              · have hjn : (j : Int) < (us.length : Int) := by omega
                obtain ⟨vt3, vg3, vh3, vs3, qo3, qn3, qc3, hbx3, hot3, hog3, hoh3, hos3, hoq3, hlt3_⟩ := HM3.out.box
                have bl3 : w1.heap.size < wr.heap.size := hbx3.lt
                have e2a3 : wr.cell? ⟨w1.heap.size, 2, none⟩ = some vt3 := hbx3.cell 2 _ rfl
                obtain ⟨tto3, ttc3, rfl, htra3, _⟩ := hot3.row
                have htr3 : Row wr tto3 us.length ttc3 tl := by have h9 := htra3; rw [show ((⟨tl, gl, List.replicate us.length 0, sl, 1⟩ : RV) : RV).tl = tl from rfl, HTL.out] at h9; exact h9
                have e23 : wr.cell? ⟨w1.heap.size, 2, none⟩ = some (.slice tto3 us.length ttc3) := by have h9 := e2a3; rw [show ((⟨tl, gl, List.replicate us.length 0, sl, 1⟩ : RV) : RV).tl = tl from rfl, HTL.out] at h9; exact h9
                clear e2a3 htra3
                obtain ⟨tb3, tof3, htt3, htb3⟩ := htr3.head (by omega)
                rw [htt3] at e23
                have ct3 := htr3.cell tb3 tof3 htt3 j (by omega)
                clear htr3 htt3
                clear hbx3 hot3 hog3 hoh3 hos3 hoq3 hlt3_
                have HSTEP : Hid (prdT (gF (⟨w, (some ⟨ppb, pof, none⟩), pc, pool, (some ⟨ub, uo, none⟩), cap, us, w1.heap.size, w1.heap.size + 1, B2⟩ : RD) tl i) (j + 1) = prdT (gF (⟨w, (some ⟨ppb, pof, none⟩), pc, pool, (some ⟨ub, uo, none⟩), cap, us, w1.heap.size, w1.heap.size + 1, B2⟩ : RD) tl i) j * gF (⟨w, (some ⟨ppb, pof, none⟩), pc, pool, (some ⟨ub, uo, none⟩), cap, us, w1.heap.size, w1.heap.size + 1, B2⟩ : RD) tl i j) := rfl
                by_cases hji : j = i
                · have HJI := hid hji
                  have HG1 : Hid (gF (⟨w, (some ⟨ppb, pof, none⟩), pc, pool, (some ⟨ub, uo, none⟩), cap, us, w1.heap.size, w1.heap.size + 1, B2⟩ : RD) tl i j = 1) := by unfold Hid gF; rw [if_neg (fun h5 => h5.1 HJI.out)]
                  have hjf : ((j : Int) != (i : Int)) = false := by rw [hji]; simp
                  have hjg : ((j : Int) == (i : Int)) = true := by rw [hji]; simp
                  clear hji
                  go_wp2
                  go_roundg (us.length - (j + 1))
                  case measure => omega
                  case rel => exact ⟨j + 1, ro, rn, rc, rfl, by omega, rfl, by go_num, by rw [HSTEP.out, HG1.out, Nat.mul_one]; exact HRR.out, HB3.out⟩
                · have hje : ((j : Int) == (i : Int)) = false := by rw [beq_eq_false_iff_ne]; omega
                  have hjf : ((j : Int) != (i : Int)) = true := by simp [bne, hje]
                  have HJN := hid hji
                  clear hji
                  rcases HTP.out.get HOK.out hjt with ⟨htv, _⟩ | ⟨hti, hte, hT1⟩
                  · have HG1 : Hid (gF (⟨w, (some ⟨ppb, pof, none⟩), pc, pool, (some ⟨ub, uo, none⟩), cap, us, w1.heap.size, w1.heap.size + 1, B2⟩ : RD) tl i j = 1) := by unfold Hid gF; rw [if_neg (fun h5 => by rw [htv] at h5; exact absurd h5.2 (by omega))]
                    rw [htv] at ct3
                    clear htv
                    go_wp2
                    go_roundg (us.length - (j + 1))
                    case measure => omega
                    case rel => exact ⟨j + 1, ro, rn, rc, rfl, by omega, rfl, by go_num, by rw [HSTEP.out, HG1.out, Nat.mul_one]; exact HRR.out, HB3.out⟩
                  · obtain ⟨q, hq⟩ : ∃ q : Nat, q = (lm tl j).toNat := ⟨_, rfl⟩
                    have hqt : lm tl j = (q : Int) := by omega
                    rw [hqt] at ct3
                    have HG1 : Hid (gF (⟨w, (some ⟨ppb, pof, none⟩), pc, pool, (some ⟨ub, uo, none⟩), cap, us, w1.heap.size, w1.heap.size + 1, B2⟩ : RD) tl i j = (⟨w, (some ⟨ppb, pof, none⟩), pc, pool, (some ⟨ub, uo, none⟩), cap, us, w1.heap.size, w1.heap.size + 1, B2⟩ : RD).a.D j q) := by unfold Hid gF RD.tD; rw [if_pos ⟨HJN.out, hti⟩, ← hq]
                    have hqk : q < pool.length := by rw [hq]; exact hT1.lt
                    have hqki : (q : Int) < (pool.length : Int) := by omega
                    clear hqt hq hT1 hte hti
                    obtain ⟨ub3, uo3, da3, dn3, dc3, hao3, hbl3, a03, a13, a23, hd3⟩ := HM3.out.users.get hjt
                    change some _ = _ at hao3
                    cases hao3
                    have hdl3 := hd3.len
                    rw [ints_len] at hdl3
                    have hdl3 : pool.length = dn3 := by rw [← hdl3]; exact (HG.out.len hjt).symm
                    subst hdl3
                    obtain ⟨db3, dof3, hdo3, hdb3⟩ := hd3.head (by omega)
                    have cd3 := hd3.int hdo3 hqk
                    rw [hdo3] at a03
                    clear a13 a23 hd3 hdo3
                    obtain ⟨M4, hM4⟩ : ∃ M, M = (⟨w, (some ⟨ppb, pof, none⟩), pc, pool, (some ⟨ub, uo, none⟩), cap, us, w1.heap.size, w1.heap.size + 1, B2⟩ : RD).a.D j q := ⟨_, rfl⟩
                    have cd3b : wr.cell? ⟨db3, dof3 + q, none⟩ = some (.int .i64 (M4 : Int)) := by rw [cd3, hM4, ← RD.D_eq HOK.out hjt q]
                    have hM4b : M4 ≤ 10000 := by rw [hM4]; exact RD.D_le HOK.out hjt q
                    have HM4 := hid hM4
                    clear cd3 hM4
                    go_upto_region 19 with fail
                    have SK : Hid (∀ U, Below wr.heap.size wr U → U.cell? ⟨ub, uo + j * 3, none⟩ = some (.slice (some ⟨db3, dof3, none⟩) pool.length dc3) ∧ U.cell? ⟨w1.heap.size, 2, none⟩ = some (.slice (some ⟨tb3, tof3, none⟩) us.length ttc3) ∧ U.cell? ⟨tb3, tof3 + j, none⟩ = some (.int .i64 (q : Int)) ∧ U.cell? ⟨db3, dof3 + q, none⟩ = some (.int .i64 (M4 : Int))) := fun U h => ⟨(h.cell (p := ⟨ub, uo + j * 3, none⟩) hbl3).trans a03, (h.cell (p := ⟨w1.heap.size, 2, none⟩) bl3).trans e23, (h.cell (p := ⟨tb3, tof3 + j, none⟩) htb3).trans ct3, (h.cell (p := ⟨db3, dof3 + q, none⟩) hdb3).trans cd3b⟩
                    have da03 : wr.drew.cell? ⟨ub, uo + j * 3, none⟩ = some (.slice (some ⟨db3, dof3, none⟩) pool.length dc3) := ((Below.refl wr.heap.size wr).drew.cell (p := ⟨ub, uo + j * 3, none⟩) hbl3).trans a03
                    have de23 : wr.drew.cell? ⟨w1.heap.size, 2, none⟩ = some (.slice (some ⟨tb3, tof3, none⟩) us.length ttc3) := ((Below.refl wr.heap.size wr).drew.cell (p := ⟨w1.heap.size, 2, none⟩) bl3).trans e23
                    have dct3 : wr.drew.cell? ⟨tb3, tof3 + j, none⟩ = some (.int .i64 (q : Int)) := ((Below.refl wr.heap.size wr).drew.cell (p := ⟨tb3, tof3 + j, none⟩) htb3).trans ct3
                    have dcd3b : wr.drew.cell? ⟨db3, dof3 + q, none⟩ = some (.int .i64 (M4 : Int)) := ((Below.refl wr.heap.size wr).drew.cell (p := ⟨db3, dof3 + q, none⟩) hdb3).trans cd3b
                    go_region_held3 (fun w' => w'.cell? ⟨ub, uo + j * 3, none⟩ = some (.slice (some ⟨db3, dof3, none⟩) pool.length dc3) ∧ w'.cell? ⟨w1.heap.size, 2, none⟩ = some (.slice (some ⟨tb3, tof3, none⟩) us.length ttc3) ∧ w'.cell? ⟨tb3, tof3 + j, none⟩ = some (.int .i64 (q : Int)) ∧ w'.cell? ⟨db3, dof3 + q, none⟩ = some (.int .i64 (M4 : Int))) (first | exact SK.out _ (Below.refl _ _).drew | exact SK.out _ hv91g0 | exact SK.out _ hv91g1)
                      (first | (go_at_call 37; refine (ptimes_any ro wo4 rn rc wn4 wc4 ((⟨w, (some ⟨ppb, pof, none⟩), pc, pool, (some ⟨ub, uo, none⟩), cap, us, w1.heap.size, w1.heap.size + 1, B2⟩ : RD).a.W i * (⟨w, (some ⟨ppb, pof, none⟩), pc, pool, (some ⟨ub, uo, none⟩), cap, us, w1.heap.size, w1.heap.size + 1, B2⟩ : RD).a.P m * prdT (gF (⟨w, (some ⟨ppb, pof, none⟩), pc, pool, (some ⟨ub, uo, none⟩), cap, us, w1.heap.size, w1.heap.size + 1, B2⟩ : RD) tl i) j) M4 _ (HRR.out.below hv91g0) HWR4.out (by omega) (by omega)).mono ?_; rintro e91g1 w91g1 ⟨v5, rfl, ⟨po5, pn5, pc5, rfl, hpr5, _⟩, hb91g1⟩; have hv91g1 : Below wr.heap.size wr w91g1 := hv91g0.trans (hb91g1.mono (hv91g0).size); clear hb91g1; have HPR5 := hid hpr5; clear hpr5) | (go_at_call 35; refine (pwhole_any M4 _ (by omega)).mono ?_; rintro e91g0 w91g0 ⟨v4, rfl, ⟨wo4, wn4, wc4, rfl, hwr4, _⟩, hb91g0⟩; have hv91g0 : Below wr.heap.size wr w91g0 := (Below.refl wr.heap.size wr).drew.trans (hb91g0.mono ((Below.refl wr.heap.size wr).drew).size); clear hb91g0; have lw4 : wn4 ≤ 2 := (by rw [← hwr4.len]; exact len_sml hM4b); have HWR4 := hid hwr4; clear hwr4))
                    clear SK da03 de23 dct3 dcd3b
                    have HB_92 : Hid (Below (w61g0.heap.size) w61g0 w91g1) := HB3.out.trans (hv91g1.mono (HB3.out.size))
                    clear HB3
                    clear a03 e23 ct3 cd3b hbl3 bl3 htb3 hdb3
                    go_wp2
                    go_roundg (us.length - (j + 1))
                    case measure => omega
                    case rel => exact ⟨j + 1, po5, pn5, pc5, rfl, by omega, rfl, by go_num, by rw [HSTEP.out, HG1.out, ← HM4.out, ← Nat.mul_assoc]; exact HPR5.out, HB_92.out⟩
              · obtain rfl : j = us.length := by omega
                have HG0 : Hid ((⟨w, (some ⟨ppb, pof, none⟩), pc, pool, (some ⟨ub, uo, none⟩), cap, us, w1.heap.size, w1.heap.size + 1, B2⟩ : RD).a.W i * (⟨w, (some ⟨ppb, pof, none⟩), pc, pool, (some ⟨ub, uo, none⟩), cap, us, w1.heap.size, w1.heap.size + 1, B2⟩ : RD).a.P m * prdT (gF (⟨w, (some ⟨ppb, pof, none⟩), pc, pool, (some ⟨ub, uo, none⟩), cap, us, w1.heap.size, w1.heap.size + 1, B2⟩ : RD) tl i) us.length = grT (⟨w, (some ⟨ppb, pof, none⟩), pc, pool, (some ⟨ub, uo, none⟩), cap, us, w1.heap.size, w1.heap.size + 1, B2⟩ : RD) tl i) := by unfold Hid grT; rw [if_pos HTI.out, ← HMM.out]
                have HB2_ : Hid (B2 ≤ wr.heap.size) := Nat.le_trans HB2o.out HB3.out.size
                obtain ⟨vtz, vgz, vhz, vsz, qoz, qnz, qcz, hbxz, hotz, hogz, hohz, hosz, hoqz, hltz_⟩ := HM3.out.box
                have blz : w1.heap.size < wr.heap.size := hbxz.lt
                have e3z : wr.cell? ⟨w1.heap.size, 3, none⟩ = some vgz := hbxz.cell 3 _ rfl
                obtain ⟨gz, gcz, rfl⟩ := hogz.shape
                have hsz : B2 ≤ wr.heap.size := HB2_.out
                have HAN := hid (HM3.out.below ((Below.refl wr.heap.size wr).alloc (Nat.le_refl _) (.cells #[.slice ro rn rc] 22)))
                have HOZ := hid (hogz.below ((Below.refl wr.heap.size wr).alloc (Nat.le_refl _) (.cells #[.slice ro rn rc] 22)))
                have HRZ := hid (Row.below HRR.out ((Below.refl wr.heap.size wr).alloc (Nat.le_refl _) (.cells #[.slice ro rn rc] 22)))
                clear hbxz hotz hogz hohz hosz hoqz hltz_
                go_wp2_with (at_builtin; refine wpList_append_nat _ rfl _ _ rfl B2 _ gl ⟨wr.heap.size, 0, none⟩ 1 ((⟨w, (some ⟨ppb, pof, none⟩), pc, pool, (some ⟨ub, uo, none⟩), cap, us, w1.heap.size, w1.heap.size + 1, B2⟩ : RD).a.W i * (⟨w, (some ⟨ppb, pof, none⟩), pc, pool, (some ⟨ub, uo, none⟩), cap, us, w1.heap.size, w1.heap.size + 1, B2⟩ : RD).a.P m * prdT (gF (⟨w, (some ⟨ppb, pof, none⟩), pc, pool, (some ⟨ub, uo, none⟩), cap, us, w1.heap.size, w1.heap.size + 1, B2⟩ : RD) tl i) us.length) ro rn rc rfl rfl HOZ.out ((bx_new wr #[.slice ro rn rc] 22).cell 0 _ rfl) HRZ.out (by have := HGL.out; omega) (by simp only [World.size_alloc]; omega) ?_)
                intro v9 w9 hO9 hT9 hB9
                obtain ⟨so9, sc9, hv9⟩ := hO9.shape
                generalize (gl ++ [(⟨w, (some ⟨ppb, pof, none⟩), pc, pool, (some ⟨ub, uo, none⟩), cap, us, w1.heap.size, w1.heap.size + 1, B2⟩ : RD).a.W i * (⟨w, (some ⟨ppb, pof, none⟩), pc, pool, (some ⟨ub, uo, none⟩), cap, us, w1.heap.size, w1.heap.size + 1, B2⟩ : RD).a.P m * prdT (gF (⟨w, (some ⟨ppb, pof, none⟩), pc, pool, (some ⟨ub, uo, none⟩), cap, us, w1.heap.size, w1.heap.size + 1, B2⟩ : RD) tl i) us.length]).length = L9 at hv9
                subst hv9
                have HM9 := hid (HAN.out.appGrow hO9 hT9 hB9)
                have hx9 := (hB9.block w1.heap.size (by have := HLT.out; omega))
                obtain ⟨vt9, vg9, vh9, vs9, qo9, qn9, qc9, hbx9, _⟩ := HAN.out.box
                have hbx9 := hbx9.below hB9 HLT.out
                have c39 := hbx9.cell 3 _ rfl
                have z39 := hbx9.frozen 3
                have lb9 := hbx9.lt
                have HS9 : Hid (B2 ≤ (w9.setCell ⟨w1.heap.size, 3, none⟩ (.slice so9 L9 sc9)).heap.size) := by have h9 := hB9.size; simp only [World.size_alloc] at h9; show B2 ≤ (World.setCell _ _ _).heap.size; simp only [World.setCell]; first | omega | (simp; omega)
                clear hO9 hT9 hB9 hx9 hbx9 HAN HOZ HRZ
                go_wp2
                go_roundg (us.length - (i + 1))
                case measure => omega
                case rel =>
                  refine ⟨i + 1, gl ++ [(⟨w, (some ⟨ppb, pof, none⟩), pc, pool, (some ⟨ub, uo, none⟩), cap, us, w1.heap.size, w1.heap.size + 1, B2⟩ : RD).a.W i * (⟨w, (some ⟨ppb, pof, none⟩), pc, pool, (some ⟨ub, uo, none⟩), cap, us, w1.heap.size, w1.heap.size + 1, B2⟩ : RD).a.P m * prdT (gF (⟨w, (some ⟨ppb, pof, none⟩), pc, pool, (some ⟨ub, uo, none⟩), cap, us, w1.heap.size, w1.heap.size + 1, B2⟩ : RD) tl i) us.length], rfl, by omega, by go_num, by show (gl ++ [_]).length = _; have := HGL.out; simp; omega, HM9.out, fun j hj => ?_, HS9.out⟩
                  have hgl9 := HGL.out
                  by_cases e : j = i
                  · subst e; rw [← hgl9, nn_end, hgl9]; exact HG0.out
                  · rw [nn_app (by omega)]; exact HGR.out j (by omega)
        · obtain rfl : i = us.length := by omega
          have HBG : Hid (RBeg (⟨w, po, pc, pool, ao, cap, us, w1.heap.size, w1.heap.size + 1, B2⟩ : RD) (⟨tl, gl, List.replicate us.length 0, sl, 1⟩ : RV)) := ⟨HTL.out, HGL.out, List.length_replicate, hsl.out, HTP.out, HGR.out, fun i hi => (by show nn (List.replicate us.length 0) i = 0; unfold nn; rw [List.getD_eq_getElem?_getD, List.getElem?_replicate]; split <;> rfl), HSO.out, rfl⟩
          go_wp2
          go_ret
          exact ⟨_, _, _, _, rfl, HM.out, HBG.out, HM.out.bel⟩

end Go.Proofs.YtigokanoflkinaaGreatDoor
