/- portionlaw users: walked. -/
import Derived.Test.YtigokanoflkinaaGreatDoorLUsr
namespace Go.Proofs.YtigokanoflkinaaGreatDoor
set_option linter.unusedSimpArgs false
set_option linter.unusedVariables false
open Go.RowKit Por

theorem Tryz.infoUsrs : (Tryz.prog.info? 56).map (fun i => (i.zero, i.size, i.bytes)) = some (some (.agg #[.slice none 0 0, .int .i64 0, .int .i64 0]), 3, 40) := by kernel_rfl
theorem Tryz.infoLst : (Tryz.prog.info? 22).map (fun i => (i.zero, i.size, i.bytes)) = some (some (.slice none 0 0), 1, 24) := by kernel_rfl
/-- make([]api.User, n) -/
theorem wpList_make_crowd (w : World) {ops : Array Oper} {rest : List Oper} {o : Oper} {a : Act} {Q : Exit → Act → World → Prop}
    (hg : o.guard = none) (l c : Operand) (hop : o.op = Op.makeSlice 23 l c) (L C : Int) (n : Nat) (hl : a.eval l = .int .i64 L) (hc : a.eval c = .int .i64 C) (hL : L = ((n + 1 : Nat) : Int)) (hC : C = ((n + 1 : Nat) : Int)) (hn : n ≤ 3518437208883) (us : List Usr)
    (hK : ∀ w', Hid (CrP w' us w.heap.size n 0 []) → Below w.heap.size w w' → wpList Tryz.prog ops Q rest (a.put o.dst (.slice (some ⟨w.heap.size, 0, none⟩) (n + 1) (n + 1))) w') :
    wpList Tryz.prog ops Q (o :: rest) a w := by
  obtain ⟨i, hi, hz0, hz1, hz2⟩ := info_parts Tryz.infoUsrs
  refine wpList_make_full w hg l c 23 hop w.heap.size 56 i (.agg #[.slice none 0 0, .int .i64 0, .int .i64 0]) 3 Tryz.underlying23 hi hz0 hz1 .i64 .i64 L C (n + 1) hl hc hL hC (by rw [hz2]; omega) (by unfold maxLen; omega) (Nat.le_refl _) ?_
  intro w' ho hgr
  have hb : Below w.heap.size w w' := (Below.refl _ _).grown hgr (Nat.le_refl _) (fun k e => by cases e)
  rcases ho.2 with ⟨h', _⟩ | ⟨g, cap, cur, h', _, hh, h1, h2, h3, h4⟩
  · cases h'
  · simp only [Value.slice.injEq, Option.some.injEq, Addr.mk.injEq, and_true, true_and] at h'
    obtain ⟨rfl, rfl⟩ := h'
    exact hK w' ⟨rfl, cur, hh, h3, fun i hi => by omega⟩ hb
/-- c.demands = append(c.demands, d) -/
theorem wpList_append_lst (w : World) {ops : Array Oper} {rest : List Oper} {o : Oper} {a : Act} {Q : Exit → Act → World → Prop} (hgd : o.guard = none) (s x : Operand)
    (hop : o.op = Op.call { callee := Callee.builtin Builtin.append, args := #[s, x], argTypes := #[29, 29] })
    (base : Nat) (v : Value) (l : List Value) (ad : Addr) (c : Nat) (u : Value) (hs : a.eval s = v) (hx : a.eval x = .slice (some ad) 1 c) (hown : w.ownsRow base 22 1 v l.length l)
    (h0 : w.cell? (ad.add 0) = some u) (hu : u.oneCell' = true) (hle : l.length + 1 ≤ 3518437208883) (hb : base ≤ w.heap.size)
    (h : ∀ v' w', w'.ownsRow base 22 1 v' (l ++ [u]).length (l ++ [u]) → Touch 22 base w w' → Below base w w' → wpList Tryz.prog ops Q rest (a.put o.dst v') w') : wpList Tryz.prog ops Q (o :: rest) a w := by
  obtain ⟨i, hi, hz0, hz1, hz2⟩ := info_parts Tryz.infoLst
  have hob : ∀ k, v.ownBlock = some k → base ≤ k := by
    intro k hk
    rcases hown.2 with ⟨rfl, _⟩ | ⟨g, cap, cur, rfl, h2, _⟩
    · cases hk
    · cases hk; exact h2
  refine wpList_append_own w hgd s x _ hop base 22 i (.slice none 0 0) 1 24 Tryz.underlying29 hi hz0 hz1 hz2 rfl (by decide) v l.length l hs hown ad 1 c [u] hx (by simp) ?_ ?_ (by unfold maxLen; omega) (by omega) hb ?_
  · intro j z hj
    match j with
    | 0 => rw [h0]; simpa using hj
    | j + 1 => simp at hj
  · intro z hz
    simp at hz
    subst hz; exact hu
  · intro v' w' h2 h3 _
    refine h v' w' (by rw [List.length_append]; exact h2) (Touch.of_append hown h3) ((Below.refl base w).grown h3 hb hob)

theorem bx_setq {w : World} {b : Nat} {cs : Array Value} {T : TypeId} (h : Bx w b cs T) (j : Nat) (v : Value) : Bx (w.setCell ⟨b, j, none⟩ v) b (cs.setIfInBounds j v) T := heap_setCell_same w b j _ _ v h
theorem Touch.of_putA {T : TypeId} {B : Nat} {w : World} {b i : Nat} {u0 u1 u2 : Value} {cur : Array Value} (hb : w.heap[b]? = some (.cells cur T (0, 0))) (hB : B ≤ b) : Touch T B w (wputA w b i u0 u1 u2) := by
  refine ⟨by simp [wputA, World.setCell], fun k hk h => ?_⟩
  have hne : k ≠ b := fun e => by
    subst e
    rcases h with h | h
    · omega
    · exact h _ _ hb
  unfold wputA
  rw [Below.heap_setCell _ _ _ k hne, Below.heap_setCell _ _ _ k hne, Below.heap_setCell _ _ _ k hne]
theorem CrP.heap {w : World} {us : List Usr} {og n k : Nat} {dl : List Value} (h : CrP w us og n k dl) : ∃ cur, w.heap[og]? = some (.cells cur 56 (0, 0)) := by
  obtain ⟨_, arr, h1, _⟩ := h; exact ⟨arr, h1⟩
theorem Touch.refl (T : TypeId) (B : Nat) (w : World) : Touch T B w w := ⟨Nat.le_refl _, fun _ _ _ => rfl⟩
theorem Touch.set {T : TypeId} {B : Nat} {a w : World} {b i : Nat} {v : Value} {cur : Array Value} (h : Touch T B a w) (hb : a.heap[b]? = some (.cells cur T (0, 0))) (hB : B ≤ b) : Touch T B a (w.setCell ⟨b, i, none⟩ v) := by
  refine ⟨by simp only [World.setCell]; simpa using h.size, fun k hk h2 => ?_⟩
  have hne : k ≠ b := fun e => by
    subst e
    rcases h2 with h2 | h2
    · omega
    · exact h2 _ _ hb
  rw [Below.heap_setCell _ _ _ k hne]
  exact h.block k hk h2
theorem Crowd.touch {T : TypeId} {B : Nat} {w w' : World} {us : List Usr} {og : Nat} {dl : List Value} (h : Crowd w us og dl) (ht : Touch T B w w') (h1 : 3 ≠ T) (h2 : 56 ≠ T) : Crowd w' us og dl := by
  obtain ⟨h0, g1, g2, g3⟩ := h
  obtain ⟨cur, hcur⟩ := h0.heap
  have e : w'.heap[og]? = w.heap[og]? := ht.block og h0.lt (.inr (fun c fz e => by rw [hcur] at e; cases e; exact h2 rfl))
  have hc : ∀ j, w'.cell? ⟨og, j, none⟩ = w.cell? ⟨og, j, none⟩ := fun j => World.cell?_of_block e
  exact ⟨h0.touch ht h1 h2, (hc _).trans g1, (hc _).trans g2, (hc _).trans g3⟩
theorem own_shape {base T size n : Nat} {w : World} {v : Value} {xs : List Value} (h : w.ownsRow base T size v n xs) : ∃ so sc, v = .slice so n sc := by
  rcases h.2 with ⟨rfl, rfl⟩ | ⟨g, cap, cur, rfl, _⟩
  · exact ⟨none, 0, rfl⟩
  · exact ⟨_, _, rfl⟩
set_option maxHeartbeats 4000000 in
set_option maxRecDepth 20000 in
theorem users_any (ao : Option Addr) (n cap : Nat) (us : List Usr) (w : World) (hu : Users w ao n cap us) (hn : n ≤ 3518437208882) (hdl : ∀ i, i < us.length → (ug us i).dem.length ≤ 17592186044416) :
    Calls Tryz.prog 10 #[.slice ao n cap] w fun e w' => ∃ og dv dl, w.heap.size ≤ og ∧ e = .returned (.agg #[.slice (some ⟨og, 0, none⟩) n (n + 1), dv]) ∧ Crowd w' us og dl ∧ w'.ownsRow w.heap.size 22 1 dv dl.length dl ∧ Below w.heap.size w w' := by
  have hul := hu.1
  subst hul
  have HU := hid hu
  have HDL := hid hdl
  clear hu hdl
  have HB0 : Hid (Below w.heap.size w ((w.alloc (.cells #[.slice none 0 0, .slice none 0 0] 31)).alloc (.cells #[.slice none 0 0, .slice none 0 0] 31))) := ((Below.refl _ _).alloc (Nat.le_refl _) _).alloc (by simp) _
  have HX0 := hid (boxes2 w #[.slice none 0 0, .slice none 0 0] #[.slice none 0 0, .slice none 0 0] 31 31)
  go_enter Tryz.func10, Tryz.ntmps10
  go_wp2_with (at_make; refine wpList_make_crowd _ rfl _ _ rfl _ _ us.length rfl rfl (by simp) (by simp) (by omega) us ?_)
  intro w1 hcr hb1
  have HR1 : Hid (Bx w1 w.heap.size #[.slice none 0 0, .slice none 0 0] 31) := HX0.out.1.below hb1 (by omega)
  have HC1 : Hid (Bx w1 (w.heap.size + 1) #[.slice none 0 0, .slice none 0 0] 31) := HX0.out.2.1.below hb1 (by omega)
  have HB1 : Hid (Below w.heap.size w w1) := HB0.out.trans (hb1.mono (by omega))
  clear HX0 HB0 hb1
  go_wp2
  go_loopg [6] us.length (fun gg ix wr => ∃ (k : Nat) (dv : Value) (dl : List Value), gg = us.length - k ∧ k ≤ us.length ∧ ix = .int .i64 k ∧ Hid (CrP wr us (w.heap.size + 1 + 1) us.length k dl) ∧ Hid (wr.ownsRow w.heap.size 22 1 dv dl.length dl) ∧ Hid (Bx wr w.heap.size #[.slice none 0 0, .slice none 0 0] 31) ∧ Hid (Bx wr (w.heap.size + 1) #[.slice none 0 0, dv] 31) ∧ Hid (Below w.heap.size w wr))
  case atStart => exact ⟨0, .slice none 0 0, [], rfl, Nat.zero_le _, rfl, hcr.out, ⟨rfl, .inl ⟨rfl, rfl⟩⟩, HR1.out, HC1.out, HB1.out⟩
  case round =>
    clear HR1 HC1 HB1 hcr
    obtain ⟨k, dv, dl, hgk, hk, rfl, hP, hO, hR, hC, hB⟩ := hrel
    have hdll := hP.out.1
    by_cases hlt : k < us.length
    · have hkn : (k : Int) < (us.length : Int) := by omega
      obtain ⟨ub, uo, da, dn, dc, rfl, hbl, a0, a1, a2, hd⟩ := (HU.out.below hB.out).get hlt
      have hubl : ub < w.heap.size := by obtain ⟨b, o, x, y, z, h1, h2, _⟩ := HU.out.get hlt; cases h1; exact h2
      have hdn := hd.len
      rw [ints_len] at hdn
      have HD := hid hd
      clear hd a1 a2
      go_wp2_with fail
      refine (handed_any da dn dc (ug us k).dem _ HD.out (by have := HDL.out k hlt; omega)).mono ?_
      rintro e2 w2 ⟨d, hdb, rfl, hblk, hb2⟩
      have hdo : w.heap.size + 1 + 1 < d := Nat.lt_of_lt_of_le hP.out.lt hdb
      have HK2 := hid hblk
      have HP2 := hid (hP.out.below hb2)
      have HO2 := hid (own_below hO.out hb2)
      have HR2 := hid (hR.out.below hb2 hR.out.lt)
      have HC2 := hid (hC.out.below hb2 hC.out.lt)
      have HB2 : Hid (Below w.heap.size w w2) := hB.out.trans (hb2.mono hB.out.size)
      clear hP hO hR hC hB hblk hb2 a0 HD
      have cc := HC2.out.cell 1 _ rfl
      have cl := HC2.out.lt
      have leB : w.heap.size ≤ w2.heap.size := HB2.out.size
      go_wp2_with (at_builtin; refine wpList_append_lst _ rfl _ _ rfl w.heap.size dv dl ⟨w2.heap.size, 0, none⟩ 1 (hs d dn) rfl rfl (own_below HO2.out ((Below.refl _ _).alloc (Nat.le_refl _) _)) ((bx_new w2 #[hs d dn] 22).cell 0 _ rfl) rfl (by omega) (by simp only [World.size_alloc]; omega) ?_)
      intro v3 w3 hO3 hT3 hB3
      have hO4 : w3.ownsRow w.heap.size 22 1 v3 (k + 1) (dl ++ [hs d dn]) := by
        have e : (dl ++ [hs d dn]).length = k + 1 := by simp [hdll]
        simpa [hdll] using hO3
      obtain ⟨so, sc, rfl⟩ := own_shape hO4
      clear hO3
      have HA := hid ((Below.refl w2.heap.size w2).alloc (Nat.le_refl _) (.cells #[hs d dn] 22))
      have HK3 := hid (hT3.blk (HK2.out.below HA.out HK2.out.lt) (by decide))
      have HP3 := hid ((HP2.out.below HA.out).touch hT3 (by decide) (by decide))
      have HR3 := hid (hT3.bx (HR2.out.below HA.out HR2.out.lt) (by decide))
      have HC3 := hid (hT3.bx (HC2.out.below HA.out HC2.out.lt) (by decide))
      have HO3 := hid hO4
      have HB3 : Hid (Below w.heap.size w w3) := (HB2.out.alloc HB2.out.size _).trans hB3
      clear HK2 HP2 HO2 HR2 HC2 HB2 HA hO4 hT3 hB3 cc cl leB
      have cc := HC3.out.cell 1 _ rfl
      have cz := HC3.out.frozen 1
      have cl := HC3.out.lt
      go_upto_region 9 with fail
      have HT4 := hid (Touch.of_set (T := 31) (B := w.heap.size) (i := 1) (v := .slice so (k + 1) sc) HC3.out (by omega))
      have HK4 := hid (HT4.out.blk HK3.out (by decide))
      have HP4 := hid (HP3.out.touch HT4.out (by decide) (by decide))
      have HO4 := hid (HT4.out.own HO3.out (by decide))
      have HC4 := hid (bx_setq HC3.out 1 (.slice so (k + 1) sc))
      have HR4 : Hid (Bx (w3.setCell ⟨w.heap.size + 1, 1, none⟩ (.slice so (k + 1) sc)) w.heap.size #[.slice none 0 0, .slice none 0 0] 31) := HR3.out.other _ _ (by show w.heap.size + 1 ≠ w.heap.size; omega)
      have HB4 : Hid (Below w.heap.size w (w3.setCell ⟨w.heap.size + 1, 1, none⟩ (.slice so (k + 1) sc))) := HB3.out.setCell (by show w.heap.size ≤ w.heap.size + 1; omega) _
      clear HK3 HP3 HR3 HC3 HO3 HB3 HT4 cc cz cl
      obtain ⟨V, hV⟩ : ∃ V, V = w3.setCell ⟨w.heap.size + 1, 1, none⟩ (.slice so (k + 1) sc) := ⟨_, rfl⟩
      rw [← hV] at HK4 HP4 HO4 HC4 HR4 HB4 ⊢
      clear hV
      obtain ⟨xb, xo, da2, dn2, dc2, hx1, hbl2, b0, b1, b2, hd2⟩ := (HU.out.below HB4.out).get hlt
      cases hx1
      clear b0 hd2
      obtain ⟨⟨x0, hx0⟩, z0⟩ := HP4.out.has (j := k * 3) (by omega)
      obtain ⟨⟨x1, hx1⟩, z1⟩ := HP4.out.has (j := k * 3 + 1) (by omega)
      obtain ⟨⟨x2, hx2⟩, z2⟩ := HP4.out.has (j := k * 3 + 2) (by omega)
      have lt0 := HP4.out.lt
      have i1 : (k : Int) < ((us.length + 1 : Nat) : Int) := by omega
      have i2 : (k : Int) < (us.length : Int) + 1 := by omega
      obtain ⟨cur, hcur⟩ := HP4.out.heap
      have HT5 : Hid (Touch 56 w.heap.size V (wputA V (w.heap.size + 1 + 1) (k * 3) (hs d dn) (.int .i64 (ug us k).wt) (.int .i64 (ug us k).cap))) := Touch.of_putA hcur (by omega)
      have HP5 : Hid (CrP (wputA V (w.heap.size + 1 + 1) (k * 3) (hs d dn) (.int .i64 (ug us k).wt) (.int .i64 (ug us k).cap)) us (w.heap.size + 1 + 1) us.length (k + 1) (dl ++ [hs d dn])) := by
        have h9 := HP4.out.put hlt hdo HK4.out
        rw [hdn] at h9; exact h9
      have HO5 := hid (HT5.out.own HO4.out (by decide))
      have HC5 := hid (HT5.out.bx HC4.out (by decide))
      have HR5 := hid (HT5.out.bx HR4.out (by decide))
      have HB5 : Hid (Below w.heap.size w (wputA V (w.heap.size + 1 + 1) (k * 3) (hs d dn) (.int .i64 (ug us k).wt) (.int .i64 (ug us k).cap))) := below_putA HB4.out (by omega) _ _ _
      clear HT5 HP4 HO4 HC4 HR4 HB4 HK4 hcur
      go_region
      go_wp2
      go_roundg (us.length - (k + 1))
      case measure => omega
      case rel => exact ⟨k + 1, _, _, rfl, by omega, by go_num, HP5.out.below (Below.refl _ _).drew, by rw [List.length_append, hdll]; exact own_below HO5.out (Below.refl _ _).drew, HR5.out.below (Below.refl _ _).drew HR5.out.lt, HC5.out.below (Below.refl _ _).drew HC5.out.lt, HB5.out.drew⟩
    · obtain rfl : k = us.length := by omega
      obtain ⟨so, sc, rfl⟩ := own_shape hO.out
      obtain ⟨sn, hsn⟩ : ∃ sn, sn = dl.length := ⟨_, rfl⟩
      rw [← hsn] at hO hC
      have HSN := hid hsn
      clear hsn
      obtain ⟨⟨x0, hx0⟩, z0⟩ := hP.out.has (j := us.length * 3) (by omega)
      obtain ⟨⟨x1, hx1⟩, z1⟩ := hP.out.has (j := us.length * 3 + 1) (by omega)
      obtain ⟨⟨x2, hx2⟩, z2⟩ := hP.out.has (j := us.length * 3 + 2) (by omega)
      have lt0 := hP.out.lt
      have i1 : (us.length : Int) < ((us.length + 1 : Nat) : Int) := by omega
      have i2 : (us.length : Int) < (us.length : Int) + 1 := by omega
      have i3 : (us.length : Int) ≤ ((us.length + 1 : Nat) : Int) := by omega
      obtain ⟨cur, hcur⟩ := hP.out.heap
      have HT5 : Hid (Touch 56 w.heap.size wr (wputA wr (w.heap.size + 1 + 1) (us.length * 3) (.slice none 0 0) (.int .i64 7) (.int .i64 7))) := Touch.of_putA hcur (by omega)
      have HP5 := hid hP.out.end_
      have HO5 := hid (HT5.out.own hO.out (by decide))
      have HC5 := hid (HT5.out.bx hC.out (by decide))
      have HR5 := hid (HT5.out.bx hR.out (by decide))
      have HB5 : Hid (Below w.heap.size w (wputA wr (w.heap.size + 1 + 1) (us.length * 3) (.slice none 0 0) (.int .i64 7) (.int .i64 7))) := below_putA hB.out (by omega) _ _ _
      clear HT5 hP hO hC hR hB hcur
      go_upto_region 11 with fail
      clear hx0 hx1 hx2 z0 z1 z2 lt0
      unfold wputA at HP5 HO5 HC5 HR5 HB5
      obtain ⟨V, hV⟩ : ∃ V, V = ((wr.setCell ⟨w.heap.size + 1 + 1, us.length * 3, none⟩ (.slice none 0 0)).setCell ⟨w.heap.size + 1 + 1, us.length * 3 + 1, none⟩ (.int .i64 7)).setCell ⟨w.heap.size + 1 + 1, us.length * 3 + 2, none⟩ (.int .i64 7) := ⟨_, rfl⟩
      rw [← hV] at HP5 HO5 HC5 HR5 HB5 ⊢
      clear hV
      have q0 := HC5.out.cell 0 _ rfl
      have q1 := HC5.out.cell 1 _ rfl
      have q2 := HC5.out.frozen 0
      have q3 := HC5.out.lt
      have r0 := HR5.out.cell 0 _ rfl
      have r1 := HR5.out.cell 1 _ rfl
      have r2 := HR5.out.frozen 0
      have r3 := HR5.out.frozen 1
      have r4 := HR5.out.lt
      have HT6 : Hid (Touch 31 w.heap.size V (((V.setCell ⟨w.heap.size + 1, 0, none⟩ (.slice (some ⟨w.heap.size + 1 + 1, 0, none⟩) us.length (us.length + 1))).setCell ⟨w.heap.size, 0, none⟩ (.slice (some ⟨w.heap.size + 1 + 1, 0, none⟩) us.length (us.length + 1))).setCell ⟨w.heap.size, 1, none⟩ (.slice so sn sc))) := (((Touch.refl _ _ _).set HC5.out (by omega)).set HR5.out (by omega)).set HR5.out (by omega)
      have HB6 : Hid (Below w.heap.size w (((V.setCell ⟨w.heap.size + 1, 0, none⟩ (.slice (some ⟨w.heap.size + 1 + 1, 0, none⟩) us.length (us.length + 1))).setCell ⟨w.heap.size, 0, none⟩ (.slice (some ⟨w.heap.size + 1 + 1, 0, none⟩) us.length (us.length + 1))).setCell ⟨w.heap.size, 1, none⟩ (.slice so sn sc))) := ((HB5.out.setCell (by show w.heap.size ≤ w.heap.size + 1; omega) _).setCell (Nat.le_refl _) _).setCell (Nat.le_refl _) _
      have HP6 := hid (HP5.out.touch HT6.out (by decide) (by decide))
      have HO6 := hid (HT6.out.own HO5.out (by decide))
      have HR6 := hid (bx_setq (bx_setq (HR5.out.other ⟨w.heap.size + 1, 0, none⟩ (.slice (some ⟨w.heap.size + 1 + 1, 0, none⟩) us.length (us.length + 1)) (by show w.heap.size + 1 ≠ w.heap.size; omega)) 0 (.slice (some ⟨w.heap.size + 1 + 1, 0, none⟩) us.length (us.length + 1))) 1 (.slice so sn sc))
      clear HT6 HP5 HO5 HC5 HR5 HB5
      go_wp2
      have z0 := HR6.out.cell 0 _ rfl
      have z1 := HR6.out.cell 1 _ rfl
      refine bodyPost_ret (v := .agg #[.slice (some ⟨w.heap.size + 1 + 1, 0, none⟩) us.length (us.length + 1), .slice so sn sc]) (by simp [results, Tryz.results10, go_sem, z0, z1]) rfl ⟨w.heap.size + 1 + 1, .slice so sn sc, dl, by omega, rfl, HP6.out, by rw [← HSN.out]; exact HO6.out, HB6.out⟩
end Go.Proofs.YtigokanoflkinaaGreatDoor
