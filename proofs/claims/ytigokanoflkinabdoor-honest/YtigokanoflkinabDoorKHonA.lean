/- Honest: the list that lies; what a lie is worth. -/
import Derived.Test.YtigokanoflkinabDoorKConA
import Derived.Laws.CopyOwn
namespace Go.Proofs.YtigokanoflkinabDoor
set_option linter.unusedSimpArgs false
set_option linter.unusedVariables false
open Go.RowKit Por

/-- a row of users of the call's own in block g; what they want lies in the world w0 -/
def UB (w0 w : World) (g n : Nat) (us : List Usr) : Prop := us.length = n ∧ ∃ cur, w.heap[g]? = some (.cells cur 31 (0, 0)) ∧ cur.size = n * 3 ∧ ∀ i, i < n → ∃ da dn dc, cur[i * 3]? = some (.slice da dn dc) ∧ cur[i * 3 + 1]? = some (.int .i64 (ug us i).wt) ∧ cur[i * 3 + 2]? = some (.int .i64 (ug us i).cap) ∧ Arr w0 1 da dn dc (ints (ug us i).dem)
theorem UB.lt {w0 w : World} {g n : Nat} {us : List Usr} (h : UB w0 w g n us) : g < w.heap.size := by
  obtain ⟨_, cur, h1, _⟩ := h; exact (Array.getElem?_eq_some_iff.1 h1).1
theorem UB.has {w0 w : World} {g n : Nat} {us : List Usr} (h : UB w0 w g n us) {j : Nat} (hj : j < n * 3) : ∃ x, w.cell? ⟨g, j, none⟩ = some x := by
  obtain ⟨_, cur, h1, h2, _⟩ := h
  exact ⟨cur[j], by rw [cell_of_row w g _ _ _ _ h1, Array.getElem?_eq_getElem (by omega)]⟩
theorem UB.frozen {w0 w : World} {g n : Nat} {us : List Usr} (h : UB w0 w g n us) (j : Nat) : w.frozen? ⟨g, j, none⟩ = false := by
  obtain ⟨_, cur, h1, _⟩ := h
  simp [World.frozen?, h1]
theorem UB.users {w0 w : World} {g n : Nat} {us : List Usr} (h : UB w0 w g n us) (hb : Below w0.heap.size w0 w) (hn : n ≤ maxLen) : Users w (some ⟨g, 0, none⟩) n n us := by
  have hlt := h.lt
  obtain ⟨h0, cur, h1, h2, h3⟩ := h
  refine ⟨h0, (List.range n).map (fun i => .agg #[cur.getD (i * 3) (.bool false), cur.getD (i * 3 + 1) (.bool false), cur.getD (i * 3 + 2) (.bool false)]), ⟨by simp, Nat.le_refl _, hn, fun _ => ⟨g, 0, rfl, hlt⟩, ?_⟩, ?_⟩
  · intro b o e i v hv j u hu
    cases e
    have hi : i < n := by simpa using (List.getElem?_eq_some_iff.1 hv).1
    obtain ⟨da, dn, dc, c0, c1, c2, hr⟩ := h3 i hi
    rw [List.getElem?_map, List.getElem?_range hi] at hv
    cases hv
    have g0 : cur.getD (i * 3) (.bool false) = .slice da dn dc := by rw [Array.getD_eq_getD_getElem?, c0]; rfl
    have g1 : cur.getD (i * 3 + 1) (.bool false) = .int .i64 (ug us i).wt := by rw [Array.getD_eq_getD_getElem?, c1]; rfl
    have g2 : cur.getD (i * 3 + 2) (.bool false) = .int .i64 (ug us i).cap := by rw [Array.getD_eq_getD_getElem?, c2]; rfl
    simp only [g0, g1, g2] at hu
    rw [Nat.zero_add, cell_of_row w g _ _ _ _ h1]
    match j with
    | 0 => rw [Nat.add_zero, c0]; exact hu
    | 1 => rw [c1]; exact hu
    | 2 => rw [c2]; exact hu
    | j + 3 => simp [Value.cells] at hu
  · intro i v hv
    have hi : i < n := by simpa using (List.getElem?_eq_some_iff.1 hv).1
    obtain ⟨da, dn, dc, c0, c1, c2, hr⟩ := h3 i hi
    rw [List.getElem?_map, List.getElem?_range hi] at hv
    cases hv
    refine ⟨da, dn, dc, ?_, hr.below hb⟩
    have g0 : cur.getD (i * 3) (.bool false) = .slice da dn dc := by rw [Array.getD_eq_getD_getElem?, c0]; rfl
    have g1 : cur.getD (i * 3 + 1) (.bool false) = .int .i64 (ug us i).wt := by rw [Array.getD_eq_getD_getElem?, c1]; rfl
    have g2 : cur.getD (i * 3 + 2) (.bool false) = .int .i64 (ug us i).cap := by rw [Array.getD_eq_getD_getElem?, c2]; rfl
    simp only [g0, g1, g2]
/-- the list with another user at p -/
def lie (us : List Usr) (p : Nat) (u : Usr) : List Usr := us.set p u
theorem lie_len (us : List Usr) (p : Nat) (u : Usr) : (lie us p u).length = us.length := by simp [lie]
theorem lie_same {us : List Usr} {p : Nat} (u : Usr) (h : p < us.length) : ug (lie us p u) p = u := by
  unfold ug lie; rw [List.getD_eq_getElem?_getD, List.getElem?_set_self h]; rfl
theorem lie_other (us : List Usr) {p j : Nat} (u : Usr) (h : j ≠ p) : ug (lie us p u) j = ug us j := by
  unfold ug lie; rw [List.getD_eq_getElem?_getD, List.getD_eq_getElem?_getD, List.getElem?_set_ne (Ne.symm h)]
theorem UB.put {w0 w : World} {g n p : Nat} {us : List Usr} (h : UB w0 w g n us) (hp : p < n) (u : Usr) {da : Option Addr} {dn dc : Nat} (hd : Arr w0 1 da dn dc (ints u.dem)) :
    UB w0 (wputA w g (p * 3) (.slice da dn dc) (.int .i64 u.wt) (.int .i64 u.cap)) g n (lie us p u) := by
  obtain ⟨h0, cur, h1, h2, h3⟩ := h
  obtain ⟨e0, e1, e2, e3⟩ := arr_set3 (arr := cur) h2 hp (.slice da dn dc) (.int .i64 u.wt) (.int .i64 u.cap)
  refine ⟨(lie_len _ _ _).trans h0, _, putA_heap h1, by simp [h2], fun j hj => ?_⟩
  by_cases e : j = p
  · subst e
    rw [lie_same u (by omega)]
    exact ⟨da, dn, dc, e0, e1, e2, hd⟩
  · rw [lie_other us u e, e3 _ (by omega), e3 _ (by omega), e3 _ (by omega)]
    exact h3 j hj
theorem Tryd.infoUsr : (Tryd.prog.info? 31).map (fun i => (i.zero, i.size, i.bytes)) = some (some (.agg #[.slice none 0 0, .int .i64 0, .int .i64 0]), 3, 40) := by kernel_rfl
/-- make([]api.User, n) -/
theorem wpList_make_usrs (w : World) {ops : Array Oper} {rest : List Oper} {o : Oper} {a : Act} {Q : Exit → Act → World → Prop}
    (hg : o.guard = none) (l c : Operand) (hop : o.op = Op.makeSlice 23 l c) (L C : Int) (n : Nat) (hl : a.eval l = .int .i64 L) (hc : a.eval c = .int .i64 C) (hL : L = (n : Int)) (hC : C = (n : Int)) (hn : n ≤ 1000000)
    (hK : ∀ w', Hid (∃ cur : Array Value, w'.heap[w.heap.size]? = some (.cells cur 31 (0, 0)) ∧ cur.size = n * 3) → Below w.heap.size w w' → w.heap.size < w'.heap.size → wpList Tryd.prog ops Q rest (a.put o.dst (.slice (some ⟨w.heap.size, 0, none⟩) n n)) w') :
    wpList Tryd.prog ops Q (o :: rest) a w := by
  obtain ⟨i, hi, hz0, hz1, hz2⟩ := info_parts Tryd.infoUsr
  refine wpList_make_full w hg l c 23 hop w.heap.size 31 i (.agg #[.slice none 0 0, .int .i64 0, .int .i64 0]) 3 Tryd.underlying23 hi hz0 hz1 .i64 .i64 L C n hl hc hL hC (by rw [hz2]; omega) (by unfold maxLen; omega) (Nat.le_refl _) ?_
  intro w' ho hgr
  have hb : Below w.heap.size w w' := (Below.refl _ _).grown hgr (Nat.le_refl _) (fun k e => by cases e)
  rcases ho.2 with ⟨h', _⟩ | ⟨g, cap, cur, h', _, hh, h1, h2, h3, h4⟩
  · cases h'
  · simp only [Value.slice.injEq, Option.some.injEq, Addr.mk.injEq, and_true, true_and] at h'
    obtain ⟨rfl, rfl⟩ := h'
    exact hK w' ⟨cur, hh, h3⟩ hb (Array.getElem?_eq_some_iff.1 hh).1
/-- copy of rows of three cells each -/
theorem run_copy3 {P : Program} (w : World) (dT sT ty elem : TypeId) (g dCap : Nat) (a : Addr) (n sCap : Nat) (cur : Array Value) (t : TypeId) (cs : List Value)
    (hu : P.underlying dT = some (.slice elem)) (hs : (P.info? elem).map (·.size) = some 3)
    (hg : w.heap[g]? = some (.cells cur t (0, 0))) (hn : cs.length = n * 3)
    (hsrc : ∀ j v, cs[j]? = some v → w.cell? (a.add j) = some v) (hfit : cs.length = cur.size) (h1 : ∀ v ∈ cs, v.oneCell' = true) :
    (Builtin.copy_ #[dT, sT] ty #[.slice (some ⟨g, 0, none⟩) n dCap, .slice (some a) n sCap]).run P w =
      .ok (goInt n) (w.setRow g cs.toArray) := by
  have hl := run_loadCells_list (P := P) w a cs hsrc
  have hst := run_storeCells_at P g 0 t cs 0 cur w hg (by omega) h1
  have e1 : (cur.toList.take (0 + 0) ++ cs ++ cur.toList.drop (0 + 0 + cs.length)).toArray = cs.toArray := by
    rw [List.drop_eq_nil_of_le (by simp; omega)]; simp
  rw [e1] at hst
  rw [hn] at hl
  cases hq : P.info? elem with
  | none => simp [hq] at hs
  | some i =>
    have hi : i.size = 3 := by simpa [hq] using hs
    have hm : Nat.min n n = n := Nat.min_self n
    simp [Builtin.copy_, run_underlying hu, Builtin.lenOf, Builtin.firstCells, sizeOf, typeInfo, hq, hi, hm, hl, hst]
theorem Tryd.sizeUsr : (Tryd.prog.info? 31).map (·.size) = some 3 := by kernel_rfl
theorem Users.some_cell {w : World} {b o n cap : Nat} {us : List Usr} (h : Users w (some ⟨b, o, none⟩) n cap us) {j : Nat} (hj : j < n * 3) : ∃ v, w.cell? ⟨b, o + j, none⟩ = some v ∧ v.oneCell' = true := by
  obtain ⟨b', o', da, dn, dc, e, hlt, c0, c1, c2, _⟩ := h.get (i := j / 3) (by omega)
  cases e
  have h3 : j % 3 < 3 := Nat.mod_lt _ (by decide)
  rcases (show j % 3 = 0 ∨ j % 3 = 1 ∨ j % 3 = 2 by omega) with e | e | e
  · exact ⟨_, by rw [show o + j = o + j / 3 * 3 by omega]; exact c0, rfl⟩
  · exact ⟨_, by rw [show o + j = o + j / 3 * 3 + 1 by omega]; exact c1, rfl⟩
  · exact ⟨_, by rw [show o + j = o + j / 3 * 3 + 2 by omega]; exact c2, rfl⟩
/-- copy(lied, l) -/
theorem wpList_copy_usrs (w0 w : World) {ops : Array Oper} {rest : List Oper} {o : Oper} {a : Act} {Q : Exit → Act → World → Prop} (hgd : o.guard = none) (d s : Operand)
    (ho : o.op = .call { callee := .builtin .copy, args := #[d, s], argTypes := #[23, 23] }) (g dCap n cap : Nat) (so : Option Addr) (us : List Usr) (hn : 0 < n)
    (hd : a.eval d = .slice (some ⟨g, 0, none⟩) n dCap) (hs : a.eval s = .slice so n cap) (hcur : ∃ cur : Array Value, w.heap[g]? = some (.cells cur 31 (0, 0)) ∧ cur.size = n * 3) (hus : Users w0 so n cap us) (hb : Below w0.heap.size w0 w) (hle : w0.heap.size ≤ g)
    (h : ∀ w', Hid (UB w0 w' g n us) → Below w0.heap.size w0 w' → wpList Tryd.prog ops Q rest (a.put o.dst (goInt n)) w') : wpList Tryd.prog ops Q (o :: rest) a w := by
  obtain ⟨cur, hg, hsz⟩ := hcur
  obtain ⟨b, of, da, dn, dc, hso, hbl, _⟩ := hus.get (i := 0) hn
  subst hso
  have husw := hus.below hb
  have hcs : ∀ j (v : Value), ((List.range (n * 3)).map (fun j => (w.cell? ⟨b, of + j, none⟩).getD (.bool false)))[j]? = some v → w.cell? ⟨b, of + j, none⟩ = some v ∧ v.oneCell' = true := by
    intro j v hv
    have hj : j < n * 3 := by simpa using (List.getElem?_eq_some_iff.1 hv).1
    rw [List.getElem?_map, List.getElem?_range hj] at hv
    obtain ⟨x, hx, h1⟩ := husw.some_cell hj
    simp only [Option.map_some, hx, Option.getD_some, Option.some.injEq] at hv
    subst hv
    exact ⟨hx, h1⟩
  have hlen : ((List.range (n * 3)).map (fun j => (w.cell? ⟨b, of + j, none⟩).getD (.bool false))).length = n * 3 := by simp
  generalize ((List.range (n * 3)).map (fun j => (w.cell? ⟨b, of + j, none⟩).getD (.bool false))) = cs at hcs hlen
  have hadd : ∀ j, (⟨b, of, none⟩ : Addr).add j = ⟨b, of + j, none⟩ := fun j => by unfold Addr.add; split <;> simp_all
  have hrun := run_copy3 (P := Tryd.prog) w 23 23 o.type 31 g dCap ⟨b, of, none⟩ n cap cur 31 cs Tryd.underlying23 Tryd.sizeUsr hg hlen (fun j v hv => by rw [hadd]; exact (hcs j v hv).1) (by omega) (fun v hv => by obtain ⟨j, hj⟩ := List.getElem?_of_mem hv; exact (hcs j v hj).2)
  refine wpList_plain hgd fun K hK => ?_
  unfold Oper.wp
  simp [execOp, ho, resolve, invoke, builtin, hd, hs, hrun, Result.andThen]
  refine hK _ _ (h _ ?_ (below_setRow hb hle _))
  refine ⟨hus.1, cs.toArray, setRow_heap w g cur _ _ _ hg, by simpa using hlen, fun i hi => ?_⟩
  obtain ⟨b', o', da, dn, dc, e, hlt, c0, c1, c2, hr⟩ := hus.get hi
  cases e
  have key : ∀ j v, j < n * 3 → w0.cell? ⟨b, of + j, none⟩ = some v → cs.toArray[j]? = some v := fun j v hj hv => by
    rw [List.getElem?_toArray]
    have h5 : cs[j]? = some cs[j] := List.getElem?_eq_getElem (by omega)
    have h6 := (hcs j _ h5).1
    have h7 := (hb.cell (p := ⟨b, of + j, none⟩) hbl).trans hv
    rw [h5, ← h6, h7]
  exact ⟨da, dn, dc, key _ _ (by omega) c0, key _ _ (by omega) c1, key _ _ (by omega) c2, hr⟩
/-- what one gets by a lie is worth no more -/
theorem use_honest {pool : List Int} {us : List Usr} (hg : Good us pool.length) (hpa : ∀ i, amtB (lm pool i) = true) {p : Nat} (hp : p < us.length) (u : Usr) (hw : u.wt = (ug us p).wt) (hl : Good (lie us p u) pool.length) :
    useQ (ug us p) (rq (bunL ((endS pool (lie us p u)).ts p) 1 u.dem pool.length)) pool.length ≤ (endS pool us).ts p := by
  unfold useQ
  have hlen := lie_len us p u
  have hne : ∀ {j : Nat}, j ≠ p → ug (lie us p u) j = ug us j := fun h => lie_other us u h
  have hsame := lie_same u hp
  rcases honest (prb_ok hg hpa) (prb_ok hl hpa) (prb_rate hg hpa) (prb_rate hl hpa) (endS_fair hg hpa).1 (endS_fair hl hpa).1 (i := p) hp hlen rfl (fun r hr => rfl) (by show (((ug (lie us p u) p).wt : Int) : Rat) = _; rw [hsame, hw]; rfl) (fun j r hj h => by show ((lm (ug (lie us p u) j).dem r : Int) : Rat) = _; rw [hne h]; rfl) (fun j hj h => by show (((ug (lie us p u) j).cap : Int) : Rat) = _; rw [hne h]; rfl) (fun j hj h => by unfold rateU; rw [hne h]) with h | ⟨r, hr, hD, hle⟩
  · exact Rat.le_trans (leastL_le (v := (((ug us p).cap : Int) : Rat)) (by simp)) h
  · refine Rat.le_trans (leastL_le (v := rq (bunL ((endS pool (lie us p u)).ts p) 1 u.dem pool.length) r / ((lm (ug us p).dem r : Int) : Rat)) ?_) ?_
    · rw [List.mem_append]
      left
      exact (mem_enL _).2 ⟨r, hr, by have := int_pos.1 hD; omega, rfl⟩
    · rw [bunL_get _ _ _ pool.length r hr, Rat.mul_one]
      have e : ((lm u.dem r : Int) : Rat) = (prb pool (lie us p u)).D p r := by
        show _ = ((lm (ug (lie us p u) p).dem r : Int) : Rat); rw [hsame]
      rw [e]; exact hle
end Go.Proofs.YtigokanoflkinabDoor
