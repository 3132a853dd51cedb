/- What a joined error is, of what Join made. -/
import Derived.Test.YteacjahncngoiaaDoorFaSteps
import Derived.Deep.RegionHeld3
import Derived.Deep.DrawnRows
import Derived.Deep.DeepCutAuto
import Derived.Deep.CutRange
import Derived.Deep.CutBlock
namespace Go.Proofs.YteacjahncngoiaaDoor
open Go.RowKit FA

/-! What a joined error is, of what Join made. -/

theorem many_ne {ps : List (Option E × Value)} (h : somes ps ≠ []) : joinO (ps.map Prod.fst) = some (.many ((somes ps).map Prod.fst)) := by
  unfold joinO
  rw [← so_fst]
  rw [if_neg (by simpa using h)]
theorem many_nil {ps : List (Option E × Value)} (h : somes ps = []) : joinO (ps.map Prod.fst) = none := by
  unfold joinO
  rw [← so_fst, h]
  rfl

theorem somes_sz : ∀ (ps : List (Option E × Value)) (zs : List Nat), ps.length = zs.length → (∀ (k : Nat) p z, ps[k]? = some p → zs[k]? = some z → szO p.1 ≤ z) → szL ((somes ps).map Prod.fst) ≤ zs.sum
  | [], _, _, _ => by simp [somes, szL]
  | p :: ps, [], hl, _ => by simp at hl
  | p :: ps, z :: zs, hl, h => by
    have ih := somes_sz ps zs (by simpa using hl) (fun k p' z' h1 h2 => h (k + 1) p' z' (by simpa using h1) (by simpa using h2))
    have h0 := h 0 p z (by simp) (by simp)
    obtain ⟨x, v⟩ := p
    cases x with
    | none => show szL ((somes ps).map Prod.fst) ≤ _; simp only [List.sum_cons]; omega
    | some e =>
      show sz e + szL ((somes ps).map Prod.fst) ≤ _
      simp only [List.sum_cons]
      have : sz e ≤ z := h0
      omega
theorem join_sz {ps : List (Option E × Value)} {zs : List Nat} (hl : ps.length = zs.length) (h : ∀ (k : Nat) p z, ps[k]? = some p → zs[k]? = some z → szO p.1 ≤ z) : szO (joinO (ps.map Prod.fst)) ≤ 1 + zs.sum := by
  by_cases h0 : somes ps = []
  · rw [many_nil h0]; simp [szO]
  · rw [many_ne h0]
    have := somes_sz ps zs hl h
    simp only [szO, sz]
    omega
theorem goodL_of : ∀ {l : List E}, (∀ e ∈ l, FA.Good e) → FA.GoodL l
  | [], _ => trivial
  | e :: _, h => ⟨h e (.head _), goodL_of fun x hx => h x (.tail _ hx)⟩
theorem join_good {ps : List (Option E × Value)} (h : ∀ p ∈ ps, GoodO p.1) : GoodO (joinO (ps.map Prod.fst)) := by
  by_cases h0 : somes ps = []
  · rw [many_nil h0]; trivial
  · rw [many_ne h0]
    refine goodL_of fun e he => ?_
    obtain ⟨p, hp, rfl⟩ := List.mem_map.1 he
    exact h _ (so_mem hp)

theorem joined_e {w w1 : World} {Q : Nat → Prop} {ps : List (Option E × Value)} {en : Ending} (hj : JoinX w ps en w1) (hr : ∀ p ∈ ps, RepQO w1 Q p.1 p.2) (hQ : ∀ b, w.heap.size ≤ b → b < w1.heap.size → Q b) :
    ∃ v, en = .returned v ∧ RepQO w1 Q (joinO (ps.map Prod.fst)) v ∧ (v = .nilIface ∨ ∃ t b, v = .iface t (.pointer (some ⟨b, 0, none⟩))) := by
  rcases hj with ⟨h0, rfl, _⟩ | ⟨h0, b, g, cap, rfl, hb1, hb2, hblk, hg1, hg2, hc1, hc2, hus, _⟩
  · exact ⟨_, rfl, by rw [many_nil h0]; rfl, .inl rfl⟩
  · refine ⟨_, rfl, ?_, .inr ⟨_, _, rfl⟩⟩
    rw [many_ne h0]
    simp only [RepQO, RepQ]
    refine ⟨b, g, cap, (somes ps).map Prod.snd, rfl, hQ b hb1 hb2, by simpa using hblk, hQ g hg1 hg2, ?_, by simpa using hc1, hc2, hus, RepQL.of_pairs fun p hp => hr _ (so_mem hp)⟩
    simpa using List.length_pos_iff.2 h0

theorem joined_r {w w1 : World} {Q : Nat → Prop} {qs : List (Option E × Value)} {en : Ending} (hj : RJoinX w qs en w1) (hl : qs.length ≤ 1000) (hr : ∀ p ∈ qs, RepRQO w1 Q p.1 p.2) (hQ : ∀ b, w.heap.size ≤ b → b < w1.heap.size → Q b) :
    ∃ A n c, en = .returned (.agg #[.int .i64 (kindO (joinO (qs.map Prod.fst))), .int .i64 0, .string ⟨#[]⟩, .slice A n c]) ∧ RepRQO w1 Q (joinO (qs.map Prod.fst)) (.slice A n c) ∧ cdO (joinO (qs.map Prod.fst)) = 0 ∧ whO (joinO (qs.map Prod.fst)) = ⟨#[]⟩ := by
  rcases hj with ⟨h0, rfl, _⟩ | ⟨h0, g, cap, rfl, hg1, hg2, hus, _⟩
  · refine ⟨none, 0, 0, ?_⟩
    rw [many_nil h0]
    exact ⟨rfl, rfl, rfl, rfl⟩
  · refine ⟨some ⟨g, 0, none⟩, (somes qs).length, cap, ?_⟩
    rw [many_ne h0]
    have hll : (somes qs).length ≤ qs.length := List.length_filterMap_le _ _
    refine ⟨rfl, ?_, rfl, rfl⟩
    simp only [RepRQO, RepRQ]
    refine ⟨g, cap, by simp, hQ g hg1 hg2, by simp [maxLen]; omega, RepRQL.of fun i e he => ?_⟩
    simp only [List.getElem?_map, Option.map_eq_some_iff] at he
    obtain ⟨p, hp, rfl⟩ := he
    have hm := so_mem (List.mem_of_getElem? hp)
    obtain ⟨l0, l1, l2, l3⟩ := flat_at ((somes qs).map fun p => (some p.1, p.2)) i (some p.1, p.2) (by simp [hp])
    refine ⟨p.2, ?_, hr _ hm⟩
    rw [Nat.zero_add]
    exact ⟨hus _ _ l0, hus _ _ l1, hus _ _ l2, hus _ _ l3⟩

/-! The rows from a place on. -/
set_option maxRecDepth 100000 in
theorem from_e {A : Option Addr} {n cap f : Nat} (hf : f ≤ n) (w : World) : (Instr.slice 57 (.slice A n cap) (some (.int .i64 (f : Int))) none none).run Tryd.prog w = .ok (sliced A f n cap 1) w := by
  rw [run_slice_l w 57 A n cap Tryd.underlying57 .i64 _ (by omega) (by omega)]
  rfl
set_option maxRecDepth 100000 in
theorem from_r {A : Option Addr} {n cap f : Nat} (hf : f ≤ n) (w : World) : (Instr.slice 25 (.slice A n cap) (some (.int .i64 (f : Int))) none none).run Tryd.prog w = .ok (sliced A f n cap 4) w := by
  rw [run_slice_l w 25 A n cap Tryd.underlying25 .i64 _ (by omega) (by omega)]
  rfl
set_option maxRecDepth 100000 in
theorem from_z {A : Option Addr} {n cap f : Nat} (hf : f ≤ n) (w : World) : (Instr.slice 58 (.slice A n cap) (some (.int .i64 (f : Int))) none none).run Tryd.prog w = .ok (sliced A f n cap 1) w := by
  rw [run_slice_l w 58 A n cap Tryd.underlying58 .i64 _ (by omega) (by omega)]
  rfl
/-- Where a row that is its own begins, from a place on. -/
theorem from_at {A : Option Addr} {n cap f s : Nat} (hc : n ≤ cap) (ha : 0 < n → ∃ g, A = some ⟨g, 0, none⟩) : ∃ A', sliced A f n cap s = .slice A' (n - f) (cap - f) ∧ (f < n → ∃ g, A = some ⟨g, 0, none⟩ ∧ A' = some ⟨g, f * s, none⟩) := by
  refine ⟨_, rfl, fun h => ?_⟩
  obtain ⟨g, rfl⟩ := ha (by omega)
  refine ⟨g, rfl, ?_⟩
  rw [if_neg (by omega)]
  simp [Addr.add]
  omega

/-! A row that is its own: how much it can hold; the rows from a place on, as Join wants them. -/
theorem own_cap {w : World} {N : Nat} {t : TypeId} {s : Nat} {A : Option Addr} {n cap : Nat} {l : List Value} (h : w.ownsRow N t s (.slice A n cap) n l) : n ≤ cap := by
  rcases h.2 with ⟨hx, hy⟩ | ⟨g, c, cur, hx, _, _, h3, h4, _⟩
  · omega
  · injection hx with _ _ hx; subst hx; exact h3
theorem JoinX.below {w w' : World} {ps : List (Option E × Value)} {en : Ending} (h : JoinX w ps en w') : Below w.heap.size w w' := by
  rcases h with ⟨_, _, h⟩ | ⟨_, _, _, _, _, _, _, _, _, _, _, _, _, h⟩ <;> exact h
theorem RJoinX.below {w w' : World} {ps : List (Option E × Value)} {en : Ending} (h : RJoinX w ps en w') : Below w.heap.size w w' := by
  rcases h with ⟨_, _, h⟩ | ⟨_, _, _, _, _, _, _, h⟩ <;> exact h
theorem Made.errsAt {N : Nat} {wr W : World} {Ae : Option Addr} {capE : Nat} {refs sizes : Value} {ps qs : List (Option E × Value)} {zs : List Nat} (h : Made N wr (.slice Ae ps.length capE) refs sizes ps qs zs) {f : Nat} {Ae' : Option Addr}
    (hA : f < ps.length → ∃ g, Ae = some ⟨g, 0, none⟩ ∧ Ae' = some ⟨g, f * 1, none⟩) (hb : Below wr.heap.size wr W) : ErrsAt W Ae' (ps.drop f) := by
  intro i p hp
  rw [List.getElem?_drop] at hp
  have hi := (List.getElem?_eq_some_iff.1 hp).1
  obtain ⟨g, rfl, rfl⟩ := hA (by omega)
  have hg := (h.hE.lt g rfl).2
  have hsz := hb.size
  refine ⟨g, f * 1, rfl, by omega, ?_, RepQO.shape Free.lt (h.reps p (List.mem_of_getElem? hp))⟩
  rw [hb.cell (by simpa using hg), Nat.mul_one, ← add0]
  exact h.hE.cells (g := g) rfl (f + i) p.2 (by simp [hp])
theorem Made.recsAt {N : Nat} {wr W : World} {Ar : Option Addr} {capR : Nat} {errs sizes : Value} {ps qs : List (Option E × Value)} {zs : List Nat} (h : Made N wr errs (.slice Ar ps.length capR) sizes ps qs zs) {f : Nat} {Ar' : Option Addr}
    (hA : f < ps.length → ∃ g, Ar = some ⟨g, 0, none⟩ ∧ Ar' = some ⟨g, f * 4, none⟩) (hb : Below wr.heap.size wr W) : RecsAt W Ar' (qs.drop f) := by
  intro i q hq
  rw [List.getElem?_drop] at hq
  have hi := (List.getElem?_eq_some_iff.1 hq).1
  have hl : qs.length = ps.length := by have := congrArg List.length h.same; simpa using this
  obtain ⟨g, rfl, rfl⟩ := hA (by omega)
  have hg := (h.hR.lt g rfl).2
  have hsz := hb.size
  obtain ⟨l0, l1, l2, l3⟩ := flat_at qs (f + i) q hq
  have key : ∀ (j : Nat) v, (flat qs)[(f + i) * 4 + j]? = some v → W.cell? ⟨g, f * 4 + i * 4 + j, none⟩ = some v := fun j v hv => by
    rw [hb.cell (by simpa using hg), show f * 4 + i * 4 + j = (f + i) * 4 + j by omega, ← add0]
    exact h.hR.cells (g := g) rfl _ v hv
  exact ⟨g, f * 4, rfl, by omega, key 0 _ l0, key 1 _ l1, key 2 _ l2, key 3 _ l3, RepRQO.shape Free.lt (h.recs q (List.mem_of_getElem? hq))⟩
end Go.Proofs.YteacjahncngoiaaDoor
