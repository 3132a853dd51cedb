/- What each change of the disk does, as closures. -/
import Derived.Test.YtdgljfoghonbaaaDkCut
namespace Go.Proofs.Ytdgljfoghonbaaa
open Go.RowKit DK

theorem step_run {P : Program} {ops : Array Oper} {o : Oper} {a : Act} {w : World} {K : Act → World → Prop} {Q : Exit → Act → World → Prop} {E : Prop} (hgd : o.guard = none) (s x : Operand) (t1 t2 : TypeId)
    (ho : o.op = .call { callee := .builtin .append, args := #[s, x], argTypes := #[t1, t2] }) {v u v' : Value} {w' : World} (hs : a.eval s = v) (hx : a.eval x = u)
    (hr : (Builtin.append_ #[t1, t2] o.type #[v, u]).run P w = .ok v' w') (h : K (a.put o.dst v') w') : if Region.wanted o (yielded ops a.tmps) = true then Oper.wp P o a w K Q else E := by
  have hw : Region.wanted o (yielded ops a.tmps) = true := by simp [Region.wanted, hgd]
  rw [if_pos hw]
  unfold Oper.wp execOp
  simp only [ho, resolve, invoke, builtin, Sem.run_bind, Sem.run_pure, Result.andThen_ok, List.map_toArray, List.map_cons, List.map_nil, hs, hx, hr]
  exact h
theorem strCells_bytes (s : ByteArray) : Lib.strCells s = Lib.byteCells s.data.toList := by
  simp [Lib.strCells, Lib.byteCells]
/-- A text behind a row of bytes; where the new row lies. -/
theorem app_lies (w : World) (base : Nat) (v : Value) (n : Nat) (xs : List Value) (hown : w.ownsRow base 5 1 v n xs) (s : ByteArray) (h0 : 0 < s.size) (hn : n + s.size ≤ 16777216) (hbase : base ≤ w.heap.size) :
    ∃ v' w', (Builtin.append_ #[47, 9] 47 #[v, .string s]).run Try.prog w = .ok v' w' ∧ w'.ownsRow base 5 1 v' (n + s.size) (xs ++ Lib.strCells s) ∧ w.grownBy w' v.ownBlock ∧ (v'.ownBlock = v.ownBlock ∨ ∀ g, v'.ownBlock = some g → w.heap.size ≤ g) := by
  obtain ⟨i0, hi, hz0, hz1, hz2⟩ := info_parts byteInfo
  obtain ⟨v', w', hr, ho, hg, -⟩ := Lib.run_append_own_string (P := Try.prog) w base 47 9 47 5 i0 Try.underlying47 Try.underlying9 hi hz0 hz1 hz2 v n xs hown s (by unfold maxLen; omega) (by omega) hbase
  refine ⟨v', w', hr, ho, hg, ?_⟩
  rcases hown.2 with ⟨rfl, rfl⟩ | ⟨g, cap, cur, rfl, hbg, hgg, hnc, hcm, hcs, htake⟩
  · obtain ⟨v2, w2, hr2, ho2, hg2, -⟩ := Lib.run_append_own_string (P := Try.prog) w w.heap.size 47 9 47 5 i0 Try.underlying47 Try.underlying9 hi hz0 hz1 hz2 (.slice none 0 0) 0 [] (own_nil _ _ _ _) s (by unfold maxLen; omega) (by omega) (Nat.le_refl _)
    have hx : xs = [] := List.eq_nil_of_length_eq_zero (by have := hown.1; omega)
    subst hx
    rw [hr] at hr2
    injection hr2 with e1 e2
    subst e1 e2
    exact .inr fun g hg => (ho2.lt g hg).1
  · by_cases hroom : n + s.size ≤ cap
    · obtain ⟨w2, hr2, -, -⟩ := Lib.run_append_fits_string (P := Try.prog) w base 47 9 47 5 i0 Try.underlying47 Try.underlying9 hi hz1 (some ⟨g, 0, none⟩) n cap xs hown s (by omega) hroom
      rw [hr] at hr2
      injection hr2 with e1 e2
      rw [e1]
      exact .inl rfl
    · have hr2 := Lib.run_append_grow_string (P := Try.prog) w 47 9 47 5 i0 (.int .u8 0) Try.underlying47 Try.underlying9 hi hz0 ⟨g, 0, none⟩ n cap xs (by rw [hz1]; simpa using hown.1) (hown.cells (g := g) rfl) s (by omega) (by omega) (by rw [hz2]; exact growslice_fits (by omega) (by omega))
      rw [hr] at hr2
      injection hr2 with e1 e2
      rw [e1]
      exact .inr fun g hg => by simp [Value.ownBlock] at hg; omega


theorem Dk.app0 {d : Nat} {D : Dv} {va vb v' : Value} {w w' : World} {s : ByteArray} (h : DkAt d D va vb w) (ho : w'.ownsRow d 5 1 v' (D.a.s.length + s.size) (Lib.byteCells D.a.s ++ Lib.strCells s)) (hg : w.grownBy w' va.ownBlock)
    (hl : v'.ownBlock = va.ownBlock ∨ ∀ g, v'.ownBlock = some g → w.heap.size ≤ g) : Dk d (Dv.upd 0 (Fl.app s.data.toList) D) (w'.setCell ⟨d, 0, none⟩ v') ∧ Kt 5 d w (w'.setCell ⟨d, 0, none⟩ v') ∧ w'.heap[d]? = some (.cells (dkCells D va vb) 52 (0, 0)) := by
  obtain ⟨n1, n2⟩ := h.ne
  have hlt := lt_heap h.1
  have hd : w'.heap[d]? = some (.cells (dkCells D va vb) 52 (0, 0)) := (hg.block d hlt (fun e => n1 e.symm)).trans h.1
  have hne := own_ne ho hd (by decide)
  have hother : w'.ownsRow d 5 1 vb D.b.s.length (Lib.byteCells D.b.s) := h.2.2.1.kept hg (by
    rcases h.2.2.1.2 with ⟨e, _⟩ | ⟨g, c, u, e, _⟩
    · exact .inl (by rw [e]; rfl)
    · refine .inr fun he => ?_
      rcases h.2.2.2 with h0 | h0
      · rw [h0, e] at he; cases he
      · exact h0 he.symm)
  refine ⟨⟨v', vb, ?_, ?_, ?_, ?_⟩, ((Kt.refl _ _ _).grown h.2.1 (Nat.le_refl _) (Nat.le_of_lt hlt) hg).setCell _ _, hd⟩
  · exact set_block hd rfl
  · have := own_set (j := 0) (u := v') ho hne; rw [strCells_bytes] at this; have e : (D.a.s ++ s.data.toList).length = D.a.s.length + s.size := (by rw [List.length_append]; congr 1); show World.ownsRow _ _ _ _ _ (D.a.s ++ s.data.toList).length (Lib.byteCells (D.a.s ++ s.data.toList)); rw [e]; simpa [Lib.byteCells] using this
  · exact own_set hother n2
  · have hsz := h.2.2.1.lt
    rcases hl with hl | hl
    · rw [hl]; exact h.2.2.2
    · cases hv : v'.ownBlock with
      | none => exact .inl rfl
      | some g =>
        refine .inr fun e => ?_
        have e1 := hl g hv
        have := (hsz g (by rw [← e])).2
        omega

set_option maxRecDepth 100000 in
set_option maxHeartbeats 1000000 in
theorem capp0_any (d : Nat) (D : Dv) (s : ByteArray) (cb sb : Nat) (w : World) (h : Dk d D w) (h0 : 0 < s.size) (hn : D.a.s.length + s.size ≤ 16777216)
    (hc : w.heap[cb]? = some (.cells #[.pointer (some ⟨d, 0, none⟩)] 65 (0, 0))) (hs : w.heap[sb]? = some (.cells #[.string s] 9 (0, 0))) :
    Calls Try.prog 34 #[.pointer (some ⟨cb, 0, none⟩), .pointer (some ⟨sb, 0, none⟩)] w (LostP d (Dv.upd 0 (Fl.app s.data.toList) D) w) := by
  obtain ⟨va, vb, h⟩ := h
  have q0 : w.cell? ⟨cb, 0, none⟩ = some (.pointer (some ⟨d, 0, none⟩)) := by rw [cell_heap hc]; rfl
  have q1 : w.cell? ⟨sb, 0, none⟩ = some (.string s) := by rw [cell_heap hs]; rfl
  have hlt := lt_heap h.1
  have q2 : w.cell? ⟨d, 0, none⟩ = some va := by rw [cell_heap h.1]; rfl
  obtain ⟨v', w', hr, ho, hg, hl⟩ := app_lies w.drew d va D.a.s.length (Lib.byteCells D.a.s) h.2.1 s h0 hn (Nat.le_of_lt hlt)
  obtain ⟨f1, f2, f3⟩ := Dk.app0 h ho ⟨hg.os, hg.tape, hg.output, hg.size, hg.block⟩ hl
  have q3 : w'.cell? ⟨d, 0, none⟩ = some va := by rw [cell_heap f3]; rfl
  have q4 : w'.frozen? ⟨d, 0, none⟩ = false := frozen_heap f3
  have HF : Hid (LostP d (Dv.upd 0 (Fl.app s.data.toList) D) w (.returned (.tuple #[])) (w'.setCell ⟨d, 0, none⟩ v')) := Lib.hid ⟨rfl, f1, f2⟩
  -- a load of the closure's own variable may come behind the append
  have q5 : w'.cell? ⟨cb, 0, none⟩ = some (.pointer (some ⟨d, 0, none⟩)) := by
    have e : w'.heap[cb]? = some (.cells #[.pointer (some ⟨d, 0, none⟩)] 65 (0, 0)) := (hg.block cb (lt_heap hc) (fun e => own_ne h.2.1 hc (by decide) e.symm)).trans hc
    rw [cell_heap e]; rfl
  obtain ⟨A1, c1, rfl⟩ := own_form h.2.1
  obtain ⟨A2, c2, rfl⟩ := own_form ho
  clear h hc hs ho hg hl f1 f2 f3 h0 hn
  go_enter Try.func34, Try.ntmps34
  go_wp2_with fail
  go_region_law (refine step_run (by rfl) (.tmp 6) (.tmp 7) _ _ (by rfl) (by rfl) (by rfl) hr ?_)
  all_goals
    go_end0
    exact HF.out


theorem Dk.app1 {d : Nat} {D : Dv} {va vb v' : Value} {w w' : World} {s : ByteArray} (h : DkAt d D va vb w) (ho : w'.ownsRow d 5 1 v' (D.b.s.length + s.size) (Lib.byteCells D.b.s ++ Lib.strCells s)) (hg : w.grownBy w' vb.ownBlock)
    (hl : v'.ownBlock = vb.ownBlock ∨ ∀ g, v'.ownBlock = some g → w.heap.size ≤ g) : Dk d (Dv.upd 1 (Fl.app s.data.toList) D) (w'.setCell ⟨d, 2, none⟩ v') ∧ Kt 5 d w (w'.setCell ⟨d, 2, none⟩ v') ∧ w'.heap[d]? = some (.cells (dkCells D va vb) 52 (0, 0)) := by
  obtain ⟨n1, n2⟩ := h.ne
  have hlt := lt_heap h.1
  have hd : w'.heap[d]? = some (.cells (dkCells D va vb) 52 (0, 0)) := (hg.block d hlt (fun e => n2 e.symm)).trans h.1
  have hne := own_ne ho hd (by decide)
  have hother : w'.ownsRow d 5 1 va D.a.s.length (Lib.byteCells D.a.s) := h.2.1.kept hg (by
    rcases h.2.1.2 with ⟨e, _⟩ | ⟨g, c, u, e, _⟩
    · exact .inl (by rw [e]; rfl)
    · refine .inr fun he => ?_
      rcases h.2.2.2 with h0 | h0
      · rw [e] at h0; cases h0
      · exact h0 he)
  refine ⟨⟨va, v', ?_, ?_, ?_, ?_⟩, ((Kt.refl _ _ _).grown h.2.2.1 (Nat.le_refl _) (Nat.le_of_lt hlt) hg).setCell _ _, hd⟩
  · exact set_block hd rfl
  · exact own_set hother n1
  · have := own_set (j := 2) (u := v') ho hne; rw [strCells_bytes] at this; have e : (D.b.s ++ s.data.toList).length = D.b.s.length + s.size := (by rw [List.length_append]; congr 1); show World.ownsRow _ _ _ _ _ (D.b.s ++ s.data.toList).length (Lib.byteCells (D.b.s ++ s.data.toList)); rw [e]; simpa [Lib.byteCells] using this
  · have hsz := h.2.1.lt
    rcases hl with hl | hl
    · rw [hl]; exact h.2.2.2
    · cases hv : v'.ownBlock with
      | none => 
        cases ha : va.ownBlock with
        | none => exact .inl rfl
        | some g => exact .inr (by simp)
      | some g =>
        refine .inr fun e => ?_
        have e1 := hl g hv
        have := (hsz g (by rw [e])).2
        omega

set_option maxRecDepth 100000 in
set_option maxHeartbeats 1000000 in
theorem capp1_any (d : Nat) (D : Dv) (s : ByteArray) (cb sb : Nat) (w : World) (h : Dk d D w) (h0 : 0 < s.size) (hn : D.b.s.length + s.size ≤ 16777216)
    (hc : w.heap[cb]? = some (.cells #[.pointer (some ⟨d, 2, none⟩)] 65 (0, 0))) (hs : w.heap[sb]? = some (.cells #[.string s] 9 (0, 0))) :
    Calls Try.prog 34 #[.pointer (some ⟨cb, 0, none⟩), .pointer (some ⟨sb, 0, none⟩)] w (LostP d (Dv.upd 1 (Fl.app s.data.toList) D) w) := by
  obtain ⟨va, vb, h⟩ := h
  have q0 : w.cell? ⟨cb, 0, none⟩ = some (.pointer (some ⟨d, 2, none⟩)) := by rw [cell_heap hc]; rfl
  have q1 : w.cell? ⟨sb, 0, none⟩ = some (.string s) := by rw [cell_heap hs]; rfl
  have hlt := lt_heap h.1
  have q2 : w.cell? ⟨d, 2, none⟩ = some vb := by rw [cell_heap h.1]; rfl
  obtain ⟨v', w', hr, ho, hg, hl⟩ := app_lies w.drew d vb D.b.s.length (Lib.byteCells D.b.s) h.2.2.1 s h0 hn (Nat.le_of_lt hlt)
  obtain ⟨f1, f2, f3⟩ := Dk.app1 h ho ⟨hg.os, hg.tape, hg.output, hg.size, hg.block⟩ hl
  have q3 : w'.cell? ⟨d, 2, none⟩ = some vb := by rw [cell_heap f3]; rfl
  have q4 : w'.frozen? ⟨d, 2, none⟩ = false := frozen_heap f3
  have HF : Hid (LostP d (Dv.upd 1 (Fl.app s.data.toList) D) w (.returned (.tuple #[])) (w'.setCell ⟨d, 2, none⟩ v')) := Lib.hid ⟨rfl, f1, f2⟩
  -- a load of the closure's own variable may come behind the append
  have q5 : w'.cell? ⟨cb, 0, none⟩ = some (.pointer (some ⟨d, 2, none⟩)) := by
    have e : w'.heap[cb]? = some (.cells #[.pointer (some ⟨d, 2, none⟩)] 65 (0, 0)) := (hg.block cb (lt_heap hc) (fun e => own_ne h.2.2.1 hc (by decide) e.symm)).trans hc
    rw [cell_heap e]; rfl
  obtain ⟨A1, c1, rfl⟩ := own_form h.2.2.1
  obtain ⟨A2, c2, rfl⟩ := own_form ho
  clear h hc hs ho hg hl f1 f2 f3 h0 hn
  go_enter Try.func34, Try.ntmps34
  go_wp2_with fail
  go_region_law (refine step_run (by rfl) (.tmp 6) (.tmp 7) _ _ (by rfl) (by rfl) (by rfl) hr ?_)
  all_goals
    go_end0
    exact HF.out


set_option maxRecDepth 100000 in
set_option maxHeartbeats 1000000 in
theorem csync0_any (d : Nat) (D : Dv) (cb : Nat) (w : World) (h : Dk d D w) (hc : w.heap[cb]? = some (.cells #[.pointer (some ⟨d, 0, none⟩)] 65 (0, 0))) :
    Calls Try.prog 36 #[.pointer (some ⟨cb, 0, none⟩)] w (LostP d (Dv.upd 0 Fl.sync D) w) := by
  obtain ⟨va, vb, h⟩ := h
  have q0 : w.cell? ⟨cb, 0, none⟩ = some (.pointer (some ⟨d, 0, none⟩)) := by rw [cell_heap hc]; rfl
  have q2 : w.cell? ⟨d, 0, none⟩ = some va := by rw [cell_heap h.1]; rfl
  have q3 : w.cell? ⟨d, 1, none⟩ = some (.int .i64 D.a.l) := by rw [cell_heap h.1]; rfl
  have q4 := h.loose 1
  have HF : Hid (LostP d (Dv.upd 0 Fl.sync D) w (.returned (.tuple #[])) ((w.setCell ⟨d, 1, none⟩ (.int .i64 D.a.s.length)).drew)) := Lib.hid ⟨rfl, ⟨va, vb, h.set (D' := Dv.upd 0 Fl.sync D) 1 _ rfl rfl rfl⟩, ((Kt.refl _ _ _).setCell _ _).drewN 1⟩
  obtain ⟨A1, c1, rfl⟩ := own_form h.2.1
  clear h hc
  go_enter Try.func36, Try.ntmps36
  go_wp2_with fail
  go_region_law (fail)
  all_goals
    go_end0
    exact HF.out
set_option maxRecDepth 100000 in
set_option maxHeartbeats 1000000 in
theorem cclear0_any (d : Nat) (D : Dv) (cb : Nat) (w : World) (h : Dk d D w) (hc : w.heap[cb]? = some (.cells #[.pointer (some ⟨d, 0, none⟩)] 65 (0, 0))) :
    Calls Try.prog 38 #[.pointer (some ⟨cb, 0, none⟩)] w (LostP d (Dv.upd 0 Fl.clear D) w) := by
  obtain ⟨va, vb, h⟩ := h
  have q0 : w.cell? ⟨cb, 0, none⟩ = some (.pointer (some ⟨d, 0, none⟩)) := by rw [cell_heap hc]; rfl
  have q2 : w.cell? ⟨d, 0, none⟩ = some va := by rw [cell_heap h.1]; rfl
  have q3 : w.cell? ⟨d, 1, none⟩ = some (.int .i64 D.a.l) := by rw [cell_heap h.1]; rfl
  have q4 := h.loose 1
  have q5 := h.loose 0
  have HF : Hid (LostP d (Dv.upd 0 Fl.clear D) w (.returned (.tuple #[])) ((w.setCell ⟨d, 0, none⟩ (.slice none 0 0)).setCell ⟨d, 1, none⟩ (.int .i64 0))) := Lib.hid ⟨rfl, by
    obtain ⟨n1, n2⟩ := h.ne
    have b1 := set_block (j := 0) (u := .slice none 0 0) h.1 rfl
    have b2 := set_block (j := 1) (u := .int .i64 0) b1 rfl
    refine ⟨.slice none 0 0, vb, b2, own_nil _ _ _ _, own_set (own_set h.2.2.1 n2) n2, .inl rfl⟩
    
    
    , ((Kt.refl _ _ _).setCell _ _).setCell _ _⟩
  clear h hc
  go_enter Try.func38, Try.ntmps38
  go_wp2
  go_end0
  exact HF.out


set_option maxRecDepth 100000 in
set_option maxHeartbeats 1000000 in
theorem csync1_any (d : Nat) (D : Dv) (cb : Nat) (w : World) (h : Dk d D w) (hc : w.heap[cb]? = some (.cells #[.pointer (some ⟨d, 2, none⟩)] 65 (0, 0))) :
    Calls Try.prog 36 #[.pointer (some ⟨cb, 0, none⟩)] w (LostP d (Dv.upd 1 Fl.sync D) w) := by
  obtain ⟨va, vb, h⟩ := h
  have q0 : w.cell? ⟨cb, 0, none⟩ = some (.pointer (some ⟨d, 2, none⟩)) := by rw [cell_heap hc]; rfl
  have q2 : w.cell? ⟨d, 2, none⟩ = some vb := by rw [cell_heap h.1]; rfl
  have q3 : w.cell? ⟨d, 3, none⟩ = some (.int .i64 D.b.l) := by rw [cell_heap h.1]; rfl
  have q4 := h.loose 3
  have HF : Hid (LostP d (Dv.upd 1 Fl.sync D) w (.returned (.tuple #[])) ((w.setCell ⟨d, 3, none⟩ (.int .i64 D.b.s.length)).drew)) := Lib.hid ⟨rfl, ⟨va, vb, h.set (D' := Dv.upd 1 Fl.sync D) 3 _ rfl rfl rfl⟩, ((Kt.refl _ _ _).setCell _ _).drewN 1⟩
  obtain ⟨A1, c1, rfl⟩ := own_form h.2.2.1
  clear h hc
  go_enter Try.func36, Try.ntmps36
  go_wp2_with fail
  go_region_law (fail)
  all_goals
    go_end0
    exact HF.out
set_option maxRecDepth 100000 in
set_option maxHeartbeats 1000000 in
theorem cclear1_any (d : Nat) (D : Dv) (cb : Nat) (w : World) (h : Dk d D w) (hc : w.heap[cb]? = some (.cells #[.pointer (some ⟨d, 2, none⟩)] 65 (0, 0))) :
    Calls Try.prog 38 #[.pointer (some ⟨cb, 0, none⟩)] w (LostP d (Dv.upd 1 Fl.clear D) w) := by
  obtain ⟨va, vb, h⟩ := h
  have q0 : w.cell? ⟨cb, 0, none⟩ = some (.pointer (some ⟨d, 2, none⟩)) := by rw [cell_heap hc]; rfl
  have q2 : w.cell? ⟨d, 2, none⟩ = some vb := by rw [cell_heap h.1]; rfl
  have q3 : w.cell? ⟨d, 3, none⟩ = some (.int .i64 D.b.l) := by rw [cell_heap h.1]; rfl
  have q4 := h.loose 3
  have q5 := h.loose 2
  have HF : Hid (LostP d (Dv.upd 1 Fl.clear D) w (.returned (.tuple #[])) ((w.setCell ⟨d, 2, none⟩ (.slice none 0 0)).setCell ⟨d, 3, none⟩ (.int .i64 0))) := Lib.hid ⟨rfl, by
    obtain ⟨n1, n2⟩ := h.ne
    have b1 := set_block (j := 2) (u := .slice none 0 0) h.1 rfl
    have b2 := set_block (j := 3) (u := .int .i64 0) b1 rfl
    refine ⟨va, .slice none 0 0, b2, own_set (own_set h.2.1 n1) n1, own_nil _ _ _ _, ?_⟩
    cases ha : va.ownBlock with
    | none => exact .inl rfl
    | some g => exact .inr (by simp [Value.ownBlock]), ((Kt.refl _ _ _).setCell _ _).setCell _ _⟩
  clear h hc
  go_enter Try.func38, Try.ntmps38
  go_wp2
  go_end0
  exact HF.out

theorem nothing_any (w : World) : Calls Try.prog 37 #[] w fun e w' => e = .returned (.tuple #[]) ∧ w = w' := by
  go_enter Try.func37, Try.ntmps37
  go_wp2
  go_end0
  exact ⟨rfl, rfl⟩

end Go.Proofs.Ytdgljfoghonbaaa
