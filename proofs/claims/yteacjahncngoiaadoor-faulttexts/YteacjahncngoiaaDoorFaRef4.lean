/- The document's answers: Join of records. -/
import Derived.Test.YteacjahncngoiaaDoorFaRef3
namespace Go.Proofs.YteacjahncngoiaaDoor
open Go.RowKit FA

def RJoinX (w : World) (qs : List (Option E × Value)) (en : Ending) (w' : World) : Prop :=
  (somes qs = [] ∧ en = .returned (.agg #[.int .i64 0, .int .i64 0, .string ⟨#[]⟩, .slice none 0 0]) ∧ Below w.heap.size w w') ∨
  (somes qs ≠ [] ∧ ∃ g cap, en = .returned (.agg #[.int .i64 2, .int .i64 0, .string ⟨#[]⟩, .slice (some ⟨g, 0, none⟩) (somes qs).length cap]) ∧ w.heap.size ≤ g ∧ g < w'.heap.size ∧
    (∀ (j : Nat) u, (flat ((somes qs).map fun p => (some p.1, p.2)))[j]? = some u → w'.cell? ⟨g, j, none⟩ = some u) ∧ Below w.heap.size w w')

set_option maxRecDepth 100000 in
set_option maxHeartbeats 4000000 in
theorem rjoin_x (A : Option Addr) (cap : Nat) (xs : List (Option E × Value)) (w : World) (h : RecsAt w A xs) (hn : xs.length ≤ 1000) :
    Calls Tryd.prog 28 #[.slice A xs.length cap] w (RJoinX w xs) := by
  obtain ⟨i0, hi0, hz0, hz1, hz2⟩ := info_parts recInfo
  have Hi := Lib.hid hi0; have Hz0 := Lib.hid hz0; have Hz1 := Lib.hid hz1; have Hz2 := Lib.hid hz2
  have H := Lib.hid h
  clear hi0 hz0 hz1 hz2 h
  have hb0 := Lib.hid ((Below.refl w.heap.size w).alloc (Nat.le_refl _) (.cells #[.int .i64 0, .int .i64 0, .string ⟨#[]⟩, .slice none 0 0] 27))
  go_enter Tryd.func28, Tryd.ntmps28
  go_wp2
  go_loopw [4, 3] (fun i met wr => ∃ (k : Nat) (done : List (E × Value)), i = .int .i64 k ∧ k ≤ xs.length ∧ done.length ≤ k ∧ Hid (done ++ somes (xs.drop k) = somes xs) ∧
      Hid (wr.ownsRow (w.heap.size + 1) 27 4 met done.length (flat (done.map fun p => (some p.1, p.2)))) ∧ Hid (Below (w.heap.size + 1) (w.alloc (.cells #[.int .i64 0, .int .i64 0, .string ⟨#[]⟩, .slice none 0 0] 27)) wr))
    (fun i _ _ => xs.length - (intOf i).toNat)
  case atStart => exact ⟨0, [], rfl, by omega, by simp, Lib.hid rfl, Lib.hid (own_nil _ _ _ _), Lib.hid (Below.refl _ _)⟩
  case round =>
    obtain ⟨k, done, rfl, hk, hd, hk1, hown, hbr⟩ := hrel
    have hsr : w.heap.size + 1 ≤ wr.heap.size := by have := hbr.out.size; simpa using this
    have hbw : Hid (Below w.heap.size w wr) := hb0.out.trans (hbr.out.mono (by omega))
    obtain ⟨Am, capm, rfl⟩ := own_form hown.out
    by_cases hlt : k < xs.length
    · obtain ⟨x, hx⟩ : ∃ x, xs[k]? = some x := ⟨xs[k], List.getElem?_eq_getElem hlt⟩
      obtain ⟨x, y⟩ := x
      obtain ⟨g, o, rfl, hg, r0, r1, r2, r3, Ay, ny, capy, rfl⟩ := H.out k _ hx
      have q0 : wr.cell? ⟨g, o + k * 4, none⟩ = some (.int .i64 (kindO x)) := by rw [hbw.out.cell (by simp; omega)]; exact r0
      have q1 : wr.cell? ⟨g, o + k * 4 + 1, none⟩ = some (.int .i64 (cdO x)) := by rw [hbw.out.cell (by simp; omega)]; exact r1
      have q2 : wr.cell? ⟨g, o + k * 4 + 2, none⟩ = some (.string (whO x)) := by rw [hbw.out.cell (by simp; omega)]; exact r2
      have q3 : wr.cell? ⟨g, o + k * 4 + 3, none⟩ = some (.slice Ay ny capy) := by rw [hbw.out.cell (by simp; omega)]; exact r3
      cases x with
      | none =>
        have hkb : (((kindO none : Nat) : Int) != 0) = false := rfl
        have E1 := Lib.hid (so_drop_none hx)
        clear hx r0 r1 r2 r3 q1 q2 q3
        generalize ((kindO none : Nat) : Int) = kd at *
        go_wp2
        go_roundw
        case rel => exact ⟨k + 1, done, by go_num, by omega, by omega, Lib.hid (E1.out ▸ hk1.out), hown, hbr⟩
        case measure => simp [intOf]; omega
      | some e =>
        have hke := kind_le e
        have hkb : (((kindO (some e) : Nat) : Int) != 0) = true := by
          have : ((kindO (some e) : Nat) : Int) ≠ 0 := by show ((kind e : Nat) : Int) ≠ 0; omega
          simpa using this
        have E1 := Lib.hid (so_drop_some hx)
        obtain ⟨v2, w2, hr2, hown2, _, hb2⟩ := app1 Tryd.underlying25 Hi.out Hz0.out Hz1.out Hz2.out rfl (by omega) (by omega) (w.heap.size + 1) _ done.length _ wr hown.out (by omega)
          #[.int .i64 (kindO (some e)), .int .i64 (cdO (some e)), .string (whO (some e)), .slice Ay ny capy] rfl (by simp [Value.oneCell']) (by omega)
        have Ho2 := Lib.hid hown2
        have Hb2 := Lib.hid (hbr.out.trans hb2)
        clear hx hown2 hb2 r0 r1 r2 r3 hke
        generalize hgk : ((kindO (some e) : Nat) : Int) = kd at *
        generalize hgc : ((cdO (some e) : Nat) : Int) = cc at *
        generalize hgw : whO (some e) = ww at *
        have Hgk := Lib.hid hgk; have Hgc := Lib.hid hgc; have Hgw := Lib.hid hgw
        clear hgk hgc hgw
        go_wp2_with (at_builtin; refine wpList_run (by rfl) (.tmp 17) (.tmp 22) _ _ (by rfl) (by rfl) (by rfl) hr2 ?_; clear hr2)
        go_roundw
        case rel =>
          refine ⟨k + 1, done ++ [(e, .slice Ay ny capy)], by go_num, by omega, by simp; omega, Lib.hid ?_, Lib.hid ?_, Hb2⟩
          · have := hk1.out
            rw [E1.out] at this
            simpa using this
          · have := Ho2.out
            rw [List.map_append, List.map_singleton, flat_snoc]
            simp only [Hgk.out, Hgc.out, Hgw.out]
            simpa using this
        case measure => simp [intOf]; omega
    · have hkl : k = xs.length := by omega
      subst hkl
      have e1 := hk1.out
      simp only [List.drop_length, so_nil, List.append_nil] at e1
      have hblk : wr.heap[w.heap.size]? = some (.cells #[.int .i64 0, .int .i64 0, .string ⟨#[]⟩, .slice none 0 0] 27 (0, 0)) := by
        rw [hbr.out.block _ (by omega)]; exact heap_alloc_new w _
      have z0 : wr.cell? ⟨w.heap.size, 0, none⟩ = some (.int .i64 0) := by rw [cell_heap hblk]; rfl
      have z1 : wr.cell? ⟨w.heap.size, 1, none⟩ = some (.int .i64 0) := by rw [cell_heap hblk]; rfl
      have z2 : wr.cell? ⟨w.heap.size, 2, none⟩ = some (.string ⟨#[]⟩) := by rw [cell_heap hblk]; rfl
      have z3 : wr.cell? ⟨w.heap.size, 3, none⟩ = some (.slice none 0 0) := by rw [cell_heap hblk]; rfl
      have f0 : wr.frozen? ⟨w.heap.size, 0, none⟩ = false := frozen_heap hblk
      have f1 : wr.frozen? ⟨w.heap.size, 1, none⟩ = false := frozen_heap hblk
      have f2 : wr.frozen? ⟨w.heap.size, 2, none⟩ = false := frozen_heap hblk
      have f3 : wr.frozen? ⟨w.heap.size, 3, none⟩ = false := frozen_heap hblk
      clear hblk
      by_cases h0 : done = []
      · subst h0
        have E1 := Lib.hid e1
        clear e1 hlt
        go_wp2
        have hb5 := (((hbw.out.setCell (p := ⟨w.heap.size, 0, none⟩) (Nat.le_refl _) (.int .i64 0)).setCell (p := ⟨w.heap.size, 1, none⟩) (Nat.le_refl _) (.int .i64 0)).setCell (p := ⟨w.heap.size, 2, none⟩) (Nat.le_refl _) (.string ⟨#[]⟩)).setCell (p := ⟨w.heap.size, 3, none⟩) (Nat.le_refl _) (.slice none 0 0)
        refine bodyPost_ret (v := .agg #[.int .i64 0, .int .i64 0, .string ⟨#[]⟩, .slice none 0 0]) (by simp [results, Tryd.results28, go_sem, z0, z1, z2, z3]) rfl (.inl ⟨E1.out.symm, rfl, hb5⟩)
      · have hpos : 0 < done.length := List.length_pos_iff.2 h0
        have hne : ((done.length : Int) == 0) = false := by rw [beq_eq_false_iff_ne]; omega
        obtain ⟨g3, cap4, hv3, hg3, hg3'⟩ := hown.out.form hpos
        injection hv3 with hA3 _ hc4
        subst hA3
        have E1 := Lib.hid e1
        have Hne := Lib.hid h0
        clear e1 hlt h0 hc4
        go_wp2
        have hb5 := (((hbw.out.setCell (p := ⟨w.heap.size, 0, none⟩) (Nat.le_refl _) (.int .i64 2)).setCell (p := ⟨w.heap.size, 1, none⟩) (Nat.le_refl _) (.int .i64 0)).setCell (p := ⟨w.heap.size, 2, none⟩) (Nat.le_refl _) (.string ⟨#[]⟩)).setCell (p := ⟨w.heap.size, 3, none⟩) (Nat.le_refl _) (.slice (some ⟨g3, 0, none⟩) done.length capm)
        refine bodyPost_ret (v := .agg #[.int .i64 2, .int .i64 0, .string ⟨#[]⟩, .slice (some ⟨g3, 0, none⟩) done.length capm]) (by simp [results, Tryd.results28, go_sem, z0, z1, z2, z3]) rfl (.inr ⟨by rw [← E1.out]; exact Hne.out, g3, capm, by rw [← E1.out], by omega, by simpa using hg3', fun j u hu => ?_, hb5⟩)
        rw [← E1.out] at hu
        have hne3 : ∀ i, (⟨w.heap.size, i, none⟩ : Addr) ≠ ⟨g3, j, none⟩ := fun i hx => by injection hx with hx; omega
        rw [World.cell?_setCell_other _ _ _ _ (hne3 _), World.cell?_setCell_other _ _ _ _ (hne3 _), World.cell?_setCell_other _ _ _ _ (hne3 _), World.cell?_setCell_other _ _ _ _ (hne3 _), ← add0]
        exact hown.out.cells (g := g3) rfl j u hu
end Go.Proofs.YteacjahncngoiaaDoor
