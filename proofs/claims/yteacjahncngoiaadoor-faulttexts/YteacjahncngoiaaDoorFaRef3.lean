/- The document's answers: New, Wrap and Join of records. -/
import Derived.Test.YteacjahncngoiaaDoorFaRef2
import Derived.Test.YteacjahncngoiaaDoorFaMake
namespace Go.Proofs.YteacjahncngoiaaDoor
open Go.RowKit FA

/-- The answer is the record of x. -/
def RetR (w : World) (x : Option E) (en : Ending) (w' : World) : Prop := ∃ y, en = .returned (recO x y) ∧ RepRO w' w'.heap.size x y ∧ Below w.heap.size w w'

theorem rnew_any (c : Nat) (s : ByteArray) (w : World) : Calls Tryd.prog 31 #[.int .i64 c, .string s] w (RetR w (some (.leaf c s))) := by
  go_enter Tryd.func31, Tryd.ntmps31
  go_wp2
  exact bodyPost_ret (v := .agg #[.int .i64 1, .int .i64 c, .string s, .slice none 0 0]) (by simp [results, Tryd.results31, go_sem]) rfl ⟨.slice none 0 0, rfl, rfl, (Below.refl _ _).alloc (Nat.le_refl _) _⟩

/-- The document's Wrap of a record that is not none. -/
def RWrapX (w : World) (s : ByteArray) (e : E) (y : Value) (en : Ending) (w' : World) : Prop :=
  ∃ g, en = .returned (.agg #[.int .i64 1, .int .i64 (code e), .string s, .slice (some ⟨g, 0, none⟩) 1 1]) ∧ w.heap.size ≤ g ∧ g < w'.heap.size ∧ Row4 w' g 0 e y ∧ Below w.heap.size w w'

set_option maxRecDepth 100000 in
set_option maxHeartbeats 2000000 in
theorem rwrap_none (s : ByteArray) (w : World) :
    Calls Tryd.prog 27 #[.string s, .agg #[.int .i64 0, .int .i64 0, .string ⟨#[]⟩, .slice none 0 0]] w fun en w' => en = .returned (.agg #[.int .i64 0, .int .i64 0, .string ⟨#[]⟩, .slice none 0 0]) ∧ Below w.heap.size w w' := by
  go_enter Tryd.func27, Tryd.ntmps27
  go_wp2
  exact bodyPost_ret (v := .agg #[.int .i64 0, .int .i64 0, .string ⟨#[]⟩, .slice none 0 0]) (by simp [results, Tryd.results27, go_sem]) rfl ⟨rfl, ((Below.refl _ _).alloc (Nat.le_refl _) _).alloc (by simp) _⟩

set_option maxRecDepth 100000 in
set_option maxHeartbeats 2000000 in
theorem rwrap_x (B : Nat) (s : ByteArray) (e : E) (y : Value) (w : World) (h : RepR w B e y) (hB : B ≤ w.heap.size) (hz : sz e ≤ 1000000) :
    Calls Tryd.prog 27 #[.string s, .agg #[.int .i64 (kind e), .int .i64 (cd e), .string (wh e), y]] w (RWrapX w s e y) := by
  have hR : RepR w B e y := h
  obtain ⟨hq1, A, cap, rfl, hq2⟩ := RepR.kids hR
  clear hq1 hq2
  show Calls Tryd.prog 27 #[.string s, .agg #[.int .i64 (kind e), .int .i64 (cd e), .string (wh e), .slice A (kids e).length cap]] w (RWrapX w s e (.slice A (kids e).length cap))
  have hk := kind_le e
  have hkb : ((kind e : Int) == 0) = false := by rw [beq_eq_false_iff_ne]; omega
  have hb1 := (Below.refl w.heap.size w).alloc (Nat.le_refl _) (.cells #[.int .i64 (kind e), .int .i64 (cd e), .string (wh e), .slice A (kids e).length cap] 27)
  have hb2 := hb1.alloc (by simp) (.cells #[.int .i64 0, .int .i64 0, .string ⟨#[]⟩, .slice none 0 0] 27)
  have C := Lib.hid (rcodeOf_any B (some e) _ _ (RepRO.below (x := some e) (hb2.mono hB) h) (by simp; omega) hz)
  have HR := Lib.hid hR
  have Hb2 := Lib.hid hb2
  simp only [recO, kindO, cdO, whO, codeO] at C
  clear h hR hb1 hb2 hk
  generalize (kids e).length = nk at *
  go_enter Tryd.func27, Tryd.ntmps27
  go_wp2_with fail
  refine C.out.mono ?_
  rintro en w2 ⟨rfl, b2⟩
  have hs2 : w.heap.size + 2 ≤ w2.heap.size := by have := b2.size; simpa using this
  have hzz : w.heap.size + 1 < w2.heap.size := by omega
  have hz0 : w.heap.size < w2.heap.size := by omega
  have k0 : w2.cell? ⟨w.heap.size, 0, none⟩ = some (.int .i64 (kind e)) := by rw [b2.cell (by simp; omega), World.cell?_alloc_lt _ _ _ (by simp), World.cell?_alloc_at _ _ _ _ rfl]; rfl
  have k1 : w2.cell? ⟨w.heap.size, 1, none⟩ = some (.int .i64 (cd e)) := by rw [b2.cell (by simp; omega), World.cell?_alloc_lt _ _ _ (by simp), World.cell?_alloc_at _ _ _ _ rfl]; rfl
  have k2 : w2.cell? ⟨w.heap.size, 2, none⟩ = some (.string (wh e)) := by rw [b2.cell (by simp; omega), World.cell?_alloc_lt _ _ _ (by simp), World.cell?_alloc_at _ _ _ _ rfl]; rfl
  have k3 : w2.cell? ⟨w.heap.size, 3, none⟩ = some (.slice A nk cap) := by rw [b2.cell (by simp; omega), World.cell?_alloc_lt _ _ _ (by simp), World.cell?_alloc_at _ _ _ _ rfl]; rfl
  have hblk : w2.heap[w.heap.size + 1]? = some (.cells #[.int .i64 0, .int .i64 0, .string ⟨#[]⟩, .slice none 0 0] 27 (0, 0)) := by
    rw [b2.block _ (by simp)]
    have := heap_alloc_new (w.alloc (.cells #[.int .i64 (kind e), .int .i64 (cd e), .string (wh e), .slice A nk cap] 27)) (.cells #[.int .i64 0, .int .i64 0, .string ⟨#[]⟩, .slice none 0 0] 27)
    simpa using this
  have z0 : w2.cell? ⟨w.heap.size + 1, 0, none⟩ = some (.int .i64 0) := by rw [cell_heap hblk]; rfl
  have z1 : w2.cell? ⟨w.heap.size + 1, 1, none⟩ = some (.int .i64 0) := by rw [cell_heap hblk]; rfl
  have z2 : w2.cell? ⟨w.heap.size + 1, 2, none⟩ = some (.string ⟨#[]⟩) := by rw [cell_heap hblk]; rfl
  have z3 : w2.cell? ⟨w.heap.size + 1, 3, none⟩ = some (.slice none 0 0) := by rw [cell_heap hblk]; rfl
  have f0 : w2.frozen? ⟨w.heap.size + 1, 0, none⟩ = false := frozen_heap hblk
  have f1 : w2.frozen? ⟨w.heap.size + 1, 1, none⟩ = false := frozen_heap hblk
  have f2 : w2.frozen? ⟨w.heap.size + 1, 2, none⟩ = false := frozen_heap hblk
  have f3 : w2.frozen? ⟨w.heap.size + 1, 3, none⟩ = false := frozen_heap hblk
  have B2 := Lib.hid b2
  have Hblk := Lib.hid hblk
  clear b2 C hblk
  go_wp2
  have hbw : Below w.heap.size w w2 := Hb2.out.trans (B2.out.mono (by simp; omega))
  have hb5 := ((((hbw.setCell (p := ⟨w.heap.size + 1, 0, none⟩) (by simp) (.int .i64 1)).setCell (p := ⟨w.heap.size + 1, 1, none⟩) (by simp) (.int .i64 (code e))).setCell (p := ⟨w.heap.size + 1, 2, none⟩) (by simp) (.string s)).setCell (p := ⟨w.heap.size + 1, 3, none⟩) (by simp) (.slice (some ⟨w2.heap.size, 0, none⟩) 1 1)).alloc (by simp; omega) (.cells #[.int .i64 (kind e), .int .i64 (cd e), .string (wh e), .slice A nk cap] 27)
  refine bodyPost_ret (v := .agg #[.int .i64 1, .int .i64 (code e), .string s, .slice (some ⟨w2.heap.size, 0, none⟩) 1 1]) (by simp [results, Tryd.results27, go_sem, z0, z1, z2, z3, hzz]) rfl ⟨w2.heap.size, rfl, by omega, by simp, ⟨?_, ?_, ?_, ?_⟩, hb5⟩ <;>
  · rw [World.cell?_alloc_at _ _ _ _ (by simp)]; rfl

/-- A row of records, from an address on. -/
def RecsAt (w : World) (A : Option Addr) (qs : List (Option E × Value)) : Prop :=
  ∀ (i : Nat) q, qs[i]? = some q → ∃ g o, A = some ⟨g, o, none⟩ ∧ g < w.heap.size ∧
    w.cell? ⟨g, o + i * 4, none⟩ = some (.int .i64 (kindO q.1)) ∧ w.cell? ⟨g, o + i * 4 + 1, none⟩ = some (.int .i64 (cdO q.1)) ∧ w.cell? ⟨g, o + i * 4 + 2, none⟩ = some (.string (whO q.1)) ∧ w.cell? ⟨g, o + i * 4 + 3, none⟩ = some q.2 ∧ ∃ A' n' c', q.2 = .slice A' n' c'

/-- The cells of records. -/
def flat (ps : List (Option E × Value)) : List Value := ps.flatMap fun p => [.int .i64 (kindO p.1), .int .i64 (cdO p.1), .string (whO p.1), p.2]
theorem flat_len (ps : List (Option E × Value)) : (flat ps).length = ps.length * 4 := by
  induction ps with
  | nil => rfl
  | cons p ps ih => simp only [flat, List.flatMap_cons, List.length_append, List.length_cons, List.length_nil] at ih ⊢; omega
theorem flat_snoc (ps : List (Option E × Value)) (p : Option E × Value) : flat (ps ++ [p]) = flat ps ++ [.int .i64 (kindO p.1), .int .i64 (cdO p.1), .string (whO p.1), p.2] := by simp [flat]
theorem flat_at : ∀ (ps : List (Option E × Value)) (i : Nat) (p : Option E × Value), ps[i]? = some p →
    (flat ps)[i * 4]? = some (.int .i64 (kindO p.1)) ∧ (flat ps)[i * 4 + 1]? = some (.int .i64 (cdO p.1)) ∧ (flat ps)[i * 4 + 2]? = some (.string (whO p.1)) ∧ (flat ps)[i * 4 + 3]? = some p.2
  | [], i, p, h => by simp at h
  | q :: ps, 0, p, h => by simp at h; subst h; exact ⟨rfl, rfl, rfl, rfl⟩
  | q :: ps, i + 1, p, h => by
    have ih := flat_at ps i p (by simpa using h)
    have e : flat (q :: ps) = [.int .i64 (kindO q.1), .int .i64 (cdO q.1), .string (whO q.1), q.2] ++ flat ps := rfl
    have e4 : ∀ j, (flat (q :: ps))[(i + 1) * 4 + j]? = (flat ps)[i * 4 + j]? := fun j => by
      rw [e, List.getElem?_append_right (by simp; omega)]
      congr 1
      simp
      omega
    exact ⟨(e4 0).trans ih.1, (e4 1).trans ih.2.1, (e4 2).trans ih.2.2.1, (e4 3).trans ih.2.2.2⟩
end Go.Proofs.YteacjahncngoiaaDoor
