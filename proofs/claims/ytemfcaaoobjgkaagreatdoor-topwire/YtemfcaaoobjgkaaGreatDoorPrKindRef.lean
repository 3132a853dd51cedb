/- The document's kinds of identifiers. -/
import Derived.Test.YtemfcaaoobjgkaaGreatDoorPrKind
namespace Go.Proofs.YtemfcaaoobjgkaaGreatDoor
open Go.RowKit

theorem in_new (n : Int) (l : List Int) (w : World) (hl : l.length ≤ 100) :
    Calls Tryz.prog 134 #[.int .i64 n, .slice (some ⟨w.heap.size, 0, none⟩) l.length l.length] (w.alloc (.cells (l.map (Value.int .i64)).toArray 3)) fun e w' => e = .returned (.bool (PR.has n l)) ∧ w.alloc (.cells (l.map (Value.int .i64)).toArray 3) = w' :=
  in_any n w.heap.size l.length l _ hl (nums_new w l _)
def row1 : Obj := .cells #[.int .i64 1, .int .i64 23, .int .i64 25, .int .i64 36, .int .i64 37, .int .i64 40, .int .i64 41, .int .i64 42] 3
theorem in_1 (n : Int) (w : World) (g : Nat) (hg : g = w.heap.size) : Calls Tryz.prog 134 #[.int .i64 n, .slice (some ⟨g, 0, none⟩) 8 8] (w.alloc (.cells #[.int .i64 1, .int .i64 23, .int .i64 25, .int .i64 36, .int .i64 37, .int .i64 40, .int .i64 41, .int .i64 42] 3)) fun e w' => e = .returned (.bool (PR.has n PR.l1)) ∧ w.alloc row1 = w' := by
  subst hg; exact in_new n PR.l1 w (by decide)
def row2 : Obj := .cells #[.int .i64 19, .int .i64 33, .int .i64 34, .int .i64 35] 3
theorem in_2 (n : Int) (w : World) (g : Nat) (hg : g = w.heap.size) : Calls Tryz.prog 134 #[.int .i64 n, .slice (some ⟨g, 0, none⟩) 4 4] (w.alloc (.cells #[.int .i64 19, .int .i64 33, .int .i64 34, .int .i64 35] 3)) fun e w' => e = .returned (.bool (PR.has n PR.l2)) ∧ w.alloc row2 = w' := by
  subst hg; exact in_new n PR.l2 w (by decide)
def row3 : Obj := .cells #[.int .i64 2, .int .i64 17, .int .i64 24, .int .i64 39] 3
theorem in_3 (n : Int) (w : World) (g : Nat) (hg : g = w.heap.size) : Calls Tryz.prog 134 #[.int .i64 n, .slice (some ⟨g, 0, none⟩) 4 4] (w.alloc (.cells #[.int .i64 2, .int .i64 17, .int .i64 24, .int .i64 39] 3)) fun e w' => e = .returned (.bool (PR.has n PR.l3)) ∧ w.alloc row3 = w' := by
  subst hg; exact in_new n PR.l3 w (by decide)
def row5 : Obj := .cells #[.int .i64 9, .int .i64 22] 3
theorem in_5 (n : Int) (w : World) (g : Nat) (hg : g = w.heap.size) : Calls Tryz.prog 134 #[.int .i64 n, .slice (some ⟨g, 0, none⟩) 2 2] (w.alloc (.cells #[.int .i64 9, .int .i64 22] 3)) fun e w' => e = .returned (.bool (PR.has n PR.l5)) ∧ w.alloc row5 = w' := by
  subst hg; exact in_new n PR.l5 w (by decide)
def row6 : Obj := .cells #[.int .i64 3, .int .i64 8, .int .i64 18, .int .i64 21, .int .i64 26, .int .i64 28, .int .i64 31] 3
theorem in_6 (n : Int) (w : World) (g : Nat) (hg : g = w.heap.size) : Calls Tryz.prog 134 #[.int .i64 n, .slice (some ⟨g, 0, none⟩) 7 7] (w.alloc (.cells #[.int .i64 3, .int .i64 8, .int .i64 18, .int .i64 21, .int .i64 26, .int .i64 28, .int .i64 31] 3)) fun e w' => e = .returned (.bool (PR.has n PR.l6)) ∧ w.alloc row6 = w' := by
  subst hg; exact in_new n PR.l6 w (by decide)

set_option maxRecDepth 100000 in
set_option maxHeartbeats 4000000 in
theorem rkind_any (id : Int) (w : World) : Calls Tryz.prog 120 #[.int .i64 id] w fun e w' => e = .returned (.int .i64 (PR.kd id)) ∧ Below w.heap.size w w' := by
  have C1 := Lib.hid (in_1 id); have C2 := Lib.hid (in_2 id); have C3 := Lib.hid (in_3 id); have C5 := Lib.hid (in_5 id); have C6 := Lib.hid (in_6 id)
  have h4 : (id == 11) = true ∧ id = 11 ∨ (id == 11) = false ∧ ¬ id = 11 := by
    by_cases h : id = 11
    · exact .inl ⟨by simp [h], h⟩
    · exact .inr ⟨by simp [h], h⟩
  have h7 : (id == 38) = true ∧ id = 38 ∨ (id == 38) = false ∧ ¬ id = 38 := by
    by_cases h : id = 38
    · exact .inl ⟨by simp [h], h⟩
    · exact .inr ⟨by simp [h], h⟩
  have HB : Hid (Below w.heap.size w (((((w.alloc row1).alloc row2).alloc row3).alloc row5).alloc row6)) :=
    (((((Below.refl w.heap.size w).alloc (by simp) _).alloc (by simp) _).alloc (by simp; omega) _).alloc (by simp; omega) _).alloc (by simp; omega) _
  have hk : Hid (PR.kd id = if PR.has id PR.l1 = true then 1 else if PR.has id PR.l2 = true then 2 else if PR.has id PR.l3 = true then 3 else if id = 11 then 4 else if PR.has id PR.l5 = true then 5 else if PR.has id PR.l6 = true then 6 else if id = 38 then 7 else 0) := rfl
  generalize PR.kd id = kk at *
  generalize PR.has id PR.l1 = b1 at *
  generalize PR.has id PR.l2 = b2 at *
  generalize PR.has id PR.l3 = b3 at *
  generalize PR.has id PR.l5 = b5 at *
  generalize PR.has id PR.l6 = b6 at *
  have H4 := Lib.hid h4; have H7 := Lib.hid h7
  clear h4 h7
  go_enter Tryz.func120, Tryz.ntmps120
  go_wp2_with fail
  (with_reducible refine (C1.out _ _ (by simp)).mono ?_)
  rintro e w1 ⟨rfl, rfl⟩
  go_wp2_with fail
  (with_reducible refine (C2.out _ _ (by simp)).mono ?_)
  rintro e w1 ⟨rfl, rfl⟩
  go_wp2_with fail
  (with_reducible refine (C3.out _ _ (by simp)).mono ?_)
  rintro e w1 ⟨rfl, rfl⟩
  go_wp2_with fail
  (with_reducible refine (C5.out _ _ (by simp)).mono ?_)
  rintro e w1 ⟨rfl, rfl⟩
  go_wp2_with fail
  (with_reducible refine (C6.out _ _ (by simp)).mono ?_)
  rintro e w1 ⟨rfl, rfl⟩
  clear C1 C2 C3 C5 C6
  cases b1
  · cases b2
    · cases b3
      · rcases H4.out with ⟨h4, g4⟩ | ⟨h4, g4⟩
        · have E := Lib.hid (hk.out.trans (by simp only [g4]; rfl : _ = (4 : Int)))
          clear g4
          go_wp2
          go_ret
          exact ⟨by rw [E.out]; rfl, HB.out⟩
        · cases b5
          · cases b6
            · rcases H7.out with ⟨h7, g7⟩ | ⟨h7, g7⟩
              · have E := Lib.hid (hk.out.trans (by rw [if_neg (by decide), if_neg (by decide), if_neg (by decide), if_neg g4, if_neg (by decide), if_neg (by decide), if_pos g7] : _ = (7 : Int)))
                clear g4 g7
                go_wp2
                go_ret
                exact ⟨by rw [E.out]; rfl, HB.out⟩
              · have E := Lib.hid (hk.out.trans (by rw [if_neg (by decide), if_neg (by decide), if_neg (by decide), if_neg g4, if_neg (by decide), if_neg (by decide), if_neg g7] : _ = (0 : Int)))
                clear g4 g7
                go_wp2
                go_ret
                exact ⟨by rw [E.out]; rfl, HB.out⟩
            · have E := Lib.hid (hk.out.trans (by rw [if_neg (by decide), if_neg (by decide), if_neg (by decide), if_neg g4, if_neg (by decide), if_pos rfl] : _ = (6 : Int)))
              clear g4
              go_wp2
              go_ret
              exact ⟨by rw [E.out]; rfl, HB.out⟩
          · have E := Lib.hid (hk.out.trans (by rw [if_neg (by decide), if_neg (by decide), if_neg (by decide), if_neg g4, if_pos rfl] : _ = (5 : Int)))
            clear g4
            go_wp2
            go_ret
            exact ⟨by rw [E.out]; rfl, HB.out⟩
      · have E := Lib.hid (hk.out.trans (by rfl : _ = (3 : Int)))
        go_wp2
        go_ret
        exact ⟨by rw [E.out]; rfl, HB.out⟩
    · have E := Lib.hid (hk.out.trans (by rfl : _ = (2 : Int)))
      go_wp2
      go_ret
      exact ⟨by rw [E.out]; rfl, HB.out⟩
  · have E := Lib.hid (hk.out.trans (by rfl : _ = (1 : Int)))
    go_wp2
    go_ret
    exact ⟨by rw [E.out]; rfl, HB.out⟩
end Go.Proofs.YtemfcaaoobjgkaaGreatDoor
