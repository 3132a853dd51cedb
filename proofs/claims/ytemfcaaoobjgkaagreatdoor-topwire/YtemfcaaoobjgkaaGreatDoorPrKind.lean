/- The kinds of identifiers: the program's and the document's. -/
import Derived.Test.YtemfcaaoobjgkaaGreatDoorProg
import Derived.Test.YtemfcaaoobjgkaaGreatDoorPrPure
import Derived.Below
import Derived.WalkKit
namespace Go.Proofs.YtemfcaaoobjgkaaGreatDoor
open Go.RowKit

set_option maxRecDepth 100000 in
set_option maxHeartbeats 4000000 in
theorem kind_small (k : Nat) (hk : k ≤ 42) (w : World) : Calls Tryz.prog 138 #[.int .i64 (k : Int)] w fun e w' => e = .returned (.int .i64 (PR.kd (k : Int))) ∧ w = w' := by
  have h : k = 0 ∨ k = 1 ∨ k = 2 ∨ k = 3 ∨ k = 4 ∨ k = 5 ∨ k = 6 ∨ k = 7 ∨ k = 8 ∨ k = 9 ∨ k = 10 ∨ k = 11 ∨ k = 12 ∨ k = 13 ∨ k = 14 ∨ k = 15 ∨ k = 16 ∨ k = 17 ∨ k = 18 ∨ k = 19 ∨ k = 20 ∨ k = 21 ∨ k = 22 ∨ k = 23 ∨ k = 24 ∨ k = 25 ∨ k = 26 ∨ k = 27 ∨ k = 28 ∨ k = 29 ∨ k = 30 ∨ k = 31 ∨ k = 32 ∨ k = 33 ∨ k = 34 ∨ k = 35 ∨ k = 36 ∨ k = 37 ∨ k = 38 ∨ k = 39 ∨ k = 40 ∨ k = 41 ∨ k = 42 := by omega
  rcases h with rfl | rfl | rfl | rfl | rfl | rfl | rfl | rfl | rfl | rfl | rfl | rfl | rfl | rfl | rfl | rfl | rfl | rfl | rfl | rfl | rfl | rfl | rfl | rfl | rfl | rfl | rfl | rfl | rfl | rfl | rfl | rfl | rfl | rfl | rfl | rfl | rfl | rfl | rfl | rfl | rfl | rfl | rfl
  all_goals
    go_enter Tryz.func138, Tryz.ntmps138
    go_wp2
    go_ret
    exact ⟨rfl, rfl⟩

theorem kind_any (id : Int) (w : World) : Calls Tryz.prog 138 #[.int .i64 id] w fun e w' => e = .returned (.int .i64 (PR.kd id)) ∧ w = w' := by
  by_cases h : id < 0 ∨ 42 < id
  · rw [PR.kd_none h]
    have h0 : ∀ c : Int, 0 ≤ c → c ≤ 42 → (id == c) = false := fun c h1 h2 => by rw [beq_eq_false_iff_ne]; omega
    have e1 := h0 1 (by decide) (by decide); have e2 := h0 2 (by decide) (by decide); have e3 := h0 3 (by decide) (by decide); have e8 := h0 8 (by decide) (by decide); have e9 := h0 9 (by decide) (by decide); have e11 := h0 11 (by decide) (by decide)
    have e17 := h0 17 (by decide) (by decide); have e18 := h0 18 (by decide) (by decide); have e19 := h0 19 (by decide) (by decide); have e21 := h0 21 (by decide) (by decide); have e22 := h0 22 (by decide) (by decide); have e23 := h0 23 (by decide) (by decide)
    have e24 := h0 24 (by decide) (by decide); have e25 := h0 25 (by decide) (by decide); have e26 := h0 26 (by decide) (by decide); have e28 := h0 28 (by decide) (by decide); have e31 := h0 31 (by decide) (by decide)
    have e33 := h0 33 (by decide) (by decide); have e34 := h0 34 (by decide) (by decide); have e35 := h0 35 (by decide) (by decide); have e36 := h0 36 (by decide) (by decide); have e37 := h0 37 (by decide) (by decide); have e38 := h0 38 (by decide) (by decide)
    have e39 := h0 39 (by decide) (by decide); have e40 := h0 40 (by decide) (by decide); have e41 := h0 41 (by decide) (by decide); have e42 := h0 42 (by decide) (by decide)
    clear h0 h
    go_enter Tryz.func138, Tryz.ntmps138
    go_wp2
    go_ret
    exact ⟨rfl, rfl⟩
  · obtain ⟨k, rfl⟩ : ∃ k : Nat, id = (k : Int) := ⟨id.toNat, by omega⟩
    exact kind_small k (by omega) w

/-- A row of numbers. -/
def Nums (w : World) (g : Nat) (l : List Int) : Prop := ∀ (i : Nat) x, l[i]? = some x → w.cell? ⟨g, i, none⟩ = some (.int .i64 x)
theorem nums_new (w : World) (l : List Int) (t : TypeId) : Nums (w.alloc (.cells (l.map (Value.int .i64)).toArray t)) w.heap.size l := by
  intro i x hx
  rw [World.cell?_alloc_at _ _ _ _ rfl]
  simp [hx]

set_option maxHeartbeats 1000000 in
theorem in_any (n : Int) (g cap : Nat) (l : List Int) (w : World) (hl : l.length ≤ 100) (hc : Nums w g l) :
    Calls Tryz.prog 134 #[.int .i64 n, .slice (some ⟨g, 0, none⟩) l.length cap] w fun e w' => e = .returned (.bool (PR.has n l)) ∧ w = w' := by
  have H := Lib.hid hc
  clear hc
  go_enter Tryz.func134, Tryz.ntmps134
  go_wp2
  go_loop [5] (fun i => ∃ k : Nat, i = .int .i64 k ∧ k ≤ l.length ∧ Hid (PR.has n (l.drop k) = PR.has n l)) (fun i => l.length - (intOf i).toNat)
  case atStart => exact ⟨0, rfl, by omega, Lib.hid rfl⟩
  case round =>
    obtain ⟨k, rfl, hk, hk1⟩ := hrel
    by_cases hlt : k < l.length
    · obtain ⟨x, hx⟩ : ∃ x, l[k]? = some x := ⟨l[k], List.getElem?_eq_getElem hlt⟩
      have c1 := H.out k x hx
      by_cases he : (x == n) = true
      · have E1 := Lib.hid (PR.has_yes hx he)
        clear hx
        go_wp2
        go_ret
        exact ⟨by rw [← hk1.out, E1.out]; rfl, rfl⟩
      · have he' : (x == n) = false := by simpa using he
        have E1 := Lib.hid (PR.has_no hx he')
        clear hx he
        go_wp2
        go_round
        case rel => exact ⟨k + 1, by go_num, by omega, Lib.hid (by rw [← E1.out]; exact hk1.out)⟩
        case measure => simp [intOf]; omega
    · have hkl : k = l.length := by omega
      subst hkl
      have E1 := Lib.hid (PR.has_end n l)
      go_wp2
      go_ret
      exact ⟨by rw [← hk1.out, E1.out]; rfl, rfl⟩
end Go.Proofs.YtemfcaaoobjgkaaGreatDoor
