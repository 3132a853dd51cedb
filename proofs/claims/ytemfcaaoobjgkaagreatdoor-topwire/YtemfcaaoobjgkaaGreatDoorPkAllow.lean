/- Which properties a packet may have: the program's and the document's answer. -/
import Derived.Test.YtemfcaaoobjgkaaGreatDoorProg
import Derived.Test.YtemfcaaoobjgkaaGreatDoorPkPure
import Derived.Below
import Derived.WalkKit
namespace Go.Proofs.YtemfcaaoobjgkaaGreatDoor
open Go.RowKit

/-- A row of numbers, at a place or none. -/
def NumsO (w : World) (A : Option Addr) (l : List Int) : Prop := ∀ (i : Nat) x, l[i]? = some x → ∃ g, A = some ⟨g, 0, none⟩ ∧ w.cell? ⟨g, i, none⟩ = some (.int .i64 x)
theorem numsO_new (w : World) (l : List Int) (t : TypeId) : NumsO (w.alloc (.cells (l.map (Value.int .i64)).toArray t)) (some ⟨w.heap.size, 0, none⟩) l := by
  intro i x hx
  refine ⟨w.heap.size, rfl, ?_⟩
  rw [World.cell?_alloc_at _ _ _ _ rfl]
  simp [hx]
theorem numsO_nil (w : World) (A : Option Addr) : NumsO w A [] := fun i x hx => by simp at hx

set_option maxHeartbeats 1000000 in
theorem sindex_any (n : Int) (A : Option Addr) (cap : Nat) (l : List Int) (w : World) (hl : l.length ≤ 100) (hc : NumsO w A l) :
    Calls Tryz.prog 142 #[.slice A l.length cap, .int .i64 n] w fun e w' => e = .returned (.int .i64 (PK.ixn n 0 l)) ∧ w = w' := by
  have H := Lib.hid hc
  clear hc
  go_enter Tryz.func142, Tryz.ntmps142
  go_wp2
  go_loop [8] (fun i => ∃ k : Nat, i = .int .i64 k ∧ k ≤ l.length ∧ Hid (PK.ixn n k (l.drop k) = PK.ixn n 0 l)) (fun i => l.length - (intOf i).toNat)
  case atStart => exact ⟨0, rfl, by omega, Lib.hid rfl⟩
  case round =>
    obtain ⟨k, rfl, hk, hk1⟩ := hrel
    by_cases hlt : k < l.length
    · obtain ⟨x, hx⟩ : ∃ x, l[k]? = some x := ⟨l[k], List.getElem?_eq_getElem hlt⟩
      obtain ⟨g, rfl, c1⟩ := H.out k x hx
      by_cases he : (n == x) = true
      · have E1 := Lib.hid (PK.ixn_yes hx he)
        clear hx
        go_wp2
        go_ret
        exact ⟨by rw [← hk1.out, E1.out]; rfl, rfl⟩
      · have he' : (n == x) = false := by simpa using he
        have E1 := Lib.hid (PK.ixn_no hx he')
        clear hx he
        go_wp2
        go_round
        case rel => exact ⟨k + 1, by go_num, by omega, Lib.hid (by rw [← E1.out]; exact hk1.out)⟩
        case measure => simp [intOf]; omega
    · have hkl : k = l.length := by omega
      subst hkl
      have E1 := Lib.hid (PK.ixn_end n l)
      go_wp2
      go_ret
      exact ⟨by rw [← hk1.out, E1.out]; rfl, rfl⟩
theorem contains_any (n : Int) (A : Option Addr) (cap : Nat) (l : List Int) (w : World) (hl : l.length ≤ 100) (hc : NumsO w A l) :
    Calls Tryz.prog 128 #[.slice A l.length cap, .int .i64 n] w fun e w' => e = .returned (.bool (PR.has n l)) ∧ w = w' := by
  have C := Lib.hid (sindex_any n A cap l w hl hc)
  have E := Lib.hid (PK.ixn_has n l 0)
  clear hc
  generalize PK.ixn n 0 l = x at *
  go_enter Tryz.func128, Tryz.ntmps128
  go_wp2_with fail
  refine C.out.mono ?_
  rintro e w' ⟨rfl, rfl⟩
  clear C
  go_wp2
  go_ret
  exact ⟨by rw [← E.out]; rfl, rfl⟩

/-- What tells the identifiers answers. -/
def IdsP (k : Int) (w : World) (e : Ending) (w' : World) : Prop := ∃ A, e = .returned (.slice A (PK.ids k).length (PK.ids k).length) ∧ NumsO w' A (PK.ids k) ∧ Below w.heap.size w w'
theorem idsP_new {k : Int} {l : List Int} (h : PK.ids k = l) {n : Nat} (hn : n = l.length) (w : World) (t : TypeId) {cs : Array Value} (hc : cs = (l.map (Value.int .i64)).toArray) : IdsP k w (.returned (.slice (some ⟨w.heap.size, 0, none⟩) n n)) (w.alloc (.cells cs t)) := by
  subst hc hn
  exact ⟨_, by rw [h], by rw [h]; exact numsO_new w l t, (Below.refl _ _).alloc (Nat.le_refl _) _⟩
set_option maxRecDepth 100000 in
set_option maxHeartbeats 4000000 in
theorem ids_small (k : Nat) (hk : k ≤ 15) (w : World) : Calls Tryz.prog 129 #[.int .i64 (k : Int)] w (IdsP k w) := by
  have h : k = 0 ∨ k = 1 ∨ k = 2 ∨ k = 3 ∨ k = 4 ∨ k = 5 ∨ k = 6 ∨ k = 7 ∨ k = 8 ∨ k = 9 ∨ k = 10 ∨ k = 11 ∨ k = 12 ∨ k = 13 ∨ k = 14 ∨ k = 15 := by omega
  rcases h with rfl | rfl | rfl | rfl | rfl | rfl | rfl | rfl | rfl | rfl | rfl | rfl | rfl | rfl | rfl | rfl
  all_goals
    go_enter Tryz.func129, Tryz.ntmps129
    go_wp2
    go_ret
    first
      | exact idsP_new rfl rfl w _ rfl
      | exact ⟨none, rfl, numsO_nil _ _, Below.refl _ _⟩
theorem ids_any (k : Int) (w : World) : Calls Tryz.prog 129 #[.int .i64 k] w (IdsP k w) := by
  by_cases h : k < 0 ∨ 15 < k
  · have h0 : ∀ c : Int, 0 ≤ c → c ≤ 15 → (k == c) = false := fun c h1 h2 => by rw [beq_eq_false_iff_ne]; omega
    have e0 := h0 0 (by decide) (by decide); have e1 := h0 1 (by decide) (by decide); have e2 := h0 2 (by decide) (by decide); have e3 := h0 3 (by decide) (by decide); have e4 := h0 4 (by decide) (by decide); have e5 := h0 5 (by decide) (by decide)
    have e6 := h0 6 (by decide) (by decide); have e7 := h0 7 (by decide) (by decide); have e8 := h0 8 (by decide) (by decide); have e9 := h0 9 (by decide) (by decide); have e10 := h0 10 (by decide) (by decide); have e11 := h0 11 (by decide) (by decide)
    have e14 := h0 14 (by decide) (by decide); have e15 := h0 15 (by decide) (by decide)
    have HI := Lib.hid (PK.ids_out h)
    clear h0 h
    go_enter Tryz.func129, Tryz.ntmps129
    go_wp2
    go_ret
    exact ⟨none, by rw [HI.out]; rfl, by rw [HI.out]; exact numsO_nil _ _, Below.refl _ _⟩
  · obtain ⟨m, rfl⟩ := Int.eq_ofNat_of_zero_le (show 0 ≤ k by omega)
    exact ids_small m (by omega) w
theorem allowed_any (k id : Int) (w : World) :
    Calls Tryz.prog 110 #[.int .i64 k, .int .i64 id] w fun e w' => e = .returned (.bool (PK.al k id)) ∧ Below w.heap.size w w' := by
  have C := Lib.hid (ids_any k w)
  have C2 := Lib.hid (contains_any id · (PK.ids k).length (PK.ids k) · (by have := PK.ids_len k; omega))
  have E : Hid (PK.al k id = PR.has id (PK.ids k)) := rfl
  have hn := PK.ids_len k
  unfold IdsP at C
  generalize PK.al k id = b at *
  generalize PK.ids k = l at *
  go_enter Tryz.func110, Tryz.ntmps110
  go_wp2_with fail
  refine C.out.mono ?_
  rintro e w1 ⟨A, rfl, hN, b1⟩
  have C3 := Lib.hid (C2.out A w1 hN)
  have B1 := Lib.hid b1
  clear C C2 hN b1
  go_wp2_with fail
  refine C3.out.mono ?_
  rintro e w2 ⟨rfl, rfl⟩
  clear C3
  go_wp2
  go_ret
  exact ⟨by rw [E.out]; rfl, B1.out⟩

/-! The document's. -/
set_option maxHeartbeats 1000000 in
theorem in5_any (n : Int) (g cap : Nat) (l : List Int) (w : World) (hl : l.length ≤ 100) (hc : NumsO w (some ⟨g, 0, none⟩) l) :
    Calls Tryz.prog 136 #[.int .i64 n, .slice (some ⟨g, 0, none⟩) l.length cap] w fun e w' => e = .returned (.bool (PR.has n l)) ∧ w = w' := by
  have H := Lib.hid hc
  clear hc
  go_enter Tryz.func136, Tryz.ntmps136
  go_wp2
  go_loop [5] (fun i => ∃ k : Nat, i = .int .i64 k ∧ k ≤ l.length ∧ Hid (PR.has n (l.drop k) = PR.has n l)) (fun i => l.length - (intOf i).toNat)
  case atStart => exact ⟨0, rfl, by omega, Lib.hid rfl⟩
  case round =>
    obtain ⟨k, rfl, hk, hk1⟩ := hrel
    by_cases hlt : k < l.length
    · obtain ⟨x, hx⟩ : ∃ x, l[k]? = some x := ⟨l[k], List.getElem?_eq_getElem hlt⟩
      obtain ⟨g', hg', c1⟩ := H.out k x hx
      obtain rfl : g = g' := by injection hg' with hg'; injection hg'
      by_cases he : (x == n) = true
      · have E1 := Lib.hid (PR.has_yes hx he)
        clear hx hg'
        go_wp2
        go_ret
        exact ⟨by rw [← hk1.out, E1.out]; rfl, rfl⟩
      · have he' : (x == n) = false := by simpa using he
        have E1 := Lib.hid (PR.has_no hx he')
        clear hx he hg'
        go_wp2
        go_round
        case rel => exact ⟨k + 1, by go_num, by omega, Lib.hid (by rw [← E1.out]; exact hk1.out)⟩
        case measure => simp [intOf]; omega
    · have hkl : k = l.length := by omega
      subst hkl
      have E1 := Lib.hid (PR.has_end n l)
      go_wp2
      go_ret
      exact ⟨by rw [← hk1.out, E1.out]; rfl, rfl⟩
theorem in5_new (n : Int) (l : List Int) (w : World) (hl : l.length ≤ 100) {cs : Array Value} (hc : cs = (l.map (Value.int .i64)).toArray) {m : Nat} (hm : m = l.length) :
    Calls Tryz.prog 136 #[.int .i64 n, .slice (some ⟨w.heap.size, 0, none⟩) m m] (w.alloc (.cells cs 3)) fun e w' => e = .returned (.bool (PR.has n l)) ∧ w.alloc (.cells cs 3) = w' := by
  subst hc hm
  exact in5_any n w.heap.size l.length l _ hl (numsO_new w l _)
theorem ret_bool {a b : Bool} (h : a = b) : Ending.returned (.bool a) = .returned (.bool b) := by rw [h]

/-- A kind whose identifiers the document lists. -/
def RAl (k : Int) (id : Int) (w : World) : Prop := Calls Tryz.prog 123 #[.int .i64 k, .int .i64 id] w fun e w' => e = .returned (.bool (PK.al k id)) ∧ Below w.heap.size w w'
set_option maxRecDepth 100000 in
set_option maxHeartbeats 4000000 in
theorem ral_list (k : Nat) (hk : k = 0 ∨ k = 1 ∨ k = 3 ∨ k = 14 ∨ k = 15) (id : Int) (w : World) : RAl k id w := by
  unfold RAl
  rcases hk with rfl | rfl | rfl | rfl | rfl
  · go_enter Tryz.func123, Tryz.ntmps123
    go_wp2_with fail
    refine (in5_new id [1, 2, 3, 8, 9, 24, 38] w (by decide) rfl rfl).mono ?_
    rintro e w' ⟨rfl, rfl⟩
    go_wp2
    go_ret
    exact ⟨rfl, (Below.refl _ _).alloc (Nat.le_refl _) _⟩
  · go_enter Tryz.func123, Tryz.ntmps123
    go_wp2_with fail
    refine (in5_new id [17, 21, 22, 23, 25, 33, 34, 38, 39] w (by decide) rfl rfl).mono ?_
    rintro e w' ⟨rfl, rfl⟩
    go_wp2
    go_ret
    exact ⟨rfl, (Below.refl _ _).alloc (Nat.le_refl _) _⟩
  · go_enter Tryz.func123, Tryz.ntmps123
    go_wp2_with fail
    refine (in5_new id [1, 2, 3, 8, 9, 11, 35, 38] w (by decide) rfl rfl).mono ?_
    rintro e w' ⟨rfl, rfl⟩
    go_wp2
    go_ret
    exact ⟨rfl, (Below.refl _ _).alloc (Nat.le_refl _) _⟩
  · go_enter Tryz.func123, Tryz.ntmps123
    go_wp2_with fail
    refine (in5_new id [17, 28, 31, 38] w (by decide) rfl rfl).mono ?_
    rintro e w' ⟨rfl, rfl⟩
    go_wp2
    go_ret
    exact ⟨rfl, (Below.refl _ _).alloc (Nat.le_refl _) _⟩
  · go_enter Tryz.func123, Tryz.ntmps123
    go_wp2_with fail
    refine (in5_new id [21, 22, 31, 38] w (by decide) rfl rfl).mono ?_
    rintro e w' ⟨rfl, rfl⟩
    go_wp2
    go_ret
    exact ⟨rfl, (Below.refl _ _).alloc (Nat.le_refl _) _⟩
set_option maxRecDepth 100000 in
set_option maxHeartbeats 4000000 in
theorem ral_conn (id : Int) (w : World) : RAl 2 id w := by
  unfold RAl
  have C := Lib.hid (in5_new id [17, 18, 19, 21, 22, 26, 28, 31, 33, 34] w (by decide) rfl rfl)
  have E := Lib.hid (PK.al_2 id)
  generalize PR.has id [17, 18, 19, 21, 22, 26, 28, 31, 33, 34] = b at *
  generalize PK.al 2 id = c at *
  cases b
  · by_cases h1 : 36 ≤ id
    · go_enter Tryz.func123, Tryz.ntmps123
      go_wp2_with fail
      refine C.out.mono ?_
      rintro e w' ⟨rfl, rfl⟩
      go_wp2
      go_ret
      exact ⟨ret_bool (by rw [E.out]; simp; omega), (Below.refl _ _).alloc (Nat.le_refl _) _⟩
    · go_enter Tryz.func123, Tryz.ntmps123
      go_wp2_with fail
      refine C.out.mono ?_
      rintro e w' ⟨rfl, rfl⟩
      go_wp2
      go_ret
      exact ⟨ret_bool (by rw [E.out]; simp; omega), (Below.refl _ _).alloc (Nat.le_refl _) _⟩
  · go_enter Tryz.func123, Tryz.ntmps123
    go_wp2_with fail
    refine C.out.mono ?_
    rintro e w' ⟨rfl, rfl⟩
    go_wp2
    go_ret
    exact ⟨ret_bool (by rw [E.out]; rfl), (Below.refl _ _).alloc (Nat.le_refl _) _⟩
set_option maxRecDepth 100000 in
set_option maxHeartbeats 4000000 in
theorem ral_two (k : Nat) (hk : k = 4 ∨ k = 5 ∨ k = 6 ∨ k = 7 ∨ k = 9 ∨ k = 11) (id : Int) (w : World) : RAl k id w := by
  unfold RAl
  have E : Hid (PK.al k id = (id == 31 || id == 38)) := by
    rcases hk with rfl | rfl | rfl | rfl | rfl | rfl <;> exact PK.has_2 id 31 38
  generalize PK.al k id = c at *
  rcases hk with rfl | rfl | rfl | rfl | rfl | rfl
  all_goals
    by_cases h : (id == 31) = true
    · go_enter Tryz.func123, Tryz.ntmps123
      go_wp2
      go_ret
      exact ⟨ret_bool (by rw [E.out, h]; rfl), Below.refl _ _⟩
    · have h' : (id == 31) = false := by simpa using h
      clear h
      go_enter Tryz.func123, Tryz.ntmps123
      go_wp2
      go_ret
      exact ⟨ret_bool (by rw [E.out, h']; rfl), Below.refl _ _⟩
set_option maxRecDepth 100000 in
set_option maxHeartbeats 4000000 in
theorem ral_few (k : Nat) (hk : k = 8 ∨ k = 10 ∨ k = 12 ∨ k = 13) (id : Int) (w : World) : RAl k id w := by
  unfold RAl
  rcases hk with rfl | rfl | rfl | rfl
  · have E : Hid (PK.al 8 id = (id == 11 || id == 38)) := PK.has_2 id 11 38
    show Calls Tryz.prog 123 #[.int .i64 8, .int .i64 id] w fun e w' => e = .returned (.bool (PK.al 8 id)) ∧ Below w.heap.size w w'
    generalize PK.al 8 id = c at *
    by_cases h : (id == 11) = true
    · go_enter Tryz.func123, Tryz.ntmps123
      go_wp2
      go_ret
      exact ⟨ret_bool (by rw [E.out, h]; rfl), Below.refl _ _⟩
    · have h' : (id == 11) = false := by simpa using h
      clear h
      go_enter Tryz.func123, Tryz.ntmps123
      go_wp2
      go_ret
      exact ⟨ret_bool (by rw [E.out, h']; rfl), Below.refl _ _⟩
  · have E : Hid (PK.al 10 id = (id == 38)) := PK.has_1 id 38
    show Calls Tryz.prog 123 #[.int .i64 10, .int .i64 id] w fun e w' => e = .returned (.bool (PK.al 10 id)) ∧ Below w.heap.size w w'
    generalize PK.al 10 id = c at *
    go_enter Tryz.func123, Tryz.ntmps123
    go_wp2
    go_ret
    exact ⟨ret_bool (by rw [E.out]), Below.refl _ _⟩
  · go_enter Tryz.func123, Tryz.ntmps123
    go_wp2
    go_ret
    exact ⟨rfl, Below.refl _ _⟩
  · go_enter Tryz.func123, Tryz.ntmps123
    go_wp2
    go_ret
    exact ⟨rfl, Below.refl _ _⟩
theorem rallowed_any (k id : Int) (w : World) :
    Calls Tryz.prog 123 #[.int .i64 k, .int .i64 id] w fun e w' => e = .returned (.bool (PK.al k id)) ∧ Below w.heap.size w w' := by
  by_cases h : k < 0 ∨ 15 < k
  · have h0 : ∀ c : Int, 0 ≤ c → c ≤ 15 → (k == c) = false := fun c h1 h2 => by rw [beq_eq_false_iff_ne]; omega
    have e0 := h0 0 (by decide) (by decide); have e1 := h0 1 (by decide) (by decide); have e2 := h0 2 (by decide) (by decide); have e3 := h0 3 (by decide) (by decide); have e4 := h0 4 (by decide) (by decide); have e5 := h0 5 (by decide) (by decide)
    have e6 := h0 6 (by decide) (by decide); have e7 := h0 7 (by decide) (by decide); have e8 := h0 8 (by decide) (by decide); have e9 := h0 9 (by decide) (by decide); have e10 := h0 10 (by decide) (by decide); have e11 := h0 11 (by decide) (by decide)
    have e14 := h0 14 (by decide) (by decide); have e15 := h0 15 (by decide) (by decide)
    have HI : Hid (PK.al k id = false) := Lib.hid (by unfold PK.al; rw [PK.ids_out h]; rfl)
    generalize PK.al k id = c at *
    clear h0 h
    go_enter Tryz.func123, Tryz.ntmps123
    go_wp2
    go_ret
    exact ⟨ret_bool HI.out.symm, Below.refl _ _⟩
  · obtain ⟨m, rfl⟩ := Int.eq_ofNat_of_zero_le (show 0 ≤ k by omega)
    have hm : m = 2 ∨ (m = 0 ∨ m = 1 ∨ m = 3 ∨ m = 14 ∨ m = 15) ∨ (m = 4 ∨ m = 5 ∨ m = 6 ∨ m = 7 ∨ m = 9 ∨ m = 11) ∨ (m = 8 ∨ m = 10 ∨ m = 12 ∨ m = 13) := by omega
    rcases hm with rfl | hm | hm | hm
    · exact ral_conn id w
    · exact ral_list m hm id w
    · exact ral_two m hm id w
    · exact ral_few m hm id w
end Go.Proofs.YtemfcaaoobjgkaaGreatDoor
