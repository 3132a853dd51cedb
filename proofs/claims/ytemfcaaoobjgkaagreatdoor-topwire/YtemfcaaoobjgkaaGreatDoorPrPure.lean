/- Properties as plain data: their kinds. No function of the program is named here. -/
import Derived.Lib.Hide
namespace Go.Proofs.YtemfcaaoobjgkaaGreatDoor
namespace PR

def l1 : List Int := [1, 23, 25, 36, 37, 40, 41, 42]
def l2 : List Int := [19, 33, 34, 35]
def l3 : List Int := [2, 17, 24, 39]
def l5 : List Int := [9, 22]
def l6 : List Int := [3, 8, 18, 21, 26, 28, 31]
/-- Is the number in the list? -/
def has (n : Int) : List Int → Bool
  | [] => false
  | a :: l => a == n || has n l
/-- The kind of an identifier. -/
def kd (id : Int) : Int := if has id l1 = true then 1 else if has id l2 = true then 2 else if has id l3 = true then 3 else if id = 11 then 4 else if has id l5 = true then 5 else if has id l6 = true then 6 else if id = 38 then 7 else 0

theorem drop_at {l : List Int} {k : Nat} {x : Int} (h : l[k]? = some x) : l.drop k = x :: l.drop (k + 1) := by
  obtain ⟨hk, he⟩ := List.getElem?_eq_some_iff.1 h
  rw [List.drop_eq_getElem_cons hk, he]
theorem has_yes {n x : Int} {l : List Int} {k : Nat} (h : l[k]? = some x) (he : (x == n) = true) : has n (l.drop k) = true := by rw [drop_at h, has, he]; rfl
theorem has_no {n x : Int} {l : List Int} {k : Nat} (h : l[k]? = some x) (he : (x == n) = false) : has n (l.drop k) = has n (l.drop (k + 1)) := by rw [drop_at h, has, he]; rfl
theorem has_end (n : Int) (l : List Int) : has n (l.drop l.length) = false := by rw [List.drop_length]; rfl
theorem kd_le (id : Int) : 0 ≤ kd id ∧ kd id ≤ 7 := by
  unfold kd
  repeat' split
  all_goals omega
/-- An identifier of none of the kinds is another one than all of these. -/
theorem kd_none {id : Int} (h : id < 0 ∨ 42 < id) : kd id = 0 := by
  have hh : ∀ l : List Int, (∀ x ∈ l, 0 ≤ x ∧ x ≤ 42) → has id l = false := by
    intro l
    induction l with
    | nil => intro _; rfl
    | cons a l ih =>
      intro hl
      have h1 := hl a (.head _)
      rw [has, ih (fun x hx => hl x (.tail _ hx)), show (a == id) = false by rw [beq_eq_false_iff_ne]; omega]
      rfl
  unfold kd
  rw [hh l1 (by decide), hh l2 (by decide), hh l3 (by decide), hh l5 (by decide), hh l6 (by decide)]
  rw [if_neg (by decide), if_neg (by decide), if_neg (by decide), if_neg (by omega), if_neg (by decide), if_neg (by decide), if_neg (by omega)]
end PR
end Go.Proofs.YtemfcaaoobjgkaaGreatDoor
