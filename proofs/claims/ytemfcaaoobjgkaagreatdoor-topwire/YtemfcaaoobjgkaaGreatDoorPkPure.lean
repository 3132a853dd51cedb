/- Which properties a packet may have: told plainly. No function of the program is named here. -/
import Derived.Test.YtemfcaaoobjgkaaGreatDoorPrPure
namespace Go.Proofs.YtemfcaaoobjgkaaGreatDoor
namespace PK

/-- The identifiers of the properties that packets of a kind (or a will, of 0) may have. -/
def ids (k : Int) : List Int :=
  if k = 0 then [1, 2, 3, 8, 9, 24, 38] else if k = 1 then [17, 21, 22, 23, 25, 33, 34, 38, 39]
  else if k = 2 then [17, 18, 19, 21, 22, 26, 28, 31, 33, 34, 36, 37, 38, 39, 40, 41, 42] else if k = 3 then [1, 2, 3, 8, 9, 11, 35, 38]
  else if k = 4 ∨ k = 5 ∨ k = 6 ∨ k = 7 ∨ k = 9 ∨ k = 11 then [31, 38] else if k = 8 then [11, 38] else if k = 10 then [38]
  else if k = 14 then [17, 28, 31, 38] else if k = 15 then [21, 22, 31, 38] else []
/-- May a packet of the kind have the property? -/
def al (k id : Int) : Bool := PR.has id (ids k)
theorem ids_len (k : Int) : (ids k).length ≤ 17 := by
  unfold ids
  repeat' split
  all_goals decide
theorem ids_out {k : Int} (h : k < 0 ∨ 15 < k) : ids k = [] := by
  unfold ids
  rw [if_neg (by omega), if_neg (by omega), if_neg (by omega), if_neg (by omega), if_neg (by omega), if_neg (by omega), if_neg (by omega), if_neg (by omega), if_neg (by omega)]
theorem has_app (n : Int) : ∀ a b : List Int, PR.has n (a ++ b) = (PR.has n a || PR.has n b)
  | [], b => by simp [PR.has]
  | x :: a, b => by rw [List.cons_append, PR.has, PR.has, has_app n a b, Bool.or_assoc]
theorem has_more (n : Int) : PR.has n [36, 37, 38, 39, 40, 41, 42] = (decide (36 ≤ n) && decide (n ≤ 42)) := by
  rw [Bool.eq_iff_iff]
  simp only [PR.has, Bool.or_eq_true, beq_iff_eq, Bool.and_eq_true, decide_eq_true_eq, Bool.or_false]
  omega
theorem al_2 (id : Int) : al 2 id = (PR.has id [17, 18, 19, 21, 22, 26, 28, 31, 33, 34] || (decide (36 ≤ id) && decide (id ≤ 42))) := by
  rw [← has_more, ← has_app]; rfl
theorem has_2 (n a b : Int) : PR.has n [a, b] = (n == a || n == b) := by
  rw [Bool.eq_iff_iff]
  simp only [PR.has, Bool.or_eq_true, beq_iff_eq, Bool.or_false]
  omega
theorem has_1 (n a : Int) : PR.has n [a] = (n == a) := by
  rw [Bool.eq_iff_iff]
  simp only [PR.has, beq_iff_eq, Bool.or_false]
  omega
/-- Where a number stands first. -/
def ixn (n : Int) (k : Nat) : List Int → Int
  | [] => -1
  | a :: l => if (n == a) = true then (k : Int) else ixn n (k + 1) l
theorem ixn_has (n : Int) : ∀ (l : List Int) (k : Nat), decide (0 ≤ ixn n k l) = PR.has n l
  | [], k => rfl
  | a :: l, k => by
    unfold ixn PR.has
    by_cases h : n = a
    · subst h; simp
    · rw [if_neg (by simp [h]), ixn_has n l (k + 1)]
      have : (a == n) = false := by rw [beq_eq_false_iff_ne]; exact fun e => h e.symm
      rw [this]; rfl
theorem ixn_yes {n x : Int} {l : List Int} {k : Nat} (h : l[k]? = some x) (he : (n == x) = true) : ixn n k (l.drop k) = k := by rw [PR.drop_at h, ixn, if_pos he]
theorem ixn_no {n x : Int} {l : List Int} {k : Nat} (h : l[k]? = some x) (he : (n == x) = false) : ixn n k (l.drop k) = ixn n (k + 1) (l.drop (k + 1)) := by rw [PR.drop_at h, ixn, if_neg (by rw [he]; decide)]
theorem ixn_end (n : Int) (l : List Int) : ixn n l.length (l.drop l.length) = -1 := by rw [List.drop_length]; rfl
end PK
end Go.Proofs.YtemfcaaoobjgkaaGreatDoor
