/- Properties' bytes, told plainly. No function of the program is named here. -/
import Derived.Test.YtemfcaaoobjgkaaGreatDoorPrRow
import Derived.Test.YtemfcaaoobjgkaaGreatDoorTxPut
import Derived.Test.YtemfcaaoobjgkaaGreatDoorVarPure
namespace Go.Proofs.YtemfcaaoobjgkaaGreatDoor
namespace PR

/-- In how many bytes the numbers of a kind stand. -/
def wd (k : Int) : Int := if k = 1 then 1 else if k = 2 then 2 else if k = 3 then 4 else 0
/-- The bytes of a pair, and the code beside them. -/
def pairC (s t : ByteArray) : Int := if TX.putC s ≠ 0 then TX.putC s else TX.putC t
def pairS (s t : ByteArray) : ByteArray := if TX.putC s ≠ 0 then ⟨#[]⟩ else if TX.putC t ≠ 0 then ⟨#[]⟩ else TX.putS s ++ TX.putS t
/-- The bytes of a value, and the code beside them. -/
def valS (p : Pr) : ByteArray := if kd p.id = 4 then strOfNums (VP.putL p.n) else if kd p.id = 5 then TX.dataS p.s else if kd p.id = 6 then TX.putS p.s else if kd p.id = 7 then pairS p.s p.t else strOfNums (VP.fixL (wd (kd p.id)) p.n)
def valC (p : Pr) : Int := if kd p.id = 4 then VP.putC p.n else if kd p.id = 5 then TX.dataC p.s else if kd p.id = 6 then TX.putC p.s else if kd p.id = 7 then pairC p.s p.t else VP.fixC (wd (kd p.id)) p.n
/-- Has one ahead the identifier, which isn't 38? -/
def dup (l : List Pr) (id : Int) : Bool := !(id == 38) && decide (0 ≤ ix id 0 l)
/-- What speaks against an identifier. -/
def idC (l : List Pr) (id : Int) : Int := if kd id = 0 then 129 else if dup l id = true then 130 else 0
/-- The code of one behind those ahead, its bytes. -/
def oneC (l : List Pr) (p : Pr) : Int := if idC l p.id ≠ 0 then idC l p.id else valC p
def oneS (p : Pr) : ByteArray := strOfNums (VP.putL p.id) ++ valS p
/-- From the property at k on: the code, if one has one. -/
def restC (l : List Pr) (k : Nat) : List Pr → Int
  | [] => 0
  | p :: r => if oneC (l.take k) p ≠ 0 then oneC (l.take k) p else restC l (k + 1) r
/-- The bytes of all. -/
def allS : List Pr → ByteArray
  | [] => ⟨#[]⟩
  | p :: r => oneS p ++ allS r
def putC (l : List Pr) : Int := if 64 < l.length then 149 else if restC l 0 l ≠ 0 then restC l 0 l else 0
def putS (l : List Pr) : ByteArray := if 64 < l.length then ⟨#[]⟩ else if restC l 0 l ≠ 0 then ⟨#[]⟩ else strOfNums (VP.putL (allS l).size) ++ allS l

theorem dataS_size (s : ByteArray) : (TX.dataS s).size ≤ 65537 := by
  unfold TX.dataS
  split
  · rw [ByteArray.size_append, strOfNums_size]; simp; omega
  · exact Nat.zero_le _
theorem putS_size (s : ByteArray) : (TX.putS s).size ≤ 65537 := by
  unfold TX.putS
  split
  · exact Nat.zero_le _
  · exact dataS_size s
theorem putL_len (n : Int) : (VP.putL n).length ≤ 4 := by
  unfold VP.putL
  repeat' split
  all_goals simp
theorem fixL_len (w n : Int) : (VP.fixL w n).length ≤ 4 := by
  unfold VP.fixL
  repeat' split
  all_goals simp
theorem pairS_size (s t : ByteArray) : (pairS s t).size ≤ 131074 := by
  unfold pairS
  split
  · exact Nat.zero_le _
  · split
    · exact Nat.zero_le _
    · rw [ByteArray.size_append]; have := putS_size s; have := putS_size t; omega
theorem valS_size (p : Pr) : (valS p).size ≤ 131074 := by
  unfold valS
  repeat' split
  · rw [strOfNums_size]; have := putL_len p.n; omega
  · have := dataS_size p.s; omega
  · have := putS_size p.s; omega
  · exact pairS_size _ _
  · rw [strOfNums_size]; have := fixL_len (wd (kd p.id)) p.n; omega
theorem oneS_size (p : Pr) : (oneS p).size ≤ 131078 := by
  unfold oneS
  rw [ByteArray.size_append, strOfNums_size]; have := valS_size p; have := putL_len p.id; omega
theorem allS_size : ∀ l : List Pr, (allS l).size ≤ 131078 * l.length
  | [] => Nat.zero_le _
  | p :: r => by
    rw [allS, ByteArray.size_append]
    have := allS_size r; have := oneS_size p
    simp only [List.length_cons]; omega
theorem pairC_le (s t : ByteArray) : 0 ≤ pairC s t ∧ pairC s t ≤ 149 := by
  have := TX.putC_le s; have := TX.putC_le t
  unfold pairC; split <;> omega
theorem dataC_le (s : ByteArray) : 0 ≤ TX.dataC s ∧ TX.dataC s ≤ 149 := by unfold TX.dataC; split <;> omega
theorem valC_le (p : Pr) : 0 ≤ valC p ∧ valC p ≤ 149 := by
  have := VP.putC_le p.n; have := dataC_le p.s; have := TX.putC_le p.s; have := pairC_le p.s p.t; have := VP.fixC_le (wd (kd p.id)) p.n
  unfold valC
  repeat' split
  all_goals omega
theorem idC_le (l : List Pr) (id : Int) : 0 ≤ idC l id ∧ idC l id ≤ 149 := by
  unfold idC
  repeat' split
  all_goals omega
theorem oneC_le (l : List Pr) (p : Pr) : 0 ≤ oneC l p ∧ oneC l p ≤ 149 := by
  have := idC_le l p.id; have := valC_le p
  unfold oneC; split <;> omega
theorem rest_at {l r : List Pr} {k : Nat} {p : Pr} (h : r[k]? = some p) (he : oneC (l.take k) p = 0) : restC l k (r.drop k) = restC l (k + 1) (r.drop (k + 1)) := by
  rw [prop_drop h, restC, if_neg (by simp [he])]
theorem rest_stop {l r : List Pr} {k : Nat} {p : Pr} (h : r[k]? = some p) (he : oneC (l.take k) p ≠ 0) : restC l k (r.drop k) = oneC (l.take k) p := by
  rw [prop_drop h, restC, if_pos he]
theorem rest_end (l r : List Pr) : restC l r.length (r.drop r.length) = 0 := by rw [List.drop_length]; rfl
theorem all_snoc (l : List Pr) (p : Pr) : allS (l ++ [p]) = allS l ++ oneS p := by
  induction l with
  | nil => exact ByteArray.ext (by simp [allS, ByteArray.data_append])
  | cons a l ih => rw [List.cons_append, allS, ih, allS, ByteArray.append_assoc]
end PR
end Go.Proofs.YtemfcaaoobjgkaaGreatDoor
