/- Properties' bytes, told plainly. No function of the program is named here. -/
import Derived.Test.YtemfcaaoobjgkaaGreatDoorPrRow
import Derived.Test.YtemfcaaoobjgkaaGreatDoorTxPut
import Derived.Test.YtemfcaaoobjgkaaGreatDoorVarPure
namespace Go.Proofs.YtemfcaaoobjgkaaGreatDoor
namespace PR

/-- In how many bytes the numbers of a kind stand. -/
def wd (k : Int) : Int := if k = 1 then 1 else if k = 2 then 2 else if k = 3 then 4 else 0
/-- The bytes of a pair, and the code beside them. -/
def pairC (s t : ByteArray) : Int := if TX.putC s ≠ 0 then TX.putC s else TX.putC t
def pairS (s t : ByteArray) : ByteArray := if TX.putC s ≠ 0 then ⟨#[]⟩ else if TX.putC t ≠ 0 then ⟨#[]⟩ else TX.putS s ++ TX.putS t
/-- The bytes of a value, and the code beside them. -/
def valS (p : Pr) : ByteArray := if kd p.id = 4 then strOfNums (VP.putL p.n) else if kd p.id = 5 then TX.dataS p.s else if kd p.id = 6 then TX.putS p.s else if kd p.id = 7 then pairS p.s p.t else strOfNums (VP.fixL (wd (kd p.id)) p.n)
def valC (p : Pr) : Int := if kd p.id = 4 then VP.putC p.n else if kd p.id = 5 then TX.dataC p.s else if kd p.id = 6 then TX.putC p.s else if kd p.id = 7 then pairC p.s p.t else VP.fixC (wd (kd p.id)) p.n
/-- Has one ahead the identifier, which isn't 38? -/
def dup (l : List Pr) (id : Int) : Bool := !(id == 38) && decide (0 ≤ ix id 0 l)
/-- What speaks against an identifier. -/
def idC (l : List Pr) (id : Int) : Int := if kd id = 0 then 129 else if dup l id = true then 130 else 0
/-- The code of one behind those ahead, its bytes. -/
def oneC (l : List Pr) (p : Pr) : Int := if idC l p.id ≠ 0 then idC l p.id else valC p
def oneS (p : Pr) : ByteArray := strOfNums (VP.putL p.id) ++ valS p
/-- From the property at k on: the code, if one has one. -/
def restC (l : List Pr) (k : Nat) : List Pr → Int
  | [] => 0
  | p :: r => if oneC (l.take k) p ≠ 0 then oneC (l.take k) p else restC l (k + 1) r
/-- The bytes of all. -/
def allS : List Pr → ByteArray
  | [] => ⟨#[]⟩
  | p :: r => oneS p ++ allS r
def putC (l : List Pr) : Int := if 64 < l.length then 149 else if restC l 0 l ≠ 0 then restC l 0 l else 0
def putS (l : List Pr) : ByteArray := if 64 < l.length then ⟨#[]⟩ else if restC l 0 l ≠ 0 then ⟨#[]⟩ else strOfNums (VP.putL (allS l).size) ++ allS l

theorem idC_le (l : List Pr) (id : Int) : 0 ≤ idC l id ∧ idC l id ≤ 149 := by
  unfold idC
  repeat' split
  all_goals omega
end PR
end Go.Proofs.YtemfcaaoobjgkaaGreatDoor
