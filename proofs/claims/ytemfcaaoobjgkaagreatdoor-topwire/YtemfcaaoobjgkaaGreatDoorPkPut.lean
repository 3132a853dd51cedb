/- Packets' bytes, told plainly. No function of the program is named here. -/
import Derived.Test.YtemfcaaoobjgkaaGreatDoorPrPut
import Derived.Test.YtemfcaaoobjgkaaGreatDoorPkPure
namespace Go.Proofs.YtemfcaaoobjgkaaGreatDoor

/-- One filter of a Subscribe. -/
structure Sb where
  f : ByteArray
  q : Int
  nl : Bool
  ap : Bool
  h : Int
/-- A packet as plain data. -/
structure Pk where
  kind : Int
  dup : Bool
  ret : Bool
  qos : Int
  id : Int
  topic : ByteArray
  pay : ByteArray
  code : Int
  codes : List Int
  props : List Pr
  client : ByteArray
  clean : Bool
  keep : Int
  hasWill : Bool
  wtopic : ByteArray
  wpay : ByteArray
  wqos : Int
  wret : Bool
  wprops : List Pr
  hasUser : Bool
  hasPass : Bool
  user : ByteArray
  pass : ByteArray
  session : Bool
  subs : List Sb
  filters : List ByteArray

namespace PK
/-- Bytes so far, and the first code; beside a code the bytes count for nothing. -/
def ad (o : ByteArray × Int) (s : ByteArray) (c : Int) : ByteArray × Int := if o.2 ≠ 0 then o else if c ≠ 0 then (⟨#[]⟩, c) else (o.1 ++ s, 0)
def rf (o : ByteArray × Int) (c : Int) : ByteArray × Int := ad o ⟨#[]⟩ c
def nm (o : ByteArray × Int) (w n : Int) : ByteArray × Int := ad o (strOfNums (VP.fixL w n)) (VP.fixC w n)
def tx (o : ByteArray × Int) (s : ByteArray) : ByteArray × Int := ad o (TX.putS s) (TX.putC s)
def dt (o : ByteArray × Int) (s : ByteArray) : ByteArray × Int := ad o (TX.dataS s) (TX.dataC s)
/-- May a packet of the kind have all of these? -/
def alAll (k : Int) (l : List Pr) : Bool := l.all fun p => al k p.id
def pr (o : ByteArray × Int) (k : Int) (l : List Pr) : ByteArray × Int := if alAll k l = true then ad o (PR.putS l) (PR.putC l) else rf (ad o (PR.putS l) (PR.putC l)) 130
def idd (o : ByteArray × Int) (n : Int) : ByteArray × Int := nm (if n < 1 ∨ 65535 < n then rf o 130 else o) 2 n
def isQ (n : Int) : Bool := decide (0 ≤ n) && decide (n ≤ 2)
def fl (b : Bool) (n : Int) : Int := if b = true then n else 0
def subN (s : Sb) : Int := s.q + fl s.nl 4 + fl s.ap 8 + 16 * s.h
def sub (o : ByteArray × Int) (s : Sb) : ByteArray × Int := if isQ s.q && isQ s.h then nm (tx o s.f) 1 (subN s) else rf (tx o s.f) 129
def head (o : ByteArray × Int) (p : Pk) : ByteArray × Int := pr (idd o p.id) p.kind p.props
def ending (o : ByteArray × Int) (p : Pk) : ByteArray × Int := if p.code = 0 ∧ p.props = [] then o else if p.props = [] then nm o 1 p.code else pr (nm o 1 p.code) p.kind p.props
/-- What a list has: at least one, at most 64. -/
def eachO {α : Type} (o : ByteArray × Int) (l : List α) (f : ByteArray × Int → α → ByteArray × Int) : ByteArray × Int := if l.length = 0 then rf o 130 else if 64 < l.length then rf o 149 else l.foldl f o
def cflagsN (p : Pk) : Int := fl p.clean 2 + fl p.hasPass 64 + fl p.hasUser 128 + if p.hasWill = true then 4 + 8 * p.wqos + fl p.wret 32 else 0
def cflags (o : ByteArray × Int) (p : Pk) : ByteArray × Int := if p.hasWill && !isQ p.wqos then rf o 129 else nm o 1 (cflagsN p)
def conn1 (o : ByteArray × Int) (p : Pk) : ByteArray × Int := tx (pr (nm (cflags (nm (tx o ⟨#[77, 81, 84, 84]⟩) 1 5) p) 2 p.keep) 1 p.props) p.client
def conn2 (o : ByteArray × Int) (p : Pk) : ByteArray × Int := if p.hasWill = true then dt (tx (pr o 0 p.wprops) p.wtopic) p.wpay else o
def conn3 (o : ByteArray × Int) (p : Pk) : ByteArray × Int := if p.hasUser = true then tx o p.user else o
def conn4 (o : ByteArray × Int) (p : Pk) : ByteArray × Int := if p.hasPass = true then dt o p.pass else o
def conn (o : ByteArray × Int) (p : Pk) : ByteArray × Int := conn4 (conn3 (conn2 (conn1 o p) p) p) p
def pub1 (o : ByteArray × Int) (p : Pk) : ByteArray × Int := if 0 < p.qos then idd (tx o p.topic) p.id else tx o p.topic
def pub (o : ByteArray × Int) (p : Pk) : ByteArray × Int := ad (pr (pub1 o p) p.kind p.props) p.pay 0
/-- What follows the length. -/
def parts (o : ByteArray × Int) (p : Pk) : ByteArray × Int :=
  if p.kind = 1 then conn o p
  else if p.kind = 2 then pr (nm (nm o 1 (fl p.session 1)) 1 p.code) p.kind p.props
  else if p.kind = 3 then pub o p
  else if p.kind = 8 then eachO (head o p) p.subs sub
  else if p.kind = 10 then eachO (head o p) p.filters tx
  else if p.kind = 9 ∨ p.kind = 11 then eachO (head o p) p.codes (fun o c => nm o 1 c)
  else if p.kind = 4 ∨ p.kind = 5 ∨ p.kind = 6 ∨ p.kind = 7 then ending (idd o p.id) p
  else if p.kind = 14 ∨ p.kind = 15 then ending o p else o
def canPub (p : Pk) : Bool := isQ p.qos && (decide (0 < p.qos) || !p.dup)
/-- The flags of the first byte. -/
def flagsN (p : Pk) : Int := if p.kind = 3 then fl p.dup 8 + 2 * p.qos + fl p.ret 1 else if p.kind = 6 ∨ p.kind = 8 ∨ p.kind = 10 then 2 else 0
def flagsO (p : Pk) : ByteArray × Int := if p.kind = 3 ∧ canPub p = false then (⟨#[]⟩, 129) else (⟨#[]⟩, 0)
def bodyO (p : Pk) : ByteArray × Int := parts (flagsO p) p
def putC (p : Pk) : Int := if p.kind < 1 ∨ 15 < p.kind then 129 else if (bodyO p).2 ≠ 0 then (bodyO p).2 else if 65536 < (bodyO p).1.size then 149 else 0
def putS (p : Pk) : ByteArray := if putC p ≠ 0 then ⟨#[]⟩ else strOfNums (VP.fixL 1 (16 * p.kind + flagsN p)) ++ strOfNums (VP.putL (bodyO p).1.size) ++ (bodyO p).1

theorem ad_bad {o : ByteArray × Int} (h : o.2 ≠ 0) (s : ByteArray) (c : Int) : ad o s c = o := by unfold ad; rw [if_pos h]
theorem ad_code {o : ByteArray × Int} (h : o.2 = 0) (s : ByteArray) {c : Int} (hc : c ≠ 0) : ad o s c = (⟨#[]⟩, c) := by unfold ad; rw [if_neg (by simp [h]), if_pos hc]
theorem ad_ok {o : ByteArray × Int} (h : o.2 = 0) (s : ByteArray) : ad o s 0 = (o.1 ++ s, 0) := by unfold ad; rw [if_neg (by simp [h]), if_neg (by simp)]
theorem ad_nil (o : ByteArray × Int) : ad o ⟨#[]⟩ 0 = o := by
  unfold ad
  split
  · rfl
  · rename_i h
    have h' : o.2 = 0 := by simpa using h
    rw [if_neg (by simp)]
    refine Prod.ext ?_ h'.symm
    exact ByteArray.ext (by simp [ByteArray.data_append])
theorem ad_keep (o : ByteArray × Int) (s : ByteArray) (c : Int) (h : o.2 ≠ 0) : (ad o s c).2 ≠ 0 := by rw [ad_bad h]; exact h
theorem nm_bad {o : ByteArray × Int} (h : o.2 ≠ 0) (w n : Int) : nm o w n = o := ad_bad h _ _
theorem rf_bad {o : ByteArray × Int} (h : o.2 ≠ 0) (c : Int) : rf o c = o := ad_bad h _ _
theorem rf_code (o : ByteArray × Int) {c : Int} (hc : c ≠ 0) : (rf o c).2 ≠ 0 := by
  unfold rf
  by_cases h : o.2 = 0
  · rw [ad_code h _ hc]; exact hc
  · rw [ad_bad h]; exact h
theorem nm_rf (o : ByteArray × Int) {c : Int} (hc : c ≠ 0) (w n : Int) : nm (rf o c) w n = rf o c := nm_bad (rf_code o hc) w n
end PK
end Go.Proofs.YtemfcaaoobjgkaaGreatDoor
