/- Put and Get of texts: the program's functions and the document's answer the same. -/
import Derived.Test.YtemfcaaoobjgkaaGreatDoorTxFault
import Derived.Test.YtemfcaaoobjgkaaGreatDoorVarData
namespace Go.Proofs.YtemfcaaoobjgkaaGreatDoor
open Go.RowKit

namespace TX
/-- The bytes of data. -/
def dataS (s : ByteArray) : ByteArray := if s.size ≤ 65535 then strOfNums [(s.size : Int) / 256, (s.size : Int) % 256] ++ s else ⟨#[]⟩
def dataC (s : ByteArray) : Int := if s.size ≤ 65535 then 0 else 149
/-- The bytes of a text, and the code beside them. -/
def putS (s : ByteArray) : ByteArray := if bad s = true then ⟨#[]⟩ else dataS s
def putC (s : ByteArray) : Int := if bad s = true then 129 else dataC s
/-- The text at a place, the place behind it, the code. -/
def getT (s : ByteArray) (at_ : Int) : ByteArray × Int × Int :=
  if (VP.dat s at_).2.2 ≠ 0 then (⟨#[]⟩, 0, (VP.dat s at_).2.2) else if bad (VP.dat s at_).1 = true then (⟨#[]⟩, 0, 129) else ((VP.dat s at_).1, (VP.dat s at_).2.1, 0)

theorem putC_le (s : ByteArray) : 0 ≤ putC s ∧ putC s ≤ 149 := by
  unfold putC dataC
  split
  · omega
  · split <;> omega
theorem getT_code (s : ByteArray) (at_ : Int) : 0 ≤ (getT s at_).2.2 ∧ (getT s at_).2.2 ≤ 242 := by
  have := VP.dat_code s at_
  unfold getT
  split
  · exact this
  · split
    · exact ⟨by decide, by decide⟩
    · exact ⟨Int.le_refl 0, (by decide : (0 : Int) ≤ 242)⟩
theorem dat_size (s : ByteArray) (at_ : Int) (b : Nat) (h : s.size ≤ b) : (VP.dat s at_).1.size ≤ b := by
  unfold VP.dat
  split
  · split
    · exact Nat.zero_le _
    · simp only [ByteArray.size_extract]; omega
  · exact Nat.zero_le _
end TX

set_option maxHeartbeats 400000 in
theorem tput_any (s : ByteArray) (hs : s.size ≤ 140737488351232) (w : World) (hT : Tabs w) :
    Calls Tryz.prog 85 #[.string s] w fun e w' => e = .returned (.tuple #[.string (TX.putS s), .int .u8 (TX.putC s)]) ∧ Below w.heap.size w w' := by
  have C := fault_any s hs w hT
  have D := fun w' => data_any s (by unfold maxLen; omega) w'
  rw [show (if s.size ≤ 65535 then strOfNums [(s.size : Int) / 256, (s.size : Int) % 256] ++ s else ⟨#[]⟩) = TX.dataS s from rfl, show (if s.size ≤ 65535 then (0 : Int) else 149) = TX.dataC s from rfl] at D
  unfold TX.putS TX.putC
  generalize TX.bad s = b at *
  generalize TX.flt s = f at *
  generalize TX.dataS s = ds at *
  generalize TX.dataC s = dc at *
  cases b
  · rw [if_neg (by decide), if_neg (by decide)]
    go_enter Tryz.func85, Tryz.ntmps85
    go_wp2_with fail
    refine C.mono ?_
    rintro e w1 ⟨rfl, b1⟩
    go_wp2_with fail
    refine (D _).mono ?_
    rintro e w2 ⟨rfl, b2⟩
    go_wp2
    go_ret2
    exact ⟨rfl, b1.trans (b2.mono b1.size)⟩
  · rw [if_pos rfl, if_pos rfl]
    clear D
    go_enter Tryz.func85, Tryz.ntmps85
    go_wp2_with fail
    refine C.mono ?_
    rintro e w1 ⟨rfl, b1⟩
    go_wp2
    go_ret2
    exact ⟨rfl, b1⟩

set_option maxHeartbeats 400000 in
theorem tget_any (s : ByteArray) (at_ : Int) (hs : s.size ≤ 140737488351232) (w : World) (hT : Tabs w) :
    Calls Tryz.prog 117 #[.string s, .int .i64 at_] w fun e w' => e = .returned (.tuple #[.string (TX.getT s at_).1, .int .i64 (TX.getT s at_).2.1, .int .u8 (TX.getT s at_).2.2]) ∧ Below w.heap.size w w' := by
  have C := getdata_any s at_ (by unfold maxLen; omega) w
  have D := fun w' (b : Below w.heap.size w w') => fault_any (VP.dat s at_).1 (TX.dat_size s at_ _ hs) w' (hT.below b)
  unfold TX.getT
  generalize VP.dat s at_ = d at *
  obtain ⟨x, to, c⟩ := d
  simp only at C D ⊢
  by_cases hc : c = 0
  · subst hc
    rw [if_neg (by decide)]
    generalize TX.bad x = b at *
    generalize TX.flt x = f at *
    cases b
    · rw [if_neg (by decide)]
      simp only
      go_enter Tryz.func117, Tryz.ntmps117
      go_wp2_with fail
      refine C.mono ?_
      rintro e w1 ⟨rfl, b1⟩
      go_wp2_with fail
      refine (D _ b1).mono ?_
      rintro e w2 ⟨rfl, b2⟩
      go_wp2
      go_ret3
      exact ⟨rfl, b1.trans (b2.mono b1.size)⟩
    · rw [if_pos rfl]
      simp only
      go_enter Tryz.func117, Tryz.ntmps117
      go_wp2_with fail
      refine C.mono ?_
      rintro e w1 ⟨rfl, b1⟩
      go_wp2_with fail
      refine (D _ b1).mono ?_
      rintro e w2 ⟨rfl, b2⟩
      go_wp2
      go_ret3
      exact ⟨rfl, b1.trans (b2.mono b1.size)⟩
  · rw [if_pos hc]
    have hne : (c != 0) = true := by rw [bne_iff_ne]; exact hc
    clear hc D
    simp only
    go_enter Tryz.func117, Tryz.ntmps117
    go_wp2_with fail
    refine C.mono ?_
    rintro e w1 ⟨rfl, b1⟩
    go_wp2
    go_ret3
    exact ⟨rfl, b1⟩

set_option maxHeartbeats 400000 in
theorem reftget_any (s : ByteArray) (at_ : Int) (hs : s.size ≤ 140737488351232) (w : World) :
    Calls Tryz.prog 103 #[.string s, .int .i64 at_] w fun e w' => e = .returned (.tuple #[.string (TX.getT s at_).1, .int .i64 (TX.getT s at_).2.1, .int .i64 (TX.getT s at_).2.2]) ∧ Below w.heap.size w w' := by
  have C := refgetdata_any s at_ (by unfold maxLen; omega) w
  have D := fun w' => reffault_any (VP.dat s at_).1 (TX.dat_size s at_ _ hs) w'
  unfold TX.getT
  generalize VP.dat s at_ = d at *
  obtain ⟨x, to, c⟩ := d
  simp only at C D ⊢
  by_cases hc : c = 0
  · subst hc
    rw [if_neg (by decide)]
    generalize TX.bad x = b at *
    generalize TX.flt x = f at *
    cases b
    · rw [if_neg (by decide)]
      simp only
      go_enter Tryz.func103, Tryz.ntmps103
      go_wp2_with fail
      refine C.mono ?_
      rintro e w1 ⟨rfl, b1⟩
      go_wp2_with fail
      refine (D _).mono ?_
      rintro e w2 ⟨rfl, rfl⟩
      go_wp2
      go_ret3
      exact ⟨rfl, b1⟩
    · rw [if_pos rfl]
      simp only
      go_enter Tryz.func103, Tryz.ntmps103
      go_wp2_with fail
      refine C.mono ?_
      rintro e w1 ⟨rfl, b1⟩
      go_wp2_with fail
      refine (D _).mono ?_
      rintro e w2 ⟨rfl, rfl⟩
      go_wp2
      go_ret3
      exact ⟨rfl, b1⟩
  · rw [if_pos hc]
    have hne : (c != 0) = true := by rw [bne_iff_ne]; exact hc
    clear hc D
    simp only
    go_enter Tryz.func103, Tryz.ntmps103
    go_wp2_with fail
    refine C.mono ?_
    rintro e w1 ⟨rfl, b1⟩
    go_wp2
    go_ret3
    exact ⟨rfl, b1⟩

end Go.Proofs.YtemfcaaoobjgkaaGreatDoor
