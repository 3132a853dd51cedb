/- Where bytes are no text: the program's function and the document's answer the same. -/
import Derived.Test.YtemfcaaoobjgkaaGreatDoorTxRef
import Derived.Laws.Slices
namespace Go.Proofs.YtemfcaaoobjgkaaGreatDoor
open Go.RowKit

namespace TX
/-- The place of the first byte that is no character's (0, if there is none). -/
def flt (s : ByteArray) : Nat := if fin s 0 = s.size then 0 else fin s 0
/-- Is there one? -/
def bad (s : ByteArray) : Bool := decide (fin s 0 ≠ s.size)
/-- A length, held to what there is. -/
def clamp (most : Int) (z : Nat) : Nat := (max 0 (min most z)).toNat
/-- Where the longest beginning ends that is a text of at most so many bytes. -/
def cutM (s : ByteArray) (most : Int) : Nat := fin (s.extract 0 (clamp most s.size)) 0

theorem clamp_le (most : Int) (z : Nat) : clamp most z ≤ z := by unfold clamp; omega
theorem size_take (s : ByteArray) (m : Nat) (h : m ≤ s.size) : (s.extract 0 m).size = m := by rw [ByteArray.size_extract]; omega
theorem cutM_le (s : ByteArray) (most : Int) : cutM s most ≤ clamp most s.size := by
  have h := (fin_le (s.extract 0 (clamp most s.size)) 0 (by omega)).2
  rw [size_take s _ (clamp_le _ _)] at h
  exact h
theorem bad_no {s : ByteArray} (h : fin s 0 = s.size) : bad s = false := by unfold bad; simp [h]
theorem bad_yes {s : ByteArray} (h : fin s 0 ≠ s.size) : bad s = true := by unfold bad; simp [h]
theorem flt_no {s : ByteArray} (h : fin s 0 = s.size) : flt s = 0 := by unfold flt; rw [if_pos h]
theorem flt_yes {s : ByteArray} (h : fin s 0 ≠ s.size) : flt s = fin s 0 := by unfold flt; rw [if_neg h]
end TX

theorem ret_ib {a c : Int} {b d : Bool} (h : a = c) (g : b = d) : Ending.returned (.tuple #[.int .i64 a, .bool b]) = .returned (.tuple #[.int .i64 c, .bool d]) := by rw [h, g]
theorem ret_string {a b : ByteArray} (h : a = b) : Ending.returned (.string a) = .returned (.string b) := by rw [h]

theorem fault_any (s : ByteArray) (hs : s.size ≤ 140737488351232) (w : World) (hT : Tabs w) :
    Calls Tryz.prog 111 #[.string s] w fun e w' => e = .returned (.tuple #[.int .i64 (TX.flt s), .bool (TX.bad s)]) ∧ Below w.heap.size w w' := by
  have C := begin_any s (by unfold maxLen; omega) w hT
  have hf := (TX.fin_le s 0 (by omega)).2
  by_cases h : TX.fin s 0 = s.size
  · rw [TX.flt_no h, TX.bad_no h]
    have e1 : (((TX.fin s 0 : Nat) : Int) == ((s.size : Nat) : Int)) = true := by rw [beq_iff_eq]; omega
    clear h
    generalize TX.fin s 0 = f at *
    go_enter Tryz.func111, Tryz.ntmps111
    go_wp2_with fail
    refine C.mono ?_
    rintro e w1 ⟨rfl, b1⟩
    go_wp2
    go_ret2
    exact ⟨rfl, b1⟩
  · rw [TX.flt_yes h, TX.bad_yes h]
    have e1 : (((TX.fin s 0 : Nat) : Int) == ((s.size : Nat) : Int)) = false := by rw [beq_eq_false_iff_ne]; omega
    clear h
    generalize TX.fin s 0 = f at *
    go_enter Tryz.func111, Tryz.ntmps111
    go_wp2_with fail
    refine C.mono ?_
    rintro e w1 ⟨rfl, b1⟩
    go_wp2
    go_ret2
    exact ⟨rfl, b1⟩

set_option maxHeartbeats 400000 in
theorem reffault_any (s : ByteArray) (hs : s.size ≤ 140737488351232) (w : World) :
    Calls Tryz.prog 124 #[.string s] w fun e w' => e = .returned (.tuple #[.int .i64 (TX.flt s), .bool (TX.bad s)]) ∧ w = w' := by
  go_enter Tryz.func124, Tryz.ntmps124
  go_wp2
  go_loop [4] (fun e => ∃ k : Nat, k ≤ s.size ∧ e = .int .i64 k ∧ Hid (TX.fin s k = TX.fin s 0)) (fun e => s.size - (intOf e).toNat)
  case atStart => exact ⟨0, by omega, rfl, Lib.hid rfl⟩
  case round =>
    obtain ⟨k, hk, rfl, hf⟩ := hrel
    by_cases hlt : k < s.size
    · have C := refchar_any s k hlt hs w
      by_cases h : TX.chr s k = 0
      · rw [h] at C
        have e1 : TX.fin s 0 ≠ s.size := by rw [← hf.out, TX.fin_no h]; omega
        have H := Lib.hid ((TX.flt_yes e1).trans (hf.out.symm.trans (TX.fin_no h)))
        have H2 := Lib.hid (TX.bad_yes e1)
        clear h e1
        go_wp2_with fail
        refine C.mono ?_
        rintro e w1 ⟨rfl, rfl⟩
        go_wp2
        go_ret2
        exact ⟨ret_ib (by rw [H.out]) H2.out.symm, rfl⟩
      · have H1 := Lib.hid (TX.fin_yes h)
        have hl := TX.chr_le s k hk
        have hp : 0 < TX.chr s k := by omega
        have h4 := TX.chr_four s k
        clear h
        generalize TX.chr s k = z at *
        have e1 : ((z : Int) == 0) = false := by rw [beq_eq_false_iff_ne]; omega
        go_wp2_with fail
        refine C.mono ?_
        rintro e w1 ⟨rfl, rfl⟩
        go_wp2
        go_round
        case rel => exact ⟨k + z, by omega, by go_num, Lib.hid (H1.out.symm.trans hf.out)⟩
        case measure => simp [intOf]; omega
    · have e1 : TX.fin s 0 = s.size := by rw [← hf.out, TX.fin_end (by omega)]; omega
      have H := Lib.hid (TX.flt_no e1)
      have H2 := Lib.hid (TX.bad_no e1)
      clear e1
      go_wp2
      go_ret2
      exact ⟨ret_ib (by rw [H.out]; rfl) H2.out.symm, rfl⟩

end Go.Proofs.YtemfcaaoobjgkaaGreatDoor
