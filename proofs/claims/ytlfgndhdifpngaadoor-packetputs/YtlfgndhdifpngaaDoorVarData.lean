/- Data: the program's and the document's functions answer the same; the law on them returns true. -/
import Derived.Test.YtlfgndhdifpngaaDoorVarFixed
import Derived.Test.YtlfgndhdifpngaaDoorVarRefRead
import Derived.Test.YtlfgndhdifpngaaDoorVarClone
import Derived.Laws.DeepStrings4
namespace Go.Proofs.YtlfgndhdifpngaaDoor
open Go.RowKit

set_option maxHeartbeats 400000 in
theorem data_any (s : ByteArray) (hs : s.size ≤ maxLen) (w : World) :
    Calls Tryd.prog 66 #[.string s] w fun e w' => e = .returned (.tuple #[.string (if s.size ≤ 65535 then strOfNums [(s.size : Int) / 256, (s.size : Int) % 256] ++ s else ⟨#[]⟩), .int .u8 (if s.size ≤ 65535 then 0 else 149)]) ∧ Below w.heap.size w w' := by
  unfold maxLen at hs
  by_cases h : s.size ≤ 65535
  · rw [if_pos h, if_pos h]
    have hf := Lib.hid (VP.fix_2 (n := (s.size : Int)) (by omega) (by omega)).1
    have hsz := strOfNums_size
    go_enter Tryd.func66, Tryd.ntmps66
    go_wp2_with fail
    refine (fixed_any 2 _ (by omega) (by omega) _).mono ?_
    rintro e w1 ⟨rfl, b1⟩
    rw [hf.out]
    go_wp2
    go_ret2
    exact ⟨rfl, b1⟩
  · rw [if_neg h, if_neg h]
    go_enter Tryd.func66, Tryd.ntmps66
    go_wp2
    go_ret2
    exact ⟨rfl, Below.refl _ _⟩

set_option maxHeartbeats 400000 in
theorem refdata_any (s : ByteArray) (hs : s.size ≤ maxLen) (w : World) :
    Calls Tryd.prog 73 #[.string s] w fun e w' => e = .returned (.tuple #[.string (if s.size ≤ 65535 then strOfNums [(s.size : Int) / 256, (s.size : Int) % 256] ++ s else ⟨#[]⟩), .int .i64 (if s.size ≤ 65535 then 0 else 149)]) ∧ Below w.heap.size w w' := by
  unfold maxLen at hs
  by_cases h : s.size ≤ 65535
  · rw [if_pos h, if_pos h]
    have hf := Lib.hid (VP.fix_2 (n := (s.size : Int)) (by omega) (by omega)).1
    have hsz := strOfNums_size
    go_enter Tryd.func73, Tryd.ntmps73
    go_wp2_with fail
    refine (reffixed_any 2 _ (by omega) (by omega) _).mono ?_
    rintro e w1 ⟨rfl, b1⟩
    rw [hf.out]
    go_wp2
    go_ret2
    exact ⟨rfl, b1⟩
  · rw [if_neg h, if_neg h]
    go_enter Tryd.func73, Tryd.ntmps73
    go_wp2
    go_ret2
    exact ⟨rfl, Below.refl _ _⟩

theorem slice_at (s : ByteArray) (k L : Nat) (h : k + 2 + L ≤ s.size) (w : World) :
    (Instr.slice 9 (.string s) (some (.int .i64 ((k : Int) + 2))) (some (.int .i64 ((k : Int) + 2 + (L : Int)))) none).run Tryd.prog w = .ok (.string (s.extract (k + 2) (k + 2 + L))) w := by
  rw [run_slice_string_if w 9 s .i64 .i64 _ _ Tryd.underlying9, if_pos (by omega), if_pos (by omega)]
  have e1 : ((k : Int) + 2).toNat = k + 2 := by omega
  have e2 : ((k : Int) + 2 + L).toNat = k + 2 + L := by omega
  rw [e1, e2]

end Go.Proofs.YtlfgndhdifpngaaDoor
