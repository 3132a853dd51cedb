/- The document's Decimal and Text at any record. -/
import Derived.Test.YteacjahncngoiaaDoorFaRef2
import Derived.Test.YteacjahncngoiaaDoorFaText2
import Derived.Laws.BytesArg
namespace Go.Proofs.YteacjahncngoiaaDoor
open Go.RowKit FA

theorem conv_top (w : World) (xs : List Int) :
    (convert 75 9 (.slice (some ⟨w.heap.size, 0, none⟩) xs.length xs.length)).run Tryd.prog (w.alloc (.cells (xs.map (Value.int .u8)).toArray 5)) = .ok (.string (strOfNums xs)) (w.alloc (.cells (xs.map (Value.int .u8)).toArray 5)) := by
  refine run_convert_bytes_arg _ 75 5 Tryd.underlying75 Tryd.underlying5 w.heap.size 0 xs.length xs.length xs rfl (fun i hi => ?_) 9 Tryd.underlying9
  rw [World.cell?_alloc_at _ _ _ _ rfl]
  simp [List.getD, List.getElem?_eq_getElem hi]
theorem conv1 (a : Int) (w : World) : (convert 75 9 (.slice (some ⟨w.heap.size, 0, none⟩) 1 1)).run Tryd.prog (w.alloc (.cells #[.int .u8 a] 5)) = .ok (.string (strOfNums [a])) (w.alloc (.cells #[.int .u8 a] 5)) := conv_top w [a]

/-- The string of bytes. -/
def bs (l : List UInt8) : ByteArray := ⟨l.toArray⟩
theorem bs_list (l : List UInt8) : (bs l).data.toList = l := by simp [bs]
theorem bs_size (l : List UInt8) : (bs l).size = l.length := by rw [show (bs l).size = (bs l).data.toList.length from Array.length_toList.symm, bs_list]
theorem bs_of {s : ByteArray} {l : List UInt8} (h : s.data.toList = l) : s = bs l := by
  apply ByteArray.ext
  rw [bs, ← h]
theorem app_list (a b : ByteArray) : (a ++ b).data.toList = a.data.toList ++ b.data.toList := by simp [ByteArray.data_append]
theorem size_list (a : ByteArray) : a.size = a.data.toList.length := Array.length_toList.symm
theorem dig_fin : ∀ n : Fin 10, strOfNums [48 + (n.val : Int)] = bs [UInt8.ofNat (48 + n.val)] := by decide +kernel
theorem dig (n : Nat) (h : n < 10) : strOfNums [48 + (n : Int)] = bs [UInt8.ofNat (48 + n)] := dig_fin ⟨n, h⟩

set_option maxHeartbeats 1000000 in
theorem rdec1 (n : Nat) (h : n < 10) (w : World) : Calls Tryd.prog 39 #[.int .i64 n] w fun e w' => e = .returned (.string (bs [UInt8.ofNat (48 + n)])) ∧ Below w.heap.size w w' := by
  have hd := Lib.hid (dig n h)
  have hc := conv1 (48 + (n : Int)) w
  have hn : (n : Int) < 10 := by omega
  go_enter Tryd.func39, Tryd.ntmps39
  go_wp2
  go_ret
  exact ⟨by rw [← hd.out]; rfl, (Below.refl _ _).alloc (Nat.le_refl _) _⟩

set_option maxHeartbeats 1000000 in
/-- A number from 10 on: the digits of its tenth, and its last one. -/
theorem rdec_step (n : Nat) (h0 : 10 ≤ n) (h : n < 256) (D : ByteArray) (hD : D.size ≤ 10) (w : World) (C : Calls Tryd.prog 39 #[.int .i64 ((n / 10 : Nat) : Int)] w fun e w' => e = .returned (.string D) ∧ Below w.heap.size w w') :
    Calls Tryd.prog 39 #[.int .i64 n] w fun e w' => e = .returned (.string (D ++ bs [UInt8.ofNat (48 + n % 10)])) ∧ Below w.heap.size w w' := by
  have hd := dig (n % 10) (by omega)
  rw [show (48 + ((n % 10 : Nat) : Int)) = 48 + (n : Int) % 10 by omega] at hd
  rw [show ((n / 10 : Nat) : Int) = (n : Int) / 10 by omega] at C
  have HC := Lib.hid C
  have hc := Lib.hid (conv1 (48 + (n : Int) % 10))
  have hsz := strOfNums_size
  have Hd := Lib.hid hd
  clear C hd
  go_enter Tryd.func39, Tryd.ntmps39
  go_wp2_with fail
  refine HC.out.mono ?_
  rintro e w1 ⟨rfl, b1⟩
  have B1 := Lib.hid b1
  have hc1 := hc.out w1
  clear b1 HC hc
  go_wp2
  go_ret
  exact ⟨by rw [← Hd.out]; rfl, B1.out.trans (((Below.refl _ _).alloc (Nat.le_refl _) _).mono B1.out.size)⟩

theorem rdec_any (n : Nat) (h : n < 256) (w : World) : Calls Tryd.prog 39 #[.int .i64 n] w fun e w' => e = .returned (.string (bs (dec n))) ∧ Below w.heap.size w w' := by
  unfold dec
  by_cases h1 : n < 10
  · rw [if_pos h1]; exact rdec1 n h1 w
  · rw [if_neg h1]
    by_cases h2 : n < 100
    · rw [if_pos h2]
      refine (rdec_step n (by omega) h _ (by rw [bs_size]; exact (by decide : 1 ≤ 10)) w (rdec1 (n / 10) (by omega) w)).mono ?_
      rintro e w' ⟨rfl, hb⟩
      exact ⟨rfl, hb⟩
    · rw [if_neg h2]
      have h3 : n / 10 / 10 = n / 100 := by omega
      have C2 := rdec_step (n / 10) (by omega) (by omega) _ (by rw [bs_size]; exact (by decide : 1 ≤ 10)) w (rdec1 (n / 10 / 10) (by omega) w)
      refine (rdec_step n (by omega) h _ (by rw [size_list, app_list, bs_list, bs_list]; exact (by decide : 2 ≤ 10)) w C2).mono ?_
      rintro e w' ⟨rfl, hb⟩
      rw [h3]
      exact ⟨rfl, hb⟩
end Go.Proofs.YteacjahncngoiaaDoor
