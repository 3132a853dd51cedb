/- The library's decoder, laid at this program; the tables that it reads stay as they are. -/
import Derived.Test.YtemfcaaoobjgkaaGreatDoorProg
import Derived.Test.YtemfcaaoobjgkaaGreatDoorTxPure
import Derived.Shelf.Unicode.DecodeAny
import Derived.WalkKit
import Derived.Below
import Derived.Lib.Hide
import Derived.KernelRfl
namespace Go.Proofs.YtemfcaaoobjgkaaGreatDoor
open Go.Shelf Go.RowKit

def decRen : Ren := ⟨fun x => if x = 197 then 147 else 150, fun x => if x = 0 then 0 else if x = 3 then 3 else if x = 4 then 4 else if x = 5 then 5 else if x = 9 then 9 else if x = 21 then 21 else if x = 46 then 92 else if x = 105 then 199 else if x = 119 then 206 else if x = 138 then 208 else 209, fun x => if x = 3 then 0 else 1⟩

theorem decLays : Lays.n197 Tryz.prog decRen where
  mixed := by kernel_rfl
  f197 := by kernel_rfl
  f260 := by kernel_rfl
  g3 := by kernel_rfl
  g4 := by kernel_rfl
  t119 := by kernel_rfl
  a119 := fun _ => by kernel_rfl
  z119 := fun _ => by kernel_rfl
  t0 := by kernel_rfl
  a0 := fun _ => by kernel_rfl
  z0 := fun _ => by kernel_rfl
  v0 := fun _ => by kernel_rfl
  t3 := by kernel_rfl
  a3 := fun _ => by kernel_rfl
  z3 := fun _ => by kernel_rfl
  v3 := fun _ => by kernel_rfl
  t4 := by kernel_rfl
  a4 := fun _ => by kernel_rfl
  z4 := fun _ => by kernel_rfl
  v4 := fun _ => by kernel_rfl
  t5 := by kernel_rfl
  a5 := fun _ => by kernel_rfl
  z5 := fun _ => by kernel_rfl
  v5 := fun _ => by kernel_rfl
  t9 := by kernel_rfl
  a9 := fun _ => by kernel_rfl
  z9 := fun _ => by kernel_rfl
  v9 := fun _ => by kernel_rfl
  t21 := by kernel_rfl
  a21 := fun _ => by kernel_rfl
  z21 := fun _ => by kernel_rfl
  v21 := fun _ => by kernel_rfl
  t46 := by kernel_rfl
  a46 := fun _ => by kernel_rfl
  z46 := fun _ => by kernel_rfl
  v46 := fun _ => by kernel_rfl
  t105 := by kernel_rfl
  a105 := fun _ => by kernel_rfl
  z105 := fun _ => by kernel_rfl
  v105 := fun _ => by kernel_rfl
  t138 := by kernel_rfl
  a138 := fun _ => by kernel_rfl
  z138 := fun _ => by kernel_rfl
  v138 := fun _ => by kernel_rfl
  t139 := by kernel_rfl
  a139 := fun _ => by kernel_rfl
  z139 := fun _ => by kernel_rfl
  v139 := fun _ => by kernel_rfl

/-- The decoder's two tables hold what their initialisers lay. -/
def Tabs (w : World) : Prop := Lib.Utf8Tabs 0 1 w

theorem block_lt {w : World} {b o : Nat} {v : Value} (h : w.cell? ⟨b, o, none⟩ = some v) : b < w.heap.size := by
  apply Classical.byContradiction
  intro hb
  unfold World.cell? at h
  rw [Array.getElem?_eq_none (show w.heap.size ≤ b by omega)] at h
  simp at h

theorem Tabs.below {w w' : World} (h : Tabs w) (hb : Below w.heap.size w w') : Tabs w' := by
  obtain ⟨h1, h2⟩ := h
  have l1 := block_lt (h1 0 (by omega))
  have l2 := block_lt (h2 0 (by omega)).1
  refine ⟨fun c hc => ?_, fun i hi => ⟨?_, ?_⟩⟩
  · rw [hb.cell (p := ⟨_, _, none⟩) l1]; exact h1 c hc
  · rw [hb.cell (p := ⟨_, _, none⟩) l2]; exact (h2 i hi).1
  · rw [hb.cell (p := ⟨_, _, none⟩) l2]; exact (h2 i hi).2

theorem dec_any (s : ByteArray) (w : World) (hT : Tabs w) :
    Calls Tryz.prog 147 #[.string s] w fun e w' => e = .returned (.tuple #[.int .i32 (Lib.decodeGo s).1, .int .i64 (Lib.decodeGo s).2]) ∧ Below w.heap.size w w' :=
  Any.utf8_DecodeRuneInString decLays s w hT

namespace TX
theorem dec_by (s : ByteArray) (h : 0 < s.size) : Lib.decodeGo s = Lib.decodeN s.size (by_ s 0) (by_ s 1) (by_ s 2) (by_ s 3) := by
  unfold Lib.decodeGo
  rw [if_neg (by omega), Lib.decode_at]
  rfl

theorem chr_by (s : ByteArray) (h : 0 < s.size) : chr s 0 = cl s.size (by_ s 0) (by_ s 1) (by_ s 2) (by_ s 3) := by
  unfold chr
  rw [if_pos h]
  rfl

theorem dec_no (s : ByteArray) (h : chr s 0 = 0) : (Lib.decodeGo s).1 = 0 ∨ ((Lib.decodeGo s).1 = 65533 ∧ (Lib.decodeGo s).2 ≤ 1) := by
  by_cases hz : 0 < s.size
  · rw [dec_by s hz]
    rw [chr_by s hz] at h
    rcases cl_dec s.size (by_ s 0) (by_ s 1) (by_ s 2) (by_ s 3) (by_lt _ _) (by_lt _ _) (by_lt _ _) (by_lt _ _) with ⟨_, h1 | ⟨h1, h2⟩⟩ | ⟨h1, _⟩
    · exact .inl h1
    · exact .inr ⟨h1, by omega⟩
    · exact absurd h h1
  · have e : s.size = 0 := by omega
    unfold Lib.decodeGo
    rw [if_pos e]
    exact .inr ⟨rfl, by decide⟩

theorem dec_yes (s : ByteArray) (h : chr s 0 ≠ 0) : (Lib.decodeGo s).2 = chr s 0 ∧ 0 < (Lib.decodeGo s).1 ∧ (Lib.decodeGo s).1 ≤ 1114111 ∧ ((Lib.decodeGo s).1 = 65533 → 1 < chr s 0) := by
  have hz := chr_lt h
  rw [dec_by s hz, chr_by s hz]
  rw [chr_by s hz] at h
  rcases cl_dec s.size (by_ s 0) (by_ s 1) (by_ s 2) (by_ s 3) (by_lt _ _) (by_lt _ _) (by_lt _ _) (by_lt _ _) with ⟨h1, _⟩ | ⟨_, h1⟩
  · exact absurd h1 h
  · exact h1
end TX

theorem ret_two {a b c d : Int} (h : a = c) (g : b = d) : Ending.returned (.tuple #[.int .i32 a, .int .i64 b]) = .returned (.tuple #[.int .i32 c, .int .i64 d]) := by rw [h, g]

set_option maxHeartbeats 400000 in
theorem first_no (s : ByteArray) (h : TX.chr s 0 = 0) (w : World) (hT : Tabs w) :
    Calls Tryz.prog 143 #[.string s] w fun e w' => e = .returned (.tuple #[.int .i32 (-1), .int .i64 0]) ∧ Below w.heap.size w w' := by
  have hd := TX.dec_no s h
  clear h
  have C := dec_any s w hT
  generalize Lib.decodeGo s = d at hd C
  obtain ⟨r, z⟩ := d
  simp only at hd C
  rcases hd with rfl | ⟨rfl, hz⟩
  · go_enter Tryz.func143, Tryz.ntmps143
    go_wp2_with fail
    refine C.mono ?_
    rintro e w1 ⟨rfl, b1⟩
    go_wp2
    go_ret2
    exact ⟨rfl, b1⟩
  · have hz' : decide ((z : Int) ≤ 1) = true := decide_eq_true (by omega)
    go_enter Tryz.func143, Tryz.ntmps143
    go_wp2_with fail
    refine C.mono ?_
    rintro e w1 ⟨rfl, b1⟩
    go_wp2
    go_ret2
    exact ⟨rfl, b1⟩

set_option maxHeartbeats 400000 in
theorem first_yes (s : ByteArray) (h : TX.chr s 0 ≠ 0) (w : World) (hT : Tabs w) :
    Calls Tryz.prog 143 #[.string s] w fun e w' => e = .returned (.tuple #[.int .i32 (Lib.decodeGo s).1, .int .i64 (TX.chr s 0)]) ∧ Below w.heap.size w w' := by
  obtain ⟨h1, h2, h3, h4⟩ := TX.dec_yes s h
  have C := dec_any s w hT
  rw [h1] at C
  clear h h1
  generalize (Lib.decodeGo s).1 = r at *
  generalize TX.chr s 0 = z at *
  have e0 : ((r : Int) == 0) = false := by rw [beq_eq_false_iff_ne]; omega
  by_cases hr : r = 65533
  · have hz := h4 hr
    subst hr
    have hz' : decide ((z : Int) ≤ 1) = false := decide_eq_false (by omega)
    clear h4
    go_enter Tryz.func143, Tryz.ntmps143
    go_wp2_with fail
    refine C.mono ?_
    rintro e w1 ⟨rfl, b1⟩
    go_wp2
    go_ret2
    exact ⟨rfl, b1⟩
  · have e1 : ((r : Int) == 65533) = false := by rw [beq_eq_false_iff_ne]; omega
    clear h4 hr
    go_enter Tryz.func143, Tryz.ntmps143
    go_wp2_with fail
    refine C.mono ?_
    rintro e w1 ⟨rfl, b1⟩
    go_wp2
    go_ret2
    exact ⟨rfl, b1⟩

end Go.Proofs.YtemfcaaoobjgkaaGreatDoor
