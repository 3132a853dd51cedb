/- The bytes of one property behind those ahead of it. -/
import Derived.Test.YtemfcaaoobjgkaaGreatDoorPrPutFn
import Derived.Test.YtemfcaaoobjgkaaGreatDoorPrBld
namespace Go.Proofs.YtemfcaaoobjgkaaGreatDoor
open Go.RowKit

theorem dup_38 (l : List Pr) : PR.dup l 38 = false := rfl
theorem dup_ix {l : List Pr} {id : Int} (h : (id == 38) = false) : PR.dup l id = decide (0 ≤ ix id 0 l) := by unfold PR.dup; rw [h]; rfl

set_option maxHeartbeats 1000000 in
theorem idc_any (A : Option Addr) (cap : Nat) (l : List Pr) (id : Int) (w : World) (hl : l.length ≤ 1000) (h : Props w A l) :
    Calls Tryz.prog 125 #[.slice A l.length cap, .int .i64 id] w fun e w' => e = .returned (.int .u8 (PR.idC l id)) ∧ Below w.heap.size w w' := by
  have CK := Lib.hid (kind_any id)
  have CI := Lib.hid (index_any A cap l id w hl h)
  clear h
  unfold PR.idC
  by_cases hk : PR.kd id = 0
  · rw [if_pos hk]
    rw [hk] at CK
    clear hk
    go_enter Tryz.func125, Tryz.ntmps125
    go_wp2_with fail
    refine (CK.out _).mono ?_
    rintro e w1 ⟨rfl, rfl⟩
    go_wp2
    go_ret
    exact ⟨rfl, Below.refl _ _⟩
  · rw [if_neg hk]
    have e0 : (PR.kd id == 0) = false := by rw [beq_eq_false_iff_ne]; exact hk
    clear hk
    generalize PR.kd id = k at *
    by_cases h38 : (id == 38) = true
    · have hid : id = 38 := by simpa using h38
      subst hid
      rw [dup_38, if_neg (by decide)]
      go_enter Tryz.func125, Tryz.ntmps125
      go_wp2_with fail
      refine (CK.out _).mono ?_
      rintro e w1 ⟨rfl, rfl⟩
      go_wp2
      go_ret
      exact ⟨rfl, Below.refl _ _⟩
    · have h38' : (id == 38) = false := by simpa using h38
      have n38 : (id != 38) = true := by rw [bne, h38']; rfl
      rw [dup_ix h38']
      clear h38
      by_cases hx : 0 ≤ ix id 0 l
      · rw [if_pos (by simpa using hx)]
        generalize ix id 0 l = x at *
        go_enter Tryz.func125, Tryz.ntmps125
        go_wp2_with fail
        refine (CK.out _).mono ?_
        rintro e w1 ⟨rfl, rfl⟩
        go_wp2_with fail
        refine CI.out.mono ?_
        rintro e w1 ⟨rfl, b1⟩
        have B1 := Lib.hid b1
        clear b1
        go_wp2
        go_ret
        exact ⟨rfl, B1.out⟩
      · rw [if_neg (by simpa using hx)]
        have hx' : ix id 0 l < 0 := by omega
        generalize ix id 0 l = x at *
        clear hx
        go_enter Tryz.func125, Tryz.ntmps125
        go_wp2_with fail
        refine (CK.out _).mono ?_
        rintro e w1 ⟨rfl, rfl⟩
        go_wp2_with fail
        refine CI.out.mono ?_
        rintro e w1 ⟨rfl, b1⟩
        have B1 := Lib.hid b1
        clear b1
        go_wp2
        go_ret
        exact ⟨rfl, B1.out⟩

/-- A property whose texts and number a machine can hold. -/
def Fine (p : Pr) : Prop := (p.s.size ≤ 140737488351232 ∧ p.t.size ≤ 140737488351232) ∧ (-9223372036854775808 ≤ p.n ∧ p.n ≤ 9223372036854775807)

end Go.Proofs.YtemfcaaoobjgkaaGreatDoor
