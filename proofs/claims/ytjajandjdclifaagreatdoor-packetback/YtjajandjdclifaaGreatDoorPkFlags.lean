/- The flags of a packet's first byte; its parts. -/
import Derived.Test.YtjajandjdclifaaGreatDoorPkEach
namespace Go.Proofs.YtjajandjdclifaaGreatDoor
open Go.RowKit
attribute [local go_sem ↓] Go.wp_at_zero Go.wp_at_succ

namespace PK
def fixN (k : Int) : Int := if k = 6 ∨ k = 8 ∨ k = 10 then 2 else 0
def isK (k : Int) : Bool := decide (1 ≤ k) && decide (k ≤ 15)
end PK
theorem fixed_flags (k : Int) (w : World) : Calls Tryz.prog 55 #[.int .i64 k] w fun e w' => e = .returned (.int .i64 (PK.fixN k)) ∧ w = w' := by
  unfold PK.fixN
  by_cases h6 : k = 6
  · subst h6
    go_enter Tryz.func55, Tryz.ntmps55
    go_wp2
    go_ret
    exact ⟨rfl, rfl⟩
  · by_cases h8 : k = 8
    · subst h8
      go_enter Tryz.func55, Tryz.ntmps55
      go_wp2
      go_ret
      exact ⟨rfl, rfl⟩
    · by_cases h10 : k = 10
      · subst h10
        go_enter Tryz.func55, Tryz.ntmps55
        go_wp2
        go_ret
        exact ⟨rfl, rfl⟩
      · rw [if_neg (by omega)]
        have e6 : (k == 6) = false := by rw [beq_eq_false_iff_ne]; exact h6
        have e8 : (k == 8) = false := by rw [beq_eq_false_iff_ne]; exact h8
        have e10 : (k == 10) = false := by rw [beq_eq_false_iff_ne]; exact h10
        clear h6 h8 h10
        go_enter Tryz.func55, Tryz.ntmps55
        go_wp2
        go_ret
        exact ⟨rfl, rfl⟩
theorem iskind_any (k : Int) (w : World) : Calls Tryz.prog 40 #[.int .i64 k] w fun e w' => e = .returned (.bool (PK.isK k)) ∧ w = w' := by
  have E : Hid (PK.isK k = (decide (1 ≤ k) && decide (k ≤ 15))) := rfl
  generalize PK.isK k = q at *
  by_cases h0 : 1 ≤ k
  · go_enter Tryz.func40, Tryz.ntmps40
    go_wp2
    go_ret
    exact ⟨by rw [E.out]; simp [h0], rfl⟩
  · go_enter Tryz.func40, Tryz.ntmps40
    go_wp2
    go_ret
    exact ⟨by rw [E.out]; simp; omega, rfl⟩
theorem canpub_any (p : Pk) (vc vp vw vs vf : Value) (w : World) : Calls Tryz.prog 56 #[.agg (pkCells p vc vp vw vs vf)] w fun e w' => e = .returned (.bool (PK.canPub p)) ∧ Below w.heap.size w w' := by
  have hb0 : (w.alloc (.cells (pkCells p vc vp vw vs vf) 31)).heap[w.heap.size]? = some (.cells (pkCells p vc vp vw vs vf) 31 (0, 0)) := heap_alloc_new w _
  have hal := Lib.hid ((Below.refl w.heap.size w).alloc (Nat.le_refl _) (.cells (pkCells p vc vp vw vs vf) 31))
  obtain ⟨-, q1, -, q3, -⟩ := pk_cells hb0
  have CQ := Lib.hid isqos_any
  have E : Hid (PK.canPub p = (PK.isQ p.qos && (decide (0 < p.qos) || !p.dup))) := rfl
  generalize PK.canPub p = r at *
  clear hb0
  cases hq : PK.isQ p.qos
  · go_enter Tryz.func56, Tryz.ntmps56
    go_wp2_with fail
    refine (CQ.out _ _).mono ?_
    rintro e w' ⟨rfl, rfl⟩
    rw [hq]
    go_wp2
    go_ret
    exact ⟨by rw [E.out, hq]; rfl, hal.out⟩
  · by_cases h0 : 0 < p.qos
    · have HQ := Lib.hid hq
      clear hq
      go_enter Tryz.func56, Tryz.ntmps56
      go_wp2_with fail
      refine (CQ.out _ _).mono ?_
      rintro e w' ⟨rfl, rfl⟩
      rw [HQ.out]
      go_wp2
      go_ret
      exact ⟨by rw [E.out, HQ.out]; simp [h0], hal.out⟩
    · have HQ := Lib.hid hq
      clear hq
      go_enter Tryz.func56, Tryz.ntmps56
      go_wp2_with fail
      refine (CQ.out _ _).mono ?_
      rintro e w' ⟨rfl, rfl⟩
      rw [HQ.out]
      go_wp2
      go_ret
      exact ⟨by rw [E.out, HQ.out]; simp, hal.out⟩
end Go.Proofs.YtjajandjdclifaaGreatDoor
