/- What the document fixes of its example of properties: wakes answers true. -/
import Derived.Test.YtmommbhhffhdgaaDoorPrPutAll
namespace Go.Proofs.YtmommbhhffhdgaaDoor
open Go.RowKit

def wakeP : Pr := ⟨33, 20, ⟨#[]⟩, ⟨#[]⟩⟩
theorem wake_fine : Fine wakeP := ⟨⟨by decide, by decide⟩, by decide, by decide⟩
theorem wake_put : PR.putS [wakeP] = ⟨#[3, 33, 0, 20]⟩ ∧ PR.putC [wakeP] = 0 := by decide +kernel
theorem wake_props (w : World) (t : TypeId) : Props (w.alloc (.cells #[.int .i64 33, .int .i64 20, .string ⟨#[]⟩, .string ⟨#[]⟩] t)) (some ⟨w.heap.size, 0, none⟩) [wakeP] := by
  intro i p hp
  match i, hp with
  | 0, hp =>
    simp at hp
    subst hp
    exact ⟨w.heap.size, 0, rfl, by simp, by rw [World.cell?_alloc_at _ _ _ _ rfl]; rfl, by rw [World.cell?_alloc_at _ _ _ _ rfl]; rfl, by rw [World.cell?_alloc_at _ _ _ _ rfl]; rfl, by rw [World.cell?_alloc_at _ _ _ _ rfl]; rfl⟩

set_option maxRecDepth 100000 in
set_option maxHeartbeats 1000000 in
theorem wakes_any (w : World) (hT : Tabs w) :
    Calls Tryd.prog 10 #[] w fun e w' => e = .returned (.bool true) ∧ Below w.heap.size w w' := by
  have hbl := (Below.refl w.heap.size w).alloc (Nat.le_refl _) (.cells #[.int .i64 33, .int .i64 20, .string ⟨#[]⟩, .string ⟨#[]⟩] 39)
  have C := putall_any (some ⟨w.heap.size, 0, none⟩) 1 [wakeP] _ (by simp) (by simp) (by decide) (wake_props w 39) (fun p hp => by simp at hp; subst hp; exact wake_fine) (hT.below hbl)
  rw [wake_put.1, wake_put.2] at C
  have HC := Lib.hid C
  have Hb := Lib.hid hbl
  clear C hbl hT
  go_enter Tryd.func10, Tryd.ntmps10
  go_wp2_with fail
  refine HC.out.mono ?_
  rintro e w1 ⟨rfl, b1⟩
  have B1 := Lib.hid b1
  clear b1
  go_wp2
  go_ret
  exact ⟨rfl, Hb.out.trans (B1.out.mono (by simp))⟩
end Go.Proofs.YtmommbhhffhdgaaDoor
