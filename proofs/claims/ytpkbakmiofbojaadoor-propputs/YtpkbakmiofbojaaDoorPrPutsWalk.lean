/- PropPuts: every properties have the document's bytes, or its code. -/
import Derived.Test.YtpkbakmiofbojaaDoorPrRefPut
import Derived.Test.YtpkbakmiofbojaaDoorPrWakes
import Derived.Test.YtpkbakmiofbojaaDoorPrProps
import Derived.OpenShut
namespace Go.Proofs.YtpkbakmiofbojaaDoor
open Go.RowKit Go.WideShapes Go.ChangeShapes

theorem wf_i64 {z : Int} (h : (Lit.int .i64 z).wf = true) : -9223372036854775808 ≤ z ∧ z ≤ 9223372036854775807 := bounds_i64 h
theorem putC_le (l : List Pr) : 0 ≤ PR.putC l ∧ PR.putC l ≤ 255 := by
  have hr : ∀ (r : List Pr) (k : Nat), 0 ≤ PR.restC l k r ∧ PR.restC l k r ≤ 149 := fun r => by
    induction r with
    | nil => intro k; exact ⟨Int.le_refl 0, (by decide : (0 : Int) ≤ 149)⟩
    | cons p r ih =>
      intro k
      unfold PR.restC
      split
      · exact PR.oneC_le _ _
      · exact ih _
  have := hr l 0
  unfold PR.putC
  split
  · omega
  · split <;> omega
theorem own_capmax {w : World} {N : Nat} {t : TypeId} {s : Nat} {A : Option Addr} {n cap : Nat} {l : List Value} (h : w.ownsRow N t s (.slice A n cap) n l) : cap ≤ 9223372036854775807 := by
  rcases h.2 with ⟨hx, hy⟩ | ⟨g, c, cur, hx, _, _, h3, h4, _⟩
  · injection hx with _ _ hx; omega
  · injection hx with _ _ hx; subst hx; unfold maxLen at h4; omega

set_option maxRecDepth 100000 in
set_option maxHeartbeats 4000000 in
theorem propPuts_walk (w : World) (A : Option Addr) (cap : Nat) (l : List Pr) (hl : l.length ≤ maxLen) (h : Props w A l) (hc : l.length ≤ cap) (hz : ∀ p ∈ l, p.s.size ≤ 140737488351232 ∧ p.t.size ≤ 140737488351232) (hw : ∀ p ∈ l, (Lit.int .i64 p.id).wf = true ∧ (Lit.int .i64 p.n).wf = true) (hT : Tabs w) :
    Calls Tryd.prog 3 #[.slice A l.length cap] w fun e w' => e = .returned (.bool true) ∧ Below w.heap.size w w' := by
  have C1 := Lib.hid (props_any A cap l hl w h hc)
  have HF : Hid (∀ p ∈ l.take 80, Fine p) := Lib.hid (fun p hp => ⟨hz p (List.mem_of_mem_take hp), wf_i64 (hw p (List.mem_of_mem_take hp)).2⟩)
  have HT := Lib.hid hT
  clear h hz hw hT
  go_enter Tryd.func3, Tryd.ntmps3
  go_wp2_with fail
  refine C1.out.mono ?_
  rintro e w1 ⟨va, vb, rfl, hrows, b1⟩
  obtain ⟨A1, c1, rfl⟩ := own_form hrows.1
  obtain ⟨A2, c2, rfl⟩ := own_form hrows.2
  have hL : (l.take 80).length ≤ 80 := List.length_take_le _ _
  have B1 := Lib.hid b1
  have K2 : Hid (∀ W', Below w1.heap.size w1 W' → Calls Tryd.prog 8 #[.slice A1 (l.take 80).length c1] W' fun e w' => e = .returned (.tuple #[.string (PR.putS (l.take 80)), .int .u8 (PR.putC (l.take 80))]) ∧ Below W'.heap.size W' w') := fun W' hW =>
    putall_any A1 c1 (l.take 80) W' (by omega) (own_cap hrows.1) (own_capmax hrows.1) ((own_props hrows.1).below hW) HF.out (HT.out.below (b1.trans (hW.mono b1.size)))
  have K3 : Hid (∀ W', Below w1.heap.size w1 W' → Calls Tryd.prog 9 #[.slice A2 (l.take 80).length c2] W' fun e w' => e = .returned (.tuple #[.string (PR.putS (l.take 80)), .int .i64 (PR.putC (l.take 80))]) ∧ Below W'.heap.size W' w') := fun W' hW =>
    rputall_any A2 c2 (l.take 80) W' (by omega) ((own_props hrows.2).below hW) HF.out
  have K4 : Hid (∀ W', Below w1.heap.size w1 W' → Calls Tryd.prog 10 #[] W' fun e w' => e = .returned (.bool true) ∧ Below W'.heap.size W' w') := fun W' hW =>
    wakes_any W' (HT.out.below (b1.trans (hW.mono b1.size)))
  have hPC := putC_le (l.take 80)
  clear b1 C1 hrows HF HT
  generalize l.take 80 = L at *
  generalize PR.putS L = PS at *
  generalize PR.putC L = PC at *
  go_wp2_with fail
  refine (K2.out _ (Below.refl _ _)).mono ?_
  rintro e w2 ⟨rfl, b2⟩
  have B2 := Lib.hid b2
  clear b2
  go_wp2_with fail
  refine (K3.out _ B2.out).mono ?_
  rintro e w3 ⟨rfl, b3⟩
  have B3 : Hid (Below w1.heap.size w1 w3) := B2.out.trans (b3.mono B2.out.size)
  clear b3
  go_wp2_with fail
  refine (K4.out _ B3.out).mono ?_
  rintro e w4 ⟨rfl, b4⟩
  have B4 : Hid (Below w1.heap.size w1 w4) := B3.out.trans (b4.mono B3.out.size)
  clear b4
  go_wp2
  go_ret
  exact ⟨by simp, B1.out.trans (B4.out.mono B1.out.size)⟩
end Go.Proofs.YtpkbakmiofbojaaDoor
