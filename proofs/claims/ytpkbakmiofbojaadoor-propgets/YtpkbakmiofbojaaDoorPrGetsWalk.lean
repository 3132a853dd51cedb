/- PropGets: at every place of every bytes stand the document's properties, or its code. -/
import Derived.Test.YtpkbakmiofbojaaDoorPrSame
namespace Go.Proofs.YtpkbakmiofbojaaDoor
open Go.RowKit

namespace PR
theorem vgetG_code (s : ByteArray) (k : Nat) : ∀ (f i : Nat) (n : Int), 0 ≤ (VP.getG s k f i n).2.2 ∧ (VP.getG s k f i n).2.2 ≤ 242
  | 0, _, _ => by rw [VP.getG_0]; exact ⟨by decide, by decide⟩
  | f + 1, i, n => by
    unfold VP.getG
    split
    · split
      · split
        · exact ⟨Int.le_refl 0, (by decide : (0 : Int) ≤ 242)⟩
        · exact ⟨by decide, by decide⟩
      · exact vgetG_code s k f (i + 1) _
    · exact ⟨by decide, by decide⟩
theorem vget_code (s : ByteArray) (at_ : Int) : 0 ≤ (VP.get s at_).2.2 ∧ (VP.get s at_).2.2 ≤ 242 := by
  unfold VP.get
  split
  · exact ⟨by decide, by decide⟩
  · exact vgetG_code _ _ _ _ _
theorem g1_code (T : ByteArray) (p : Int) (out : List Pr) : 0 ≤ (g1 T p out).2.2 ∧ (g1 T p out).2.2 ≤ 149 := by
  unfold g1
  have := idC_le out (VP.get T p).1
  split
  · simp
  · split
    · simp
    · split
      · simpa using this
      · split
        · simp
        · rename_i h
          have h0 : (rdv T (VP.get T p).2.1 (VP.get T p).1).2.2 = 0 := by simpa using h
          omega
theorem gl_facts (U : ByteArray) : ∀ (u : Nat) (p : Int) (out : List Pr), 0 ≤ (gl U u p out).2 ∧ (gl U u p out).2 ≤ 149 ∧ (gl U u p out).1.length ≤ out.length + u
  | 0, p, out => by unfold gl; simp
  | u + 1, p, out => by
    unfold gl
    split
    · simp
    · split
      · have := g1_code U p out
        simp; omega
      · have := gl_facts U u (g1 U p out).2.1 (out ++ [(g1 U p out).1])
        rw [List.length_append, List.length_singleton] at this
        omega
theorem getL_facts (s : ByteArray) (at_ : Int) : 0 ≤ (getL s at_).2.2 ∧ (getL s at_).2.2 ≤ 255 ∧ (getL s at_).1.length ≤ 66 := by
  unfold getL
  have hc := vget_code s at_
  have hg := gl_facts (s.extract (VP.get s at_).2.1.toNat ((VP.get s at_).2.1 + (VP.get s at_).1).toNat) 66 0 []
  split
  · simp; omega
  · split
    · simp
    · split
      · simp; omega
      · simp at hg ⊢; omega
theorem get_one : getL ⟨#[3, 33, 0, 20]⟩ 0 = ([⟨33, 20, ⟨#[]⟩, ⟨#[]⟩⟩], 4, 0) := by kernel_rfl
end PR

set_option maxRecDepth 100000 in
set_option maxHeartbeats 4000000 in
theorem propGets_walk (w : World) (s : ByteArray) (hs : s.size ≤ 140737488351232) (at_ : Int) (_wf : (Lit.int .i64 at_).wf = true) (hT : Tabs w) :
    Calls Tryd.prog 4 #[.string s, .int .i64 at_] w fun e w' => e = .returned (.bool true) ∧ Below w.heap.size w w' := by
  have C1 := Lib.hid (getall_any s at_ hs w hT)
  have C2 := Lib.hid (fun W => rgetall_any s at_ hs W)
  have C3 : Hid (∀ W, Below w.heap.size w W → Calls Tryd.prog 11 #[.string ⟨#[3, 33, 0, 20]⟩, .int .i64 0] W (GetP .u8 39 W ([⟨33, 20, ⟨#[]⟩, ⟨#[]⟩⟩], 4, 0))) := fun W hW => by
    have := getall_any ⟨#[3, 33, 0, 20]⟩ 0 (by decide) W (hT.below hW)
    rwa [PR.get_one] at this
  obtain ⟨hc0, hc1, hln⟩ := PR.getL_facts s at_
  generalize PR.getL s at_ = R at *
  obtain ⟨L, nx, c⟩ := R
  simp only at hc0 hc1 hln
  unfold GetP at C1 C2 C3
  simp only at C1 C2 C3
  clear hT
  go_enter Tryd.func4, Tryd.ntmps4
  go_wp2_with fail
  refine C1.out.mono ?_
  rintro e w1 ⟨v1, rfl, o1, b1⟩
  obtain ⟨A1, c1, rfl⟩ := own_form o1
  have O1 := Lib.hid o1
  have B1 := Lib.hid b1
  clear o1 b1 C1
  go_wp2_with fail
  refine (C2.out _).mono ?_
  rintro e w2 ⟨v2, rfl, o2, b2⟩
  obtain ⟨A2, c2, rfl⟩ := own_form o2
  have O2 := Lib.hid o2
  have B2 := Lib.hid b2
  have B02 : Hid (Below w.heap.size w w2) := B1.out.trans (b2.mono B1.out.size)
  clear o2 b2 C2
  go_wp2_with fail
  refine (C3.out _ B02.out).mono ?_
  rintro e w3 ⟨v3, rfl, o3, b3⟩
  obtain ⟨A3, c3, rfl⟩ := own_form o3
  have B3 := Lib.hid b3
  have B03 : Hid (Below w.heap.size w w3) := B02.out.trans (b3.mono B02.out.size)
  obtain ⟨g, o, rfl, hg, r0, r1, r2, r3⟩ := own_props o3 0 ⟨33, 20, ⟨#[]⟩, ⟨#[]⟩⟩ rfl
  have P1 : Hid (Props w3 A1 L) := ((own_props O1.out).below B2.out).below B3.out
  have P2 : Hid (Props w3 A2 L) := (own_props O2.out).below B3.out
  have C4 := Lib.hid (same_any A1 A2 c1 c2 L w3 (by omega) P1.out P2.out)
  simp only at r0 r1 r2 r3
  clear o3 b3 C3
  go_wp2_with fail
  refine C4.out.mono ?_
  rintro e w4 ⟨rfl, b4⟩
  have B4 : Hid (Below w.heap.size w w4) := B03.out.trans (b4.mono B03.out.size)
  clear b4
  go_wp2
  go_ret
  exact ⟨rfl, B4.out⟩
end Go.Proofs.YtpkbakmiofbojaaDoor
