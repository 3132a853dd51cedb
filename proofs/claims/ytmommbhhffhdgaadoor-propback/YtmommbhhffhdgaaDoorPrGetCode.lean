/- The codes of Get, and how many properties it tells at most. -/
import Derived.Test.YtmommbhhffhdgaaDoorPrGetAll
namespace Go.Proofs.YtmommbhhffhdgaaDoor
open Go.RowKit

namespace PR
theorem vgetG_code (s : ByteArray) (k : Nat) : ∀ (f i : Nat) (n : Int), 0 ≤ (VP.getG s k f i n).2.2 ∧ (VP.getG s k f i n).2.2 ≤ 242
  | 0, _, _ => by rw [VP.getG_0]; exact ⟨by decide, by decide⟩
  | f + 1, i, n => by
    unfold VP.getG
    split
    · split
      · split
        · exact ⟨Int.le_refl 0, (by decide : (0 : Int) ≤ 242)⟩
        · exact ⟨by decide, by decide⟩
      · exact vgetG_code s k f (i + 1) _
    · exact ⟨by decide, by decide⟩
theorem vget_code (s : ByteArray) (at_ : Int) : 0 ≤ (VP.get s at_).2.2 ∧ (VP.get s at_).2.2 ≤ 242 := by
  unfold VP.get
  split
  · exact ⟨by decide, by decide⟩
  · exact vgetG_code _ _ _ _ _
theorem g1_code (T : ByteArray) (p : Int) (out : List Pr) : 0 ≤ (g1 T p out).2.2 ∧ (g1 T p out).2.2 ≤ 149 := by
  unfold g1
  have := idC_le out (VP.get T p).1
  split
  · simp
  · split
    · simp
    · split
      · simpa using this
      · split
        · simp
        · rename_i h
          have h0 : (rdv T (VP.get T p).2.1 (VP.get T p).1).2.2 = 0 := by simpa using h
          omega
theorem gl_facts (U : ByteArray) : ∀ (u : Nat) (p : Int) (out : List Pr), 0 ≤ (gl U u p out).2 ∧ (gl U u p out).2 ≤ 149 ∧ (gl U u p out).1.length ≤ out.length + u
  | 0, p, out => by unfold gl; simp
  | u + 1, p, out => by
    unfold gl
    split
    · simp
    · split
      · have := g1_code U p out
        simp; omega
      · have := gl_facts U u (g1 U p out).2.1 (out ++ [(g1 U p out).1])
        rw [List.length_append, List.length_singleton] at this
        omega
theorem getL_facts (s : ByteArray) (at_ : Int) : 0 ≤ (getL s at_).2.2 ∧ (getL s at_).2.2 ≤ 255 ∧ (getL s at_).1.length ≤ 66 := by
  unfold getL
  have hc := vget_code s at_
  have hg := gl_facts (s.extract (VP.get s at_).2.1.toNat ((VP.get s at_).2.1 + (VP.get s at_).1).toNat) 66 0 []
  split
  · simp; omega
  · split
    · simp
    · split
      · simp; omega
      · simp at hg ⊢; omega
theorem get_one : getL ⟨#[3, 33, 0, 20]⟩ 0 = ([⟨33, 20, ⟨#[]⟩, ⟨#[]⟩⟩], 4, 0) := by kernel_rfl
end PR
end Go.Proofs.YtmommbhhffhdgaaDoor
