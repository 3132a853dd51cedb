/- What the document fixes holds: wakes answers true. -/
import Derived.Test.YteacjahncngoiaaDoorFaPath2
import Derived.Test.YteacjahncngoiaaDoorFaText2
namespace Go.Proofs.YteacjahncngoiaaDoor
open Go.RowKit FA

def tags : ByteArray := ⟨#[116, 97, 103, 115]⟩
def link_ : ByteArray := ⟨#[108, 105, 110, 107]⟩
def wakeE : E := .wrap 151 link_ (.leaf 151 tags)
theorem wake_text : text wakeE = [108, 105, 110, 107, 58, 32, 116, 97, 103, 115, 58, 32, 49, 53, 49] := by decide +kernel

theorem wake_good : FA.Good wakeE := ⟨by omega, by decide, rfl, by omega, by decide⟩

set_option maxRecDepth 100000 in
set_option maxHeartbeats 4000000 in
theorem wakes_any (w : World) (hT : Tabs w) (hG : 4 ≤ w.heap.size) :
    Calls Tryd.prog 10 #[] w fun en w' => en = .returned (.bool true) ∧ Below w.heap.size w w' := by
  have HT := Lib.hid hT
  clear hT
  have C1 := Lib.hid (new_rep 151 tags w)
  unfold tags at C1
  go_enter Tryd.func10, Tryd.ntmps10
  go_wp2_with fail
  refine C1.out.mono ?_
  rintro en w1 ⟨v1, rfl, h1, b1⟩
  have hT1 := HT.out.below b1
  have C2 := Lib.hid (wrap_any w1.heap.size link_ (some (.leaf 151 tags)) v1 w1 (Nat.le_refl _) h1 (by simp [szO, sz]) hT1)
  unfold link_ at C2
  have B1 := Lib.hid b1
  clear C1 h1 b1 hT1
  go_wp2_with fail
  refine C2.out.mono ?_
  rintro en w2 ⟨v2, rfl, h2, b2⟩
  have B2 : Hid (Below w.heap.size w w2) := B1.out.trans (b2.mono B1.out.size)
  have h2' : RepO w2 w2.heap.size (some wakeE) v2 := h2
  have hs2 := B2.out.size
  have C3 := Lib.hid (path_any w2.heap.size (some wakeE) v2 w2 h2' (Nat.le_refl _) (by simp [szO, sz, wakeE]))
  have H2 := Lib.hid h2'
  obtain ⟨tv, bv, rfl⟩ := RepE.iface (show RepE w2 w2.heap.size wakeE v2 from h2')
  clear C2 h2 b2 h2' B1
  go_wp2_with fail
  refine C3.out.mono ?_
  rintro en w3 ⟨v3, rfl, hown, b3⟩
  have hl3 : (pathO (some wakeE)).length = 2 := by simp [pathO, wakeE, path]
  have hx3 : (pathO (some wakeE)).map Value.string = [.string link_, .string tags] := by simp [pathO, wakeE, path]
  rw [hl3, hx3] at hown
  obtain ⟨g3, cap3, rfl, _, hg3⟩ := hown.form (by omega)
  have B3 : Hid (Below w.heap.size w w3) := B2.out.trans (b3.mono hs2)
  have hs3 := B3.out.size
  have hs23 := b3.size
  have d0 : w3.cell? ⟨g3, 0, none⟩ = some (.string ⟨#[108, 105, 110, 107]⟩) := by rw [← add0]; exact hown.cells (g := g3) rfl 0 _ rfl
  have d1 : w3.cell? ⟨g3, 1, none⟩ = some (.string ⟨#[116, 97, 103, 115]⟩) := by rw [← add0]; exact hown.cells (g := g3) rfl 1 _ rfl
  have H3 := Lib.hid (RepO.below b3 H2.out)
  have C4 := Lib.hid (codeOf_any w2.heap.size (some wakeE) _ w3 hs23 H3.out (by simp [szO, sz, wakeE]) (HT.out.below B3.out))
  have hcode : codeO (some wakeE) = 151 := rfl
  rw [hcode] at C4
  clear C3 hown b3 H2 B2 hl3 hx3 hcode
  go_wp2_with fail
  refine C4.out.mono ?_
  rintro en w4 ⟨rfl, b4⟩
  have B4 : Hid (Below w.heap.size w w4) := B3.out.trans (b4.mono hs3)
  have hs4 := b4.size
  have d0' : w4.cell? ⟨g3, 0, none⟩ = some (.string ⟨#[108, 105, 110, 107]⟩) := by rw [b4.cell (p := ⟨g3, 0, none⟩) hg3]; exact d0
  have d1' : w4.cell? ⟨g3, 1, none⟩ = some (.string ⟨#[116, 97, 103, 115]⟩) := by rw [b4.cell (p := ⟨g3, 1, none⟩) hg3]; exact d1
  have C5 := Lib.hid (text_any w2.heap.size (some wakeE) _ w4 (RepO.below (b4.mono hs23) H3.out) wake_good (by omega) (by omega) (by simp [szO, sz, wakeE]) (HT.out.below B4.out))
  have ht : textO (some wakeE) = _ := wake_text
  rw [ht] at C5
  clear C4 b4 H3 d0 d1 B3 ht
  go_wp2_with fail
  refine C5.out.mono ?_
  rintro en w5 ⟨rfl, b5⟩
  have B5 : Hid (Below w.heap.size w w5) := B4.out.trans (b5.mono (by omega))
  clear C5 b5
  go_wp2
  go_ret
  exact ⟨rfl, B5.out⟩
end Go.Proofs.YteacjahncngoiaaDoor
