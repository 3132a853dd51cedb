/- Path: the places of the faults that are met by the first of what an error unwraps to. -/
import Derived.Test.YteacjahncngoiaaDoorFaChain
import Derived.Test.YteacjahncngoiaaDoorFaRow
namespace Go.Proofs.YteacjahncngoiaaDoor
open Go.RowKit Go.Extern.Stop Go.Stop Go.Extern FA

set_option maxHeartbeats 1000000 in
theorem first_any (B : Nat) (e : E) (v : Value) (w : World) (h : RepE w B e v) (hB : B ≤ w.heap.size) (hz : sz e ≤ 1000000) :
    Calls Tryd.prog 36 #[v] w fun en w' => en = .returned ((stepV w v).getD .nilIface) ∧ Below w.heap.size w w' := by
  have hs := RepE.step h
  have u1 := unF; have u2 := unJ; have u3 := unO; have s1 := usJ; have s2 := usO
  have m2 := mUnF; have m3 := mUnJ
  cases e with
  | leaf c s =>
    simp only at hs
    simp only [RepE] at h
    obtain ⟨b, rfl, hlt, hh⟩ := h
    have C := Lib.hid (unwrap_w b .nilIface w (by rw [cell_heap hh]; rfl))
    rw [hs]
    clear hs hh
    go_enter Tryd.func36, Tryd.ntmps36
    go_wp2_with fail
    refine C.out.mono ?_
    rintro en w1 ⟨rfl, rfl⟩
    go_wp2
    go_ret
    exact ⟨rfl, Below.refl _ _⟩
  | wrap c s k =>
    obtain ⟨u', hs, _⟩ := hs
    simp only [RepE] at h
    obtain ⟨b, u, rfl, hlt, hh, hk⟩ := h
    have C := Lib.hid (unwrap_w b u w (by rw [cell_heap hh]; rfl))
    have hu : u' = u := by
      have h2 : w.cell? ⟨b, 2, none⟩ = some u := by rw [cell_heap hh]; rfl
      simp only [stepV, if_true] at hs
      rw [h2] at hs
      exact (Option.some.inj hs).symm
    subst hu
    rw [hs]
    clear hs hh hk
    go_enter Tryd.func36, Tryd.ntmps36
    go_wp2_with fail
    refine C.out.mono ?_
    rintro en w1 ⟨rfl, rfl⟩
    go_wp2
    go_ret
    exact ⟨rfl, Below.refl _ _⟩
  | other s =>
    simp only at hs
    simp only [RepE] at h
    obtain ⟨b, rfl, hlt, hh⟩ := h
    rw [hs]
    clear hs hh
    go_enter Tryd.func36, Tryd.ntmps36
    go_wp2
    go_ret
    exact ⟨rfl, Below.refl _ _⟩
  | many l =>
    simp only [RepE] at h
    obtain ⟨b, g, cap, us, rfl, hlt, hbk, hg, hl0, hlc, hcm, hus, hl⟩ := h
    have hlen := len_szL l
    have hzl : szL l ≤ 1000000 := by simp only [sz] at hz; omega
    obtain ⟨a, ha⟩ : ∃ a, l[0]? = some a := ⟨l[0], List.getElem?_eq_getElem hl0⟩
    obtain ⟨u, hu, hr⟩ := RepL.at_ hl ha
    have hs' : stepV w (.iface 90 (.pointer (some ⟨b, 0, none⟩))) = some u := by
      have hc0 : w.cell? ⟨b, 0, none⟩ = some (.slice (some ⟨g, 0, none⟩) l.length cap) := by rw [cell_heap hbk]; rfl
      simp only [stepV, if_neg (show ¬ (90 : Nat) = 47 by decide), if_true, hc0]
      exact hus 0 u hu
    rw [hs']
    have CU := Lib.hid (junwrap_row b g l.length cap us w (by rw [cell_heap hbk]; rfl) (by omega) (RepL.length hl) (by omega) hus (RepL.one hl))
    obtain ⟨tu, bu, rfl⟩ := RepE.iface hr
    have Hu := Lib.hid hu
    clear hbk hus hl hs hs' hu hr ha
    go_enter Tryd.func36, Tryd.ntmps36
    go_wp2_with fail
    refine CU.out.mono ?_
    rintro en w1 ⟨v1, rfl, hown1, hb1⟩
    obtain ⟨g1, cap1, rfl, hg1, hg1'⟩ := hown1.form hl0
    have c1 : w1.cell? ⟨g1, 0, none⟩ = some (.iface tu (.pointer (some ⟨bu, 0, none⟩))) := by rw [← add0 g1 0]; exact hown1.cells (g := g1) rfl 0 _ Hu.out
    have B1 := Lib.hid hb1
    clear hown1 CU hb1
    go_wp2
    refine wp_loop_rounds 1 ?_
    rw [rounds_succ]
    go_wp2
    go_ret
    exact ⟨rfl, B1.out⟩
end Go.Proofs.YteacjahncngoiaaDoor
