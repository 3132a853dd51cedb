/- Two rows of the same properties are the same: the law's own test. -/
import Derived.Test.YtpkbakmiofbojaaDoorPrRefGet
import Derived.BigQuiet
namespace Go.Proofs.YtpkbakmiofbojaaDoor
open Go.RowKit

theorem drewN_below (B : Nat) (w : World) (n : Nat) : Below B w (w.drewN n) := ⟨rfl, rfl, rfl, Nat.le_refl _, fun _ _ => rfl⟩

set_option maxRecDepth 100000 in
set_option maxHeartbeats 8000000 in
theorem same_any (A1 A2 : Option Addr) (c1 c2 : Nat) (l : List Pr) (w : World) (hl : l.length ≤ 1000) (h1 : Props w A1 l) (h2 : Props w A2 l) :
    Calls Tryd.prog 13 #[.slice A1 l.length c1, .slice A2 l.length c2] w fun e w' => e = .returned (.bool true) ∧ Below w.heap.size w w' := by
  have H1 := Lib.hid h1
  have H2 := Lib.hid h2
  have hnn : ((l.length : Int) != (l.length : Int)) = false := by simp
  clear h1 h2
  go_enter Tryd.func13, Tryd.ntmps13
  go_wp2_with fail
  go_loopw [13] (fun i wr => ∃ k : Nat, i = .int .i64 k ∧ k ≤ l.length ∧ Hid (Below w.heap.size w wr)) (fun i _ => l.length - (intOf i).toNat)
  case atStart => exact ⟨0, rfl, by omega, Lib.hid (Below.refl _ _)⟩
  case round =>
    obtain ⟨k, rfl, hk, hbr⟩ := hrel
    by_cases hlt2 : k < l.length
    · obtain ⟨p, hp⟩ : ∃ p, l[k]? = some p := ⟨l[k], List.getElem?_eq_getElem hlt2⟩
      obtain ⟨g, o, rfl, hg, r0, r1, r2, r3⟩ := H1.out k p hp
      obtain ⟨g', o', rfl, hg', r0', r1', r2', r3'⟩ := H2.out k p hp
      have q0 := (hbr.out.cell (p := ⟨g, _, none⟩) hg).trans r0
      have q1 := (hbr.out.cell (p := ⟨g, _, none⟩) hg).trans r1
      have q2 := (hbr.out.cell (p := ⟨g, _, none⟩) hg).trans r2
      have q3 := (hbr.out.cell (p := ⟨g, _, none⟩) hg).trans r3
      have q0' := (hbr.out.cell (p := ⟨g', _, none⟩) hg').trans r0'
      have q1' := (hbr.out.cell (p := ⟨g', _, none⟩) hg').trans r1'
      have q2' := (hbr.out.cell (p := ⟨g', _, none⟩) hg').trans r2'
      have q3' := (hbr.out.cell (p := ⟨g', _, none⟩) hg').trans r3'
      have i1 : (0 : Int) ≤ (k : Int) := by omega
      have i2 : (k : Int) < (l.length : Int) := by omega
      clear r0 r1 r2 r3 r0' r1' r2' r3' hp
      obtain ⟨id', n', s', t'⟩ := p
      simp only at q0 q1 q2 q3 q0' q1' q2' q3'
      go_wp2_with fail
      go_quiet (fail)
      go_wp2
      go_roundw
      case rel => exact ⟨k + 1, by go_num, by omega, Lib.hid (hbr.out.trans (drewN_below _ _ _))⟩
      case measure => simp [intOf]; omega
    · have hkl : k = l.length := by omega
      subst hkl
      go_wp2
      go_ret
      exact ⟨rfl, hbr.out⟩
end Go.Proofs.YtpkbakmiofbojaaDoor
