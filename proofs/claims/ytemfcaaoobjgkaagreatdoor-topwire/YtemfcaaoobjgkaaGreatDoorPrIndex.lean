/- indexOf: where the first property of an identifier stands. -/
import Derived.Test.YtemfcaaoobjgkaaGreatDoorPrRow
namespace Go.Proofs.YtemfcaaoobjgkaaGreatDoor
open Go.RowKit

theorem clo_any (p : Pr) (b : Nat) (id : Int) (w : World) (hc : w.cell? ⟨b, 0, none⟩ = some (.int .i64 id)) (hb : b < w.heap.size) :
    Calls Tryz.prog 146 #[.agg #[.int .i64 p.id, .int .i64 p.n, .string p.s, .string p.t], .pointer (some ⟨b, 0, none⟩)] w fun e w' => e = .returned (.bool (p.id == id)) ∧ Below w.heap.size w w' := by
  have hne : b ≠ w.heap.size := by omega
  go_enter Tryz.func146, Tryz.ntmps146
  go_wp2
  go_ret
  exact ⟨rfl, (Below.refl _ _).alloc (Nat.le_refl _) _⟩

set_option maxRecDepth 100000 in
set_option maxHeartbeats 1000000 in
theorem ifn_any (A : Option Addr) (cap : Nat) (l : List Pr) (b : Nat) (id : Int) (w : World) (hl : l.length ≤ 1000) (h : Props w A l) (hc : w.cell? ⟨b, 0, none⟩ = some (.int .i64 id)) (hb : b < w.heap.size) :
    Calls Tryz.prog 127 #[.slice A l.length cap, .func (.func 146) #[] #[.pointer (some ⟨b, 0, none⟩)]] w fun e w' => e = .returned (.int .i64 (ix id 0 l)) ∧ Below w.heap.size w w' := by
  have H := Lib.hid h
  have HC := Lib.hid hc
  clear h hc
  go_enter Tryz.func127, Tryz.ntmps127
  go_wp2
  go_loopw [8] (fun i wr => ∃ k : Nat, i = .int .i64 k ∧ k ≤ l.length ∧ Hid (ix id k (l.drop k) = ix id 0 l) ∧ Hid (Below w.heap.size w wr)) (fun i _ => l.length - (intOf i).toNat)
  case atStart => exact ⟨0, rfl, by omega, Lib.hid rfl, Lib.hid (Below.refl _ _)⟩
  case round =>
    obtain ⟨k, rfl, hk, hk1, hbr⟩ := hrel
    have hsr := hbr.out.size
    by_cases hlt : k < l.length
    · obtain ⟨p, hp⟩ : ∃ p, l[k]? = some p := ⟨l[k], List.getElem?_eq_getElem hlt⟩
      obtain ⟨g, o, rfl, hg, r0, r1, r2, r3⟩ := H.out k p hp
      have q0 : wr.cell? ⟨g, o + k * 4, none⟩ = some (.int .i64 p.id) := by rw [hbr.out.cell (by simp; omega)]; exact r0
      have q1 : wr.cell? ⟨g, o + k * 4 + 1, none⟩ = some (.int .i64 p.n) := by rw [hbr.out.cell (by simp; omega)]; exact r1
      have q2 : wr.cell? ⟨g, o + k * 4 + 2, none⟩ = some (.string p.s) := by rw [hbr.out.cell (by simp; omega)]; exact r2
      have q3 : wr.cell? ⟨g, o + k * 4 + 3, none⟩ = some (.string p.t) := by rw [hbr.out.cell (by simp; omega)]; exact r3
      have C := Lib.hid (clo_any p b id wr (by rw [hbr.out.cell (p := ⟨b, 0, none⟩) hb]; exact HC.out) (by omega))
      have i1 : (k : Int) < (l.length : Int) := by omega
      have i0 : (0 : Int) ≤ (k : Int) := by omega
      clear r0 r1 r2 r3
      by_cases he : (p.id == id) = true
      · have E1 := Lib.hid (ix_yes hp he)
        rw [he] at C
        clear hp he
        go_wp2_with fail
        refine C.out.mono ?_
        rintro e w1 ⟨rfl, b1⟩
        have B1 := Lib.hid b1
        clear b1 C
        go_wp2
        go_ret
        exact ⟨by rw [← hk1.out, E1.out]; rfl, hbr.out.trans (B1.out.mono hsr)⟩
      · have he' : (p.id == id) = false := by simpa using he
        have E1 := Lib.hid (ix_no hp he')
        rw [he'] at C
        clear hp he he'
        go_wp2_with fail
        refine C.out.mono ?_
        rintro e w1 ⟨rfl, b1⟩
        have B1 := Lib.hid b1
        clear b1 C
        go_wp2
        go_roundw
        case rel => exact ⟨k + 1, by go_num, by omega, Lib.hid (by rw [← E1.out]; exact hk1.out), Lib.hid (hbr.out.trans (B1.out.mono hsr))⟩
        case measure => simp [intOf]; omega
    · have hkl : k = l.length := by omega
      subst hkl
      have E1 := Lib.hid (ix_end id l)
      go_wp2
      go_ret
      exact ⟨by rw [← hk1.out, E1.out]; rfl, hbr.out⟩

theorem index_any (A : Option Addr) (cap : Nat) (l : List Pr) (id : Int) (w : World) (hl : l.length ≤ 1000) (h : Props w A l) :
    Calls Tryz.prog 139 #[.slice A l.length cap, .int .i64 id] w fun e w' => e = .returned (.int .i64 (ix id 0 l)) ∧ Below w.heap.size w w' := by
  have hbl := (Below.refl w.heap.size w).alloc (Nat.le_refl _) (.cells #[.int .i64 id] 3)
  have C := Lib.hid (ifn_any A cap l w.heap.size id (w.alloc (.cells #[.int .i64 id] 3)) hl (h.below hbl) (by rw [World.cell?_alloc_at _ _ _ _ rfl]; rfl) (by simp))
  have hmf : ∀ (fn : Fn) (first cap : Array Value) (w : World), (Instr.makeFunc fn first cap).run Tryz.prog w = .ok (.func fn first cap) w := fun _ _ _ _ => rfl
  have Hb := Lib.hid hbl
  clear h hbl
  go_enter Tryz.func139, Tryz.ntmps139
  go_wp2_with fail
  refine C.out.mono ?_
  rintro e w1 ⟨rfl, b1⟩
  have B1 := Lib.hid b1
  clear b1 C
  go_wp2
  go_ret
  exact ⟨rfl, Hb.out.trans (B1.out.mono (by simp))⟩
end Go.Proofs.YtemfcaaoobjgkaaGreatDoor
