/- The writer's properties: allowedAll, properties. -/
import Derived.Test.YtemfcaaoobjgkaaGreatDoorPkAdd
import Derived.Test.YtemfcaaoobjgkaaGreatDoorPkAllow
import Derived.Test.YtemfcaaoobjgkaaGreatDoorPrMisc
namespace Go.Proofs.YtemfcaaoobjgkaaGreatDoor
open Go.RowKit

namespace PK
/-- Where the first property stands that may not be. -/
def ixb (k : Int) (j : Nat) : List Pr → Int
  | [] => -1
  | p :: l => if al k p.id = true then ixb k (j + 1) l else (j : Int)
theorem ixb_all (k : Int) : ∀ (l : List Pr) (j : Nat), decide (0 ≤ ixb k j l) = !alAll k l
  | [], j => rfl
  | p :: l, j => by
    unfold ixb alAll
    rw [List.all_cons]
    by_cases h : al k p.id = true
    · rw [if_pos h, h, Bool.true_and]; exact ixb_all k l (j + 1)
    · rw [if_neg h]
      have h' : al k p.id = false := by simpa using h
      rw [h']; simp
theorem ixb_yes {k : Int} {l : List Pr} {j : Nat} {p : Pr} (h : l[j]? = some p) (he : al k p.id = false) : ixb k j (l.drop j) = j := by rw [prop_drop h, ixb, if_neg (by rw [he]; decide)]
theorem ixb_no {k : Int} {l : List Pr} {j : Nat} {p : Pr} (h : l[j]? = some p) (he : al k p.id = true) : ixb k j (l.drop j) = ixb k (j + 1) (l.drop (j + 1)) := by rw [prop_drop h, ixb, if_pos he]
theorem ixb_end (k : Int) (l : List Pr) : ixb k l.length (l.drop l.length) = -1 := by rw [List.drop_length]; rfl
end PK

theorem aclo_any (p : Pr) (b : Nat) (k : Int) (w : World) (hc : w.cell? ⟨b, 0, none⟩ = some (.int .i64 k)) (hb : b < w.heap.size) :
    Calls Tryz.prog 109 #[.agg #[.int .i64 p.id, .int .i64 p.n, .string p.s, .string p.t], .pointer (some ⟨b, 0, none⟩)] w fun e w' => e = .returned (.bool (!PK.al k p.id)) ∧ Below w.heap.size w w' := by
  have hne : b ≠ w.heap.size := by omega
  have hal := (Below.refl w.heap.size w).alloc (Nat.le_refl _) (.cells #[.int .i64 p.id, .int .i64 p.n, .string p.s, .string p.t] 116)
  have C := Lib.hid (allowed_any k p.id (w.alloc (.cells #[.int .i64 p.id, .int .i64 p.n, .string p.s, .string p.t] 116)))
  have Hal := Lib.hid hal
  generalize PK.al k p.id = q at *
  clear hal
  go_enter Tryz.func109, Tryz.ntmps109
  go_wp2_with fail
  refine C.out.mono ?_
  rintro e w1 ⟨rfl, b1⟩
  have B1 := Lib.hid b1
  clear b1 C
  go_wp2
  go_ret
  exact ⟨rfl, Hal.out.trans (B1.out.mono (by simp))⟩

set_option maxRecDepth 100000 in
set_option maxHeartbeats 1000000 in
theorem aifn_any (A : Option Addr) (cap : Nat) (l : List Pr) (b : Nat) (kd : Int) (w : World) (hl : l.length ≤ 1000) (h : Props w A l) (hc : w.cell? ⟨b, 0, none⟩ = some (.int .i64 kd)) (hb : b < w.heap.size) :
    Calls Tryz.prog 127 #[.slice A l.length cap, .func (.func 109) #[] #[.pointer (some ⟨b, 0, none⟩)]] w fun e w' => e = .returned (.int .i64 (PK.ixb kd 0 l)) ∧ Below w.heap.size w w' := by
  have H := Lib.hid h
  have HC := Lib.hid hc
  clear h hc
  go_enter Tryz.func127, Tryz.ntmps127
  go_wp2
  go_loopw [8] (fun i wr => ∃ k : Nat, i = .int .i64 k ∧ k ≤ l.length ∧ Hid (PK.ixb kd k (l.drop k) = PK.ixb kd 0 l) ∧ Hid (Below w.heap.size w wr)) (fun i _ => l.length - (intOf i).toNat)
  case atStart => exact ⟨0, rfl, by omega, Lib.hid rfl, Lib.hid (Below.refl _ _)⟩
  case round =>
    obtain ⟨k, rfl, hk, hk1, hbr⟩ := hrel
    have hsr := hbr.out.size
    by_cases hlt : k < l.length
    · obtain ⟨p, hp⟩ : ∃ p, l[k]? = some p := ⟨l[k], List.getElem?_eq_getElem hlt⟩
      obtain ⟨g, o, rfl, hg, r0, r1, r2, r3⟩ := H.out k p hp
      have q0 : wr.cell? ⟨g, o + k * 4, none⟩ = some (.int .i64 p.id) := by rw [hbr.out.cell (by simp; omega)]; exact r0
      have q1 : wr.cell? ⟨g, o + k * 4 + 1, none⟩ = some (.int .i64 p.n) := by rw [hbr.out.cell (by simp; omega)]; exact r1
      have q2 : wr.cell? ⟨g, o + k * 4 + 2, none⟩ = some (.string p.s) := by rw [hbr.out.cell (by simp; omega)]; exact r2
      have q3 : wr.cell? ⟨g, o + k * 4 + 3, none⟩ = some (.string p.t) := by rw [hbr.out.cell (by simp; omega)]; exact r3
      have C := Lib.hid (aclo_any p b kd wr (by rw [hbr.out.cell (p := ⟨b, 0, none⟩) hb]; exact HC.out) (by omega))
      have i1 : (k : Int) < (l.length : Int) := by omega
      have i0 : (0 : Int) ≤ (k : Int) := by omega
      clear r0 r1 r2 r3
      by_cases he : PK.al kd p.id = true
      · have E1 := Lib.hid (PK.ixb_no hp he)
        rw [he] at C
        clear hp he
        go_wp2_with fail
        refine C.out.mono ?_
        rintro e w1 ⟨rfl, b1⟩
        have B1 := Lib.hid b1
        clear b1 C
        go_wp2
        go_roundw
        case rel => exact ⟨k + 1, by go_num, by omega, Lib.hid (by rw [← E1.out]; exact hk1.out), Lib.hid (hbr.out.trans (B1.out.mono hsr))⟩
        case measure => simp [intOf]; omega
      · have he' : PK.al kd p.id = false := by simpa using he
        have E1 := Lib.hid (PK.ixb_yes hp he')
        rw [he'] at C
        clear hp he he'
        go_wp2_with fail
        refine C.out.mono ?_
        rintro e w1 ⟨rfl, b1⟩
        have B1 := Lib.hid b1
        clear b1 C
        go_wp2
        go_ret
        exact ⟨by rw [← hk1.out, E1.out]; rfl, hbr.out.trans (B1.out.mono hsr)⟩
    · have hkl : k = l.length := by omega
      subst hkl
      have E1 := Lib.hid (PK.ixb_end kd l)
      go_wp2
      go_ret
      exact ⟨by rw [← hk1.out, E1.out]; rfl, hbr.out⟩
theorem acon_any (A : Option Addr) (cap : Nat) (l : List Pr) (b : Nat) (kd : Int) (w : World) (hl : l.length ≤ 1000) (h : Props w A l) (hc : w.cell? ⟨b, 0, none⟩ = some (.int .i64 kd)) (hb : b < w.heap.size) :
    Calls Tryz.prog 108 #[.slice A l.length cap, .func (.func 109) #[] #[.pointer (some ⟨b, 0, none⟩)]] w fun e w' => e = .returned (.bool (!PK.alAll kd l)) ∧ Below w.heap.size w w' := by
  have C := Lib.hid (aifn_any A cap l b kd w hl h hc hb)
  have E := Lib.hid (PK.ixb_all kd l 0)
  clear h hc
  generalize PK.ixb kd 0 l = x at *
  generalize PK.alAll kd l = y at *
  go_enter Tryz.func108, Tryz.ntmps108
  go_wp2_with fail
  refine C.out.mono ?_
  rintro e w1 ⟨rfl, b1⟩
  have B1 := Lib.hid b1
  clear b1 C
  go_wp2
  go_ret
  exact ⟨by rw [← E.out]; rfl, B1.out⟩
theorem alall_any (A : Option Addr) (cap : Nat) (l : List Pr) (kd : Int) (w : World) (hl : l.length ≤ 1000) (h : Props w A l) :
    Calls Tryz.prog 83 #[.int .i64 kd, .slice A l.length cap] w fun e w' => e = .returned (.bool (PK.alAll kd l)) ∧ Below w.heap.size w w' := by
  have hbl := (Below.refl w.heap.size w).alloc (Nat.le_refl _) (.cells #[.int .i64 kd] 38)
  have C := Lib.hid (acon_any A cap l w.heap.size kd (w.alloc (.cells #[.int .i64 kd] 38)) hl (h.below hbl) (by rw [World.cell?_alloc_at _ _ _ _ rfl]; rfl) (by simp))
  have hmf : ∀ (fn : Fn) (first cap : Array Value) (w : World), (Instr.makeFunc fn first cap).run Tryz.prog w = .ok (.func fn first cap) w := fun _ _ _ _ => rfl
  have Hb := Lib.hid hbl
  generalize PK.alAll kd l = y at *
  clear h hbl
  go_enter Tryz.func83, Tryz.ntmps83
  go_wp2_with fail
  refine C.out.mono ?_
  rintro e w1 ⟨rfl, b1⟩
  have B1 := Lib.hid b1
  clear b1 C
  go_wp2
  go_ret
  exact ⟨by simp, Hb.out.trans (B1.out.mono (by simp))⟩

namespace PR
end PR
/-- A row of properties that the program can put. -/
def PrRow (w : World) (A : Option Addr) (cap : Nat) (l : List Pr) : Prop := Props w A l ∧ l.length ≤ 100 ∧ l.length ≤ cap ∧ cap ≤ 9223372036854775807 ∧ ∀ p ∈ l, Fine p
theorem PrRow.below {w w' : World} {A : Option Addr} {cap : Nat} {l : List Pr} (h : PrRow w A cap l) (hb : Below w.heap.size w w') : PrRow w' A cap l := ⟨h.1.below hb, h.2⟩
end Go.Proofs.YtemfcaaoobjgkaaGreatDoor
