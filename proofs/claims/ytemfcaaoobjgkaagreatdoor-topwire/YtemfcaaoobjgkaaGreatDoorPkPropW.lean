/- The writer's properties: allowedAll, properties. -/
import Derived.Test.YtemfcaaoobjgkaaGreatDoorPkAdd
import Derived.Test.YtemfcaaoobjgkaaGreatDoorPkAllow
import Derived.Test.YtemfcaaoobjgkaaGreatDoorPrMisc
namespace Go.Proofs.YtemfcaaoobjgkaaGreatDoor
open Go.RowKit

namespace PK
/-- Where the first property stands that may not be. -/
def ixb (k : Int) (j : Nat) : List Pr → Int
  | [] => -1
  | p :: l => if al k p.id = true then ixb k (j + 1) l else (j : Int)
theorem ixb_all (k : Int) : ∀ (l : List Pr) (j : Nat), decide (0 ≤ ixb k j l) = !alAll k l
  | [], j => rfl
  | p :: l, j => by
    unfold ixb alAll
    rw [List.all_cons]
    by_cases h : al k p.id = true
    · rw [if_pos h, h, Bool.true_and]; exact ixb_all k l (j + 1)
    · rw [if_neg h]
      have h' : al k p.id = false := by simpa using h
      rw [h']; simp
theorem ixb_yes {k : Int} {l : List Pr} {j : Nat} {p : Pr} (h : l[j]? = some p) (he : al k p.id = false) : ixb k j (l.drop j) = j := by rw [prop_drop h, ixb, if_neg (by rw [he]; decide)]
theorem ixb_no {k : Int} {l : List Pr} {j : Nat} {p : Pr} (h : l[j]? = some p) (he : al k p.id = true) : ixb k j (l.drop j) = ixb k (j + 1) (l.drop (j + 1)) := by rw [prop_drop h, ixb, if_pos he]
theorem ixb_end (k : Int) (l : List Pr) : ixb k l.length (l.drop l.length) = -1 := by rw [List.drop_length]; rfl
end PK

theorem aclo_any (p : Pr) (b : Nat) (k : Int) (w : World) (hc : w.cell? ⟨b, 0, none⟩ = some (.int .i64 k)) (hb : b < w.heap.size) :
    Calls Tryz.prog 109 #[.agg #[.int .i64 p.id, .int .i64 p.n, .string p.s, .string p.t], .pointer (some ⟨b, 0, none⟩)] w fun e w' => e = .returned (.bool (!PK.al k p.id)) ∧ Below w.heap.size w w' := by
  have hne : b ≠ w.heap.size := by omega
  have hal := (Below.refl w.heap.size w).alloc (Nat.le_refl _) (.cells #[.int .i64 p.id, .int .i64 p.n, .string p.s, .string p.t] 116)
  have C := Lib.hid (allowed_any k p.id (w.alloc (.cells #[.int .i64 p.id, .int .i64 p.n, .string p.s, .string p.t] 116)))
  have Hal := Lib.hid hal
  generalize PK.al k p.id = q at *
  clear hal
  go_enter Tryz.func109, Tryz.ntmps109
  go_wp2_with fail
  refine C.out.mono ?_
  rintro e w1 ⟨rfl, b1⟩
  have B1 := Lib.hid b1
  clear b1 C
  go_wp2
  go_ret
  exact ⟨rfl, Hal.out.trans (B1.out.mono (by simp))⟩

set_option maxRecDepth 100000 in
set_option maxHeartbeats 1000000 in
theorem aifn_any (A : Option Addr) (cap : Nat) (l : List Pr) (b : Nat) (kd : Int) (w : World) (hl : l.length ≤ 1000) (h : Props w A l) (hc : w.cell? ⟨b, 0, none⟩ = some (.int .i64 kd)) (hb : b < w.heap.size) :
    Calls Tryz.prog 127 #[.slice A l.length cap, .func (.func 109) #[] #[.pointer (some ⟨b, 0, none⟩)]] w fun e w' => e = .returned (.int .i64 (PK.ixb kd 0 l)) ∧ Below w.heap.size w w' := by
  have H := Lib.hid h
  have HC := Lib.hid hc
  clear h hc
  go_enter Tryz.func127, Tryz.ntmps127
  go_wp2
  go_loopw [8] (fun i wr => ∃ k : Nat, i = .int .i64 k ∧ k ≤ l.length ∧ Hid (PK.ixb kd k (l.drop k) = PK.ixb kd 0 l) ∧ Hid (Below w.heap.size w wr)) (fun i _ => l.length - (intOf i).toNat)
  case atStart => exact ⟨0, rfl, by omega, Lib.hid rfl, Lib.hid (Below.refl _ _)⟩
  case round =>
    obtain ⟨k, rfl, hk, hk1, hbr⟩ := hrel
    have hsr := hbr.out.size
    by_cases hlt : k < l.length
    · obtain ⟨p, hp⟩ : ∃ p, l[k]? = some p := ⟨l[k], List.getElem?_eq_getElem hlt⟩
      obtain ⟨g, o, rfl, hg, r0, r1, r2, r3⟩ := H.out k p hp
      have q0 : wr.cell? ⟨g, o + k * 4, none⟩ = some (.int .i64 p.id) := by rw [hbr.out.cell (by simp; omega)]; exact r0
      have q1 : wr.cell? ⟨g, o + k * 4 + 1, none⟩ = some (.int .i64 p.n) := by rw [hbr.out.cell (by simp; omega)]; exact r1
      have q2 : wr.cell? ⟨g, o + k * 4 + 2, none⟩ = some (.string p.s) := by rw [hbr.out.cell (by simp; omega)]; exact r2
      have q3 : wr.cell? ⟨g, o + k * 4 + 3, none⟩ = some (.string p.t) := by rw [hbr.out.cell (by simp; omega)]; exact r3
      have C := Lib.hid (aclo_any p b kd wr (by rw [hbr.out.cell (p := ⟨b, 0, none⟩) hb]; exact HC.out) (by omega))
      have i1 : (k : Int) < (l.length : Int) := by omega
      have i0 : (0 : Int) ≤ (k : Int) := by omega
      clear r0 r1 r2 r3
      by_cases he : PK.al kd p.id = true
      · have E1 := Lib.hid (PK.ixb_no hp he)
        rw [he] at C
        clear hp he
        go_wp2_with fail
        refine C.out.mono ?_
        rintro e w1 ⟨rfl, b1⟩
        have B1 := Lib.hid b1
        clear b1 C
        go_wp2
        go_roundw
        case rel => exact ⟨k + 1, by go_num, by omega, Lib.hid (by rw [← E1.out]; exact hk1.out), Lib.hid (hbr.out.trans (B1.out.mono hsr))⟩
        case measure => simp [intOf]; omega
      · have he' : PK.al kd p.id = false := by simpa using he
        have E1 := Lib.hid (PK.ixb_yes hp he')
        rw [he'] at C
        clear hp he he'
        go_wp2_with fail
        refine C.out.mono ?_
        rintro e w1 ⟨rfl, b1⟩
        have B1 := Lib.hid b1
        clear b1 C
        go_wp2
        go_ret
        exact ⟨by rw [← hk1.out, E1.out]; rfl, hbr.out.trans (B1.out.mono hsr)⟩
    · have hkl : k = l.length := by omega
      subst hkl
      have E1 := Lib.hid (PK.ixb_end kd l)
      go_wp2
      go_ret
      exact ⟨by rw [← hk1.out, E1.out]; rfl, hbr.out⟩
theorem acon_any (A : Option Addr) (cap : Nat) (l : List Pr) (b : Nat) (kd : Int) (w : World) (hl : l.length ≤ 1000) (h : Props w A l) (hc : w.cell? ⟨b, 0, none⟩ = some (.int .i64 kd)) (hb : b < w.heap.size) :
    Calls Tryz.prog 108 #[.slice A l.length cap, .func (.func 109) #[] #[.pointer (some ⟨b, 0, none⟩)]] w fun e w' => e = .returned (.bool (!PK.alAll kd l)) ∧ Below w.heap.size w w' := by
  have C := Lib.hid (aifn_any A cap l b kd w hl h hc hb)
  have E := Lib.hid (PK.ixb_all kd l 0)
  clear h hc
  generalize PK.ixb kd 0 l = x at *
  generalize PK.alAll kd l = y at *
  go_enter Tryz.func108, Tryz.ntmps108
  go_wp2_with fail
  refine C.out.mono ?_
  rintro e w1 ⟨rfl, b1⟩
  have B1 := Lib.hid b1
  clear b1 C
  go_wp2
  go_ret
  exact ⟨by rw [← E.out]; rfl, B1.out⟩
theorem alall_any (A : Option Addr) (cap : Nat) (l : List Pr) (kd : Int) (w : World) (hl : l.length ≤ 1000) (h : Props w A l) :
    Calls Tryz.prog 83 #[.int .i64 kd, .slice A l.length cap] w fun e w' => e = .returned (.bool (PK.alAll kd l)) ∧ Below w.heap.size w w' := by
  have hbl := (Below.refl w.heap.size w).alloc (Nat.le_refl _) (.cells #[.int .i64 kd] 38)
  have C := Lib.hid (acon_any A cap l w.heap.size kd (w.alloc (.cells #[.int .i64 kd] 38)) hl (h.below hbl) (by rw [World.cell?_alloc_at _ _ _ _ rfl]; rfl) (by simp))
  have hmf : ∀ (fn : Fn) (first cap : Array Value) (w : World), (Instr.makeFunc fn first cap).run Tryz.prog w = .ok (.func fn first cap) w := fun _ _ _ _ => rfl
  have Hb := Lib.hid hbl
  generalize PK.alAll kd l = y at *
  clear h hbl
  go_enter Tryz.func83, Tryz.ntmps83
  go_wp2_with fail
  refine C.out.mono ?_
  rintro e w1 ⟨rfl, b1⟩
  have B1 := Lib.hid b1
  clear b1 C
  go_wp2
  go_ret
  exact ⟨by simp, Hb.out.trans (B1.out.mono (by simp))⟩

namespace PR
theorem putS_small (l : List Pr) : (putS l).size ≤ 8388996 := by
  unfold putS
  split
  · exact Nat.zero_le _
  · split
    · exact Nat.zero_le _
    · rw [ByteArray.size_append, strOfNums_size]
      have := putL_len (allS l).size; have := allS_size l
      omega
end PR
/-- A row of properties that the program can put. -/
def PrRow (w : World) (A : Option Addr) (cap : Nat) (l : List Pr) : Prop := Props w A l ∧ l.length ≤ 100 ∧ l.length ≤ cap ∧ cap ≤ 9223372036854775807 ∧ ∀ p ∈ l, Fine p
theorem PrRow.below {w w' : World} {A : Option Addr} {cap : Nat} {l : List Pr} (h : PrRow w A cap l) (hb : Below w.heap.size w w') : PrRow w' A cap l := ⟨h.1.below hb, h.2⟩
theorem wprops_any (b N : Nat) (o : ByteArray × Int) (k : Int) (A : Option Addr) (cap : Nat) (l : List Pr) (w : World) (h : WO b N o w) (hN : N ≤ 999) (hl : ∀ W, Kp b w W → PrRow W A cap l) (hT : ∀ W, Kp b w W → Tabs W) :
    Calls Tryz.prog 50 #[.pointer (some ⟨b, 0, none⟩), .int .i64 k, .slice A l.length cap] w (WP b (N + 1) (PK.pr o k l) w) := by
  obtain ⟨p1, p2, p3, p4, p5⟩ := hl w (Kp.refl _ _)
  have C1 := Lib.hid (putall_any A cap l w p2 p3 p4 p1 p5 (hT w (Kp.refl _ _)))
  have hc := putC_le l
  have hb := h.lt
  have C2 : Hid (∀ W, Below w.heap.size w W → Calls Tryz.prog 79 #[.pointer (some ⟨b, 0, none⟩), .string (PR.putS l), .int .u8 (PR.putC l)] W (WP b (N + 1) (PK.ad o (PR.putS l) (PR.putC l)) W)) := fun W hW => wadd_any b N 1 o _ _ W (h.below hW) (by have := PR.putS_small l; omega) (Nat.le_trans (PR.putS_small l) (by decide)) (by omega) (by decide) hc
  have C4 : Hid (∀ W, Kp b w W → Calls Tryz.prog 83 #[.int .i64 k, .slice A l.length cap] W fun e w' => e = .returned (.bool (PK.alAll k l)) ∧ Below W.heap.size W w') := fun W hW => alall_any A cap l k W (by omega) (hl W hW).1
  have C5 : Hid (∀ o W, WO b (N + 1) o W → Calls Tryz.prog 45 #[.pointer (some ⟨b, 0, none⟩), .int .u8 130] W (WP b (N + 1) (PK.rf o 130) W)) := fun o W hW => wrefuse_any b _ o 130 W hW (by omega) (by decide)
  unfold PK.pr
  generalize PK.ad o (PR.putS l) (PR.putC l) = o' at *
  generalize PR.putS l = S at *
  generalize PR.putC l = c at *
  generalize PK.alAll k l = y at *
  obtain ⟨O2, hO2⟩ : ∃ x, x = (if y = true then o' else PK.rf o' 130) := ⟨_, rfl⟩
  rw [← hO2]
  have HO2 := Lib.hid hO2
  clear h hl hT p1 p2 p3 p4 p5 hO2
  go_enter Tryz.func50, Tryz.ntmps50
  go_wp2_with fail
  refine C1.out.mono ?_
  rintro e w1 ⟨rfl, b1⟩
  have C3 := Lib.hid (C2.out w1 b1)
  have K1 : Hid (Kp b w w1) := Kp.of_below (Nat.le_of_lt hb) b1
  clear C1 C2 b1
  go_wp2_with fail
  refine C3.out.mono ?_
  rintro e w2 ⟨rfl, hw, hk⟩
  have H1 := Lib.hid hw
  have K2 : Hid (Kp b w w2) := K1.out.trans hk
  have C6 := Lib.hid (C4.out w2 K2.out)
  have hb2 := hw.lt
  clear hw hk C3 C4
  go_wp2_with fail
  refine C6.out.mono ?_
  rintro e w3 ⟨rfl, b3⟩
  have H3 : Hid (WO b (N + 1) o' w3) := H1.out.below b3
  have K3 : Hid (Kp b w w3) := K2.out.trans (Kp.of_below (Nat.le_of_lt hb2) b3)
  clear b3 C6
  cases y
  · have C7 := Lib.hid (C5.out _ _ H3.out)
    clear C5
    go_wp2_with fail
    refine C7.out.mono ?_
    rintro e w4 ⟨rfl, hw, hk⟩
    have H4 := Lib.hid hw
    have K4 : Hid (Kp b w w4) := K3.out.trans hk
    clear hw hk C7
    go_wp2
    go_end0
    exact ⟨rfl, by rw [HO2.out]; exact H4.out, K4.out⟩
  · clear C5
    go_wp2
    go_end0
    exact ⟨rfl, by rw [HO2.out]; exact H3.out, K3.out⟩
end Go.Proofs.YtemfcaaoobjgkaaGreatDoor
