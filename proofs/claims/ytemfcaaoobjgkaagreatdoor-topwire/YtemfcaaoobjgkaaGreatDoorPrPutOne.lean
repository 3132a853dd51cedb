/- The bytes of one property behind those ahead of it. -/
import Derived.Test.YtemfcaaoobjgkaaGreatDoorPrPutFn
import Derived.Test.YtemfcaaoobjgkaaGreatDoorPrBld
namespace Go.Proofs.YtemfcaaoobjgkaaGreatDoor
open Go.RowKit

theorem dup_38 (l : List Pr) : PR.dup l 38 = false := rfl
theorem dup_ix {l : List Pr} {id : Int} (h : (id == 38) = false) : PR.dup l id = decide (0 ≤ ix id 0 l) := by unfold PR.dup; rw [h]; rfl

set_option maxHeartbeats 1000000 in
theorem idc_any (A : Option Addr) (cap : Nat) (l : List Pr) (id : Int) (w : World) (hl : l.length ≤ 1000) (h : Props w A l) :
    Calls Tryz.prog 125 #[.slice A l.length cap, .int .i64 id] w fun e w' => e = .returned (.int .u8 (PR.idC l id)) ∧ Below w.heap.size w w' := by
  have CK := Lib.hid (kind_any id)
  have CI := Lib.hid (index_any A cap l id w hl h)
  clear h
  unfold PR.idC
  by_cases hk : PR.kd id = 0
  · rw [if_pos hk]
    rw [hk] at CK
    clear hk
    go_enter Tryz.func125, Tryz.ntmps125
    go_wp2_with fail
    refine (CK.out _).mono ?_
    rintro e w1 ⟨rfl, rfl⟩
    go_wp2
    go_ret
    exact ⟨rfl, Below.refl _ _⟩
  · rw [if_neg hk]
    have e0 : (PR.kd id == 0) = false := by rw [beq_eq_false_iff_ne]; exact hk
    clear hk
    generalize PR.kd id = k at *
    by_cases h38 : (id == 38) = true
    · have hid : id = 38 := by simpa using h38
      subst hid
      rw [dup_38, if_neg (by decide)]
      go_enter Tryz.func125, Tryz.ntmps125
      go_wp2_with fail
      refine (CK.out _).mono ?_
      rintro e w1 ⟨rfl, rfl⟩
      go_wp2
      go_ret
      exact ⟨rfl, Below.refl _ _⟩
    · have h38' : (id == 38) = false := by simpa using h38
      have n38 : (id != 38) = true := by rw [bne, h38']; rfl
      rw [dup_ix h38']
      clear h38
      by_cases hx : 0 ≤ ix id 0 l
      · rw [if_pos (by simpa using hx)]
        generalize ix id 0 l = x at *
        go_enter Tryz.func125, Tryz.ntmps125
        go_wp2_with fail
        refine (CK.out _).mono ?_
        rintro e w1 ⟨rfl, rfl⟩
        go_wp2_with fail
        refine CI.out.mono ?_
        rintro e w1 ⟨rfl, b1⟩
        have B1 := Lib.hid b1
        clear b1
        go_wp2
        go_ret
        exact ⟨rfl, B1.out⟩
      · rw [if_neg (by simpa using hx)]
        have hx' : ix id 0 l < 0 := by omega
        generalize ix id 0 l = x at *
        clear hx
        go_enter Tryz.func125, Tryz.ntmps125
        go_wp2_with fail
        refine (CK.out _).mono ?_
        rintro e w1 ⟨rfl, rfl⟩
        go_wp2_with fail
        refine CI.out.mono ?_
        rintro e w1 ⟨rfl, b1⟩
        have B1 := Lib.hid b1
        clear b1
        go_wp2
        go_ret
        exact ⟨rfl, B1.out⟩

/-- A property whose texts and number a machine can hold. -/
def Fine (p : Pr) : Prop := (p.s.size ≤ 140737488351232 ∧ p.t.size ≤ 140737488351232) ∧ (-9223372036854775808 ≤ p.n ∧ p.n ≤ 9223372036854775807)

set_option maxRecDepth 100000 in
set_option maxHeartbeats 2000000 in
theorem one_any (A : Option Addr) (cap : Nat) (l : List Pr) (p : Pr) (w : World) (hl : l.length ≤ 1000) (h : Props w A l) (hp : Fine p) (hT : Tabs w) :
    Calls Tryz.prog 106 #[.slice A l.length cap, .agg #[.int .i64 p.id, .int .i64 p.n, .string p.s, .string p.t]] w fun e w' => e = .returned (.tuple #[.string (if PR.oneC l p ≠ 0 then ⟨#[]⟩ else PR.oneS p), .int .u8 (PR.oneC l p)]) ∧ Below w.heap.size w w' := by
  have hbl := (Below.refl w.heap.size w).alloc (Nat.le_refl _) (.cells #[.int .i64 p.id, .int .i64 p.n, .string p.s, .string p.t] 116)
  have C1 := Lib.hid (idc_any A cap l p.id _ hl (h.below hbl))
  have C2 : Hid (∀ W', Below w.heap.size w W' → Calls Tryz.prog 126 #[.agg #[.int .i64 p.id, .int .i64 p.n, .string p.s, .string p.t]] W' fun e w' => e = .returned (.tuple #[.string (PR.valS p), .int .u8 (PR.valC p)]) ∧ Below W'.heap.size W' w') := fun W' hW => value_any p hp.1 hp.2 W' (hT.below hW)
  have C3 := Lib.hid (put_any p.id)
  have zv := PR.valS_size p
  have zp : (strOfNums (VP.putL p.id)).size ≤ 4 := by rw [strOfNums_size]; exact PR.putL_len p.id
  unfold PR.oneC PR.oneS
  obtain ⟨id, n, s, t⟩ := p
  simp only at *
  have Hb := Lib.hid hbl
  clear h hp hT hbl
  generalize PR.idC l id = c1 at *
  generalize PR.valS ⟨id, n, s, t⟩ = VS at *
  generalize PR.valC ⟨id, n, s, t⟩ = VC at *
  generalize strOfNums (VP.putL id) = PS at *
  generalize VP.putC id = PC at *
  by_cases h1 : c1 = 0
  · subst h1
    by_cases h2 : VC = 0
    · subst h2
      simp only [ne_eq, not_true_eq_false, if_false]
      go_enter Tryz.func106, Tryz.ntmps106
      go_wp2_with fail
      refine C1.out.mono ?_
      rintro e w1 ⟨rfl, b1⟩
      obtain ⟨q0, q1, q2, q3⟩ : w1.cell? ⟨w.heap.size, 0, none⟩ = some (.int .i64 id) ∧ w1.cell? ⟨w.heap.size, 1, none⟩ = some (.int .i64 n) ∧ w1.cell? ⟨w.heap.size, 2, none⟩ = some (.string s) ∧ w1.cell? ⟨w.heap.size, 3, none⟩ = some (.string t) := by
        refine ⟨?_, ?_, ?_, ?_⟩ <;> (rw [b1.cell (by simp), World.cell?_alloc_at _ _ _ _ rfl]; rfl)
      have B1 : Hid (Below w.heap.size w w1) := Hb.out.trans (b1.mono (by simp))
      have hs1 : w.heap.size < w1.heap.size := by have := b1.size; simp at this; omega
      clear b1
      go_wp2_with fail
      refine (C2.out _ B1.out).mono ?_
      rintro e w2 ⟨rfl, b2⟩
      have r0 : w2.cell? ⟨w.heap.size, 0, none⟩ = some (.int .i64 id) := by rw [b2.cell (p := ⟨w.heap.size, 0, none⟩) hs1]; exact q0
      have B2 : Hid (Below w.heap.size w w2) := B1.out.trans (b2.mono B1.out.size)
      clear b2 q0 q1 q2 q3
      go_wp2_with fail
      refine (C3.out _).mono ?_
      rintro e w3 ⟨rfl, b3⟩
      have B3 : Hid (Below w.heap.size w w3) := B2.out.trans (b3.mono B2.out.size)
      clear b3
      go_wp2
      go_ret2
      exact ⟨rfl, B3.out⟩
    · have hne : (VC != 0) = true := by rw [bne_iff_ne]; exact h2
      simp only [ne_eq, not_true_eq_false, if_false, h2, not_false_eq_true, if_true]
      clear h2
      go_enter Tryz.func106, Tryz.ntmps106
      go_wp2_with fail
      refine C1.out.mono ?_
      rintro e w1 ⟨rfl, b1⟩
      obtain ⟨q0, q1, q2, q3⟩ : w1.cell? ⟨w.heap.size, 0, none⟩ = some (.int .i64 id) ∧ w1.cell? ⟨w.heap.size, 1, none⟩ = some (.int .i64 n) ∧ w1.cell? ⟨w.heap.size, 2, none⟩ = some (.string s) ∧ w1.cell? ⟨w.heap.size, 3, none⟩ = some (.string t) := by
        refine ⟨?_, ?_, ?_, ?_⟩ <;> (rw [b1.cell (by simp), World.cell?_alloc_at _ _ _ _ rfl]; rfl)
      have B1 : Hid (Below w.heap.size w w1) := Hb.out.trans (b1.mono (by simp))
      clear b1
      go_wp2_with fail
      refine (C2.out _ B1.out).mono ?_
      rintro e w2 ⟨rfl, b2⟩
      have B2 : Hid (Below w.heap.size w w2) := B1.out.trans (b2.mono B1.out.size)
      clear b2 q0 q1 q2 q3
      go_wp2
      go_ret2
      exact ⟨rfl, B2.out⟩
  · have hne : (c1 != 0) = true := by rw [bne_iff_ne]; exact h1
    simp only [ne_eq, h1, not_false_eq_true, if_true]
    clear h1
    go_enter Tryz.func106, Tryz.ntmps106
    go_wp2_with fail
    refine C1.out.mono ?_
    rintro e w1 ⟨rfl, b1⟩
    have B1 : Hid (Below w.heap.size w w1) := Hb.out.trans (b1.mono (by simp))
    clear b1
    go_wp2
    go_ret2
    exact ⟨rfl, B1.out⟩

theorem plen_any (n : Int) (h0 : 0 ≤ n) (h1 : n ≤ 268435455) (w : World) :
    Calls Tryz.prog 107 #[.int .i64 n] w fun e w' => e = .returned (.tuple #[.string (strOfNums (VP.putL n)), .int .u8 0]) ∧ Below w.heap.size w w' := by
  have C := Lib.hid (put_any n w)
  rw [VP.putC_in h0 h1] at C
  go_enter Tryz.func107, Tryz.ntmps107
  go_wp2_with fail
  refine C.out.mono ?_
  rintro e w1 ⟨rfl, b1⟩
  have B1 := Lib.hid b1
  clear b1
  go_wp2
  go_ret2
  exact ⟨rfl, B1.out⟩

theorem blen_any (B b : Nat) (l : List UInt8) (w : World) (h : Bld B b l w) :
    Calls Tryz.prog 27 #[.pointer (some ⟨b, 0, none⟩)] w fun e w' => e = .returned (.int .i64 l.length) ∧ w = w' := by
  obtain ⟨v, hv, A, cap, rfl⟩ : ∃ v, w.cell? ⟨b, 1, none⟩ = some v ∧ ∃ A cap, v = .slice A l.length cap := by
    rcases h with ⟨_, v, h2, h3, _⟩ | ⟨_, v, h2, h3, _⟩
    all_goals
      obtain ⟨A, cap, hv⟩ := own_form h3
      rw [Lib.byteCells_length] at hv
      exact ⟨v, by rw [cell_heap h2]; rfl, A, cap, hv⟩
  clear h
  go_enter Tryz.func27, Tryz.ntmps27
  go_wp2
  go_ret
  exact ⟨rfl, rfl⟩
end Go.Proofs.YtemfcaaoobjgkaaGreatDoor
