/- FaultCodes, of what the law's helper answers. -/
import Derived.Test.YteacjahncngoiaaDoorFaMadeP
namespace Go.Proofs.YteacjahncngoiaaDoor
open Go.RowKit FA

set_option maxRecDepth 100000 in
set_option maxHeartbeats 4000000 in
theorem faultCodes_of (w : World) (v0 : Value) (C : Calls Tryd.prog 9 #[v0] w (MadeP w)) (hT : Tabs w) (hG : 4 ≤ w.heap.size) :
    Calls Tryd.prog 3 #[v0] w fun e w' => e = .returned (.bool true) ∧ Below w.heap.size w w' := by
  have C1 := Lib.hid C
  have HT := Lib.hid hT
  clear C hT
  go_enter Tryd.func3, Tryd.ntmps3
  go_wp2_with fail
  refine C1.out.mono ?_
  rintro en w1 ⟨x, v, y, rfl, hx, hy, hg, hz, b1⟩
  obtain ⟨Ay, ny, cy, rfl⟩ := RepRO.slice hy
  have s1 := b1.size
  have B1 := Lib.hid b1
  have HT1 := Lib.hid (HT.out.below b1)
  have Hx := Lib.hid hx; have Hy := Lib.hid hy
  clear hx hy b1 C1
  have hal : Hid (Below w1.heap.size w1 (w1.alloc (.cells #[.int .i64 (kindO x), .int .i64 (cdO x), .string (whO x), .slice Ay ny cy] 27))) := (Below.refl w1.heap.size w1).alloc (Nat.le_refl _) _
  have hh : Hid ((w1.alloc (.cells #[.int .i64 (kindO x), .int .i64 (cdO x), .string (whO x), .slice Ay ny cy] 27)).heap[w1.heap.size]? = some (.cells #[.int .i64 (kindO x), .int .i64 (cdO x), .string (whO x), .slice Ay ny cy] 27 (0, 0))) := heap_alloc_new w1 _
  have hsz : w1.heap.size + 1 = (w1.alloc (.cells #[.int .i64 (kindO x), .int .i64 (cdO x), .string (whO x), .slice Ay ny cy] 27)).heap.size := by simp
  simp only [recO]
  go_wp2_with fail
  generalize w1.alloc (.cells #[.int .i64 (kindO x), .int .i64 (cdO x), .string (whO x), .slice Ay ny cy] 27) = W at *
  have Hsz := Lib.hid hsz
  clear hsz
  have hb : Hid (Below w.heap.size w W) := B1.out.trans (hal.out.mono s1)
  have hlt : w1.heap.size < W.heap.size := by have := Hsz.out; omega
  have c0 : W.cell? ⟨w1.heap.size, 0, none⟩ = some (.int .i64 (kindO x)) := by rw [cell_heap hh.out]; rfl
  have c1 : W.cell? ⟨w1.heap.size, 1, none⟩ = some (.int .i64 (cdO x)) := by rw [cell_heap hh.out]; rfl
  have c2 : W.cell? ⟨w1.heap.size, 2, none⟩ = some (.string (whO x)) := by rw [cell_heap hh.out]; rfl
  have c3 : W.cell? ⟨w1.heap.size, 3, none⟩ = some (.slice Ay ny cy) := by rw [cell_heap hh.out]; rfl
  have K1 : Hid (∀ W', Below W.heap.size W W' → Calls Tryd.prog 10 #[] W' fun en w' => en = .returned (.bool true) ∧ Below W'.heap.size W' w') := fun W' hW =>
    wakes_any W' (HT.out.below (hb.out.trans (hW.mono hb.out.size))) (by have := hb.out.size; have := hW.size; omega)
  have K2 : Hid (∀ W', Below W.heap.size W W' → Calls Tryd.prog 11 #[v] W' fun en w' => en = .returned (.int .u8 (codeO x)) ∧ Below W'.heap.size W' w') := fun W' hW =>
    codeOf_any w1.heap.size x v W' (by have := hW.size; omega) (RepO.below (hal.out.trans (hW.mono (by omega))) Hx.out) (by omega) (HT.out.below (hb.out.trans (hW.mono hb.out.size)))
  have K3 : Hid (∀ W', Below W.heap.size W W' → Calls Tryd.prog 12 #[.agg #[.int .i64 (kindO x), .int .i64 (cdO x), .string (whO x), .slice Ay ny cy]] W' fun en w' => en = .returned (.int .i64 (codeO x)) ∧ Below W'.heap.size W' w') := fun W' hW =>
    rcodeOf_any w1.heap.size x _ W' (RepRO.below (hal.out.trans (hW.mono (by omega))) Hy.out) (by have := hW.size; omega) (by omega)
  have hcd : codeO x < 256 := by
    cases x with
    | none => exact (by decide : 0 < 256)
    | some e => exact code_lt e hg
  have hn : (v = .nilIface ∧ (((kindO x : Nat) : Int) == 0) = true) ∨ (∃ t p, v = .iface t p) ∧ (((kindO x : Nat) : Int) == 0) = false := by
    cases x with
    | none => exact .inl ⟨Hx.out, rfl⟩
    | some e =>
      obtain ⟨t, b, rfl⟩ := RepE.iface (show RepE w1 w1.heap.size e v from Hx.out)
      refine .inr ⟨⟨_, _, rfl⟩, ?_⟩
      have := kind_le e
      show ((kind e : Int) == 0) = false
      rw [beq_eq_false_iff_ne]; omega
  have hwr : IntKind.i64.wrap ((codeO x : Nat) : Int) = (codeO x : Nat) := by rw [IntKind.wrap_i64]; omega
  clear hg Hx Hy HT HT1 hz hcd
  generalize ((kindO x : Nat) : Int) = kk at *
  generalize ((cdO x : Nat) : Int) = cc at *
  generalize whO x = ww at *
  generalize codeO x = cd at *
  rcases hn with ⟨rfl, hk⟩ | ⟨⟨tv, pv, rfl⟩, hk⟩
  all_goals
    go_region_held3 (fun w' => w'.cell? ⟨w1.heap.size, 0, none⟩ = some (.int .i64 kk) ∧ w'.cell? ⟨w1.heap.size, 1, none⟩ = some (.int .i64 cc) ∧ w'.cell? ⟨w1.heap.size, 2, none⟩ = some (.string ww) ∧ w'.cell? ⟨w1.heap.size, 3, none⟩ = some (.slice Ay ny cy))
      (first | exact ⟨c0, c1, c2, c3⟩ | exact ⟨k0, k1, k2, k3⟩ | exact ⟨m0, m1, m2, m3⟩ | exact ⟨n0, n1, n2, n3⟩)
      (first
        | (go_at_call 10
           refine (K1.out _ (Below.refl W.heap.size W).drew).mono ?_
           rintro en w2 ⟨rfl, b2⟩
           have HV : Hid (Below W.heap.size W w2) := below_of_drew b2
           have k0 : w2.cell? ⟨w1.heap.size, 0, none⟩ = some (.int .i64 kk) := by rw [HV.out.cell hlt]; exact c0
           have k1 : w2.cell? ⟨w1.heap.size, 1, none⟩ = some (.int .i64 cc) := by rw [HV.out.cell hlt]; exact c1
           have k2 : w2.cell? ⟨w1.heap.size, 2, none⟩ = some (.string ww) := by rw [HV.out.cell hlt]; exact c2
           have k3 : w2.cell? ⟨w1.heap.size, 3, none⟩ = some (.slice Ay ny cy) := by rw [HV.out.cell hlt]; exact c3
           clear b2)
        | (go_at_call 11
           refine (K2.out _ HV.out).mono ?_
           rintro en w3 ⟨rfl, b3⟩
           have HV3 : Hid (Below W.heap.size W w3) := HV.out.trans (b3.mono HV.out.size)
           have m0 : w3.cell? ⟨w1.heap.size, 0, none⟩ = some (.int .i64 kk) := by rw [HV3.out.cell hlt]; exact c0
           have m1 : w3.cell? ⟨w1.heap.size, 1, none⟩ = some (.int .i64 cc) := by rw [HV3.out.cell hlt]; exact c1
           have m2 : w3.cell? ⟨w1.heap.size, 2, none⟩ = some (.string ww) := by rw [HV3.out.cell hlt]; exact c2
           have m3 : w3.cell? ⟨w1.heap.size, 3, none⟩ = some (.slice Ay ny cy) := by rw [HV3.out.cell hlt]; exact c3
           clear b3)
        | (go_at_call 12
           refine (K3.out _ HV3.out).mono ?_
           rintro en w4 ⟨rfl, b4⟩
           have HV4 : Hid (Below W.heap.size W w4) := HV3.out.trans (b4.mono HV3.out.size)
           have n0 : w4.cell? ⟨w1.heap.size, 0, none⟩ = some (.int .i64 kk) := by rw [HV4.out.cell hlt]; exact c0
           have n1 : w4.cell? ⟨w1.heap.size, 1, none⟩ = some (.int .i64 cc) := by rw [HV4.out.cell hlt]; exact c1
           have n2 : w4.cell? ⟨w1.heap.size, 2, none⟩ = some (.string ww) := by rw [HV4.out.cell hlt]; exact c2
           have n3 : w4.cell? ⟨w1.heap.size, 3, none⟩ = some (.slice Ay ny cy) := by rw [HV4.out.cell hlt]; exact c3
           clear b4))
    go_wp2_with fail
    go_ret
    exact ⟨rfl, hb.out.trans (HV4.out.mono hb.out.size)⟩
end Go.Proofs.YteacjahncngoiaaDoor
