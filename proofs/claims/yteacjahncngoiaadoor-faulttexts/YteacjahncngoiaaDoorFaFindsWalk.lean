/- FaultFinds, of what the law's helper answers. -/
import Derived.Test.YteacjahncngoiaaDoorFaMadeP
import Derived.Lib.QuietBelow
import Derived.BigQuiet
namespace Go.Proofs.YteacjahncngoiaaDoor
open Go.RowKit Go.Sort FA

theorem of_l (c : Int) (w : World) : Calls Tryd.prog 16 #[.int .u8 c] w fun e w' => e = .returned (.iface 47 (.pointer (some ⟨w.heap.size, 0, none⟩))) ∧ w'.heap[w.heap.size]? = some (.cells #[.int .u8 c, .string ⟨#[]⟩, .nilIface] 51 (0, 0)) ∧ Below w.heap.size w w' := by
  refine (of_w c w).mono ?_
  rintro e w' ⟨rfl, rfl⟩
  exact ⟨rfl, heap_alloc_new w _, (Below.refl _ _).alloc (Nat.le_refl _) _⟩

set_option maxRecDepth 100000 in
set_option maxHeartbeats 8000000 in
theorem faultFinds_of (w : World) (v0 : Value) (c : Nat) (hc : c < 256) (C : Calls Tryd.prog 9 #[v0] w (MadeP w)) (hT : Tabs w) (hG : 4 ≤ w.heap.size) :
    Calls Tryd.prog 4 #[v0, .int .u8 c] w fun e w' => e = .returned (.bool true) ∧ Below w.heap.size w w' := by
  have C1 := Lib.hid C
  have HT := Lib.hid hT
  clear C hT
  go_enter Tryd.func4, Tryd.ntmps4
  go_wp2_with fail
  refine C1.out.mono ?_
  rintro en w1 ⟨x, v, y, rfl, hx, hy, hg, hz, b1⟩
  obtain ⟨Ay, ny, cy, rfl⟩ := RepRO.slice hy
  have s1 := b1.size
  have B1 := Lib.hid b1
  have HT1 := Lib.hid (HT.out.below b1)
  have Hx := Lib.hid hx; have Hy := Lib.hid hy
  clear hx hy b1 C1
  have hal : Hid (Below w1.heap.size w1 (w1.alloc (.cells #[.int .i64 (kindO x), .int .i64 (cdO x), .string (whO x), .slice Ay ny cy] 27))) := (Below.refl w1.heap.size w1).alloc (Nat.le_refl _) _
  have hh : Hid ((w1.alloc (.cells #[.int .i64 (kindO x), .int .i64 (cdO x), .string (whO x), .slice Ay ny cy] 27)).heap[w1.heap.size]? = some (.cells #[.int .i64 (kindO x), .int .i64 (cdO x), .string (whO x), .slice Ay ny cy] 27 (0, 0))) := heap_alloc_new w1 _
  have hsz : w1.heap.size + 1 = (w1.alloc (.cells #[.int .i64 (kindO x), .int .i64 (cdO x), .string (whO x), .slice Ay ny cy] 27)).heap.size := by simp
  simp only [recO]
  go_wp2_with fail
  generalize w1.alloc (.cells #[.int .i64 (kindO x), .int .i64 (cdO x), .string (whO x), .slice Ay ny cy] 27) = W at *
  have Hsz := Lib.hid hsz
  clear hsz
  have hb : Hid (Below w.heap.size w W) := B1.out.trans (hal.out.mono s1)
  have hlt : w1.heap.size < W.heap.size := by have := Hsz.out; omega
  have c0 : W.cell? ⟨w1.heap.size, 0, none⟩ = some (.int .i64 (kindO x)) := by rw [cell_heap hh.out]; rfl
  have c1 : W.cell? ⟨w1.heap.size, 1, none⟩ = some (.int .i64 (cdO x)) := by rw [cell_heap hh.out]; rfl
  have c2 : W.cell? ⟨w1.heap.size, 2, none⟩ = some (.string (whO x)) := by rw [cell_heap hh.out]; rfl
  have c3 : W.cell? ⟨w1.heap.size, 3, none⟩ = some (.slice Ay ny cy) := by rw [cell_heap hh.out]; rfl
  have K1 : Hid (∀ W', Below W.heap.size W W' → Calls Tryd.prog 10 #[] W' fun en w' => en = .returned (.bool true) ∧ Below W'.heap.size W' w') := fun W' hW =>
    wakes_any W' (HT.out.below (hb.out.trans (hW.mono hb.out.size))) (by have := hb.out.size; have := hW.size; omega)
  have K2 : Hid (∀ W', Below W.heap.size W W' → Calls Tryd.prog 13 #[v, .int .u8 c] W' fun en w' => en = .returned (.bool (hasO c x)) ∧ Below W'.heap.size W' w') := fun W' hW =>
    has_any w1.heap.size c x v W' (RepO.below (hal.out.trans (hW.mono (by omega))) Hx.out) (by have := hW.size; omega) (by omega)
  have K3 : Hid (∀ W', Below W.heap.size W W' → Calls Tryd.prog 14 #[.agg #[.int .i64 (kindO x), .int .i64 (cdO x), .string (whO x), .slice Ay ny cy], .int .i64 c] W' fun en w' => en = .returned (.bool (hasO c x)) ∧ Below W'.heap.size W' w') := fun W' hW =>
    rhasO_any w1.heap.size c hc x _ W' (RepRO.below (hal.out.trans (hW.mono (by omega))) Hy.out) (by have := hW.size; omega) (by omega)
  have K5 : Hid (∀ tb W', Below W.heap.size W W' → w1.heap.size ≤ tb → W'.heap[tb]? = some (.cells #[.int .u8 c, .string ⟨#[]⟩, .nilIface] 51 (0, 0)) → Calls Tryd.prog 15 #[v, .iface 47 (.pointer (some ⟨tb, 0, none⟩))] W' fun en w' => en = .returned (.bool (hasO c x)) ∧ Below W'.heap.size W' w') := fun tb W' hW htb hht =>
    Is_any w1.heap.size tb c htb x v W' (RepO.below (hal.out.trans (hW.mono (by omega))) Hx.out) (by have := hW.size; omega) (by omega) hht
  have hn : (v = .nilIface ∧ (((kindO x : Nat) : Int) == 0) = true) ∨ (∃ t p, v = .iface t p) ∧ (((kindO x : Nat) : Int) == 0) = false := by
    cases x with
    | none => exact .inl ⟨Hx.out, rfl⟩
    | some e =>
      obtain ⟨t, b, rfl⟩ := RepE.iface (show RepE w1 w1.heap.size e v from Hx.out)
      refine .inr ⟨⟨_, _, rfl⟩, ?_⟩
      have := kind_le e
      show ((kind e : Int) == 0) = false
      rw [beq_eq_false_iff_ne]; omega
  have hwr : IntKind.i64.wrap (c : Int) = c := by rw [IntKind.wrap_i64]; omega
  clear hg Hx Hy HT HT1 hz
  generalize ((kindO x : Nat) : Int) = kk at *
  generalize ((cdO x : Nat) : Int) = cc at *
  generalize whO x = ww at *
  generalize hasO c x = hb2 at *
  rcases hn with ⟨rfl, hk⟩ | ⟨⟨tv, pv, rfl⟩, hk⟩
  · have q1 := fun d os => Calls.regrown_of (K1.out _ (below_regrown W d os))
    have q2 := fun d os => Calls.regrown_of (K2.out _ (below_regrown W d os))
    have q3 := fun d os => Calls.regrown_of (K3.out _ (below_regrown W d os))
    have r0 := fun d os => cell_regrown c0 d os
    have r1 := fun d os => cell_regrown c1 d os
    have r2 := fun d os => cell_regrown c2 d os
    have r3 := fun d os => cell_regrown c3 d os
    have Q1 := Lib.hid q1; have Q2 := Lib.hid q2; have Q3 := Lib.hid q3
    clear q1 q2 q3 K1 K2 K3 K5 c0 c1 c2 c3
    refine wp_region_quiet_below (by kernel_rfl) (by kernel_rfl) ?_
    repeat (first | go_big_quiet_step (first | exact Q1.out _ _ | exact Q2.out _ _ | exact Q3.out _ _) | quiet_step (first | exact Q1.out _ _ | exact Q2.out _ _ | exact Q3.out _ _))
    refine wpQuiet_nil ?_
    intro _ hw'
    obtain ⟨⟨dq, osq⟩, hw''⟩ := hw'
    subst hw''
    go_wp2
    go_ret
    exact ⟨by simp, hb.out.trans ((below_regrown W dq osq).mono hb.out.size)⟩
  all_goals
    cases hb2
  all_goals
    go_region_held3 (fun w' => w'.cell? ⟨w1.heap.size, 0, none⟩ = some (.int .i64 kk) ∧ w'.cell? ⟨w1.heap.size, 1, none⟩ = some (.int .i64 cc) ∧ w'.cell? ⟨w1.heap.size, 2, none⟩ = some (.string ww) ∧ w'.cell? ⟨w1.heap.size, 3, none⟩ = some (.slice Ay ny cy))
      (first | exact ⟨c0, c1, c2, c3⟩ | exact ⟨k0, k1, k2, k3⟩ | exact ⟨m0, m1, m2, m3⟩ | exact ⟨n0, n1, n2, n3⟩ | exact ⟨o0, o1, o2, o3⟩ | exact ⟨p0, p1, p2, p3⟩ | exact ⟨q0, q1, q2, q3⟩)
      (first
        | (go_at_call 10
           refine (K1.out _ (Below.refl W.heap.size W).drew).mono ?_
           rintro en w2 ⟨rfl, b2⟩
           have HV : Hid (Below W.heap.size W w2) := below_of_drew b2
           have k0 : w2.cell? ⟨w1.heap.size, 0, none⟩ = some (.int .i64 kk) := by rw [HV.out.cell hlt]; exact c0
           have k1 : w2.cell? ⟨w1.heap.size, 1, none⟩ = some (.int .i64 cc) := by rw [HV.out.cell hlt]; exact c1
           have k2 : w2.cell? ⟨w1.heap.size, 2, none⟩ = some (.string ww) := by rw [HV.out.cell hlt]; exact c2
           have k3 : w2.cell? ⟨w1.heap.size, 3, none⟩ = some (.slice Ay ny cy) := by rw [HV.out.cell hlt]; exact c3
           clear b2)
        | (go_at_call 13
           refine (K2.out _ HV5.out).mono ?_
           rintro en w6 ⟨rfl, b6⟩
           have HV6 : Hid (Below W.heap.size W w6) := HV5.out.trans (b6.mono HV5.out.size)
           have q0 : w6.cell? ⟨w1.heap.size, 0, none⟩ = some (.int .i64 kk) := by rw [HV6.out.cell hlt]; exact c0
           have q1 : w6.cell? ⟨w1.heap.size, 1, none⟩ = some (.int .i64 cc) := by rw [HV6.out.cell hlt]; exact c1
           have q2 : w6.cell? ⟨w1.heap.size, 2, none⟩ = some (.string ww) := by rw [HV6.out.cell hlt]; exact c2
           have q3 : w6.cell? ⟨w1.heap.size, 3, none⟩ = some (.slice Ay ny cy) := by rw [HV6.out.cell hlt]; exact c3
           clear b6)
        | (go_at_call 13
           refine (K2.out _ HV.out).mono ?_
           rintro en w3 ⟨rfl, b3⟩
           have HV3 : Hid (Below W.heap.size W w3) := HV.out.trans (b3.mono HV.out.size)
           have m0 : w3.cell? ⟨w1.heap.size, 0, none⟩ = some (.int .i64 kk) := by rw [HV3.out.cell hlt]; exact c0
           have m1 : w3.cell? ⟨w1.heap.size, 1, none⟩ = some (.int .i64 cc) := by rw [HV3.out.cell hlt]; exact c1
           have m2 : w3.cell? ⟨w1.heap.size, 2, none⟩ = some (.string ww) := by rw [HV3.out.cell hlt]; exact c2
           have m3 : w3.cell? ⟨w1.heap.size, 3, none⟩ = some (.slice Ay ny cy) := by rw [HV3.out.cell hlt]; exact c3
           clear b3)
        | (go_at_call 14
           refine (K3.out _ HV3.out).mono ?_
           rintro en w4 ⟨rfl, b4⟩
           have HV4 : Hid (Below W.heap.size W w4) := HV3.out.trans (b4.mono HV3.out.size)
           have n0 : w4.cell? ⟨w1.heap.size, 0, none⟩ = some (.int .i64 kk) := by rw [HV4.out.cell hlt]; exact c0
           have n1 : w4.cell? ⟨w1.heap.size, 1, none⟩ = some (.int .i64 cc) := by rw [HV4.out.cell hlt]; exact c1
           have n2 : w4.cell? ⟨w1.heap.size, 2, none⟩ = some (.string ww) := by rw [HV4.out.cell hlt]; exact c2
           have n3 : w4.cell? ⟨w1.heap.size, 3, none⟩ = some (.slice Ay ny cy) := by rw [HV4.out.cell hlt]; exact c3
           clear b4)
        | (go_at_call 16
           refine (of_l _ _).mono ?_
           rintro en w4b ⟨rfl, hof, b4b⟩
           have HV4b : Hid (Below W.heap.size W w4b) := HV4.out.trans (b4b.mono HV4.out.size)
           have Hof := Lib.hid hof
           have o0 : w4b.cell? ⟨w1.heap.size, 0, none⟩ = some (.int .i64 kk) := by rw [HV4b.out.cell hlt]; exact c0
           have o1 : w4b.cell? ⟨w1.heap.size, 1, none⟩ = some (.int .i64 cc) := by rw [HV4b.out.cell hlt]; exact c1
           have o2 : w4b.cell? ⟨w1.heap.size, 2, none⟩ = some (.string ww) := by rw [HV4b.out.cell hlt]; exact c2
           have o3 : w4b.cell? ⟨w1.heap.size, 3, none⟩ = some (.slice Ay ny cy) := by rw [HV4b.out.cell hlt]; exact c3
           clear b4b hof)
        | (go_at_call 15
           refine (K5.out _ _ HV4b.out (by have := HV4.out.size; omega) Hof.out).mono ?_
           rintro en w5 ⟨rfl, b5⟩
           have HV5 : Hid (Below W.heap.size W w5) := HV4b.out.trans (b5.mono HV4b.out.size)
           have p0 : w5.cell? ⟨w1.heap.size, 0, none⟩ = some (.int .i64 kk) := by rw [HV5.out.cell hlt]; exact c0
           have p1 : w5.cell? ⟨w1.heap.size, 1, none⟩ = some (.int .i64 cc) := by rw [HV5.out.cell hlt]; exact c1
           have p2 : w5.cell? ⟨w1.heap.size, 2, none⟩ = some (.string ww) := by rw [HV5.out.cell hlt]; exact c2
           have p3 : w5.cell? ⟨w1.heap.size, 3, none⟩ = some (.slice Ay ny cy) := by rw [HV5.out.cell hlt]; exact c3
           clear b5))
    go_wp2_with fail
    go_ret
    first | exact ⟨rfl, hb.out.trans (HV6.out.mono hb.out.size)⟩ | exact ⟨rfl, hb.out.trans (HV4.out.mono hb.out.size)⟩
end Go.Proofs.YteacjahncngoiaaDoor
