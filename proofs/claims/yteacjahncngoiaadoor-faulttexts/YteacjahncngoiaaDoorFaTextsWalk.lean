/- FaultTexts, of what the law's helper answers. -/
import Derived.Test.YteacjahncngoiaaDoorFaFindsWalk
import Derived.Test.YteacjahncngoiaaDoorFaRText2
import Derived.Test.YteacjahncngoiaaDoorFaRPath
namespace Go.Proofs.YteacjahncngoiaaDoor
open Go.RowKit Go.Sort FA

theorem below_drewN (B : Nat) (w : World) (n : Nat) : Below B w (w.drewN n) := ⟨rfl, rfl, rfl, Nat.le_refl _, fun _ _ => rfl⟩

set_option maxRecDepth 100000 in
set_option maxHeartbeats 8000000 in
theorem faultTexts_of (w : World) (v0 : Value) (C : Calls Tryd.prog 9 #[v0] w (MadeP w)) (hT : Tabs w) (hG : 4 ≤ w.heap.size) :
    Calls Tryd.prog 5 #[v0] w fun e w' => e = .returned (.bool true) ∧ Below w.heap.size w w' := by
  have C1 := Lib.hid C
  have HT := Lib.hid hT
  clear C hT
  go_enter Tryd.func5, Tryd.ntmps5
  go_wp2_with fail
  refine C1.out.mono ?_
  rintro en w1 ⟨x, v, y, rfl, hx, hy, hg, hz, b1⟩
  obtain ⟨Ay, ny, cy, rfl⟩ := RepRO.slice hy
  have s1 := b1.size
  have B1 := Lib.hid b1
  have HT1 := Lib.hid (HT.out.below b1)
  have Hx := Lib.hid hx; have Hy := Lib.hid hy
  clear hx hy b1 C1
  have hal : Hid (Below w1.heap.size w1 (w1.alloc (.cells #[.int .i64 (kindO x), .int .i64 (cdO x), .string (whO x), .slice Ay ny cy] 27))) := (Below.refl w1.heap.size w1).alloc (Nat.le_refl _) _
  have hh : Hid ((w1.alloc (.cells #[.int .i64 (kindO x), .int .i64 (cdO x), .string (whO x), .slice Ay ny cy] 27)).heap[w1.heap.size]? = some (.cells #[.int .i64 (kindO x), .int .i64 (cdO x), .string (whO x), .slice Ay ny cy] 27 (0, 0))) := heap_alloc_new w1 _
  have hsz : w1.heap.size + 1 = (w1.alloc (.cells #[.int .i64 (kindO x), .int .i64 (cdO x), .string (whO x), .slice Ay ny cy] 27)).heap.size := by simp
  simp only [recO]
  go_wp2_with fail
  generalize w1.alloc (.cells #[.int .i64 (kindO x), .int .i64 (cdO x), .string (whO x), .slice Ay ny cy] 27) = W at *
  have Hsz := Lib.hid hsz
  clear hsz
  have hb : Hid (Below w.heap.size w W) := B1.out.trans (hal.out.mono s1)
  have hlt : w1.heap.size < W.heap.size := by have := Hsz.out; omega
  have c0 : W.cell? ⟨w1.heap.size, 0, none⟩ = some (.int .i64 (kindO x)) := by rw [cell_heap hh.out]; rfl
  have c1 : W.cell? ⟨w1.heap.size, 1, none⟩ = some (.int .i64 (cdO x)) := by rw [cell_heap hh.out]; rfl
  have c2 : W.cell? ⟨w1.heap.size, 2, none⟩ = some (.string (whO x)) := by rw [cell_heap hh.out]; rfl
  have c3 : W.cell? ⟨w1.heap.size, 3, none⟩ = some (.slice Ay ny cy) := by rw [cell_heap hh.out]; rfl
  have K1 : Hid (∀ W', Below W.heap.size W W' → Calls Tryd.prog 10 #[] W' fun en w' => en = .returned (.bool true) ∧ Below W'.heap.size W' w') := fun W' hW =>
    wakes_any W' (HT.out.below (hb.out.trans (hW.mono hb.out.size))) (by have := hb.out.size; have := hW.size; omega)
  have K2 : Hid (∀ W', Below W.heap.size W W' → Calls Tryd.prog 17 #[v] W' (RetRow W' 9 1 (pathO x).length ((pathO x).map .string))) := fun W' hW =>
    path_any w1.heap.size x v W' (RepO.below (hal.out.trans (hW.mono (by omega))) Hx.out) (by have := hW.size; omega) (by omega)
  have K3 : Hid (∀ W', Below W.heap.size W W' → Calls Tryd.prog 18 #[.agg #[.int .i64 (kindO x), .int .i64 (cdO x), .string (whO x), .slice Ay ny cy]] W' (RetRow W' 9 1 (pathO x).length ((pathO x).map .string))) := fun W' hW =>
    rpathO_any w1.heap.size x _ W' (RepRO.below (hal.out.trans (hW.mono (by omega))) Hy.out) (by have := hW.size; omega) (by omega)
  have K4 : Hid (∀ W', Below W.heap.size W W' → Calls Tryd.prog 19 #[v] W' fun en w' => en = .returned (.string (bs (textO x))) ∧ Below W'.heap.size W' w') := fun W' hW =>
    text_any w1.heap.size x v W' (RepO.below (hal.out.trans (hW.mono (by omega))) Hx.out) hg (by have := hW.size; omega) (by have := hb.out.size; have := hW.size; omega) (by omega) (HT.out.below (hb.out.trans (hW.mono hb.out.size)))
  have K5 : Hid (∀ W', Below W.heap.size W W' → Calls Tryd.prog 20 #[.agg #[.int .i64 (kindO x), .int .i64 (cdO x), .string (whO x), .slice Ay ny cy]] W' fun en w' => en = .returned (.string (bs (textO x))) ∧ Below W'.heap.size W' w') := fun W' hW =>
    rtextO_any w1.heap.size x _ W' (RepRO.below (hal.out.trans (hW.mono (by omega))) Hy.out) hg (by have := hW.size; omega) (by omega)
  have hpl := pathO_len x
  have Hstr : Hid (∀ u ∈ (pathO x).map Value.string, ∃ su, u = .string su) := Lib.hid (fun u hu => by obtain ⟨a, _, rfl⟩ := List.mem_map.1 hu; exact ⟨a, rfl⟩)
  have hul : (pathO x).length = ((pathO x).map Value.string).length := by simp
  have hpl2 : ((pathO x).map Value.string).length ≤ 1000 := by omega
  rw [hul] at K2 K3
  have hvv : v = .nilIface ∨ ∃ t p, v = .iface t p := by
    cases x with
    | none => exact .inl Hx.out
    | some e => obtain ⟨t, b, rfl⟩ := RepE.iface (show RepE w1 w1.heap.size e v from Hx.out); exact .inr ⟨_, _, rfl⟩
  clear hg Hx Hy HT HT1 hz hpl hul
  generalize (pathO x).map Value.string = us at *
  generalize ((kindO x : Nat) : Int) = kk at *
  generalize ((cdO x : Nat) : Int) = cc at *
  generalize whO x = ww at *
  generalize bs (textO x) = T at *
  go_region_held3 (fun w' => w'.cell? ⟨w1.heap.size, 0, none⟩ = some (.int .i64 kk) ∧ w'.cell? ⟨w1.heap.size, 1, none⟩ = some (.int .i64 cc) ∧ w'.cell? ⟨w1.heap.size, 2, none⟩ = some (.string ww) ∧ w'.cell? ⟨w1.heap.size, 3, none⟩ = some (.slice Ay ny cy))
    (first | exact ⟨c0, c1, c2, c3⟩ | exact ⟨k0, k1, k2, k3⟩ | exact ⟨m0, m1, m2, m3⟩)
    (first
      | (go_at_call 17
         refine (K2.out _ (Below.refl W.heap.size W).drew).mono ?_
         rintro en w2 ⟨v2, rfl, ho2, b2⟩
         have HV2 : Hid (Below W.heap.size W w2) := below_of_drew b2
         have Ho2 := Lib.hid ho2
         obtain ⟨A2, p2, rfl⟩ := own_form ho2
         have k0 : w2.cell? ⟨w1.heap.size, 0, none⟩ = some (.int .i64 kk) := by rw [HV2.out.cell hlt]; exact c0
         have k1 : w2.cell? ⟨w1.heap.size, 1, none⟩ = some (.int .i64 cc) := by rw [HV2.out.cell hlt]; exact c1
         have k2 : w2.cell? ⟨w1.heap.size, 2, none⟩ = some (.string ww) := by rw [HV2.out.cell hlt]; exact c2
         have k3 : w2.cell? ⟨w1.heap.size, 3, none⟩ = some (.slice Ay ny cy) := by rw [HV2.out.cell hlt]; exact c3
         clear b2 ho2)
      | (go_at_call 18
         refine (K3.out _ HV2.out).mono ?_
         rintro en w3 ⟨v3, rfl, ho3, b3⟩
         have HV3 : Hid (Below W.heap.size W w3) := HV2.out.trans (b3.mono HV2.out.size)
         have Ho3 := Lib.hid ho3
         have Hb3 := Lib.hid b3
         obtain ⟨A3, p3, rfl⟩ := own_form ho3
         have m0 : w3.cell? ⟨w1.heap.size, 0, none⟩ = some (.int .i64 kk) := by rw [HV3.out.cell hlt]; exact c0
         have m1 : w3.cell? ⟨w1.heap.size, 1, none⟩ = some (.int .i64 cc) := by rw [HV3.out.cell hlt]; exact c1
         have m2 : w3.cell? ⟨w1.heap.size, 2, none⟩ = some (.string ww) := by rw [HV3.out.cell hlt]; exact c2
         have m3 : w3.cell? ⟨w1.heap.size, 3, none⟩ = some (.slice Ay ny cy) := by rw [HV3.out.cell hlt]; exact c3
         clear b3 ho3))
  go_wp2_with fail
  have Q1 := Lib.hid (fun d os => Calls.regrown_of (K1.out _ (HV3.out.trans ((below_regrown w3 d os).mono HV3.out.size))))
  have Q2 := Lib.hid (fun d os => Calls.regrown_of (K4.out _ (HV3.out.trans ((below_regrown w3 d os).mono HV3.out.size))))
  have Q3 := Lib.hid (fun d os => Calls.regrown_of (K5.out _ (HV3.out.trans ((below_regrown w3 d os).mono HV3.out.size))))
  have r0 := fun d os => cell_regrown m0 d os
  have r1 := fun d os => cell_regrown m1 d os
  have r2 := fun d os => cell_regrown m2 d os
  have r3 := fun d os => cell_regrown m3 d os
  clear K1 K2 K3 K4 K5 c0 c1 c2 c3 k0 k1 k2 k3 m0 m1 m2 m3
  refine wp_region_quiet_below (by kernel_rfl) (by kernel_rfl) ?_
  repeat (first | go_big_quiet_step (first | exact Q1.out _ _ | exact Q2.out _ _ | exact Q3.out _ _) | quiet_step (first | exact Q1.out _ _ | exact Q2.out _ _ | exact Q3.out _ _))
  refine wpQuiet_nil ?_
  intro _ hw'
  obtain ⟨⟨dq, osq⟩, hw''⟩ := hw'
  subst hw''
  have hbq : Hid (Below w3.heap.size w3 (grow (redrawn w3 dq) osq)) := below_regrown w3 dq osq
  clear r0 r1 r2 r3 Q1 Q2 Q3
  generalize grow (redrawn w3 dq) osq = w4 at *
  go_wp2
  go_loopw [35] (fun i wr => ∃ k : Nat, i = .int .i64 k ∧ k ≤ us.length ∧ Hid (Below w3.heap.size w3 wr)) (fun i _ => us.length - (intOf i).toNat)
  case atStart => exact ⟨0, rfl, by omega, hbq⟩
  case round =>
    obtain ⟨k, rfl, hk, hbr⟩ := hrel
    by_cases hlt2 : k < us.length
    · obtain ⟨u, hu⟩ : ∃ u, us[k]? = some u := ⟨us[k], List.getElem?_eq_getElem hlt2⟩
      obtain ⟨su, rfl⟩ := Hstr.out u (List.mem_of_getElem? hu)
      obtain ⟨g2, p2', hv2, hg2, hg2'⟩ := Ho2.out.form (by omega)
      injection hv2 with hv2 _ hc2'
      subst hv2
      obtain ⟨g3, p3', hv3, hg3, hg3'⟩ := Ho3.out.form (by omega)
      injection hv3 with hv3 _ hc3'
      subst hv3
      have hbs := Hb3.out.size
      have e2 : w3.cell? ⟨g2, k, none⟩ = some (.string su) := by rw [Hb3.out.cell (p := ⟨g2, k, none⟩) hg2', ← add0]; exact Ho2.out.cells (g := g2) rfl k _ hu
      have e3 : w3.cell? ⟨g3, k, none⟩ = some (.string su) := by rw [← add0]; exact Ho3.out.cells (g := g3) rfl k _ hu
      have f2 : wr.cell? ⟨g2, k, none⟩ = some (.string su) := by rw [hbr.out.cell (p := ⟨g2, k, none⟩) (by simp; omega)]; exact e2
      have f3 : wr.cell? ⟨g3, k, none⟩ = some (.string su) := by rw [hbr.out.cell (p := ⟨g3, k, none⟩) hg3']; exact e3
      have i1 : (0 : Int) ≤ (k : Int) := by omega
      have i2 : (k : Int) < (us.length : Int) := by omega
      clear e2 e3 hu hc2' hc3'
      go_wp2_with fail
      go_quiet (fail)
      go_wp2
      go_roundw
      case rel => exact ⟨k + 1, by go_num, by omega, Lib.hid (hbr.out.trans (below_drewN _ _ _))⟩
      case measure => simp [intOf]; omega
    · have hkl : k = us.length := by omega
      subst hkl
      go_wp2
      go_ret
      exact ⟨rfl, hb.out.trans ((HV3.out.trans (hbr.out.mono HV3.out.size)).mono hb.out.size)⟩
end Go.Proofs.YteacjahncngoiaaDoor
