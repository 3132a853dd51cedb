/- FaultFinder, of what the law's helper answers. -/
import Derived.Test.YteacjahncngoiaaDoorFaFindsWalk
namespace Go.Proofs.YteacjahncngoiaaDoor
open Go.RowKit Go.Sort FA

mutual
theorem ff_has : ∀ (e f : E), ff e = some f → has (cd f) e = true
  | .leaf c s, f, h => by rw [ff] at h; obtain rfl := Option.some.inj h; simp [has, cd]
  | .wrap c s k, f, h => by rw [ff] at h; obtain rfl := Option.some.inj h; simp [has, cd]
  | .many l, f, h => by rw [ff] at h; rw [has]; exact ffL_has l f h
  | .other s, f, h => by rw [ff] at h; cases h
theorem ffL_has : ∀ (l : List E) (f : E), ffL l = some f → hasL (cd f) l = true
  | [], f, h => by rw [ffL] at h; cases h
  | e :: l, f, h => by
    rw [ffL] at h
    cases he : ff e with
    | some g => rw [he] at h; obtain rfl := Option.some.inj h; rw [hasL, ff_has e g he]; rfl
    | none => rw [he] at h; rw [hasL, ffL_has l f h]; simp
end
mutual
theorem ff_good : ∀ (e f : E), FA.Good e → ff e = some f → FA.Good f ∧ kind f = 1 ∧ sz f ≤ sz e
  | .leaf c s, f, hg, h => by rw [ff] at h; obtain rfl := Option.some.inj h; exact ⟨hg, rfl, Nat.le_refl _⟩
  | .wrap c s k, f, hg, h => by rw [ff] at h; obtain rfl := Option.some.inj h; exact ⟨hg, rfl, Nat.le_refl _⟩
  | .many l, f, hg, h => by
    rw [ff] at h
    obtain ⟨h1, h2, h3⟩ := ffL_good l f hg h
    exact ⟨h1, h2, by rw [sz]; omega⟩
  | .other s, f, hg, h => by rw [ff] at h; cases h
theorem ffL_good : ∀ (l : List E) (f : E), FA.GoodL l → ffL l = some f → FA.Good f ∧ kind f = 1 ∧ sz f ≤ szL l
  | [], f, hg, h => by rw [ffL] at h; cases h
  | e :: l, f, hg, h => by
    rw [ffL] at h
    cases he : ff e with
    | some g =>
      rw [he] at h; obtain rfl := Option.some.inj h
      obtain ⟨h1, h2, h3⟩ := ff_good e g hg.1 he
      exact ⟨h1, h2, by rw [szL]; omega⟩
    | none =>
      rw [he] at h
      obtain ⟨h1, h2, h3⟩ := ffL_good l f hg.2 h
      exact ⟨h1, h2, by rw [szL]; omega⟩
end
theorem xor_fin : ∀ a : Fin 256, (bits .xor .u8 (a.val : Int) 1 == (a.val : Int)) = false := by decide +kernel
theorem xor_ne (c : Nat) (h : c < 256) : (bits .xor .u8 (c : Int) 1 == (c : Int)) = false := xor_fin ⟨c, h⟩

/-- What a fault that was found unwraps to. -/
theorem RepE.cause {w : World} {B p : Nat} {f : E} (h : RepE w B f (.iface 47 (.pointer (some ⟨p, 0, none⟩)))) (hg : FA.Good f) :
    w.cell? ⟨p, 2, none⟩ = some .nilIface ∨ ∃ k t b, w.cell? ⟨p, 2, none⟩ = some (.iface t b) ∧ RepE w B k (.iface t b) ∧ code k = cd f ∧ sz k ≤ sz f := by
  cases f with
  | leaf c s =>
    simp only [RepE] at h
    obtain ⟨b, hv, hlt, hh⟩ := h
    injection hv with _ hv; injection hv with hv; injection hv with hv; injection hv with hv
    subst hv
    exact .inl (by rw [cell_heap hh]; rfl)
  | wrap c s k =>
    simp only [RepE] at h
    obtain ⟨b, u, hv, hlt, hh, hk⟩ := h
    injection hv with _ hv; injection hv with hv; injection hv with hv; injection hv with hv
    subst hv
    obtain ⟨t, b, rfl⟩ := RepE.iface hk
    exact .inr ⟨k, _, _, by rw [cell_heap hh]; rfl, hk, hg.2.2.1.symm, by rw [sz]; omega⟩
  | many l => simp only [RepE] at h; obtain ⟨b, g, cap, us, hv, _⟩ := h; injection hv with hv; cases hv
  | other s => simp only [RepE] at h; obtain ⟨b, hv, _⟩ := h; injection hv with hv; cases hv

set_option maxRecDepth 100000 in
set_option maxHeartbeats 8000000 in
theorem faultFinder_of (w : World) (v0 : Value) (C : Calls Tryd.prog 9 #[v0] w (MadeP w)) (hT : Tabs w) (hG : 4 ≤ w.heap.size) :
    Calls Tryd.prog 7 #[v0] w fun e w' => e = .returned (.bool true) ∧ Below w.heap.size w w' := by
  have C1 := Lib.hid C
  have HT := Lib.hid hT
  clear C hT
  go_enter Tryd.func7, Tryd.ntmps7
  go_wp2_with fail
  refine C1.out.mono ?_
  rintro en w1 ⟨x, v, y, rfl, hx, hy, hg, hz, b1⟩
  obtain ⟨Ay, ny, cy, rfl⟩ := RepRO.slice hy
  have s1 := b1.size
  have B1 := Lib.hid b1
  have HT1 := Lib.hid (HT.out.below b1)
  have Hx := Lib.hid hx
  clear hx hy b1 C1
  have hal : Hid (Below w1.heap.size w1 (w1.alloc (.cells #[.int .i64 (kindO x), .int .i64 (cdO x), .string (whO x), .slice Ay ny cy] 27))) := (Below.refl w1.heap.size w1).alloc (Nat.le_refl _) _
  have hsz : w1.heap.size + 1 = (w1.alloc (.cells #[.int .i64 (kindO x), .int .i64 (cdO x), .string (whO x), .slice Ay ny cy] 27)).heap.size := by simp
  simp only [recO]
  cases x with
  | none =>
    obtain rfl : v = .nilIface := Hx.out
    go_wp2_with fail
    generalize w1.alloc (.cells #[.int .i64 (kindO none), .int .i64 (cdO none), .string (whO none), .slice Ay ny cy] 27) = W at *
    have hb : Hid (Below w.heap.size w W) := B1.out.trans (hal.out.mono s1)
    have K1 := Lib.hid (wakes_any W (HT.out.below hb.out) (by have := hb.out.size; omega))
    clear hsz
    refine K1.out.mono ?_
    rintro en w2 ⟨rfl, b2⟩
    have B2 := Lib.hid b2
    clear b2 K1
    go_wp2
    go_ret
    exact ⟨rfl, hb.out.trans (B2.out.mono hb.out.size)⟩
  | some e =>
    have hE : RepE w1 w1.heap.size e v := Hx.out
    have hge : FA.Good e := hg
    have hze : sz e ≤ 1000 := hz
    obtain ⟨tv, bv, rfl⟩ := RepE.iface hE
    generalize hWW : w1.alloc (.cells #[.int .i64 (kindO (some e)), .int .i64 (cdO (some e)), .string (whO (some e)), .slice Ay ny cy] 27) = W at *
    have hal2 : Below W.heap.size W (W.alloc (.cells #[.pointer none] 47)) := (Below.refl _ _).alloc (Nat.le_refl _) _
    have hb2 : Below w1.heap.size w1 (W.alloc (.cells #[.pointer none] 47)) := hal.out.trans (hal2.mono (by omega))
    have hblk : (W.alloc (.cells #[.pointer none] 47)).heap[w1.heap.size + 1]? = some (.cells #[.pointer none] 47 (0, 0)) := by rw [hsz]; exact heap_alloc_new W _
    have CA := Lib.hid (As_any w1.heap.size (w1.heap.size + 1) (.pointer none) e _ (W.alloc (.cells #[.pointer none] 47)) (by omega) hb2.size (RepE.below hb2 _ _ hE) (by omega)
      (by rw [cell_heap hblk]; rfl) (frozen_heap hblk) ((HT1.out.below hb2).1))
    have Hb2 := Lib.hid hb2
    have HE := Lib.hid hE; have HGe := Lib.hid hge
    have Hsz := Lib.hid hsz
    have HWW := Lib.hid hWW
    have hW1 : w1.heap.size + 1 ≤ W.heap.size := by omega
    clear hal2 hblk hb2 hE hge hg hz hsz hWW Hx
    go_wp2_with fail
    rw [HWW.out]
    refine CA.out.mono ?_
    rintro en w2 (⟨hff, rfl, hb3⟩ | ⟨f, p, hff, hrep, rfl, hb3, hc3⟩)
    · have hB : Hid (Below w1.heap.size w1 w2) := Hb2.out.trans (hb3.mono Hb2.out.size)
      have H1 : codeO (some e) = 128 := by show code e = 128; unfold code; rw [hff]
      have K1 := Lib.hid (wakes_any w2 (HT1.out.below hB.out) (by have := hB.out.size; omega))
      have K2 : Hid (∀ W', Below w2.heap.size w2 W' → Calls Tryd.prog 11 #[.iface tv (.pointer (some ⟨bv, 0, none⟩))] W' fun en w' => en = .returned (.int .u8 128) ∧ Below W'.heap.size W' w') := fun W' hW => by
        have h1 := codeOf_any w1.heap.size (some e) (.iface tv (.pointer (some ⟨bv, 0, none⟩))) W' (by have := hW.size; have := hB.out.size; omega) (RepE.below (hB.out.trans (hW.mono hB.out.size)) _ _ HE.out) (by show sz e ≤ _; omega) (HT1.out.below (hB.out.trans (hW.mono hB.out.size)))
        rw [H1] at h1
        exact h1
      clear hff hb3 H1 CA
      go_wp2_with fail
      refine K1.out.mono ?_
      rintro en w3 ⟨rfl, b3⟩
      have B3 := Lib.hid b3
      clear b3 K1
      go_wp2_with fail
      refine (K2.out _ B3.out).mono ?_
      rintro en w4 ⟨rfl, b4⟩
      have B4 := Lib.hid b4
      clear b4 K2
      go_wp2
      go_ret
      exact ⟨rfl, B1.out.trans ((hB.out.trans ((B3.out.trans (B4.out.mono B3.out.size)).mono hB.out.size)).mono s1)⟩
    · have hB : Hid (Below w1.heap.size w1 w2) := Hb2.out.trans hb3
      have hsB := hB.out.size
      obtain ⟨hgf, _, hszf⟩ := ff_good e f HGe.out hff
      obtain ⟨hp, hcp⟩ := RepE.code_cell hrep
      have hcd := ff_lt e f HGe.out hff
      have H1 : codeO (some e) = cd f := by show code e = cd f; unfold code; rw [hff]
      have H2 : hasO (cd f) (some e) = true := ff_has e f hff
      have hfl : w1.heap.size + 1 < w2.heap.size := lt_cell hc3
      have hcause := Lib.hid (RepE.cause hrep hgf)
      have K1 : Hid (∀ W', Below w2.heap.size w2 W' → Calls Tryd.prog 10 #[] W' fun en w' => en = .returned (.bool true) ∧ Below W'.heap.size W' w') := fun W' hW =>
        wakes_any W' (HT1.out.below (hB.out.trans (hW.mono hB.out.size))) (by have := hW.size; omega)
      have K2 : Hid (∀ W', Below w2.heap.size w2 W' → Calls Tryd.prog 11 #[.iface tv (.pointer (some ⟨bv, 0, none⟩))] W' fun en w' => en = .returned (.int .u8 (cd f)) ∧ Below W'.heap.size W' w') := fun W' hW => by
        have h1 := codeOf_any w1.heap.size (some e) (.iface tv (.pointer (some ⟨bv, 0, none⟩))) W' (by have := hW.size; omega) (RepE.below (hB.out.trans (hW.mono hB.out.size)) _ _ HE.out) (by show sz e ≤ _; omega) (HT1.out.below (hB.out.trans (hW.mono hB.out.size)))
        rw [H1] at h1
        exact h1
      have K3 : Hid (∀ W', Below w2.heap.size w2 W' → Calls Tryd.prog 13 #[.iface tv (.pointer (some ⟨bv, 0, none⟩)), .int .u8 (cd f)] W' fun en w' => en = .returned (.bool true) ∧ Below W'.heap.size W' w') := fun W' hW => by
        have h1 := has_any w1.heap.size (cd f) (some e) (.iface tv (.pointer (some ⟨bv, 0, none⟩))) W' (RepE.below (hB.out.trans (hW.mono hB.out.size)) _ _ HE.out) (by have := hW.size; omega) (by show sz e ≤ _; omega)
        rw [H2] at h1
        exact h1
      have K5 : Hid (∀ tb (c : Int) W', Below w2.heap.size w2 W' → W'.heap[tb]? = some (.cells #[.int .u8 c, .string ⟨#[]⟩, .nilIface] 51 (0, 0)) → Calls Tryd.prog 23 #[.pointer (some ⟨p, 0, none⟩), .iface 47 (.pointer (some ⟨tb, 0, none⟩))] W' fun en w' => en = .returned (.bool (c == (cd f : Int))) ∧ Below W'.heap.size W' w') := fun tb c W' hW hht =>
        fis_w p tb c (cd f) W' (by rw [hW.cell (p := ⟨p, 0, none⟩) (by simp; omega)]; exact hcp) (by rw [cell_heap hht]; rfl) (by rw [cell_heap hht]; rfl) (by rw [cell_heap hht]; rfl)
      have K6 : Hid (∀ k u W', RepE w2 w1.heap.size k u → sz k ≤ sz f → code k = cd f → Below w2.heap.size w2 W' → Calls Tryd.prog 11 #[u] W' fun en w' => en = .returned (.int .u8 (cd f)) ∧ Below W'.heap.size W' w') := fun k u W' hk hks hkc hW => by
        have h1 := codeOf_any w1.heap.size (some k) u W' (by have := hW.size; omega) (RepE.below (hW.mono hB.out.size) _ _ hk) (by show sz k ≤ _; omega) (HT1.out.below (hB.out.trans (hW.mono hB.out.size)))
        rw [show codeO (some k) = cd f from hkc] at h1
        exact h1
      have hx1 := xor_ne (cd f) hcd
      have hpl : p < w2.heap.size := by omega
      clear hff hb3 CA H1 H2 hrep hgf hcd HE HGe Hb2 HT1 HT
      generalize cd f = c at *
      go_wp2_with fail
      go_region_held3 (fun w' => w'.cell? ⟨w1.heap.size + 1, 0, none⟩ = some (.pointer (some ⟨p, 0, none⟩)) ∧ w'.cell? ⟨p, 0, none⟩ = some (.int .u8 c))
        (first | exact ⟨hc3, hcp⟩ | exact ⟨k0, k1⟩ | exact ⟨m0, m1⟩ | exact ⟨n0, n1⟩ | exact ⟨o0, o1⟩ | exact ⟨p0, p1⟩ | exact ⟨q0, q1⟩)
        (first
          | (go_at_call 11
             refine (K2.out _ (Below.refl w2.heap.size w2).drew).mono ?_
             rintro en w3 ⟨rfl, b3⟩
             have HV3 : Hid (Below w2.heap.size w2 w3) := below_of_drew b3
             have k0 : w3.cell? ⟨w1.heap.size + 1, 0, none⟩ = some (.pointer (some ⟨p, 0, none⟩)) := by rw [HV3.out.cell (p := ⟨w1.heap.size + 1, 0, none⟩) hfl]; exact hc3
             have k1 : w3.cell? ⟨p, 0, none⟩ = some (.int .u8 c) := by rw [HV3.out.cell (p := ⟨p, 0, none⟩) hpl]; exact hcp
             clear b3)
          | (go_at_call 13
             refine (K3.out _ HV3.out).mono ?_
             rintro en w4 ⟨rfl, b4⟩
             have HV4 : Hid (Below w2.heap.size w2 w4) := HV3.out.trans (b4.mono HV3.out.size)
             have m0 : w4.cell? ⟨w1.heap.size + 1, 0, none⟩ = some (.pointer (some ⟨p, 0, none⟩)) := by rw [HV4.out.cell (p := ⟨w1.heap.size + 1, 0, none⟩) hfl]; exact hc3
             have m1 : w4.cell? ⟨p, 0, none⟩ = some (.int .u8 c) := by rw [HV4.out.cell (p := ⟨p, 0, none⟩) hpl]; exact hcp
             clear b4)
          | (go_at_call 16
             refine (of_l (bits .xor .u8 (c : Int) 1) _).mono ?_
             rintro en w7 ⟨rfl, hof2, b7⟩
             have HV7 : Hid (Below w2.heap.size w2 w7) := HV6.out.trans (b7.mono HV6.out.size)
             have Hof2 := Lib.hid hof2
             have p0 : w7.cell? ⟨w1.heap.size + 1, 0, none⟩ = some (.pointer (some ⟨p, 0, none⟩)) := by rw [HV7.out.cell (p := ⟨w1.heap.size + 1, 0, none⟩) hfl]; exact hc3
             have p1 : w7.cell? ⟨p, 0, none⟩ = some (.int .u8 c) := by rw [HV7.out.cell (p := ⟨p, 0, none⟩) hpl]; exact hcp
             clear b7 hof2)
          | (go_at_call 16
             refine (of_l (c : Int) _).mono ?_
             rintro en w5 ⟨rfl, hof, b5⟩
             have HV5 : Hid (Below w2.heap.size w2 w5) := HV4.out.trans (b5.mono HV4.out.size)
             have Hof := Lib.hid hof
             have n0 : w5.cell? ⟨w1.heap.size + 1, 0, none⟩ = some (.pointer (some ⟨p, 0, none⟩)) := by rw [HV5.out.cell (p := ⟨w1.heap.size + 1, 0, none⟩) hfl]; exact hc3
             have n1 : w5.cell? ⟨p, 0, none⟩ = some (.int .u8 c) := by rw [HV5.out.cell (p := ⟨p, 0, none⟩) hpl]; exact hcp
             clear b5 hof)
          | (go_at_call 23
             refine (K5.out _ (bits .xor .u8 (c : Int) 1) _ HV7.out Hof2.out).mono ?_
             rintro en w8 ⟨rfl, b8⟩
             have HV8 : Hid (Below w2.heap.size w2 w8) := HV7.out.trans (b8.mono HV7.out.size)
             have q0 : w8.cell? ⟨w1.heap.size + 1, 0, none⟩ = some (.pointer (some ⟨p, 0, none⟩)) := by rw [HV8.out.cell (p := ⟨w1.heap.size + 1, 0, none⟩) hfl]; exact hc3
             have q1 : w8.cell? ⟨p, 0, none⟩ = some (.int .u8 c) := by rw [HV8.out.cell (p := ⟨p, 0, none⟩) hpl]; exact hcp
             clear b8)
          | (go_at_call 23
             refine (K5.out _ (c : Int) _ HV5.out Hof.out).mono ?_
             rintro en w6 ⟨rfl, b6⟩
             have HV6 : Hid (Below w2.heap.size w2 w6) := HV5.out.trans (b6.mono HV5.out.size)
             have o0 : w6.cell? ⟨w1.heap.size + 1, 0, none⟩ = some (.pointer (some ⟨p, 0, none⟩)) := by rw [HV6.out.cell (p := ⟨w1.heap.size + 1, 0, none⟩) hfl]; exact hc3
             have o1 : w6.cell? ⟨p, 0, none⟩ = some (.int .u8 c) := by rw [HV6.out.cell (p := ⟨p, 0, none⟩) hpl]; exact hcp
             clear b6))
      go_wp2_with fail
      rcases hcause.out with h2 | ⟨k, tk, bk, h2, hk, hkc, hks⟩
      · have CU := Lib.hid (unwrap_w p .nilIface w8 (by rw [HV8.out.cell (p := ⟨p, 2, none⟩) hpl]; exact h2))
        refine CU.out.mono ?_
        rintro en w9 ⟨rfl, rfl⟩
        have q1_ := fun d os => Calls.regrown_of (K1.out _ (HV8.out.trans ((below_regrown w8 d os).mono HV8.out.size)))
        have Q1 := Lib.hid q1_
        have r0 := fun d os => cell_regrown q0 d os
        have r1 := fun d os => cell_regrown q1 d os
        clear q1_ K1 K2 K3 K5 K6 CU h2 hcause
        go_wp2_with fail
        refine wp_region_quiet_below (by kernel_rfl) (by kernel_rfl) ?_
        repeat (first | go_big_quiet_step (exact Q1.out _ _) | quiet_step (exact Q1.out _ _))
        refine wpQuiet_nil ?_
        intro _ hw'
        obtain ⟨⟨dq, osq⟩, hw''⟩ := hw'
        subst hw''
        go_wp2
        go_ret
        exact ⟨rfl, B1.out.trans ((hB.out.trans ((HV8.out.trans ((below_regrown w8 dq osq).mono HV8.out.size)).mono hsB)).mono s1)⟩
      · have CU := Lib.hid (unwrap_w p (.iface tk bk) w8 (by rw [HV8.out.cell (p := ⟨p, 2, none⟩) hpl]; exact h2))
        refine CU.out.mono ?_
        rintro en w9 ⟨rfl, rfl⟩
        have q1_ := fun d os => Calls.regrown_of (K1.out _ (HV8.out.trans ((below_regrown w8 d os).mono HV8.out.size)))
        have q2_ := fun d os => Calls.regrown_of (K6.out k _ _ hk hks hkc (HV8.out.trans ((below_regrown w8 d os).mono HV8.out.size)))
        have Q1 := Lib.hid q1_
        have Q2 := Lib.hid q2_
        have r0 := fun d os => cell_regrown q0 d os
        have r1 := fun d os => cell_regrown q1 d os
        clear q1_ q2_ K1 K2 K3 K5 K6 CU h2 hcause hk hkc hks
        go_wp2_with fail
        refine wp_region_quiet_below (by kernel_rfl) (by kernel_rfl) ?_
        repeat (first | go_big_quiet_step (first | exact Q1.out _ _ | exact Q2.out _ _) | quiet_step (first | exact Q1.out _ _ | exact Q2.out _ _))
        refine wpQuiet_nil ?_
        intro _ hw'
        obtain ⟨⟨dq, osq⟩, hw''⟩ := hw'
        subst hw''
        go_wp2
        go_ret
        exact ⟨rfl, B1.out.trans ((hB.out.trans ((HV8.out.trans ((below_regrown w8 dq osq).mono HV8.out.size)).mono hsB)).mono s1)⟩
end Go.Proofs.YteacjahncngoiaaDoor
