/- The bytes of a value: the program's and the document's. -/
import Derived.Test.YtemfcaaoobjgkaaGreatDoorPrPut
import Derived.Test.YtemfcaaoobjgkaaGreatDoorPrKindRef
import Derived.Test.YtemfcaaoobjgkaaGreatDoorPrApp
import Derived.Test.YtemfcaaoobjgkaaGreatDoorVarPut
import Derived.Lib.QuietBelow
import Derived.BigQuiet
namespace Go.Proofs.YtemfcaaoobjgkaaGreatDoor
open Go.RowKit Go.Sort

theorem width_any (k : Int) (w : World) : Calls Tryz.prog 141 #[.int .i64 k] w fun e w' => e = .returned (.int .i64 (PR.wd k)) ∧ w = w' := by
  by_cases h1 : k = 1
  · subst h1
    go_enter Tryz.func141, Tryz.ntmps141
    go_wp2
    go_ret
    exact ⟨rfl, rfl⟩
  · by_cases h2 : k = 2
    · subst h2
      go_enter Tryz.func141, Tryz.ntmps141
      go_wp2
      go_ret
      exact ⟨rfl, rfl⟩
    · by_cases h3 : k = 3
      · subst h3
        go_enter Tryz.func141, Tryz.ntmps141
        go_wp2
        go_ret
        exact ⟨rfl, rfl⟩
      · have E : Hid (PR.wd k = 0) := Lib.hid (by unfold PR.wd; rw [if_neg h1, if_neg h2, if_neg h3])
        have e1 : (k == 1) = false := by rw [beq_eq_false_iff_ne]; exact h1
        have e2 : (k == 2) = false := by rw [beq_eq_false_iff_ne]; exact h2
        have e3 : (k == 3) = false := by rw [beq_eq_false_iff_ne]; exact h3
        clear h1 h2 h3
        go_enter Tryz.func141, Tryz.ntmps141
        go_wp2
        go_ret
        exact ⟨by rw [E.out]; rfl, rfl⟩

/-- The document's width, of a kind of numbers. -/
theorem rwidth_any (k : Int) (hk : k = 1 ∨ k = 2 ∨ k = 3) (w : World) : Calls Tryz.prog 135 #[.int .i64 k] w fun e w' => e = .returned (.int .i64 (PR.wd k)) ∧ w = w' := by
  rcases hk with rfl | rfl | rfl
  all_goals
    go_enter Tryz.func135, Tryz.ntmps135
    go_wp2
    go_ret
    exact ⟨rfl, rfl⟩

set_option maxHeartbeats 1000000 in
theorem pair_any (s t : ByteArray) (hs : s.size ≤ 140737488351232) (ht : t.size ≤ 140737488351232) (w : World) (hT : Tabs w) :
    Calls Tryz.prog 140 #[.string s, .string t] w fun e w' => e = .returned (.tuple #[.string (PR.pairS s t), .int .u8 (PR.pairC s t)]) ∧ Below w.heap.size w w' := by
  have C1 := Lib.hid (tput_any s hs w hT)
  have C2 : Hid (∀ W', Below w.heap.size w W' → _) := fun W' hW => tput_any t ht W' (hT.below hW)
  have z1 := PR.putS_size s
  have z2 := PR.putS_size t
  unfold PR.pairS PR.pairC
  clear hT
  generalize TX.putS s = S1 at *
  generalize TX.putS t = S2 at *
  generalize TX.putC s = c1 at *
  generalize TX.putC t = c2 at *
  by_cases h1 : c1 = 0
  · subst h1
    by_cases h2 : c2 = 0
    · subst h2
      simp only [ne_eq, not_true_eq_false, if_false]
      go_enter Tryz.func140, Tryz.ntmps140
      go_wp2_with fail
      refine C1.out.mono ?_
      rintro e w1 ⟨rfl, b1⟩
      have B1 := Lib.hid b1
      clear b1
      go_wp2_with fail
      refine (C2.out _ B1.out).mono ?_
      rintro e w2 ⟨rfl, b2⟩
      have B2 := Lib.hid b2
      clear b2
      go_wp2
      go_ret2
      exact ⟨rfl, B1.out.trans (B2.out.mono B1.out.size)⟩
    · have hne : (c2 != 0) = true := by rw [bne_iff_ne]; exact h2
      simp only [ne_eq, not_true_eq_false, if_false, h2, not_false_eq_true, if_true]
      clear h2
      go_enter Tryz.func140, Tryz.ntmps140
      go_wp2_with fail
      refine C1.out.mono ?_
      rintro e w1 ⟨rfl, b1⟩
      have B1 := Lib.hid b1
      clear b1
      go_wp2_with fail
      refine (C2.out _ B1.out).mono ?_
      rintro e w2 ⟨rfl, b2⟩
      have B2 := Lib.hid b2
      clear b2
      go_wp2
      go_ret2
      exact ⟨rfl, B1.out.trans (B2.out.mono B1.out.size)⟩
  · have hne : (c1 != 0) = true := by rw [bne_iff_ne]; exact h1
    simp only [ne_eq, h1, not_false_eq_true, if_true]
    clear h1
    go_enter Tryz.func140, Tryz.ntmps140
    go_wp2_with fail
    refine C1.out.mono ?_
    rintro e w1 ⟨rfl, b1⟩
    have B1 := Lib.hid b1
    clear b1
    go_wp2
    go_ret2
    exact ⟨rfl, B1.out⟩

def valO (t : TypeId) (p : Pr) : Obj := .cells #[.int .i64 p.id, .int .i64 p.n, .string p.s, .string p.t] t
theorem kd_parts (k : Int) (h : 0 ≤ k ∧ k ≤ 7) : k = 4 ∨ k = 5 ∨ k = 6 ∨ k = 7 ∨ (k = 0 ∨ k = 1 ∨ k = 2 ∨ k = 3) := by omega

set_option maxRecDepth 100000 in
set_option maxHeartbeats 4000000 in
theorem value_any (p : Pr) (hs : p.s.size ≤ 140737488351232 ∧ p.t.size ≤ 140737488351232) (hn : -9223372036854775808 ≤ p.n ∧ p.n ≤ 9223372036854775807) (w : World) (hT : Tabs w) :
    Calls Tryz.prog 126 #[.agg #[.int .i64 p.id, .int .i64 p.n, .string p.s, .string p.t]] w fun e w' => e = .returned (.tuple #[.string (PR.valS p), .int .u8 (PR.valC p)]) ∧ Below w.heap.size w w' := by
  have hbl := (Below.refl w.heap.size w).alloc (Nat.le_refl _) (.cells #[.int .i64 p.id, .int .i64 p.n, .string p.s, .string p.t] 116)
  have CK := Lib.hid (kind_any p.id)
  have hT1 := hT.below hbl
  have hk := kd_parts _ (PR.kd_le p.id)
  have C4 := Lib.hid (fun W => put_any p.n W)
  have C5 : Hid (∀ W, Calls Tryz.prog 105 #[.string p.s] W fun e w' => e = .returned (.tuple #[.string (TX.dataS p.s), .int .u8 (TX.dataC p.s)]) ∧ Below W.heap.size W w') := fun W => data_any p.s (by have := hs.1; unfold maxLen; omega) W
  have C6 := Lib.hid (tput_any p.s hs.1 _ hT1)
  have C7 := Lib.hid (pair_any p.s p.t hs.1 hs.2 _ hT1)
  have C8 := Lib.hid (fun k W => fixed_any k p.n hn.1 hn.2 W)
  have C9 := Lib.hid width_any
  have hvS : PR.valS p = if PR.kd p.id = 4 then strOfNums (VP.putL p.n) else if PR.kd p.id = 5 then TX.dataS p.s else if PR.kd p.id = 6 then TX.putS p.s else if PR.kd p.id = 7 then PR.pairS p.s p.t else strOfNums (VP.fixL (PR.wd (PR.kd p.id)) p.n) := rfl
  have hvC : PR.valC p = if PR.kd p.id = 4 then VP.putC p.n else if PR.kd p.id = 5 then TX.dataC p.s else if PR.kd p.id = 6 then TX.putC p.s else if PR.kd p.id = 7 then PR.pairC p.s p.t else VP.fixC (PR.wd (PR.kd p.id)) p.n := rfl
  obtain ⟨id, n, s, t⟩ := p
  simp only at hs hn hbl CK hk C4 C5 C6 C7 C8 hvS hvC hT1 ⊢
  rw [hvS, hvC]
  have Hb := Lib.hid hbl
  clear hvS hvC hT hbl hT1 hs hn
  generalize PR.kd id = k at *
  rcases hk with rfl | rfl | rfl | rfl | hk
  · rw [if_pos rfl, if_pos rfl]
    go_enter Tryz.func126, Tryz.ntmps126
    go_wp2_with fail
    refine (CK.out _).mono ?_
    rintro e w1 ⟨rfl, rfl⟩
    go_wp2_with fail
    refine (C4.out _).mono ?_
    rintro e w1 ⟨rfl, b1⟩
    have B1 := Lib.hid b1
    clear b1
    go_wp2
    go_ret2
    exact ⟨rfl, Hb.out.trans (B1.out.mono (by simp))⟩
  · simp only [show ((5 : Int) = 4) = False by decide, if_true, if_false]
    generalize TX.dataS s = ds at *
    generalize TX.dataC s = dc at *
    go_enter Tryz.func126, Tryz.ntmps126
    go_wp2_with fail
    refine (CK.out _).mono ?_
    rintro e w1 ⟨rfl, rfl⟩
    go_wp2_with fail
    refine (C5.out _).mono ?_
    rintro e w1 ⟨rfl, b1⟩
    have B1 := Lib.hid b1
    clear b1
    go_wp2
    go_ret2
    exact ⟨rfl, Hb.out.trans (B1.out.mono (by simp))⟩
  · simp only [show ((6 : Int) = 4) = False by decide, show ((6 : Int) = 5) = False by decide, if_true, if_false]
    go_enter Tryz.func126, Tryz.ntmps126
    go_wp2_with fail
    refine (CK.out _).mono ?_
    rintro e w1 ⟨rfl, rfl⟩
    go_wp2_with fail
    refine C6.out.mono ?_
    rintro e w1 ⟨rfl, b1⟩
    have B1 := Lib.hid b1
    clear b1
    go_wp2
    go_ret2
    exact ⟨rfl, Hb.out.trans (B1.out.mono (by simp))⟩
  · simp only [show ((7 : Int) = 4) = False by decide, show ((7 : Int) = 5) = False by decide, show ((7 : Int) = 6) = False by decide, if_true, if_false]
    go_enter Tryz.func126, Tryz.ntmps126
    go_wp2_with fail
    refine (CK.out _).mono ?_
    rintro e w1 ⟨rfl, rfl⟩
    go_wp2_with fail
    refine C7.out.mono ?_
    rintro e w1 ⟨rfl, b1⟩
    have B1 := Lib.hid b1
    clear b1
    go_wp2
    go_ret2
    exact ⟨rfl, Hb.out.trans (B1.out.mono (by simp))⟩
  · rw [if_neg (by omega), if_neg (by omega), if_neg (by omega), if_neg (by omega), if_neg (by omega), if_neg (by omega), if_neg (by omega), if_neg (by omega)]
    have e4 : (k == 4) = false := by rw [beq_eq_false_iff_ne]; omega
    have e5 : (k == 5) = false := by rw [beq_eq_false_iff_ne]; omega
    have e6 : (k == 6) = false := by rw [beq_eq_false_iff_ne]; omega
    have e7 : (k == 7) = false := by rw [beq_eq_false_iff_ne]; omega
    have C8k := Lib.hid (C8.out (PR.wd k))
    have C9k := Lib.hid (C9.out k)
    clear hk C4 C5 C6 C7 C8 C9
    generalize PR.wd k = wk at *
    generalize strOfNums (VP.fixL wk n) = FS at *
    generalize VP.fixC wk n = FC at *
    go_enter Tryz.func126, Tryz.ntmps126
    go_wp2_with fail
    refine (CK.out _).mono ?_
    rintro e w1 ⟨rfl, rfl⟩
    have hcell : (w.alloc (.cells #[.int .i64 id, .int .i64 n, .string s, .string t] 116)).cell? ⟨w.heap.size, 1, none⟩ = some (.int .i64 n) := by rw [World.cell?_alloc_at _ _ _ _ rfl]; rfl
    go_wp2_with fail
    generalize w.alloc (.cells #[.int .i64 id, .int .i64 n, .string s, .string t] 116) = W at *
    have Q1 : Hid (∀ d os, Calls Tryz.prog 141 #[.int .i64 k] (grow (redrawn W d) os) fun e w'' => e = .returned (.int .i64 wk) ∧ ∃ p : Regrown, w'' = grow (redrawn W p.d) p.os) := fun d os => (C9k.out _).mono fun _ _ ⟨he, hw⟩ => ⟨he, ⟨d, os⟩, hw.symm⟩
    have Q2 : Hid (∀ d os, Calls Tryz.prog 28 #[.int .i64 wk, .int .i64 n] (grow (redrawn W d) os) fun e w'' => e = .returned (.tuple #[.string FS, .int .u8 FC]) ∧ ∃ p : Regrown, w'' = grow (redrawn W p.d) p.os) := fun d os => Calls.regrown_of (C8k.out _)
    have r1 := fun d os => cell_regrown hcell d os
    clear C8k C9k hcell CK
    refine wp_region_quiet_below (by kernel_rfl) (by kernel_rfl) ?_
    repeat (first | go_big_quiet_step (first | exact Q1.out _ _ | exact Q2.out _ _) | quiet_step (first | exact Q1.out _ _ | exact Q2.out _ _))
    refine wpQuiet_nil ?_
    intro _ hw'
    obtain ⟨⟨dq, osq⟩, hw''⟩ := hw'
    subst hw''
    go_wp2
    go_ret2
    exact ⟨rfl, Hb.out.trans ((below_regrown W dq osq).mono Hb.out.size)⟩
end Go.Proofs.YtemfcaaoobjgkaaGreatDoor
