/- The document's reader of packets as code: a Connect. (Written by wip/tools/gen_rgc.py.) -/
import Derived.Test.YtemfcaaoobjgkaaGreatDoorMC
namespace Go.Proofs.YtemfcaaoobjgkaaGreatDoor
open Go.RowKit
attribute [local go_sem ↓] Go.wp_at_zero Go.wp_at_succ
set_option linter.unusedVariables false in
set_option maxRecDepth 100000 in
set_option maxHeartbeats 8000000 in
theorem dgetconn_any (U : ByteArray) (hU : U.size ≤ 140737488351232) (x : Int × Int) (P : Pk) (hP : Bare P) (w : World) :
    Calls Tryz.prog 70 #[.agg (iC U x), .agg (rkNil P)] w (GB w U (RG.conn U P x)) := by
  have hN : U.size ≤ maxLen := by unfold maxLen; omega
  obtain ⟨X9, hX9⟩ : ∃ y, y = RG.conn U P x := ⟨_, rfl⟩
  rw [← hX9]
  have C1 := Lib.hid (dreadtext_any U hU x)
  unfold RG.conn at hX9
  generalize RG.rT U x = T1 at *
  obtain ⟨x1, m1⟩ := T1
  unfold RG.con1 at hX9
  obtain ⟨X1, hX1⟩ : ∃ y, y = (if x1.2 = 0 ∧ m1 ≠ ⟨#[77, 81, 84, 84]⟩ then RG.fl x1 129 else x1) := ⟨_, rfl⟩
  dsimp only at hX9 C1
  rw [← hX1] at hX9
  have HX1 := Lib.hid hX1
  have C2 := Lib.hid (dreadnum_any U hN X1 1)
  generalize RG.rN U 1 X1 = T2 at *
  obtain ⟨x2, v2⟩ := T2
  unfold RG.con2 at hX9
  obtain ⟨X2, hX2⟩ : ∃ y, y = (if x2.2 = 0 ∧ v2 ≠ 5 then RG.fl x2 132 else x2) := ⟨_, rfl⟩
  dsimp only at hX9 C2
  rw [← hX2] at hX9
  have HX2 := Lib.hid hX2
  have C3 := Lib.hid (dreadnum_any U hN X2 1)
  have hn := rN1_le U X2
  generalize RG.rN U 1 X2 = T3 at *
  obtain ⟨x3, n3⟩ := T3
  unfold RG.con3 at hX9
  obtain ⟨X3, hX3⟩ : ∃ y, y = (if RG.flBad n3 = true then RG.fl x3 129 else x3) := ⟨_, rfl⟩
  dsimp only at hX9 C3 hn
  rw [← hX3] at hX9
  have HX3 := Lib.hid hX3
  obtain ⟨n0, n1⟩ := hn
  have CS2 := Lib.hid (disset_any n3 2 n0 n1 (by decide) (by decide))
  have CS4 := Lib.hid (disset_any n3 4 n0 n1 (by decide) (by decide))
  have CS32 := Lib.hid (disset_any n3 32 n0 n1 (by decide) (by decide))
  have CS64 := Lib.hid (disset_any n3 64 n0 n1 (by decide) (by decide))
  have CS128 := Lib.hid (disset_any n3 128 n0 n1 (by decide) (by decide))
  have C4 := Lib.hid (dreadnum_any U hN X3 2)
  generalize RG.rN U 2 X3 = T4 at *
  obtain ⟨x4, k4⟩ := T4
  unfold RG.con4 at hX9
  dsimp only at hX9 C4
  have C5 := Lib.hid (dreadprops_any U hU x4 1)
  generalize RG.rP U 1 x4 = T5 at *
  obtain ⟨x5, l5⟩ := T5
  unfold RG.con5 at hX9
  dsimp only at hX9 C5
  have C6 := Lib.hid (dreadtext_any U hU x5)
  generalize RG.rT U x5 = T6 at *
  obtain ⟨x6, c6⟩ := T6
  dsimp only at hX9 C6
  have HX9 := Lib.hid hX9
  have HNN := Lib.hid (And.intro n0 n1)
  clear hX1 hX2 hX3 hX9 n0 n1
  go_enter Tryz.func70, Tryz.ntmps70
  go_upto_region 1 with fail
  change Code.wp _ _ _ _ ((((w.alloc (.cells (iC U x) 111)).alloc (.cells (rkNil P) 52)).alloc (.cells (iC ⟨#[]⟩ (0, 0)) 111)).alloc (.cells (rkNil PK.zeroPk) 52))
  have H := PB.start w U x P hP
  generalize ((((w.alloc (.cells (iC U x) 111)).alloc (.cells (rkNil P) 52)).alloc (.cells (iC ⟨#[]⟩ (0, 0)) 111)).alloc (.cells (rkNil PK.zeroPk) 52)) = W at *
  have HH := Lib.hid H
  clear H
  go_wp2_with (refine wpl_load_i (by rfl) (.tmp 2) (by rfl) w.heap.size (by rfl) HH.out.box ?_)
  refine (C1.out _).mono ?_
  rintro e v1 ⟨rfl, b1⟩
  have H1 := HH.out.next b1
  have HB := Lib.hid H1
  clear HH b1 H1 C1
  go_upto_region 2 with (refine wpList_store_row (by rfl) 111 (.tmp 2) (.tmp 25) (by rfl) w.heap.size (iC U x1) (by rfl) (by rfl) 111 (iC U x) HB.out.box i_info rfl (iC_one _ _) ?_)
  change Code.wp _ _ _ _ (v1.setRow w.heap.size (iC U x1))
  have H2 := HB.out.setO x1
  clear HB
  generalize v1.setRow w.heap.size (iC U x1) = W1 at *
  have HH := Lib.hid H2
  clear H2
  clear W
  obtain ⟨y0, y1, y2⟩ := HH.out.facts
  go_cut [33] from 22 to 172 (fun b wx => b = .bool (decide (x1.2 = 0 ∧ m1 ≠ ⟨#[77, 81, 84, 84]⟩)) ∧ W1 = wx)
  case first =>
    by_cases h0 : x1.2 = 0
    · have h0' : (x1.2 == 0) = true := by rw [beq_iff_eq]; exact h0
      by_cases hm : m1 = ⟨#[77, 81, 84, 84]⟩
      · have hm' : (m1.toList == [77, 81, 84, 84]) = true := by rw [hm, ByteArray.toList_eq]; rfl
        have e0 : decide (x1.2 = 0 ∧ m1 ≠ ⟨#[77, 81, 84, 84]⟩) = false := decide_eq_false (fun h => h.2 hm)
        clear hm
        go_wp2
        go_meet
        exact ⟨congrArg Value.bool e0.symm, rfl⟩
      · have hm' : (m1.toList == [77, 81, 84, 84]) = false := by
          rw [Bool.eq_false_iff]
          intro e
          rw [beq_iff_eq] at e
          exact hm (toList_same (e.trans (by rw [ByteArray.toList_eq])))
        have e0 : decide (x1.2 = 0 ∧ m1 ≠ ⟨#[77, 81, 84, 84]⟩) = true := decide_eq_true ⟨h0, hm⟩
        clear hm
        go_wp2
        go_meet
        exact ⟨congrArg Value.bool e0.symm, rfl⟩
    · have h0' : (x1.2 == 0) = false := by rw [beq_eq_false_iff_ne]; exact h0
      go_wp2
      go_meet
      exact ⟨congrArg Value.bool (by simp [h0]), rfl⟩
  case rest => as_aux_lemma =>
  obtain ⟨rfl, rfl⟩ := hcut
  clear y0 y1 y2
  go_upto_if 33 with fail
  go_cut [] from 22 to 172 (fun wx => PB w U X1 P (.slice none 0 0) (.slice none 0 0) (.slice none 0 0) (.slice none 0 0) (.slice none 0 0) wx)
  case first =>
    by_cases hc : x1.2 = 0 ∧ m1 ≠ ⟨#[77, 81, 84, 84]⟩
    · have E1 : RG.fl x1 129 = X1 := by rw [HX1.out, if_pos hc]
      have CF := Lib.hid (dfailed_any U x1 129)
      rw [E1] at CF
      simp only [decide_eq_true hc]
      clear hc E1
      go_wp2_with (refine wpl_load_i (by rfl) (.tmp 2) (by rfl) w.heap.size (by rfl) HH.out.box ?_)
      refine (CF.out _).mono ?_
      rintro e v1 ⟨rfl, b1⟩
      have HB := Lib.hid (HH.out.next b1)
      clear HH b1 CF
      go_wp2_with (refine wpList_store_row (by rfl) 111 (.tmp 2) (.tmp 35) (by rfl) w.heap.size (iC U X1) (by rfl) (by rfl) 111 (iC U x1) HB.out.box i_info rfl (iC_one _ _) ?_)
      go_meet
      exact HB.out.setO X1
    · have E1 : x1 = X1 := by rw [HX1.out, if_neg hc]
      have HE := Lib.hid E1
      simp only [decide_eq_false hc]
      clear hc E1
      go_wp2
      go_meet
      rw [← HE.out]
      exact HH.out
  case rest => as_aux_lemma =>
  have H9 := Lib.hid hcut
  clear HH hcut HX1
  have HH := H9
  clear H9
  try clear W1
  generalize wc = W2 at *
  go_wp2_with (refine wpl_load_i (by rfl) (.tmp 2) (by rfl) w.heap.size (by rfl) HH.out.box ?_)
  refine (C2.out _).mono ?_
  rintro e v1 ⟨rfl, b1⟩
  have H1 := HH.out.next b1
  have HB := Lib.hid H1
  clear HH b1 H1 C2
  go_upto_region 5 with (refine wpList_store_row (by rfl) 111 (.tmp 2) (.tmp 39) (by rfl) w.heap.size (iC U x2) (by rfl) (by rfl) 111 (iC U X1) HB.out.box i_info rfl (iC_one _ _) ?_)
  change Code.wp _ _ _ _ (v1.setRow w.heap.size (iC U x2))
  have H2 := HB.out.setO x2
  clear HB
  generalize v1.setRow w.heap.size (iC U x2) = W3 at *
  have HH := Lib.hid H2
  clear H2
  obtain ⟨y0, y1, y2⟩ := HH.out.facts
  go_cut [47] from 22 to 172 (fun b wx => b = .bool (decide (x2.2 = 0 ∧ v2 ≠ 5)) ∧ W3 = wx)
  case first =>
    by_cases h0 : x2.2 = 0
    · have h0' : (x2.2 == 0) = true := by rw [beq_iff_eq]; exact h0
      by_cases hm : v2 = 5
      · have hm' : (v2 != 5) = false := by rw [hm]; rfl
        have e0 : decide (x2.2 = 0 ∧ v2 ≠ 5) = false := decide_eq_false (fun h => h.2 hm)
        clear hm
        go_wp2
        go_meet
        exact ⟨congrArg Value.bool e0.symm, rfl⟩
      · have hm' : (v2 != 5) = true := by rw [bne_iff_ne]; exact hm
        have e0 : decide (x2.2 = 0 ∧ v2 ≠ 5) = true := decide_eq_true ⟨h0, hm⟩
        clear hm
        go_wp2
        go_meet
        exact ⟨congrArg Value.bool e0.symm, rfl⟩
    · have h0' : (x2.2 == 0) = false := by rw [beq_eq_false_iff_ne]; exact h0
      go_wp2
      go_meet
      exact ⟨congrArg Value.bool (by simp [h0]), rfl⟩
  case rest => as_aux_lemma =>
  obtain ⟨rfl, rfl⟩ := hcut
  clear y0 y1 y2
  go_upto_if 47 with fail
  go_cut [] from 22 to 172 (fun wx => PB w U X2 P (.slice none 0 0) (.slice none 0 0) (.slice none 0 0) (.slice none 0 0) (.slice none 0 0) wx)
  case first =>
    by_cases hc : x2.2 = 0 ∧ v2 ≠ 5
    · have E1 : RG.fl x2 132 = X2 := by rw [HX2.out, if_pos hc]
      have CF := Lib.hid (dfailed_any U x2 132)
      rw [E1] at CF
      simp only [decide_eq_true hc]
      clear hc E1
      go_wp2_with (refine wpl_load_i (by rfl) (.tmp 2) (by rfl) w.heap.size (by rfl) HH.out.box ?_)
      refine (CF.out _).mono ?_
      rintro e v1 ⟨rfl, b1⟩
      have HB := Lib.hid (HH.out.next b1)
      clear HH b1 CF
      go_wp2_with (refine wpList_store_row (by rfl) 111 (.tmp 2) (.tmp 49) (by rfl) w.heap.size (iC U X2) (by rfl) (by rfl) 111 (iC U x2) HB.out.box i_info rfl (iC_one _ _) ?_)
      go_meet
      exact HB.out.setO X2
    · have E1 : x2 = X2 := by rw [HX2.out, if_neg hc]
      have HE := Lib.hid E1
      simp only [decide_eq_false hc]
      clear hc E1
      go_wp2
      go_meet
      rw [← HE.out]
      exact HH.out
  case rest => as_aux_lemma =>
  have H9 := Lib.hid hcut
  clear HH hcut HX2
  have HH := H9
  clear H9
  try clear W3
  generalize wc = W4 at *
  go_wp2_with (refine wpl_load_i (by rfl) (.tmp 2) (by rfl) w.heap.size (by rfl) HH.out.box ?_)
  refine (C3.out _).mono ?_
  rintro e v1 ⟨rfl, b1⟩
  have H1 := HH.out.next b1
  have HB := Lib.hid H1
  clear HH b1 H1 C3
  go_upto_region 8 with (refine wpList_store_row (by rfl) 111 (.tmp 2) (.tmp 53) (by rfl) w.heap.size (iC U x3) (by rfl) (by rfl) 111 (iC U X2) HB.out.box i_info rfl (iC_one _ _) ?_)
  change Code.wp _ _ _ _ (v1.setRow w.heap.size (iC U x3))
  have H2 := HB.out.setO x3
  clear HB
  generalize v1.setRow w.heap.size (iC U x3) = W5 at *
  have HH := Lib.hid H2
  clear H2
  obtain ⟨n0, n1⟩ := HNN.out
  go_wp2_with fail
  refine (CS2.out _).mono ?_
  rintro e v1 ⟨rfl, b1⟩
  have H1 := HH.out.next b1
  clear HH b1 CS2
  have HH := Lib.hid H1
  clear H1
  have yc := (cell_heap (i := 11) HH.out.pk).trans (show _ = some (.bool P.clean) from rfl)
  have yf := frozen_heap (i := 11) HH.out.pk
  have H4 := Lib.hid (HH.out.setF 11 (.bool (n3 / 2 % 2 == 1)) { P with clean := n3 / 2 % 2 == 1 } rfl rfl rfl rfl rfl rfl)
  clear HH
  go_upto_region 9 with fail
  change Code.wp _ _ _ _ (v1.setCell ⟨w.heap.size + 1, 11, none⟩ (.bool (n3 / 2 % 2 == 1)))
  generalize v1.setCell ⟨w.heap.size + 1, 11, none⟩ (.bool (n3 / 2 % 2 == 1)) = V0 at *
  have HH := H4
  clear H4 yc yf
  go_wp2_with fail
  refine (CS4.out _).mono ?_
  rintro e v1 ⟨rfl, b1⟩
  have H1 := HH.out.next b1
  clear HH b1 CS4
  have HH := Lib.hid H1
  clear H1
  have yc := (cell_heap (i := 13) HH.out.pk).trans (show _ = some (.bool P.hasWill) from rfl)
  have yf := frozen_heap (i := 13) HH.out.pk
  have H4 := Lib.hid (HH.out.setF 13 (.bool (n3 / 4 % 2 == 1)) { P with clean := n3 / 2 % 2 == 1, hasWill := n3 / 4 % 2 == 1 } rfl rfl rfl rfl rfl rfl)
  clear HH
  go_upto_region 10 with fail
  change Code.wp _ _ _ _ (v1.setCell ⟨w.heap.size + 1, 13, none⟩ (.bool (n3 / 4 % 2 == 1)))
  generalize v1.setCell ⟨w.heap.size + 1, 13, none⟩ (.bool (n3 / 4 % 2 == 1)) = V1 at *
  have HH := H4
  clear H4 yc yf
  go_wp2_with fail
  refine (CS32.out _).mono ?_
  rintro e v1 ⟨rfl, b1⟩
  have H1 := HH.out.next b1
  clear HH b1 CS32
  have HH := Lib.hid H1
  clear H1
  have yc := (cell_heap (i := 17) HH.out.pk).trans (show _ = some (.bool P.wret) from rfl)
  have yf := frozen_heap (i := 17) HH.out.pk
  have H4 := Lib.hid (HH.out.setF 17 (.bool (n3 / 32 % 2 == 1)) { P with clean := n3 / 2 % 2 == 1, hasWill := n3 / 4 % 2 == 1, wret := n3 / 32 % 2 == 1 } rfl rfl rfl rfl rfl rfl)
  clear HH
  go_upto_region 11 with fail
  change Code.wp _ _ _ _ (v1.setCell ⟨w.heap.size + 1, 17, none⟩ (.bool (n3 / 32 % 2 == 1)))
  generalize v1.setCell ⟨w.heap.size + 1, 17, none⟩ (.bool (n3 / 32 % 2 == 1)) = V2 at *
  have HH := H4
  clear H4 yc yf
  go_wp2_with fail
  refine (CS64.out _).mono ?_
  rintro e v1 ⟨rfl, b1⟩
  have H1 := HH.out.next b1
  clear HH b1 CS64
  have HH := Lib.hid H1
  clear H1
  have yc := (cell_heap (i := 20) HH.out.pk).trans (show _ = some (.bool P.hasPass) from rfl)
  have yf := frozen_heap (i := 20) HH.out.pk
  have H4 := Lib.hid (HH.out.setF 20 (.bool (n3 / 64 % 2 == 1)) { P with clean := n3 / 2 % 2 == 1, hasWill := n3 / 4 % 2 == 1, wret := n3 / 32 % 2 == 1, hasPass := n3 / 64 % 2 == 1 } rfl rfl rfl rfl rfl rfl)
  clear HH
  go_upto_region 12 with fail
  change Code.wp _ _ _ _ (v1.setCell ⟨w.heap.size + 1, 20, none⟩ (.bool (n3 / 64 % 2 == 1)))
  generalize v1.setCell ⟨w.heap.size + 1, 20, none⟩ (.bool (n3 / 64 % 2 == 1)) = V3 at *
  have HH := H4
  clear H4 yc yf
  go_wp2_with fail
  refine (CS128.out _).mono ?_
  rintro e v1 ⟨rfl, b1⟩
  have H1 := HH.out.next b1
  clear HH b1 CS128
  have HH := Lib.hid H1
  clear H1
  have yc := (cell_heap (i := 19) HH.out.pk).trans (show _ = some (.bool P.hasUser) from rfl)
  have yf := frozen_heap (i := 19) HH.out.pk
  have H4 := Lib.hid (HH.out.setF 19 (.bool (n3 / 128 % 2 == 1)) { P with clean := n3 / 2 % 2 == 1, hasWill := n3 / 4 % 2 == 1, wret := n3 / 32 % 2 == 1, hasPass := n3 / 64 % 2 == 1, hasUser := n3 / 128 % 2 == 1 } rfl rfl rfl rfl rfl rfl)
  clear HH
  go_upto_region 13 with fail
  change Code.wp _ _ _ _ (v1.setCell ⟨w.heap.size + 1, 19, none⟩ (.bool (n3 / 128 % 2 == 1)))
  generalize v1.setCell ⟨w.heap.size + 1, 19, none⟩ (.bool (n3 / 128 % 2 == 1)) = V4 at *
  have HH := H4
  clear H4 yc yf
  have yc := (cell_heap (i := 16) HH.out.pk).trans (show _ = some (.int .i64 P.wqos) from rfl)
  have yf := frozen_heap (i := 16) HH.out.pk
  have H4 := Lib.hid (HH.out.setF 16 (.int .i64 (n3 / 8 % 4)) (RG.flP P n3) rfl rfl rfl rfl rfl rfl)
  clear HH
  go_upto_region 14 with fail
  change Code.wp _ _ _ _ (V4.setCell ⟨w.heap.size + 1, 16, none⟩ (.int .i64 (n3 / 8 % 4)))
  generalize V4.setCell ⟨w.heap.size + 1, 16, none⟩ (.int .i64 (n3 / 8 % 4)) = V5 at *
  have HH := H4
  clear H4 yc yf
  obtain ⟨y0, y1, y2⟩ := HH.out.facts
  go_cut [100] from 22 to 172 (fun b wx => b = .bool (decide (RG.flBad n3 = true)) ∧ V5 = wx)
  case first =>
    have z16 := (cell_heap (i := 16) HH.out.pk).trans (show _ = some (.int .i64 (n3 / 8 % 4)) from rfl)
    have z13 := (cell_heap (i := 13) HH.out.pk).trans (show _ = some (.bool (n3 / 4 % 2 == 1)) from rfl)
    have z17 := (cell_heap (i := 17) HH.out.pk).trans (show _ = some (.bool (n3 / 32 % 2 == 1)) from rfl)
    obtain ⟨bd, hbd⟩ : ∃ y, y = RG.flBad n3 := ⟨_, rfl⟩
    have EB : bd = (n3 % 2 == 1 || n3 / 8 % 4 == 3 || (!(n3 / 4 % 2 == 1) && (decide (0 < n3 / 8 % 4) || n3 / 32 % 2 == 1))) := hbd
    have HBD := Lib.hid hbd
    clear hbd
    generalize n3 / 8 % 4 = qq at *
    generalize (n3 / 4 % 2 == 1) = hw at *
    generalize (n3 / 32 % 2 == 1) = wr at *
    have HEB := Lib.hid EB
    clear EB
    by_cases c1 : n3 % 2 = 1
    · have c1' : (n3 % 2 == 1) = true := by rw [beq_iff_eq]; exact c1
      have e0 : Hid (decide (RG.flBad n3 = true) = true) := Lib.hid (by rw [← HBD.out, HEB.out, c1']; rfl)
      go_wp2
      go_meet
      exact ⟨congrArg Value.bool e0.out.symm, rfl⟩
    · have c1' : (n3 % 2 == 1) = false := by rw [beq_eq_false_iff_ne]; exact c1
      by_cases c2 : qq = 3
      · have c2' : (qq == 3) = true := by rw [beq_iff_eq]; exact c2
        have e0 : Hid (decide (RG.flBad n3 = true) = true) := Lib.hid (by rw [← HBD.out, HEB.out, c1', c2']; rfl)
        clear c2
        go_wp2
        go_meet
        exact ⟨congrArg Value.bool e0.out.symm, rfl⟩
      · have c2' : (qq == 3) = false := by rw [beq_eq_false_iff_ne]; exact c2
        cases hw
        · by_cases c3 : 0 < qq
          · have e0 : Hid (decide (RG.flBad n3 = true) = true) := Lib.hid (by rw [← HBD.out, HEB.out, c1', c2', decide_eq_true c3]; rfl)
            go_wp2
            go_meet
            exact ⟨congrArg Value.bool e0.out.symm, rfl⟩
          · cases wr
            · have e0 : Hid (decide (RG.flBad n3 = true) = false) := Lib.hid (by rw [← HBD.out, HEB.out, c1', c2', decide_eq_false c3]; rfl)
              go_wp2
              go_meet
              exact ⟨congrArg Value.bool e0.out.symm, rfl⟩
            · have e0 : Hid (decide (RG.flBad n3 = true) = true) := Lib.hid (by rw [← HBD.out, HEB.out, c1', c2', decide_eq_false c3]; rfl)
              go_wp2
              go_meet
              exact ⟨congrArg Value.bool e0.out.symm, rfl⟩
        · have e0 : Hid (decide (RG.flBad n3 = true) = false) := Lib.hid (by rw [← HBD.out, HEB.out, c1', c2']; rfl)
          go_wp2
          go_meet
          exact ⟨congrArg Value.bool e0.out.symm, rfl⟩
  case rest => as_aux_lemma =>
  obtain ⟨rfl, rfl⟩ := hcut
  clear y0 y1 y2
  go_upto_if 100 with fail
  go_cut [] from 22 to 172 (fun wx => PB w U X3 (RG.flP P n3) (.slice none 0 0) (.slice none 0 0) (.slice none 0 0) (.slice none 0 0) (.slice none 0 0) wx)
  case first =>
    by_cases hc : RG.flBad n3 = true
    · have E1 : RG.fl x3 129 = X3 := by rw [HX3.out, if_pos hc]
      have CF := Lib.hid (dfailed_any U x3 129)
      rw [E1] at CF
      simp only [decide_eq_true hc]
      clear hc E1
      go_wp2_with (refine wpl_load_i (by rfl) (.tmp 2) (by rfl) w.heap.size (by rfl) HH.out.box ?_)
      refine (CF.out _).mono ?_
      rintro e v1 ⟨rfl, b1⟩
      have HB := Lib.hid (HH.out.next b1)
      clear HH b1 CF
      go_wp2_with (refine wpList_store_row (by rfl) 111 (.tmp 2) (.tmp 102) (by rfl) w.heap.size (iC U X3) (by rfl) (by rfl) 111 (iC U x3) HB.out.box i_info rfl (iC_one _ _) ?_)
      go_meet
      exact HB.out.setO X3
    · have E1 : x3 = X3 := by rw [HX3.out, if_neg hc]
      have HE := Lib.hid E1
      simp only [decide_eq_false hc]
      clear hc E1
      go_wp2
      go_meet
      rw [← HE.out]
      exact HH.out
  case rest => as_aux_lemma =>
  have H9 := Lib.hid hcut
  clear HH hcut HX3
  have HH := H9
  clear H9
  try clear V5
  generalize wc = W6 at *
  clear n0 n1 HNN
  generalize hP3 : RG.flP P n3 = P3 at *
  have B3 : Bare P3 := by rw [← hP3]; exact ⟨hP.code, hP.codes, hP.props, hP.wprops, hP.subs, hP.filters⟩
  clear hP3
  go_wp2_with (refine wpl_load_i (by rfl) (.tmp 2) (by rfl) w.heap.size (by rfl) HH.out.box ?_)
  refine (C4.out _).mono ?_
  rintro e v1 ⟨rfl, b1⟩
  have H1 := HH.out.next b1
  have HB := Lib.hid H1
  clear HH b1 H1 C4
  go_upto_region 17 with (refine wpList_store_row (by rfl) 111 (.tmp 2) (.tmp 106) (by rfl) w.heap.size (iC U x4) (by rfl) (by rfl) 111 (iC U X3) HB.out.box i_info rfl (iC_one _ _) ?_)
  change Code.wp _ _ _ _ (v1.setRow w.heap.size (iC U x4))
  have H2 := HB.out.setO x4
  clear HB
  generalize v1.setRow w.heap.size (iC U x4) = W7 at *
  have HH := Lib.hid H2
  clear H2
  have yc := (cell_heap (i := 12) HH.out.pk).trans (show _ = some (.int .i64 P3.keep) from rfl)
  have yf := frozen_heap (i := 12) HH.out.pk
  have H4 := Lib.hid (HH.out.setF 12 (.int .i64 k4) { P3 with keep := k4 } rfl rfl rfl rfl rfl rfl)
  clear HH
  go_upto_region 18 with fail
  change Code.wp _ _ _ _ (W7.setCell ⟨w.heap.size + 1, 12, none⟩ (.int .i64 k4))
  generalize W7.setCell ⟨w.heap.size + 1, 12, none⟩ (.int .i64 k4) = W8 at *
  have HH := H4
  clear H4 yc yf
  go_wp2_with (refine wpl_load_i (by rfl) (.tmp 2) (by rfl) w.heap.size (by rfl) HH.out.box ?_)
  refine (C5.out _).mono ?_
  rintro e v1 ⟨v, rfl, o1, b1⟩
  obtain ⟨A, cap, rfl⟩ := own_form o1
  have H1 := HH.out.next b1
  have O1 := own_base' o1 HH.out.size
  have HB := Lib.hid H1
  dsimp only at O1 ⊢
  have OB := Lib.hid O1
  clear HH b1 H1 o1 O1 C5
  go_upto_region 19 with (refine wpList_store_row (by rfl) 111 (.tmp 2) (.tmp 113) (by rfl) w.heap.size (iC U x5) (by rfl) (by rfl) 111 (iC U x4) HB.out.box i_info rfl (iC_one _ _) ?_)
  change Code.wp _ _ _ _ (v1.setRow w.heap.size (iC U x5))
  have H2 := HB.out.setO x5
  have O2 := own_setRow (iC U x5) OB.out (row_ne OB.out (show w.heap.size < w.heap.size + 4 by omega))
  clear HB OB
  generalize v1.setRow w.heap.size (iC U x5) = W9 at *
  have HH := Lib.hid H2
  have OA := Lib.hid O2
  clear H2 O2
  have yc := (cell_heap (i := 9) HH.out.pk).trans (show _ = some (.slice none 0 0) from rfl)
  have yf := frozen_heap (i := 9) HH.out.pk
  have H4 := Lib.hid (HH.out.setP OA.out)
  clear HH
  go_upto_region 20 with fail
  change Code.wp _ _ _ _ (W9.setCell ⟨w.heap.size + 1, 9, none⟩ (.slice A l5.length cap))
  generalize W9.setCell ⟨w.heap.size + 1, 9, none⟩ (.slice A l5.length cap) = W10 at *
  have HH := H4
  clear H4 yc yf
  clear OA
  go_wp2_with (refine wpl_load_i (by rfl) (.tmp 2) (by rfl) w.heap.size (by rfl) HH.out.box ?_)
  refine (C6.out _).mono ?_
  rintro e v1 ⟨rfl, b1⟩
  have H1 := HH.out.next b1
  have HB := Lib.hid H1
  clear HH b1 H1 C6
  go_upto_region 21 with (refine wpList_store_row (by rfl) 111 (.tmp 2) (.tmp 120) (by rfl) w.heap.size (iC U x6) (by rfl) (by rfl) 111 (iC U x5) HB.out.box i_info rfl (iC_one _ _) ?_)
  change Code.wp _ _ _ _ (v1.setRow w.heap.size (iC U x6))
  have H2 := HB.out.setO x6
  clear HB
  generalize v1.setRow w.heap.size (iC U x6) = W11 at *
  have HH := Lib.hid H2
  clear H2
  have yc := (cell_heap (i := 10) HH.out.pk).trans (show _ = some (.string P3.client) from rfl)
  have yf := frozen_heap (i := 10) HH.out.pk
  have H4 := Lib.hid (HH.out.setF 10 (.string c6) { P3 with keep := k4, props := l5, client := c6 } rfl rfl rfl rfl rfl rfl)
  clear HH
  go_upto_region 22 with fail
  change Code.wp _ _ _ _ (W11.setCell ⟨w.heap.size + 1, 10, none⟩ (.string c6))
  generalize W11.setCell ⟨w.heap.size + 1, 10, none⟩ (.string c6) = W12 at *
  have HH := H4
  clear H4 yc yf
  obtain ⟨P6, hP6⟩ : ∃ y : Pk, y = { P3 with keep := k4, props := l5, client := c6 } := ⟨_, rfl⟩
  have H6 : Hid (PB w U x6 P6 (.slice none 0 0) (.slice A l5.length cap) (.slice none 0 0) (.slice none 0 0) (.slice none 0 0) W12) := Lib.hid (by rw [hP6]; exact HH.out)
  have HX6 : Hid (X9 = RG.will U P6 x6) := Lib.hid (by rw [hP6]; exact HX9.out)
  clear HH hP6 HX9
  have HH := H6
  clear H6
  obtain ⟨x7, hx7⟩ : ∃ y, y = (if P6.hasWill = true then (RG.rD U (RG.rT U (RG.rP U 0 x6).1).1).1 else x6) := ⟨_, rfl⟩
  obtain ⟨P7, hP7⟩ : ∃ y, y = (if P6.hasWill = true then { P6 with wprops := (RG.rP U 0 x6).2, wtopic := (RG.rT U (RG.rP U 0 x6).1).2, wpay := (RG.rD U (RG.rT U (RG.rP U 0 x6).1).1).2 } else P6) := ⟨_, rfl⟩
  have HX7 : Hid (X9 = RG.user U P7 x7) := Lib.hid (by
    rw [HX6.out, hx7, hP7]
    unfold RG.will RG.will2 RG.will3
    split <;> rfl)
  have Hx7 := Lib.hid hx7; have HP7 := Lib.hid hP7
  clear hx7 hP7 HX6
  have y13 := (cell_heap (i := 13) HH.out.pk).trans (show _ = some (.bool P6.hasWill) from rfl)
  go_upto_if 125 with fail
  clear y13
  go_cut [] from 22 to 172 (fun wx => ∃ vw, PB w U x7 P7 (.slice none 0 0) (.slice A l5.length cap) vw (.slice none 0 0) (.slice none 0 0) wx)
  case first =>
    cases hw : P6.hasWill
    · have E7 : x6 = x7 := by rw [Hx7.out, if_neg (by rw [hw]; decide)]
      have EP : P7 = P6 := by rw [HP7.out, if_neg (by rw [hw]; decide)]
      have HE := Lib.hid (And.intro E7 EP)
      clear E7 EP hw
      go_wp2
      go_meet
      rw [← HE.out.1, HE.out.2]
      exact ⟨_, HH.out⟩
    · have E7 := Hx7.out
      have EP := HP7.out
      rw [if_pos hw] at E7 EP
      clear Hx7 HP7 hw
      have C7 := Lib.hid (dreadprops_any U hU x6 0)
      generalize RG.rP U 0 x6 = Ta at *
      obtain ⟨xa, la⟩ := Ta
      dsimp only at E7 EP C7
      have C8 := Lib.hid (dreadtext_any U hU xa)
      generalize RG.rT U xa = Tb at *
      obtain ⟨xb, tb⟩ := Tb
      dsimp only at E7 EP C8
      have C9 := Lib.hid (dreaddata_any U hU xb)
      generalize RG.rD U xb = Tc at *
      obtain ⟨xc, dc⟩ := Tc
      dsimp only at E7 EP C9
      have HE := Lib.hid (And.intro E7 EP)
      clear E7 EP
      go_wp2_with (refine wpl_load_i (by rfl) (.tmp 2) (by rfl) w.heap.size (by rfl) HH.out.box ?_)
      refine (C7.out _).mono ?_
      rintro e v1 ⟨v, rfl, o1, b1⟩
      obtain ⟨Aw, cw, rfl⟩ := own_form o1
      have O1 := own_base' o1 HH.out.size
      dsimp only at O1 ⊢
      have H1 := HH.out.next b1
      have H2 := Lib.hid (H1.next (nb_below v1 U xa))
      have G2 := Lib.hid (nb_heap v1 U xa)
      have A2 := Lib.hid (heap_alloc_new v1 (.cells (iC ⟨#[]⟩ (0, 0)) 111))
      have OW := Lib.hid (own_below O1 (nb_below v1 U xa))
      clear O1 o1
      clear HH b1 H1 C7
      go_upto_region 24 with (refine wpList_store_row (by rfl) 111 (.tmp 12) (.tmp 129) (by rfl) v1.heap.size (iC U xa) (by rfl) (by rfl) 111 (iC ⟨#[]⟩ (0, 0)) A2.out i_info rfl (iC_one _ _) ?_)
      clear A2
      change Code.wp _ _ _ _ (nb v1 U xa)
      generalize nb v1 U xa = Wa at *
      generalize v1.heap.size = ga at *
      have HH := H2
      have GA := G2
      clear H2 G2
      go_wp2_with (refine wpl_load_i (by rfl) (.tmp 12) (by rfl) ga (by rfl) GA.out ?_)
      refine (C8.out _).mono ?_
      rintro e v1 ⟨rfl, b1⟩
      have OW1 := own_below OW.out b1
      have H1 := HH.out.next b1
      have H2 := Lib.hid (H1.next (nb_below v1 U xb))
      have G2 := Lib.hid (nb_heap v1 U xb)
      have A2 := Lib.hid (heap_alloc_new v1 (.cells (iC ⟨#[]⟩ (0, 0)) 111))
      have OW2 := Lib.hid (own_below OW1 (nb_below v1 U xb))
      clear OW OW1
      have OW := OW2
      clear OW2
      clear HH b1 H1 C8 GA
      go_upto_region 25 with (refine wpList_store_row (by rfl) 111 (.tmp 14) (.tmp 134) (by rfl) v1.heap.size (iC U xb) (by rfl) (by rfl) 111 (iC ⟨#[]⟩ (0, 0)) A2.out i_info rfl (iC_one _ _) ?_)
      clear A2
      change Code.wp _ _ _ _ (nb v1 U xb)
      generalize nb v1 U xb = Wb at *
      generalize v1.heap.size = gb at *
      have HH := H2
      have GA := G2
      clear H2 G2
      go_wp2_with (refine wpl_load_i (by rfl) (.tmp 14) (by rfl) gb (by rfl) GA.out ?_)
      refine (C9.out _).mono ?_
      rintro e v1 ⟨rfl, b1⟩
      have OW1 := own_below OW.out b1
      have H1 := HH.out.next b1
      have H2 := Lib.hid (H1.next (nb_below v1 U xc))
      have G2 := Lib.hid (nb_heap v1 U xc)
      have A2 := Lib.hid (heap_alloc_new v1 (.cells (iC ⟨#[]⟩ (0, 0)) 111))
      have OW2 := Lib.hid (own_below OW1 (nb_below v1 U xc))
      clear OW OW1
      have OW := OW2
      clear OW2
      clear HH b1 H1 C9 GA
      go_upto_region 26 with (refine wpList_store_row (by rfl) 111 (.tmp 16) (.tmp 139) (by rfl) v1.heap.size (iC U xc) (by rfl) (by rfl) 111 (iC ⟨#[]⟩ (0, 0)) A2.out i_info rfl (iC_one _ _) ?_)
      clear A2
      change Code.wp _ _ _ _ (nb v1 U xc)
      generalize nb v1 U xc = Wc at *
      generalize v1.heap.size = gc at *
      have HH := H2
      have GA := G2
      clear H2 G2
      go_upto_region 27 with (first
        | refine wpl_load_i (by rfl) (.tmp 16) (by rfl) gc (by rfl) GA.out ?_
        | refine wpList_store_row (by rfl) 111 (.tmp 2) (.tmp 141) (by rfl) w.heap.size (iC U xc) (by rfl) (by rfl) 111 (iC U x6) HH.out.box i_info rfl (iC_one _ _) ?_)
      change Code.wp _ _ _ _ (Wc.setRow w.heap.size (iC U xc))
      have H2 := Lib.hid (HH.out.setO xc)
      have OW2 := Lib.hid (own_setRow (iC U xc) OW.out (row_ne OW.out (show w.heap.size < w.heap.size + 4 by omega)))
      clear OW
      have OW := OW2
      clear OW2
      clear HH GA
      generalize Wc.setRow w.heap.size (iC U xc) = Wd at *
      have HH := H2
      clear H2
      have yc := (cell_heap (i := 18) HH.out.pk).trans (show _ = some (.slice none 0 0) from rfl)
      have yf := frozen_heap (i := 18) HH.out.pk
      have H4 := Lib.hid (HH.out.setW OW.out)
      clear HH
      go_upto_region 28 with fail
      change Code.wp _ _ _ _ (Wd.setCell ⟨w.heap.size + 1, 18, none⟩ (.slice Aw la.length cw))
      generalize Wd.setCell ⟨w.heap.size + 1, 18, none⟩ (.slice Aw la.length cw) = We at *
      have HH := H4
      clear H4 yc yf
      clear OW
      have yc := (cell_heap (i := 14) HH.out.pk).trans (show _ = some (.string P6.wtopic) from rfl)
      have yf := frozen_heap (i := 14) HH.out.pk
      have H4 := Lib.hid (HH.out.setF 14 (.string tb) { P6 with wprops := la, wtopic := tb } rfl rfl rfl rfl rfl rfl)
      clear HH
      go_upto_region 29 with fail
      change Code.wp _ _ _ _ (We.setCell ⟨w.heap.size + 1, 14, none⟩ (.string tb))
      generalize We.setCell ⟨w.heap.size + 1, 14, none⟩ (.string tb) = Wf at *
      have HH := H4
      clear H4 yc yf
      have yc := (cell_heap (i := 15) HH.out.pk).trans (show _ = some (.string P6.wpay) from rfl)
      have yf := frozen_heap (i := 15) HH.out.pk
      have H4 := Lib.hid (HH.out.setF 15 (.string dc) { P6 with wprops := la, wtopic := tb, wpay := dc } rfl rfl rfl rfl rfl rfl)
      clear HH
      go_wp2_with fail
      go_meet
      rw [HE.out.1, HE.out.2]
      exact ⟨_, H4.out⟩
  case rest => as_aux_lemma =>
  obtain ⟨vw, hcut⟩ := hcut
  have H9 := Lib.hid hcut
  clear HH hcut Hx7 HP7 W12
  have HH := H9
  clear H9
  generalize wc = W13 at *
  obtain ⟨x8, hx⟩ : ∃ y, y = (if P7.hasUser = true then (RG.rT U x7).1 else x7) := ⟨_, rfl⟩
  obtain ⟨P8, hP'⟩ : ∃ y, y = (if P7.hasUser = true then { P7 with user := (RG.rT U x7).2 } else P7) := ⟨_, rfl⟩
  have HX8 : Hid (X9 = RG.pass U P8 x8) := Lib.hid (by
    rw [HX7.out, hx, hP']
    unfold RG.user
    split <;> rfl)
  have Hx := Lib.hid hx; have HP := Lib.hid hP'
  clear hx hP' HX7
  have y13 := (cell_heap (i := 19) HH.out.pk).trans (show _ = some (.bool P7.hasUser) from rfl)
  go_upto_if 152 with fail
  clear y13
  go_cut [] from 22 to 172 (fun wx => PB w U x8 P8 (.slice none 0 0) (.slice A l5.length cap) vw (.slice none 0 0) (.slice none 0 0) wx)
  case first =>
    cases hw : P7.hasUser
    · have E7 : x7 = x8 := by rw [Hx.out, if_neg (by rw [hw]; decide)]
      have EP : P8 = P7 := by rw [HP.out, if_neg (by rw [hw]; decide)]
      have HE := Lib.hid (And.intro E7 EP)
      clear E7 EP hw
      go_wp2
      go_meet
      rw [← HE.out.1, HE.out.2]
      exact HH.out
    · have E7 := Hx.out
      have EP := HP.out
      rw [if_pos hw] at E7 EP
      clear Hx HP hw
      have CT := Lib.hid (dreadtext_any U hU x7)
      generalize RG.rT U x7 = Ta at *
      obtain ⟨xa, ta⟩ := Ta
      dsimp only at E7 EP CT
      have HE := Lib.hid (And.intro E7 EP)
      clear E7 EP
      go_wp2_with (refine wpl_load_i (by rfl) (.tmp 2) (by rfl) w.heap.size (by rfl) HH.out.box ?_)
      refine (CT.out _).mono ?_
      rintro e v1 ⟨rfl, b1⟩
      have H1 := HH.out.next b1
      have H2 := Lib.hid (H1.next (nb_below v1 U xa))
      have G2 := Lib.hid (nb_heap v1 U xa)
      have A2 := Lib.hid (heap_alloc_new v1 (.cells (iC ⟨#[]⟩ (0, 0)) 111))
      clear HH b1 H1 CT
      go_upto_region 32 with (refine wpList_store_row (by rfl) 111 (.tmp 18) (.tmp 156) (by rfl) v1.heap.size (iC U xa) (by rfl) (by rfl) 111 (iC ⟨#[]⟩ (0, 0)) A2.out i_info rfl (iC_one _ _) ?_)
      clear A2
      change Code.wp _ _ _ _ (nb v1 U xa)
      generalize nb v1 U xa = Wa at *
      generalize v1.heap.size = ga at *
      have HH := H2
      have GA := G2
      clear H2 G2
      go_upto_region 33 with (first
        | refine wpl_load_i (by rfl) (.tmp 18) (by rfl) ga (by rfl) GA.out ?_
        | refine wpList_store_row (by rfl) 111 (.tmp 2) (.tmp 158) (by rfl) w.heap.size (iC U xa) (by rfl) (by rfl) 111 (iC U x7) HH.out.box i_info rfl (iC_one _ _) ?_)
      change Code.wp _ _ _ _ (Wa.setRow w.heap.size (iC U xa))
      have H2 := Lib.hid (HH.out.setO xa)
      clear HH GA
      generalize Wa.setRow w.heap.size (iC U xa) = Wb at *
      have HH := H2
      clear H2
      have yc := (cell_heap (i := 21) HH.out.pk).trans (show _ = some (.string P7.user) from rfl)
      have yf := frozen_heap (i := 21) HH.out.pk
      have H4 := Lib.hid (HH.out.setF 21 (.string ta) { P7 with user := ta } rfl rfl rfl rfl rfl rfl)
      clear HH
      go_wp2_with fail
      go_meet
      rw [HE.out.1, HE.out.2]
      exact H4.out
  case rest => as_aux_lemma =>
  have H9 := Lib.hid hcut
  clear HH hcut Hx HP W13
  have HH := H9
  clear H9
  generalize wc = W14 at *
  obtain ⟨x9, hx⟩ : ∃ y, y = (if P8.hasPass = true then (RG.rD U x8).1 else x8) := ⟨_, rfl⟩
  obtain ⟨P9, hP'⟩ : ∃ y, y = (if P8.hasPass = true then { P8 with pass := (RG.rD U x8).2 } else P8) := ⟨_, rfl⟩
  have HXE : Hid (X9 = (x9, P9)) := Lib.hid (by
    rw [HX8.out, hx, hP']
    unfold RG.pass
    split <;> rfl)
  have Hx := Lib.hid hx; have HP := Lib.hid hP'
  clear hx hP' HX8
  have y13 := (cell_heap (i := 20) HH.out.pk).trans (show _ = some (.bool P8.hasPass) from rfl)
  go_upto_if 162 with fail
  clear y13
  go_cut [] from 22 to 172 (fun wx => PB w U x9 P9 (.slice none 0 0) (.slice A l5.length cap) vw (.slice none 0 0) (.slice none 0 0) wx)
  case first =>
    cases hw : P8.hasPass
    · have E7 : x8 = x9 := by rw [Hx.out, if_neg (by rw [hw]; decide)]
      have EP : P9 = P8 := by rw [HP.out, if_neg (by rw [hw]; decide)]
      have HE := Lib.hid (And.intro E7 EP)
      clear E7 EP hw
      go_wp2
      go_meet
      rw [← HE.out.1, HE.out.2]
      exact HH.out
    · have E7 := Hx.out
      have EP := HP.out
      rw [if_pos hw] at E7 EP
      clear Hx HP hw
      have CT := Lib.hid (dreaddata_any U hU x8)
      generalize RG.rD U x8 = Ta at *
      obtain ⟨xa, ta⟩ := Ta
      dsimp only at E7 EP CT
      have HE := Lib.hid (And.intro E7 EP)
      clear E7 EP
      go_wp2_with (refine wpl_load_i (by rfl) (.tmp 2) (by rfl) w.heap.size (by rfl) HH.out.box ?_)
      refine (CT.out _).mono ?_
      rintro e v1 ⟨rfl, b1⟩
      have H1 := HH.out.next b1
      have H2 := Lib.hid (H1.next (nb_below v1 U xa))
      have G2 := Lib.hid (nb_heap v1 U xa)
      have A2 := Lib.hid (heap_alloc_new v1 (.cells (iC ⟨#[]⟩ (0, 0)) 111))
      clear HH b1 H1 CT
      go_upto_region 36 with (refine wpList_store_row (by rfl) 111 (.tmp 20) (.tmp 166) (by rfl) v1.heap.size (iC U xa) (by rfl) (by rfl) 111 (iC ⟨#[]⟩ (0, 0)) A2.out i_info rfl (iC_one _ _) ?_)
      clear A2
      change Code.wp _ _ _ _ (nb v1 U xa)
      generalize nb v1 U xa = Wa at *
      generalize v1.heap.size = ga at *
      have HH := H2
      have GA := G2
      clear H2 G2
      go_upto_region 37 with (first
        | refine wpl_load_i (by rfl) (.tmp 20) (by rfl) ga (by rfl) GA.out ?_
        | refine wpList_store_row (by rfl) 111 (.tmp 2) (.tmp 168) (by rfl) w.heap.size (iC U xa) (by rfl) (by rfl) 111 (iC U x8) HH.out.box i_info rfl (iC_one _ _) ?_)
      change Code.wp _ _ _ _ (Wa.setRow w.heap.size (iC U xa))
      have H2 := Lib.hid (HH.out.setO xa)
      clear HH GA
      generalize Wa.setRow w.heap.size (iC U xa) = Wb at *
      have HH := H2
      clear H2
      have yc := (cell_heap (i := 22) HH.out.pk).trans (show _ = some (.string P8.pass) from rfl)
      have yf := frozen_heap (i := 22) HH.out.pk
      have H4 := Lib.hid (HH.out.setF 22 (.string ta) { P8 with pass := ta } rfl rfl rfl rfl rfl rfl)
      clear HH
      go_wp2_with fail
      go_meet
      rw [HE.out.1, HE.out.2]
      exact H4.out
  case rest => as_aux_lemma =>
  have H9 := Lib.hid hcut
  clear HH hcut Hx HP W14
  have HH := H9
  clear H9
  generalize wc = W15 at *
  have H5 := HH.out
  go_upto_region 38 with fail
  obtain ⟨f1, f2, f3⟩ := H5.fin
  have k1 := rk_one _ H5.own
  refine wp_fin (n0 := 2) (n1 := 3) (m0 := 4) (m1 := 5) (d0 := 171) (d1 := 172) (b0 := w.heap.size) (b1 := w.heap.size + 1) (c0 := w.heap.size + 2) (c1 := w.heap.size + 3) (by kernel_rfl) rfl rfl rfl rfl rfl rfl rfl rfl rfl rfl rfl rfl rfl rfl rfl rfl rfl (by kernel_rfl) (by kernel_rfl) (by kernel_rfl) (by kernel_rfl) (by kernel_rfl) (by kernel_rfl) (by kernel_rfl) (by simp) rfl rfl rfl rfl H5.box H5.pk H5.ri H5.rp (by omega) k1 ?_
  have F1 := Lib.hid f1; have F2 := Lib.hid f2; have F3 := Lib.hid f3
  clear f1 f2 f3 k1
  go_wp2_with fail
  refine bodyPost_ret (v := .tuple #[.agg (iC U x9), .agg (rkCells P9 (.slice none 0 0) (.slice A l5.length cap) vw (.slice none 0 0) (.slice none 0 0))]) ?_ rfl (by rw [HXE.out]; exact F3.out)
  simp only [results, Tryz.results70]
  simp
  exact two_boxes (load_i_var F1.out) (rk_var F2.out)
end Go.Proofs.YtemfcaaoobjgkaaGreatDoor
