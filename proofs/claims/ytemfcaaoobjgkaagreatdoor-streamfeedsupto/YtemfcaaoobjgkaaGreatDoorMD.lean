/- The document's reader of packets as code: one more behind a packet's list.; The document's reader of packets as code: a packet's filters. (Written by wip/tools/gen_rgls.py.); The document's reader of packets as code: a packet's subs. (Written by wip/tools/gen_rgls.py.); The document's reader of packets as code: a packet's codes. (Written by wip/tools/gen_rgls.py.); The document's reader of packets as code: what follows the length. (Written by wip/tools/gen_rgb.py.); The document's reader of packets as code: the region of Get that draws its order. (Written by wip/tools/gen_rgg.py.); The document's writer of packets, plainly: its code is the program's, and where there is none its bytes are.; The document's writer of packets: its small functions.; What was read is such as a machine can hold.; A packet that was read is such as Put takes.; The document's writer of packets: connect, end. -/
import Derived.Test.YtemfcaaoobjgkaaGreatDoorMC
import Derived.Test.YtemfcaaoobjgkaaGreatDoorPkRgX
import Derived.Deep.RegionHeld3
import Derived.Test.YtemfcaaoobjgkaaGreatDoorPkRgC
import Derived.Test.YtemfcaaoobjgkaaGreatDoorPkPut
import Derived.Test.YtemfcaaoobjgkaaGreatDoorPkAllow
import Derived.Test.YtemfcaaoobjgkaaGreatDoorPkPropW
import Derived.Deep.MidRow
import Derived.Laws.Tables
import Derived.Test.YtemfcaaoobjgkaaGreatDoorMB
import Derived.Test.YtemfcaaoobjgkaaGreatDoorPrMisc
import Derived.Test.YtemfcaaoobjgkaaGreatDoorMA
namespace Go.Proofs.YtemfcaaoobjgkaaGreatDoor
open Go.RowKit
theorem iInfo : (Tryz.prog.info? 3).map (fun i => (i.zero, i.size, i.bytes)) = some (some (.int .i64 0), 1, 8) := by kernel_rfl
theorem rsInfo : (Tryz.prog.info? 84).map (fun i => (i.zero, i.size, i.bytes)) = some (some (.agg #[.string ⟨#[]⟩, .int .i64 0, .bool false, .bool false, .int .i64 0]), 5, 40) := by kernel_rfl
section
variable {w W W' : World} {U : ByteArray} {x : Int × Int} {P : Pk} {vp v v' : Value} {B2 : Nat}
theorem PB.putF (h : PB w U x P (.slice none 0 0) vp (.slice none 0 0) (.slice none 0 0) v W) (hB : w.heap.size + 4 ≤ B2) (hp : vp.ownBlock = none ∨ vp.ownBlock ≠ v.ownBlock) {l : List ByteArray} (o' : W'.ownsRow B2 9 1 v' l.length (flatT l)) (hg : W.grownBy W' v.ownBlock) (hb : Below B2 W W') :
    PB w U x { P with filters := l } (.slice none 0 0) vp (.slice none 0 0) (.slice none 0 0) v' (W'.setCell ⟨w.heap.size + 1, 25, none⟩ v') :=
  ⟨(Below.heap_setCell _ _ _ _ (show w.heap.size ≠ w.heap.size + 1 by omega)).trans ((hb.block _ (by omega)).trans h.box), set_block ((hb.block _ (by omega)).trans h.pk) rfl, (Below.heap_setCell _ _ _ _ (show w.heap.size + 2 ≠ w.heap.size + 1 by omega)).trans ((hb.block _ (by omega)).trans h.ri), (Below.heap_setCell _ _ _ _ (show w.heap.size + 3 ≠ w.heap.size + 1 by omega)).trans ((hb.block _ (by omega)).trans h.rp),
    ⟨own_set (h.own.codes.kept hg (.inl rfl)) (row_ne h.own.codes (by omega)), own_set (h.own.props.kept hg hp) (row_ne h.own.props (by omega)), own_set (h.own.wprops.kept hg (.inl rfl)) (row_ne h.own.wprops (by omega)), own_set (h.own.subs.kept hg (.inl rfl)) (row_ne h.own.subs (by omega)), own_base' (own_set o' (row_ne o' (by omega))) hB⟩,
    (h.below.trans (hb.mono (by omega))).setCell (p := ⟨w.heap.size + 1, 25, none⟩) (by show w.heap.size ≤ w.heap.size + 1; omega) _⟩
theorem PB.putB (h : PB w U x P (.slice none 0 0) vp (.slice none 0 0) v (.slice none 0 0) W) (hB : w.heap.size + 4 ≤ B2) (hp : vp.ownBlock = none ∨ vp.ownBlock ≠ v.ownBlock) {l : List Sb} (o' : W'.ownsRow B2 84 5 v' l.length (flatB l)) (hg : W.grownBy W' v.ownBlock) (hb : Below B2 W W') :
    PB w U x { P with subs := l } (.slice none 0 0) vp (.slice none 0 0) v' (.slice none 0 0) (W'.setCell ⟨w.heap.size + 1, 24, none⟩ v') :=
  ⟨(Below.heap_setCell _ _ _ _ (show w.heap.size ≠ w.heap.size + 1 by omega)).trans ((hb.block _ (by omega)).trans h.box), set_block ((hb.block _ (by omega)).trans h.pk) rfl, (Below.heap_setCell _ _ _ _ (show w.heap.size + 2 ≠ w.heap.size + 1 by omega)).trans ((hb.block _ (by omega)).trans h.ri), (Below.heap_setCell _ _ _ _ (show w.heap.size + 3 ≠ w.heap.size + 1 by omega)).trans ((hb.block _ (by omega)).trans h.rp),
    ⟨own_set (h.own.codes.kept hg (.inl rfl)) (row_ne h.own.codes (by omega)), own_set (h.own.props.kept hg hp) (row_ne h.own.props (by omega)), own_set (h.own.wprops.kept hg (.inl rfl)) (row_ne h.own.wprops (by omega)), own_base' (own_set o' (row_ne o' (by omega))) hB, own_set (h.own.filters.kept hg (.inl rfl)) (row_ne h.own.filters (by omega))⟩,
    (h.below.trans (hb.mono (by omega))).setCell (p := ⟨w.heap.size + 1, 24, none⟩) (by show w.heap.size ≤ w.heap.size + 1; omega) _⟩
theorem PB.putC (h : PB w U x P v vp (.slice none 0 0) (.slice none 0 0) (.slice none 0 0) W) (hB : w.heap.size + 4 ≤ B2) (hp : vp.ownBlock = none ∨ vp.ownBlock ≠ v.ownBlock) {l : List Int} (o' : W'.ownsRow B2 3 1 v' l.length (flatI l)) (hg : W.grownBy W' v.ownBlock) (hb : Below B2 W W') :
    PB w U x { P with codes := l } v' vp (.slice none 0 0) (.slice none 0 0) (.slice none 0 0) (W'.setCell ⟨w.heap.size + 1, 8, none⟩ v') :=
  ⟨(Below.heap_setCell _ _ _ _ (show w.heap.size ≠ w.heap.size + 1 by omega)).trans ((hb.block _ (by omega)).trans h.box), set_block ((hb.block _ (by omega)).trans h.pk) rfl, (Below.heap_setCell _ _ _ _ (show w.heap.size + 2 ≠ w.heap.size + 1 by omega)).trans ((hb.block _ (by omega)).trans h.ri), (Below.heap_setCell _ _ _ _ (show w.heap.size + 3 ≠ w.heap.size + 1 by omega)).trans ((hb.block _ (by omega)).trans h.rp),
    ⟨own_base' (own_set o' (row_ne o' (by omega))) hB, own_set (h.own.props.kept hg hp) (row_ne h.own.props (by omega)), own_set (h.own.wprops.kept hg (.inl rfl)) (row_ne h.own.wprops (by omega)), own_set (h.own.subs.kept hg (.inl rfl)) (row_ne h.own.subs (by omega)), own_set (h.own.filters.kept hg (.inl rfl)) (row_ne h.own.filters (by omega))⟩,
    (h.below.trans (hb.mono (by omega))).setCell (p := ⟨w.heap.size + 1, 8, none⟩) (by show w.heap.size ≤ w.heap.size + 1; omega) _⟩
/-- Rows in different parts of the memory. -/
theorem rows_far {A B : Nat} {e e' : TypeId} {k k' : Nat} {v v' : Value} {n n' : Nat} {xs xs' : List Value} {w0 w1 : World} (h : w0.ownsRow A e k v n xs) (h' : w1.ownsRow B e' k' v' n' xs') (hB : w0.heap.size ≤ B) : v.ownBlock = none ∨ v.ownBlock ≠ v'.ownBlock := by
  cases hv : v.ownBlock with
  | none => exact .inl rfl
  | some b =>
    refine .inr fun e => ?_
    have h1 := (h.lt b hv).2
    have h2 := (h'.lt b e.symm).1
    omega
end
end Go.Proofs.YtemfcaaoobjgkaaGreatDoor
namespace Go.Proofs.YtemfcaaoobjgkaaGreatDoor
open Go.RowKit
attribute [local go_sem ↓] Go.wp_at_zero Go.wp_at_succ
set_option linter.unusedVariables false in
set_option maxRecDepth 100000 in
set_option maxHeartbeats 8000000 in
theorem dgetlists_filters (U : ByteArray) (hU : U.size ≤ 140737488351232) (x : Int × Int) (P : Pk) (hP : Bare P) (hk : P.kind = 10) (w : World) :
    Calls Tryz.prog 77 #[.agg (iC U x), .agg (rkNil P)] w (GB w U (RG.lists U P x)) := by
  have hN : U.size ≤ maxLen := by unfold maxLen; omega
  obtain ⟨X9, hX9⟩ : ∃ y, y = RG.lists U P x := ⟨_, rfl⟩
  rw [← hX9]
  unfold RG.lists RG.hd RG.pair RG.lists1 at hX9
  dsimp only at hX9
  rw [if_neg (by rw [hk]; decide), if_pos hk] at hX9
  unfold RG.lsE at hX9
  have C1 := Lib.hid (dreadid_any U hN x)
  generalize RG.rI U x = T1 at *
  obtain ⟨x1, n1⟩ := T1
  dsimp only at hX9 C1
  have C2 := Lib.hid (dreadprops_any U hU x1 P.kind)
  generalize RG.rP U P.kind x1 = T2 at *
  obtain ⟨x2, l2⟩ := T2
  dsimp only at hX9 C2
  obtain ⟨X3, hX3⟩ : ∃ y, y = (if x2.2 = 0 ∧ (U.size : Int) ≤ x2.1 then RG.fl x2 130 else x2) := ⟨_, rfl⟩
  rw [← hX3] at hX9
  obtain ⟨Z, hZ⟩ : ∃ y, y = RG.ls (RG.rT U) U.size 66 X3 [] := ⟨_, rfl⟩
  rw [← hZ] at hX9
  have HX3 := Lib.hid hX3; have HZ := Lib.hid hZ; have HX9 := Lib.hid hX9
  clear hX3 hZ hX9
  rw [hk] at C2
  have HK := Lib.hid hk
  clear hk
  go_enter Tryz.func77, Tryz.ntmps77
  go_upto_region 1 with fail
  change Code.wp _ _ _ _ ((((w.alloc (.cells (iC U x) 111)).alloc (.cells (rkNil P) 52)).alloc (.cells (iC ⟨#[]⟩ (0, 0)) 111)).alloc (.cells (rkNil PK.zeroPk) 52))
  have H := PB.start w U x P hP
  generalize ((((w.alloc (.cells (iC U x) 111)).alloc (.cells (rkNil P) 52)).alloc (.cells (iC ⟨#[]⟩ (0, 0)) 111)).alloc (.cells (rkNil PK.zeroPk) 52)) = W at *
  have HH := Lib.hid H
  clear H
  go_wp2_with (refine wpl_load_i (by rfl) (.tmp 2) (by rfl) w.heap.size (by rfl) HH.out.box ?_)
  refine (C1.out _).mono ?_
  rintro e v1 ⟨rfl, b1⟩
  have H1 := HH.out.next b1
  have HB := Lib.hid H1
  clear HH b1 H1 C1
  go_upto_region 2 with (refine wpList_store_row (by rfl) 111 (.tmp 2) (.tmp 18) (by rfl) w.heap.size (iC U x1) (by rfl) (by rfl) 111 (iC U x) HB.out.box i_info rfl (iC_one _ _) ?_)
  change Code.wp _ _ _ _ (v1.setRow w.heap.size (iC U x1))
  have H2 := HB.out.setO x1
  clear HB
  generalize v1.setRow w.heap.size (iC U x1) = W1 at *
  have HH := Lib.hid H2
  clear H2
  clear W
  have yc := (cell_heap (i := 4) HH.out.pk).trans (show _ = some (.int .i64 P.id) from rfl)
  have yf := frozen_heap (i := 4) HH.out.pk
  have H4 := Lib.hid (HH.out.setF 4 (.int .i64 n1) { P with id := n1 } rfl rfl rfl rfl rfl rfl)
  clear HH
  go_upto_region 3 with fail
  change Code.wp _ _ _ _ (W1.setCell ⟨w.heap.size + 1, 4, none⟩ (.int .i64 n1))
  generalize W1.setCell ⟨w.heap.size + 1, 4, none⟩ (.int .i64 n1) = W2 at *
  have HH := H4
  clear H4 yc yf
  have z0 := (cell_heap (i := 0) HH.out.pk).trans (show _ = some (.int .i64 10) from by rw [← HK.out]; rfl)
  go_wp2_with (refine wpl_load_i (by rfl) (.tmp 2) (by rfl) w.heap.size (by rfl) HH.out.box ?_)
  refine (C2.out _).mono ?_
  rintro e v1 ⟨v, rfl, o1, b1⟩
  obtain ⟨A, cap, rfl⟩ := own_form o1
  have H1 := HH.out.next b1
  have O1 := own_base' o1 HH.out.size
  have HB := Lib.hid H1
  dsimp only at O1 ⊢
  have OB := Lib.hid O1
  clear HH b1 H1 o1 O1 C2
  go_upto_region 4 with (refine wpList_store_row (by rfl) 111 (.tmp 2) (.tmp 27) (by rfl) w.heap.size (iC U x2) (by rfl) (by rfl) 111 (iC U x1) HB.out.box i_info rfl (iC_one _ _) ?_)
  change Code.wp _ _ _ _ (v1.setRow w.heap.size (iC U x2))
  have H2 := HB.out.setO x2
  have O2 := own_setRow (iC U x2) OB.out (row_ne OB.out (show w.heap.size < w.heap.size + 4 by omega))
  clear HB OB
  generalize v1.setRow w.heap.size (iC U x2) = W3 at *
  have HH := Lib.hid H2
  have OA := Lib.hid O2
  clear H2 O2
  clear z0
  have yc := (cell_heap (i := 9) HH.out.pk).trans (show _ = some (.slice none 0 0) from rfl)
  have yf := frozen_heap (i := 9) HH.out.pk
  have H4 := Lib.hid (HH.out.setP OA.out)
  clear HH
  go_upto_region 5 with fail
  change Code.wp _ _ _ _ (W3.setCell ⟨w.heap.size + 1, 9, none⟩ (.slice A l2.length cap))
  generalize W3.setCell ⟨w.heap.size + 1, 9, none⟩ (.slice A l2.length cap) = W4 at *
  have HH := H4
  clear H4 yc yf
  clear OA
  obtain ⟨P5, hP5⟩ : ∃ y : Pk, y = { P with id := n1, props := l2 } := ⟨_, rfl⟩
  have H6 : Hid (PB w U x2 P5 (.slice none 0 0) (.slice A l2.length cap) (.slice none 0 0) (.slice none 0 0) (.slice none 0 0) W4) := Lib.hid (by rw [hP5]; exact HH.out)
  have HX9' : Hid (X9 = (Z.1, { P5 with filters := Z.2 })) := Lib.hid (by rw [hP5]; exact HX9.out)
  have HF : Hid (P5.filters = []) := Lib.hid (by rw [hP5]; exact hP.filters)
  have HK5 : Hid (P5.kind = 10) := Lib.hid (by rw [hP5]; exact HK.out)
  clear HH hP5 HX9 HK
  have HH := H6
  clear H6
  obtain ⟨y0, y1, y2⟩ := HH.out.facts
  go_cut [41] from 15 to 106 (fun b wx => b = .bool (decide (x2.2 = 0 ∧ (U.size : Int) ≤ x2.1)) ∧ W4 = wx)
  case first =>
    by_cases h0 : x2.2 = 0
    · have h0' : (x2.2 == 0) = true := by rw [beq_iff_eq]; exact h0
      go_wp2
      go_meet
      exact ⟨congrArg Value.bool (by simp [h0]), rfl⟩
    · have h0' : (x2.2 == 0) = false := by rw [beq_eq_false_iff_ne]; exact h0
      go_wp2
      go_meet
      exact ⟨congrArg Value.bool (by simp [h0]), rfl⟩
  case rest =>
  obtain ⟨rfl, rfl⟩ := hcut
  clear y0 y1 y2
  go_upto_if 41 with fail
  go_cut [] from 15 to 106 (fun wx => PB w U X3 P5 (.slice none 0 0) (.slice A l2.length cap) (.slice none 0 0) (.slice none 0 0) (.slice none 0 0) wx)
  case first =>
    by_cases hc : x2.2 = 0 ∧ (U.size : Int) ≤ x2.1
    · have E1 : RG.fl x2 130 = X3 := by rw [HX3.out, if_pos hc]
      have CF := Lib.hid (dfailed_any U x2 130)
      rw [E1] at CF
      simp only [decide_eq_true hc]
      clear hc E1
      go_wp2_with (refine wpl_load_i (by rfl) (.tmp 2) (by rfl) w.heap.size (by rfl) HH.out.box ?_)
      refine (CF.out _).mono ?_
      rintro e v1 ⟨rfl, b1⟩
      have HB := Lib.hid (HH.out.next b1)
      clear HH b1 CF
      go_wp2_with (refine wpList_store_row (by rfl) 111 (.tmp 2) (.tmp 43) (by rfl) w.heap.size (iC U X3) (by rfl) (by rfl) 111 (iC U x2) HB.out.box i_info rfl (iC_one _ _) ?_)
      go_meet
      exact HB.out.setO X3
    · have E1 : x2 = X3 := by rw [HX3.out, if_neg hc]
      have HE := Lib.hid E1
      simp only [decide_eq_false hc]
      clear hc E1
      go_wp2
      go_meet
      rw [← HE.out]
      exact HH.out
  case rest =>
  have H9 := Lib.hid hcut
  clear HH hcut HX3
  have HH := H9
  clear H9
  try clear W4
  generalize wc = W5 at *
  obtain ⟨B2, hB2⟩ : ∃ y, y = W5.heap.size := ⟨_, rfl⟩
  have hBs : w.heap.size + 4 ≤ B2 := by rw [hB2]; exact HH.out.size
  have HVP : Hid (W5.ownsRow (w.heap.size + 4) 115 4 (.slice A l2.length cap) P5.props.length (flatP P5.props)) := Lib.hid HH.out.own.props
  have HB2 := Lib.hid hB2
  obtain ⟨i0, hi0, hz0, hz1, hz2⟩ := info_parts tInfo
  have Hi := Lib.hid hi0; have Hz0 := Lib.hid hz0; have Hz1 := Lib.hid hz1; have Hz2 := Lib.hid hz2
  clear hi0 hz0 hz1 hz2 hB2
  have e5 : ({ P5 with filters := [] } : Pk) = P5 := by rw [← HF.out]
  have HS : Hid (PB w U X3 { P5 with filters := [] } (.slice none 0 0) (.slice A l2.length cap) (.slice none 0 0) (.slice none 0 0) (.slice none 0 0) W5) := Lib.hid (by rw [e5]; exact HH.out)
  clear e5 HH
  go_wp2_with fail
  go_loopw [8] (fun lv wr => ∃ (xk : Int × Int) (out : List ByteArray) (v : Value), lv = .int .i64 (out.length : Int) ∧ out.length ≤ 64 ∧ Hid (PB w U xk { P5 with filters := out } (.slice none 0 0) (.slice A l2.length cap) (.slice none 0 0) (.slice none 0 0) v wr) ∧ Hid (wr.ownsRow B2 9 1 v out.length (flatT out)) ∧ Hid (B2 ≤ wr.heap.size) ∧ Hid (RG.ls (RG.rT U) U.size (66 - out.length) xk out = Z)) (fun lv _ => 65 - (intOf lv).toNat)
  case atStart => exact ⟨X3, [], _, rfl, by simp, HS, Lib.hid (own_nil _ _ _ _), Lib.hid (by rw [HB2.out]; exact Nat.le_refl _), Lib.hid HZ.out.symm⟩
  case round =>
  obtain ⟨xk, out, v, rfl, hl, hPB, hO, hB, hZ⟩ := hrel
  clear HS HZ
  obtain ⟨y0, y1, y2⟩ := hPB.out.facts
  obtain ⟨u, hu⟩ : ∃ u, 66 - out.length = u + 1 := ⟨65 - out.length, by omega⟩
  rw [hu] at hZ
  have FIN : Hid (∀ y, (y, out) = Z → X9 = (y, { P5 with filters := out })) := Lib.hid (fun y h => by rw [HX9'.out, ← h])
  by_cases h0 : xk.2 = 0
  · have h0' : (xk.2 == 0) = true := by rw [beq_iff_eq]; exact h0
    by_cases h1 : xk.1 < (U.size : Int)
    · rw [RG.ls, if_pos ⟨h0, h1⟩] at hZ
      by_cases h64 : 64 ≤ out.length
      · rw [if_pos h64] at hZ
        have CF := Lib.hid (dfailed_any U xk 149)
        obtain ⟨yf, hyf⟩ : ∃ y, y = RG.fl xk 149 := ⟨_, rfl⟩
        rw [← hyf] at CF hZ
        have HE : Hid (X9 = (yf, { P5 with filters := out })) := Lib.hid (FIN.out _ hZ.out)
        have j64 : (64 : Int) ≤ (out.length : Int) := by omega
        clear hZ hyf FIN HX9' hO hu h64
        go_upto_region 11 with fail
        go_wp2_with (refine wpl_load_i (by rfl) (.tmp 2) (by rfl) w.heap.size (by rfl) hPB.out.box ?_)
        refine (CF.out _).mono ?_
        rintro e v1 ⟨rfl, b1⟩
        have HB := Lib.hid (hPB.out.next b1)
        clear hPB b1 CF y0 y1 y2
        go_upto_region 12 with (refine wpList_store_row (by rfl) 111 (.tmp 2) (.tmp 60) (by rfl) w.heap.size (iC U yf) (by rfl) (by rfl) 111 (iC U xk) HB.out.box i_info rfl (iC_one _ _) ?_)
        change Code.wp _ _ _ _ (v1.setRow w.heap.size (iC U yf))
        have H5 := HB.out.setO yf
        clear HB
        generalize v1.setRow w.heap.size (iC U yf) = W9 at *
        obtain ⟨f1, f2, f3⟩ := H5.fin
        have k1 := rk_one _ H5.own
        refine wp_fin (n0 := 2) (n1 := 3) (m0 := 4) (m1 := 5) (d0 := 61) (d1 := 62) (b0 := w.heap.size) (b1 := w.heap.size + 1) (c0 := w.heap.size + 2) (c1 := w.heap.size + 3) (by kernel_rfl) rfl rfl rfl rfl rfl rfl rfl rfl rfl rfl rfl rfl rfl rfl rfl rfl rfl (by kernel_rfl) (by kernel_rfl) (by kernel_rfl) (by kernel_rfl) (by kernel_rfl) (by kernel_rfl) (by kernel_rfl) (by simp [Act.put]) rfl rfl rfl rfl H5.box H5.pk H5.ri H5.rp (by omega) k1 ?_
        have F1 := Lib.hid f1; have F2 := Lib.hid f2; have F3 := Lib.hid f3
        clear f1 f2 f3 k1
        go_wp2_with fail
        refine bodyPost_ret (v := .tuple #[.agg (iC U yf), .agg (rkCells { P5 with filters := out } (.slice none 0 0) (.slice A l2.length cap) (.slice none 0 0) (.slice none 0 0) v)]) ?_ rfl (by rw [HE.out]; exact F3.out)
        simp only [results, Tryz.results77]
        simp
        exact two_boxes (load_i_var F1.out) (rk_var F2.out)
      · skip
        rw [if_neg h64] at hZ
        have CT := Lib.hid (dreadtext_any U hU xk)
        generalize RG.rT U xk = Tn at *
        obtain ⟨xn, tn⟩ := Tn
        dsimp only at hZ CT
        have j64 : ¬ (64 : Int) ≤ (out.length : Int) := by omega
        clear FIN
        have z0 := (cell_heap (i := 0) hPB.out.pk).trans (show _ = some (.int .i64 10) from by rw [← HK5.out]; rfl)
        have HH := hPB
        go_upto_region 22 with fail
        clear y0 y1 y2 z0 hPB
        go_wp2_with (refine wpl_load_i (by rfl) (.tmp 2) (by rfl) w.heap.size (by rfl) HH.out.box ?_)
        refine (CT.out _).mono ?_
        rintro e v1 ⟨rfl, b1⟩
        have hO1 := own_below hO.out b1
        have H1 := HH.out.next b1
        have hB1 : Hid (B2 ≤ (nb v1 U xn).heap.size) := Lib.hid (Nat.le_trans hB.out (Nat.le_trans b1.size (nb_below v1 U xn).size))
        have H2 := Lib.hid (H1.next (nb_below v1 U xn))
        have G2 := Lib.hid (nb_heap v1 U xn)
        have A2 := Lib.hid (heap_alloc_new v1 (.cells (iC ⟨#[]⟩ (0, 0)) 111))
        have hO2 := Lib.hid (own_below hO1 (nb_below v1 U xn))
        clear hO hO1
        have hO := hO2
        clear hO2
        clear HH b1 H1 CT
        go_upto_region 23 with (refine wpList_store_row (by rfl) 111 (.tmp 11) (.tmp 96) (by rfl) v1.heap.size (iC U xn) (by rfl) (by rfl) 111 (iC ⟨#[]⟩ (0, 0)) A2.out i_info rfl (iC_one _ _) ?_)
        clear A2
        change Code.wp _ _ _ _ (nb v1 U xn)
        generalize nb v1 U xn = Wa at *
        generalize v1.heap.size = ga at *
        have HH := H2
        have GA := G2
        clear H2 G2
        have hBa0 := hB1
        clear hB1 hB
        go_upto_region 24 with (first
          | refine wpl_load_i (by rfl) (.tmp 11) (by rfl) ga (by rfl) GA.out ?_
          | refine wpList_store_row (by rfl) 111 (.tmp 2) (.tmp 98) (by rfl) w.heap.size (iC U xn) (by rfl) (by rfl) 111 (iC U xk) HH.out.box i_info rfl (iC_one _ _) ?_)
        change Code.wp _ _ _ _ (Wa.setRow w.heap.size (iC U xn))
        have H2 := Lib.hid (HH.out.setO xn)
        have hO2 := Lib.hid (own_setRow (iC U xn) hO.out (row_ne hO.out (show w.heap.size < B2 by omega)))
        have hBa : B2 ≤ (Wa.setRow w.heap.size (iC U xn)).heap.size := by have e : (Wa.setRow w.heap.size (iC U xn)).heap.size = Wa.heap.size := by simp [World.setRow]
                                                                          rw [e]; exact hBa0.out
        clear HH GA hO hBa0
        generalize Wa.setRow w.heap.size (iC U xn) = Wb at *
        have HH := H2
        have hO := hO2
        clear H2 hO2
        obtain ⟨v5, w5, hr5, hown5, hgr5, hb5⟩ := app1 Tryz.underlying22 Hi.out Hz0.out Hz1.out Hz2.out rfl (by omega) (by omega) B2 v out.length _ Wb hO.out hBa #[.string tn] rfl (by simp [Value.oneCell']) (by omega)
        obtain ⟨A5, c5, hv5⟩ := own_form hown5
        subst hv5
        have hl5 : (out ++ [tn]).length = out.length + 1 := by rw [List.length_append, List.length_singleton]
        have O5 : w5.ownsRow B2 9 1 (.slice A5 (out.length + 1) c5) (out ++ [tn]).length (flatT (out ++ [tn])) := by rw [hl5, flatT_snoc]; simpa using hown5
        have hp := rows_far HVP.out hO.out (by rw [HB2.out]; exact Nat.le_refl _)
        have H5 : Hid (PB w U xn { P5 with filters := out ++ [tn] } (.slice none 0 0) (.slice A l2.length cap) (.slice none 0 0) (.slice none 0 0) (.slice A5 (out.length + 1) c5) (w5.setCell ⟨w.heap.size + 1, 25, none⟩ (.slice A5 (out.length + 1) c5))) := Lib.hid (HH.out.putF hBs hp O5 hgr5 hb5)
        have O6 := Lib.hid (own_set (b := w.heap.size + 1) (j := 25) (u := (.slice A5 (out.length + 1) c5)) O5 (row_ne O5 (show w.heap.size + 1 < B2 by omega)))
        have S5 : Hid (B2 ≤ (w5.setCell ⟨w.heap.size + 1, 25, none⟩ (.slice A5 (out.length + 1) c5)).heap.size) := Lib.hid (by
          have e : (w5.setCell ⟨w.heap.size + 1, 25, none⟩ (.slice A5 (out.length + 1) c5)).heap.size = w5.heap.size := by simp [World.setCell]
          rw [e]; exact Nat.le_trans hBa hb5.size)
        have hu2 : Hid (66 - (out ++ [tn]).length = u) := Lib.hid (by rw [hl5]; omega)
        have yl := (cell_heap (i := 25) HH.out.pk).trans (show _ = some v from rfl)
        have pk5 := (hb5.block (w.heap.size + 1) (by omega)).trans HH.out.pk
        have yc := (cell_heap (i := 25) pk5).trans (show _ = some v from rfl)
        have yf := frozen_heap (i := 25) pk5
        have Hl5 := Lib.hid hl5
        clear HH hO hown5 hgr5 hb5 O5 hp hl5 pk5 HX9'
        go_wp2_with (at_builtin; refine wpList_run (by rfl) (.tmp 100) (.tmp 102) _ _ (by rfl) (by rfl) (by rfl) hr5 ?_; clear hr5)
        go_roundw
        case rel => exact ⟨xn, out ++ [tn], (.slice A5 (out.length + 1) c5), by rw [Hl5.out]; go_num, by rw [Hl5.out]; omega, H5, O6, S5, Lib.hid (by rw [hu2.out]; exact hZ.out)⟩
        case measure => simp [intOf]; omega
    · rw [RG.ls, if_neg (fun h => h1 h.2)] at hZ
      have HE := Lib.hid (FIN.out _ hZ.out)
      clear hZ FIN HX9' hO
      go_upto_region 25 with fail
      have H5 := hPB.out
      obtain ⟨f1, f2, f3⟩ := H5.fin
      have k1 := rk_one _ H5.own
      refine wp_fin (n0 := 2) (n1 := 3) (m0 := 4) (m1 := 5) (d0 := 105) (d1 := 106) (b0 := w.heap.size) (b1 := w.heap.size + 1) (c0 := w.heap.size + 2) (c1 := w.heap.size + 3) (by kernel_rfl) rfl rfl rfl rfl rfl rfl rfl rfl rfl rfl rfl rfl rfl rfl rfl rfl rfl (by kernel_rfl) (by kernel_rfl) (by kernel_rfl) (by kernel_rfl) (by kernel_rfl) (by kernel_rfl) (by kernel_rfl) (by simp) rfl rfl rfl rfl H5.box H5.pk H5.ri H5.rp (by omega) k1 ?_
      have F1 := Lib.hid f1; have F2 := Lib.hid f2; have F3 := Lib.hid f3
      clear f1 f2 f3 k1
      go_wp2_with fail
      refine bodyPost_ret (v := .tuple #[.agg (iC U xk), .agg (rkCells { P5 with filters := out } (.slice none 0 0) (.slice A l2.length cap) (.slice none 0 0) (.slice none 0 0) v)]) ?_ rfl (by rw [HE.out]; exact F3.out)
      simp only [results, Tryz.results77]
      simp
      exact two_boxes (load_i_var F1.out) (rk_var F2.out)
  · have h0' : (xk.2 == 0) = false := by rw [beq_eq_false_iff_ne]; exact h0
    rw [RG.ls, if_neg (fun h => h0 h.1)] at hZ
    have HE := Lib.hid (FIN.out _ hZ.out)
    clear hZ FIN HX9' hO
    go_upto_region 25 with fail
    have H5 := hPB.out
    obtain ⟨f1, f2, f3⟩ := H5.fin
    have k1 := rk_one _ H5.own
    refine wp_fin (n0 := 2) (n1 := 3) (m0 := 4) (m1 := 5) (d0 := 105) (d1 := 106) (b0 := w.heap.size) (b1 := w.heap.size + 1) (c0 := w.heap.size + 2) (c1 := w.heap.size + 3) (by kernel_rfl) rfl rfl rfl rfl rfl rfl rfl rfl rfl rfl rfl rfl rfl rfl rfl rfl rfl (by kernel_rfl) (by kernel_rfl) (by kernel_rfl) (by kernel_rfl) (by kernel_rfl) (by kernel_rfl) (by kernel_rfl) (by simp) rfl rfl rfl rfl H5.box H5.pk H5.ri H5.rp (by omega) k1 ?_
    have F1 := Lib.hid f1; have F2 := Lib.hid f2; have F3 := Lib.hid f3
    clear f1 f2 f3 k1
    go_wp2_with fail
    refine bodyPost_ret (v := .tuple #[.agg (iC U xk), .agg (rkCells { P5 with filters := out } (.slice none 0 0) (.slice A l2.length cap) (.slice none 0 0) (.slice none 0 0) v)]) ?_ rfl (by rw [HE.out]; exact F3.out)
    simp only [results, Tryz.results77]
    simp
    exact two_boxes (load_i_var F1.out) (rk_var F2.out)
end Go.Proofs.YtemfcaaoobjgkaaGreatDoor
namespace Go.Proofs.YtemfcaaoobjgkaaGreatDoor
open Go.RowKit
attribute [local go_sem ↓] Go.wp_at_zero Go.wp_at_succ
/-- Two locals, made and stored at once. -/
def nb2 (v : World) (U : ByteArray) (x : Int × Int) (s : Sb) : World := (((v.alloc (.cells (iC ⟨#[]⟩ (0, 0)) 111)).alloc (.cells (sC zSb) 84)).setRow v.heap.size (iC U x)).setRow (v.heap.size + 1) (sC s)
theorem al2_in (v : World) : ((v.alloc (.cells (iC ⟨#[]⟩ (0, 0)) 111)).alloc (.cells (sC zSb) 84)).heap[v.heap.size]? = some (.cells (iC ⟨#[]⟩ (0, 0)) 111 (0, 0)) := (Below.heap_alloc _ _ _ (by simp)).trans (heap_alloc_new v _)
theorem al2_sub (v : World) (U : ByteArray) (x : Int × Int) : (((v.alloc (.cells (iC ⟨#[]⟩ (0, 0)) 111)).alloc (.cells (sC zSb) 84)).setRow v.heap.size (iC U x)).heap[v.heap.size + 1]? = some (.cells (sC zSb) 84 (0, 0)) := by
  have e := heap_alloc_new (v.alloc (.cells (iC ⟨#[]⟩ (0, 0)) 111)) (.cells (sC zSb) 84)
  have sz : (v.alloc (.cells (iC ⟨#[]⟩ (0, 0)) 111)).heap.size = v.heap.size + 1 := by simp
  rw [sz] at e
  exact (setRow_other _ (by omega)).trans e
theorem nb2_in (v : World) (U : ByteArray) (x : Int × Int) (s : Sb) : (nb2 v U x s).heap[v.heap.size]? = some (.cells (iC U x) 111 (0, 0)) := (setRow_other _ (by omega)).trans (setRow_heap (al2_in v))
theorem nb2_sub (v : World) (U : ByteArray) (x : Int × Int) (s : Sb) : (nb2 v U x s).heap[v.heap.size + 1]? = some (.cells (sC s) 84 (0, 0)) := setRow_heap (al2_sub v U x)
theorem nb2_below (v : World) (U : ByteArray) (x : Int × Int) (s : Sb) : Below v.heap.size v (nb2 v U x s) := below_setRow (below_setRow (((Below.refl _ _).alloc (Nat.le_refl _) _).alloc (by simp) _) (Nat.le_refl _) _) (by omega) _
theorem wpl_load_sb {ops : Array Oper} {rest : List Oper} {op : Oper} {a : Act} {w : World} {Q : Exit → Act → World → Prop} (hgd : op.guard = none) (x : Operand) (ho : op.op = .load 84 x)
    (n : Nat) (hx : a.eval x = .pointer (some ⟨n, 0, none⟩)) {s : Sb} (hb : w.heap[n]? = some (.cells (sC s) 84 (0, 0)))
    (h : wpList Tryz.prog ops Q rest (a.put op.dst (.agg #[.string s.f, .int .i64 s.q, .bool s.nl, .bool s.ap, .int .i64 s.h])) w) : wpList Tryz.prog ops Q (op :: rest) a w :=
  wpList_load_mid hgd 84 x ho n 0 hx (sC s).toList _ (fun j v hv => by rw [Nat.zero_add, cell_heap hb, ← hv]; simp) Tryz.underlying84 rfl (by kernel_rfl) h
set_option linter.unusedVariables false in
set_option maxRecDepth 100000 in
set_option maxHeartbeats 8000000 in
theorem dgetlists_subs (U : ByteArray) (hU : U.size ≤ 140737488351232) (x : Int × Int) (P : Pk) (hP : Bare P) (hk : P.kind = 8) (w : World) :
    Calls Tryz.prog 77 #[.agg (iC U x), .agg (rkNil P)] w (GB w U (RG.lists U P x)) := by
  have hN : U.size ≤ maxLen := by unfold maxLen; omega
  obtain ⟨X9, hX9⟩ : ∃ y, y = RG.lists U P x := ⟨_, rfl⟩
  rw [← hX9]
  unfold RG.lists RG.hd RG.pair RG.lists1 at hX9
  dsimp only at hX9
  rw [if_pos hk] at hX9
  unfold RG.lsE at hX9
  have C1 := Lib.hid (dreadid_any U hN x)
  generalize RG.rI U x = T1 at *
  obtain ⟨x1, n1⟩ := T1
  dsimp only at hX9 C1
  have C2 := Lib.hid (dreadprops_any U hU x1 P.kind)
  generalize RG.rP U P.kind x1 = T2 at *
  obtain ⟨x2, l2⟩ := T2
  dsimp only at hX9 C2
  obtain ⟨X3, hX3⟩ : ∃ y, y = (if x2.2 = 0 ∧ (U.size : Int) ≤ x2.1 then RG.fl x2 130 else x2) := ⟨_, rfl⟩
  rw [← hX3] at hX9
  obtain ⟨Z, hZ⟩ : ∃ y, y = RG.ls (RG.sub U) U.size 66 X3 [] := ⟨_, rfl⟩
  rw [← hZ] at hX9
  have HX3 := Lib.hid hX3; have HZ := Lib.hid hZ; have HX9 := Lib.hid hX9
  clear hX3 hZ hX9
  rw [hk] at C2
  have HK := Lib.hid hk
  clear hk
  go_enter Tryz.func77, Tryz.ntmps77
  go_upto_region 1 with fail
  change Code.wp _ _ _ _ ((((w.alloc (.cells (iC U x) 111)).alloc (.cells (rkNil P) 52)).alloc (.cells (iC ⟨#[]⟩ (0, 0)) 111)).alloc (.cells (rkNil PK.zeroPk) 52))
  have H := PB.start w U x P hP
  generalize ((((w.alloc (.cells (iC U x) 111)).alloc (.cells (rkNil P) 52)).alloc (.cells (iC ⟨#[]⟩ (0, 0)) 111)).alloc (.cells (rkNil PK.zeroPk) 52)) = W at *
  have HH := Lib.hid H
  clear H
  go_wp2_with (refine wpl_load_i (by rfl) (.tmp 2) (by rfl) w.heap.size (by rfl) HH.out.box ?_)
  refine (C1.out _).mono ?_
  rintro e v1 ⟨rfl, b1⟩
  have H1 := HH.out.next b1
  have HB := Lib.hid H1
  clear HH b1 H1 C1
  go_upto_region 2 with (refine wpList_store_row (by rfl) 111 (.tmp 2) (.tmp 18) (by rfl) w.heap.size (iC U x1) (by rfl) (by rfl) 111 (iC U x) HB.out.box i_info rfl (iC_one _ _) ?_)
  change Code.wp _ _ _ _ (v1.setRow w.heap.size (iC U x1))
  have H2 := HB.out.setO x1
  clear HB
  generalize v1.setRow w.heap.size (iC U x1) = W1 at *
  have HH := Lib.hid H2
  clear H2
  clear W
  have yc := (cell_heap (i := 4) HH.out.pk).trans (show _ = some (.int .i64 P.id) from rfl)
  have yf := frozen_heap (i := 4) HH.out.pk
  have H4 := Lib.hid (HH.out.setF 4 (.int .i64 n1) { P with id := n1 } rfl rfl rfl rfl rfl rfl)
  clear HH
  go_upto_region 3 with fail
  change Code.wp _ _ _ _ (W1.setCell ⟨w.heap.size + 1, 4, none⟩ (.int .i64 n1))
  generalize W1.setCell ⟨w.heap.size + 1, 4, none⟩ (.int .i64 n1) = W2 at *
  have HH := H4
  clear H4 yc yf
  have z0 := (cell_heap (i := 0) HH.out.pk).trans (show _ = some (.int .i64 8) from by rw [← HK.out]; rfl)
  go_wp2_with (refine wpl_load_i (by rfl) (.tmp 2) (by rfl) w.heap.size (by rfl) HH.out.box ?_)
  refine (C2.out _).mono ?_
  rintro e v1 ⟨v, rfl, o1, b1⟩
  obtain ⟨A, cap, rfl⟩ := own_form o1
  have H1 := HH.out.next b1
  have O1 := own_base' o1 HH.out.size
  have HB := Lib.hid H1
  dsimp only at O1 ⊢
  have OB := Lib.hid O1
  clear HH b1 H1 o1 O1 C2
  go_upto_region 4 with (refine wpList_store_row (by rfl) 111 (.tmp 2) (.tmp 27) (by rfl) w.heap.size (iC U x2) (by rfl) (by rfl) 111 (iC U x1) HB.out.box i_info rfl (iC_one _ _) ?_)
  change Code.wp _ _ _ _ (v1.setRow w.heap.size (iC U x2))
  have H2 := HB.out.setO x2
  have O2 := own_setRow (iC U x2) OB.out (row_ne OB.out (show w.heap.size < w.heap.size + 4 by omega))
  clear HB OB
  generalize v1.setRow w.heap.size (iC U x2) = W3 at *
  have HH := Lib.hid H2
  have OA := Lib.hid O2
  clear H2 O2
  clear z0
  have yc := (cell_heap (i := 9) HH.out.pk).trans (show _ = some (.slice none 0 0) from rfl)
  have yf := frozen_heap (i := 9) HH.out.pk
  have H4 := Lib.hid (HH.out.setP OA.out)
  clear HH
  go_upto_region 5 with fail
  change Code.wp _ _ _ _ (W3.setCell ⟨w.heap.size + 1, 9, none⟩ (.slice A l2.length cap))
  generalize W3.setCell ⟨w.heap.size + 1, 9, none⟩ (.slice A l2.length cap) = W4 at *
  have HH := H4
  clear H4 yc yf
  clear OA
  obtain ⟨P5, hP5⟩ : ∃ y : Pk, y = { P with id := n1, props := l2 } := ⟨_, rfl⟩
  have H6 : Hid (PB w U x2 P5 (.slice none 0 0) (.slice A l2.length cap) (.slice none 0 0) (.slice none 0 0) (.slice none 0 0) W4) := Lib.hid (by rw [hP5]; exact HH.out)
  have HX9' : Hid (X9 = (Z.1, { P5 with subs := Z.2 })) := Lib.hid (by rw [hP5]; exact HX9.out)
  have HF : Hid (P5.subs = []) := Lib.hid (by rw [hP5]; exact hP.subs)
  have HK5 : Hid (P5.kind = 8) := Lib.hid (by rw [hP5]; exact HK.out)
  clear HH hP5 HX9 HK
  have HH := H6
  clear H6
  obtain ⟨y0, y1, y2⟩ := HH.out.facts
  go_cut [41] from 15 to 106 (fun b wx => b = .bool (decide (x2.2 = 0 ∧ (U.size : Int) ≤ x2.1)) ∧ W4 = wx)
  case first =>
    by_cases h0 : x2.2 = 0
    · have h0' : (x2.2 == 0) = true := by rw [beq_iff_eq]; exact h0
      go_wp2
      go_meet
      exact ⟨congrArg Value.bool (by simp [h0]), rfl⟩
    · have h0' : (x2.2 == 0) = false := by rw [beq_eq_false_iff_ne]; exact h0
      go_wp2
      go_meet
      exact ⟨congrArg Value.bool (by simp [h0]), rfl⟩
  case rest =>
  obtain ⟨rfl, rfl⟩ := hcut
  clear y0 y1 y2
  go_upto_if 41 with fail
  go_cut [] from 15 to 106 (fun wx => PB w U X3 P5 (.slice none 0 0) (.slice A l2.length cap) (.slice none 0 0) (.slice none 0 0) (.slice none 0 0) wx)
  case first =>
    by_cases hc : x2.2 = 0 ∧ (U.size : Int) ≤ x2.1
    · have E1 : RG.fl x2 130 = X3 := by rw [HX3.out, if_pos hc]
      have CF := Lib.hid (dfailed_any U x2 130)
      rw [E1] at CF
      simp only [decide_eq_true hc]
      clear hc E1
      go_wp2_with (refine wpl_load_i (by rfl) (.tmp 2) (by rfl) w.heap.size (by rfl) HH.out.box ?_)
      refine (CF.out _).mono ?_
      rintro e v1 ⟨rfl, b1⟩
      have HB := Lib.hid (HH.out.next b1)
      clear HH b1 CF
      go_wp2_with (refine wpList_store_row (by rfl) 111 (.tmp 2) (.tmp 43) (by rfl) w.heap.size (iC U X3) (by rfl) (by rfl) 111 (iC U x2) HB.out.box i_info rfl (iC_one _ _) ?_)
      go_meet
      exact HB.out.setO X3
    · have E1 : x2 = X3 := by rw [HX3.out, if_neg hc]
      have HE := Lib.hid E1
      simp only [decide_eq_false hc]
      clear hc E1
      go_wp2
      go_meet
      rw [← HE.out]
      exact HH.out
  case rest =>
  have H9 := Lib.hid hcut
  clear HH hcut HX3
  have HH := H9
  clear H9
  try clear W4
  generalize wc = W5 at *
  obtain ⟨B2, hB2⟩ : ∃ y, y = W5.heap.size := ⟨_, rfl⟩
  have hBs : w.heap.size + 4 ≤ B2 := by rw [hB2]; exact HH.out.size
  have HVP : Hid (W5.ownsRow (w.heap.size + 4) 115 4 (.slice A l2.length cap) P5.props.length (flatP P5.props)) := Lib.hid HH.out.own.props
  have HB2 := Lib.hid hB2
  obtain ⟨i0, hi0, hz0, hz1, hz2⟩ := info_parts rsInfo
  have Hi := Lib.hid hi0; have Hz0 := Lib.hid hz0; have Hz1 := Lib.hid hz1; have Hz2 := Lib.hid hz2
  clear hi0 hz0 hz1 hz2 hB2
  have e5 : ({ P5 with subs := [] } : Pk) = P5 := by rw [← HF.out]
  have HS : Hid (PB w U X3 { P5 with subs := [] } (.slice none 0 0) (.slice A l2.length cap) (.slice none 0 0) (.slice none 0 0) (.slice none 0 0) W5) := Lib.hid (by rw [e5]; exact HH.out)
  clear e5 HH
  go_wp2_with fail
  go_loopw [8] (fun lv wr => ∃ (xk : Int × Int) (out : List Sb) (v : Value), lv = .int .i64 (out.length : Int) ∧ out.length ≤ 64 ∧ Hid (PB w U xk { P5 with subs := out } (.slice none 0 0) (.slice A l2.length cap) (.slice none 0 0) v (.slice none 0 0) wr) ∧ Hid (wr.ownsRow B2 84 5 v out.length (flatB out)) ∧ Hid (B2 ≤ wr.heap.size) ∧ Hid (RG.ls (RG.sub U) U.size (66 - out.length) xk out = Z)) (fun lv _ => 65 - (intOf lv).toNat)
  case atStart => exact ⟨X3, [], _, rfl, by simp, HS, Lib.hid (own_nil _ _ _ _), Lib.hid (by rw [HB2.out]; exact Nat.le_refl _), Lib.hid HZ.out.symm⟩
  case round =>
  obtain ⟨xk, out, v, rfl, hl, hPB, hO, hB, hZ⟩ := hrel
  clear HS HZ
  obtain ⟨y0, y1, y2⟩ := hPB.out.facts
  obtain ⟨u, hu⟩ : ∃ u, 66 - out.length = u + 1 := ⟨65 - out.length, by omega⟩
  rw [hu] at hZ
  have FIN : Hid (∀ y, (y, out) = Z → X9 = (y, { P5 with subs := out })) := Lib.hid (fun y h => by rw [HX9'.out, ← h])
  by_cases h0 : xk.2 = 0
  · have h0' : (xk.2 == 0) = true := by rw [beq_iff_eq]; exact h0
    by_cases h1 : xk.1 < (U.size : Int)
    · rw [RG.ls, if_pos ⟨h0, h1⟩] at hZ
      by_cases h64 : 64 ≤ out.length
      · rw [if_pos h64] at hZ
        have CF := Lib.hid (dfailed_any U xk 149)
        obtain ⟨yf, hyf⟩ : ∃ y, y = RG.fl xk 149 := ⟨_, rfl⟩
        rw [← hyf] at CF hZ
        have HE : Hid (X9 = (yf, { P5 with subs := out })) := Lib.hid (FIN.out _ hZ.out)
        have j64 : (64 : Int) ≤ (out.length : Int) := by omega
        clear hZ hyf FIN HX9' hO hu h64
        go_upto_region 11 with fail
        go_wp2_with (refine wpl_load_i (by rfl) (.tmp 2) (by rfl) w.heap.size (by rfl) hPB.out.box ?_)
        refine (CF.out _).mono ?_
        rintro e v1 ⟨rfl, b1⟩
        have HB := Lib.hid (hPB.out.next b1)
        clear hPB b1 CF y0 y1 y2
        go_upto_region 12 with (refine wpList_store_row (by rfl) 111 (.tmp 2) (.tmp 60) (by rfl) w.heap.size (iC U yf) (by rfl) (by rfl) 111 (iC U xk) HB.out.box i_info rfl (iC_one _ _) ?_)
        change Code.wp _ _ _ _ (v1.setRow w.heap.size (iC U yf))
        have H5 := HB.out.setO yf
        clear HB
        generalize v1.setRow w.heap.size (iC U yf) = W9 at *
        obtain ⟨f1, f2, f3⟩ := H5.fin
        have k1 := rk_one _ H5.own
        refine wp_fin (n0 := 2) (n1 := 3) (m0 := 4) (m1 := 5) (d0 := 61) (d1 := 62) (b0 := w.heap.size) (b1 := w.heap.size + 1) (c0 := w.heap.size + 2) (c1 := w.heap.size + 3) (by kernel_rfl) rfl rfl rfl rfl rfl rfl rfl rfl rfl rfl rfl rfl rfl rfl rfl rfl rfl (by kernel_rfl) (by kernel_rfl) (by kernel_rfl) (by kernel_rfl) (by kernel_rfl) (by kernel_rfl) (by kernel_rfl) (by simp [Act.put]) rfl rfl rfl rfl H5.box H5.pk H5.ri H5.rp (by omega) k1 ?_
        have F1 := Lib.hid f1; have F2 := Lib.hid f2; have F3 := Lib.hid f3
        clear f1 f2 f3 k1
        go_wp2_with fail
        refine bodyPost_ret (v := .tuple #[.agg (iC U yf), .agg (rkCells { P5 with subs := out } (.slice none 0 0) (.slice A l2.length cap) (.slice none 0 0) v (.slice none 0 0))]) ?_ rfl (by rw [HE.out]; exact F3.out)
        simp only [results, Tryz.results77]
        simp
        exact two_boxes (load_i_var F1.out) (rk_var F2.out)
      · skip
        rw [if_neg h64] at hZ
        have CT := Lib.hid (dgetsub_any U hU xk)
        generalize RG.sub U xk = Tn at *
        obtain ⟨xn, tn⟩ := Tn
        dsimp only at hZ CT
        have j64 : ¬ (64 : Int) ≤ (out.length : Int) := by omega
        clear FIN
        have z0 := (cell_heap (i := 0) hPB.out.pk).trans (show _ = some (.int .i64 8) from by rw [← HK5.out]; rfl)
        have HH := hPB
        go_upto_region 18 with fail
        clear y0 y1 y2 z0 hPB
        go_wp2_with (refine wpl_load_i (by rfl) (.tmp 2) (by rfl) w.heap.size (by rfl) HH.out.box ?_)
        refine (CT.out _).mono ?_
        rintro e v1 ⟨rfl, b1⟩
        have hO1 := own_below hO.out b1
        have H1 := HH.out.next b1
        have hga : w.heap.size + 4 ≤ v1.heap.size := H1.size
        have hBa0 : Hid (B2 ≤ (nb2 v1 U xn tn).heap.size) := Lib.hid (Nat.le_trans hB.out (Nat.le_trans b1.size (nb2_below v1 U xn tn).size))
        have H2 := Lib.hid (H1.next (nb2_below v1 U xn tn))
        have G2 := Lib.hid (nb2_in v1 U xn tn)
        have SA := Lib.hid (nb2_sub v1 U xn tn)
        have A2 := Lib.hid (al2_in v1)
        have A3 := Lib.hid (al2_sub v1 U xn)
        have hO2 := Lib.hid (own_below hO1 (nb2_below v1 U xn tn))
        clear HH b1 CT hO hO1 H1 hB
        go_upto_region 19 with (first
          | refine wpList_store_row (by rfl) 111 (.tmp 9) (.tmp 82) (by rfl) v1.heap.size (iC U xn) (by rfl) (by rfl) 111 (iC ⟨#[]⟩ (0, 0)) A2.out i_info rfl (iC_one _ _) ?_
          | refine wpList_store_row (by rfl) 84 (.tmp 10) (.tmp 83) (by rfl) (v1.heap.size + 1) (sC tn) (by rfl) (by rfl) 84 (sC zSb) A3.out s_info rfl (sC_one _) ?_)
        clear A2 A3
        change Code.wp _ _ _ _ (nb2 v1 U xn tn)
        generalize nb2 v1 U xn tn = Wa at *
        generalize v1.heap.size = ga at *
        have HH := H2
        have GA := G2
        have hO := hO2
        clear H2 G2 hO2
        go_upto_region 20 with (first
          | refine wpl_load_i (by rfl) (.tmp 9) (by rfl) ga (by rfl) GA.out ?_
          | refine wpList_store_row (by rfl) 111 (.tmp 2) (.tmp 84) (by rfl) w.heap.size (iC U xn) (by rfl) (by rfl) 111 (iC U xk) HH.out.box i_info rfl (iC_one _ _) ?_)
        change Code.wp _ _ _ _ (Wa.setRow w.heap.size (iC U xn))
        have H2 := Lib.hid (HH.out.setO xn)
        have hO2 := Lib.hid (own_setRow (iC U xn) hO.out (row_ne hO.out (show w.heap.size < B2 by omega)))
        have hBa : B2 ≤ (Wa.setRow w.heap.size (iC U xn)).heap.size := by have e : (Wa.setRow w.heap.size (iC U xn)).heap.size = Wa.heap.size := by simp [World.setRow]
                                                                          rw [e]; exact hBa0.out
        have SA2 : Hid ((Wa.setRow w.heap.size (iC U xn)).heap[ga + 1]? = some (.cells (sC tn) 84 (0, 0))) := Lib.hid ((setRow_other _ (by omega)).trans SA.out)
        clear SA
        have SA := SA2
        clear SA2
        clear HH GA hO hBa0
        generalize Wa.setRow w.heap.size (iC U xn) = Wb at *
        have HH := H2
        have hO := hO2
        clear H2 hO2
        obtain ⟨v5, w5, hr5, hown5, hgr5, hb5⟩ := app1 Tryz.underlying50 Hi.out Hz0.out Hz1.out Hz2.out rfl (by omega) (by omega) B2 v out.length _ Wb hO.out hBa #[.string tn.f, .int .i64 tn.q, .bool tn.nl, .bool tn.ap, .int .i64 tn.h] rfl (by simp [Value.oneCell']) (by omega)
        obtain ⟨A5, c5, hv5⟩ := own_form hown5
        subst hv5
        have hl5 : (out ++ [tn]).length = out.length + 1 := by rw [List.length_append, List.length_singleton]
        have O5 : w5.ownsRow B2 84 5 (.slice A5 (out.length + 1) c5) (out ++ [tn]).length (flatB (out ++ [tn])) := by rw [hl5, flatB_snoc]; simpa using hown5
        have hp := rows_far HVP.out hO.out (by rw [HB2.out]; exact Nat.le_refl _)
        have H5 : Hid (PB w U xn { P5 with subs := out ++ [tn] } (.slice none 0 0) (.slice A l2.length cap) (.slice none 0 0) (.slice A5 (out.length + 1) c5) (.slice none 0 0) (w5.setCell ⟨w.heap.size + 1, 24, none⟩ (.slice A5 (out.length + 1) c5))) := Lib.hid (HH.out.putB hBs hp O5 hgr5 hb5)
        have O6 := Lib.hid (own_set (b := w.heap.size + 1) (j := 24) (u := (.slice A5 (out.length + 1) c5)) O5 (row_ne O5 (show w.heap.size + 1 < B2 by omega)))
        have S5 : Hid (B2 ≤ (w5.setCell ⟨w.heap.size + 1, 24, none⟩ (.slice A5 (out.length + 1) c5)).heap.size) := Lib.hid (by
          have e : (w5.setCell ⟨w.heap.size + 1, 24, none⟩ (.slice A5 (out.length + 1) c5)).heap.size = w5.heap.size := by simp [World.setCell]
          rw [e]; exact Nat.le_trans hBa hb5.size)
        have hu2 : Hid (66 - (out ++ [tn]).length = u) := Lib.hid (by rw [hl5]; omega)
        have yl := (cell_heap (i := 24) HH.out.pk).trans (show _ = some v from rfl)
        have pk5 := (hb5.block (w.heap.size + 1) (by omega)).trans HH.out.pk
        have yc := (cell_heap (i := 24) pk5).trans (show _ = some v from rfl)
        have yf := frozen_heap (i := 24) pk5
        have Hl5 := Lib.hid hl5
        clear HH hO hown5 hgr5 hb5 O5 hp hl5 pk5 HX9'
        go_wp2_with (first
          | refine wpl_load_sb (by rfl) (.tmp 10) (by rfl) (ga + 1) (by rfl) SA.out ?_
          | (at_builtin; refine wpList_run (by rfl) (.tmp 86) (.tmp 88) _ _ (by rfl) (by rfl) (by rfl) hr5 ?_; clear hr5))
        go_roundw
        case rel => exact ⟨xn, out ++ [tn], (.slice A5 (out.length + 1) c5), by rw [Hl5.out]; go_num, by rw [Hl5.out]; omega, H5, O6, S5, Lib.hid (by rw [hu2.out]; exact hZ.out)⟩
        case measure => simp [intOf]; omega
    · rw [RG.ls, if_neg (fun h => h1 h.2)] at hZ
      have HE := Lib.hid (FIN.out _ hZ.out)
      clear hZ FIN HX9' hO
      go_upto_region 25 with fail
      have H5 := hPB.out
      obtain ⟨f1, f2, f3⟩ := H5.fin
      have k1 := rk_one _ H5.own
      refine wp_fin (n0 := 2) (n1 := 3) (m0 := 4) (m1 := 5) (d0 := 105) (d1 := 106) (b0 := w.heap.size) (b1 := w.heap.size + 1) (c0 := w.heap.size + 2) (c1 := w.heap.size + 3) (by kernel_rfl) rfl rfl rfl rfl rfl rfl rfl rfl rfl rfl rfl rfl rfl rfl rfl rfl rfl (by kernel_rfl) (by kernel_rfl) (by kernel_rfl) (by kernel_rfl) (by kernel_rfl) (by kernel_rfl) (by kernel_rfl) (by simp) rfl rfl rfl rfl H5.box H5.pk H5.ri H5.rp (by omega) k1 ?_
      have F1 := Lib.hid f1; have F2 := Lib.hid f2; have F3 := Lib.hid f3
      clear f1 f2 f3 k1
      go_wp2_with fail
      refine bodyPost_ret (v := .tuple #[.agg (iC U xk), .agg (rkCells { P5 with subs := out } (.slice none 0 0) (.slice A l2.length cap) (.slice none 0 0) v (.slice none 0 0))]) ?_ rfl (by rw [HE.out]; exact F3.out)
      simp only [results, Tryz.results77]
      simp
      exact two_boxes (load_i_var F1.out) (rk_var F2.out)
  · have h0' : (xk.2 == 0) = false := by rw [beq_eq_false_iff_ne]; exact h0
    rw [RG.ls, if_neg (fun h => h0 h.1)] at hZ
    have HE := Lib.hid (FIN.out _ hZ.out)
    clear hZ FIN HX9' hO
    go_upto_region 25 with fail
    have H5 := hPB.out
    obtain ⟨f1, f2, f3⟩ := H5.fin
    have k1 := rk_one _ H5.own
    refine wp_fin (n0 := 2) (n1 := 3) (m0 := 4) (m1 := 5) (d0 := 105) (d1 := 106) (b0 := w.heap.size) (b1 := w.heap.size + 1) (c0 := w.heap.size + 2) (c1 := w.heap.size + 3) (by kernel_rfl) rfl rfl rfl rfl rfl rfl rfl rfl rfl rfl rfl rfl rfl rfl rfl rfl rfl (by kernel_rfl) (by kernel_rfl) (by kernel_rfl) (by kernel_rfl) (by kernel_rfl) (by kernel_rfl) (by kernel_rfl) (by simp) rfl rfl rfl rfl H5.box H5.pk H5.ri H5.rp (by omega) k1 ?_
    have F1 := Lib.hid f1; have F2 := Lib.hid f2; have F3 := Lib.hid f3
    clear f1 f2 f3 k1
    go_wp2_with fail
    refine bodyPost_ret (v := .tuple #[.agg (iC U xk), .agg (rkCells { P5 with subs := out } (.slice none 0 0) (.slice A l2.length cap) (.slice none 0 0) v (.slice none 0 0))]) ?_ rfl (by rw [HE.out]; exact F3.out)
    simp only [results, Tryz.results77]
    simp
    exact two_boxes (load_i_var F1.out) (rk_var F2.out)
end Go.Proofs.YtemfcaaoobjgkaaGreatDoor
namespace Go.Proofs.YtemfcaaoobjgkaaGreatDoor
open Go.RowKit
attribute [local go_sem ↓] Go.wp_at_zero Go.wp_at_succ
set_option linter.unusedVariables false in
set_option maxRecDepth 100000 in
set_option maxHeartbeats 8000000 in
theorem dgetlists_codes (U : ByteArray) (hU : U.size ≤ 140737488351232) (x : Int × Int) (P : Pk) (hP : Bare P) (hk8 : P.kind ≠ 8) (hk10 : P.kind ≠ 10) (w : World) :
    Calls Tryz.prog 77 #[.agg (iC U x), .agg (rkNil P)] w (GB w U (RG.lists U P x)) := by
  have hN : U.size ≤ maxLen := by unfold maxLen; omega
  obtain ⟨X9, hX9⟩ : ∃ y, y = RG.lists U P x := ⟨_, rfl⟩
  rw [← hX9]
  unfold RG.lists RG.hd RG.pair RG.lists1 at hX9
  dsimp only at hX9
  rw [if_neg hk8, if_neg hk10] at hX9
  unfold RG.lsE at hX9
  have C1 := Lib.hid (dreadid_any U hN x)
  generalize RG.rI U x = T1 at *
  obtain ⟨x1, n1⟩ := T1
  dsimp only at hX9 C1
  have C2 := Lib.hid (dreadprops_any U hU x1 P.kind)
  generalize RG.rP U P.kind x1 = T2 at *
  obtain ⟨x2, l2⟩ := T2
  dsimp only at hX9 C2
  obtain ⟨X3, hX3⟩ : ∃ y, y = (if x2.2 = 0 ∧ (U.size : Int) ≤ x2.1 then RG.fl x2 130 else x2) := ⟨_, rfl⟩
  rw [← hX3] at hX9
  obtain ⟨Z, hZ⟩ : ∃ y, y = RG.ls (RG.rN U 1) U.size 66 X3 [] := ⟨_, rfl⟩
  rw [← hZ] at hX9
  have HX3 := Lib.hid hX3; have HZ := Lib.hid hZ; have HX9 := Lib.hid hX9
  clear hX3 hZ hX9
  obtain ⟨kk, hkk⟩ : ∃ y, y = P.kind := ⟨_, rfl⟩
  have i8 : (kk == 8) = false := by rw [beq_eq_false_iff_ne, hkk]; exact hk8
  have i10 : (kk == 10) = false := by rw [beq_eq_false_iff_ne, hkk]; exact hk10
  have hk := hkk.symm
  rw [hk] at C2
  clear hk8 hk10 hkk
  have HK := Lib.hid hk
  clear hk
  go_enter Tryz.func77, Tryz.ntmps77
  go_upto_region 1 with fail
  change Code.wp _ _ _ _ ((((w.alloc (.cells (iC U x) 111)).alloc (.cells (rkNil P) 52)).alloc (.cells (iC ⟨#[]⟩ (0, 0)) 111)).alloc (.cells (rkNil PK.zeroPk) 52))
  have H := PB.start w U x P hP
  generalize ((((w.alloc (.cells (iC U x) 111)).alloc (.cells (rkNil P) 52)).alloc (.cells (iC ⟨#[]⟩ (0, 0)) 111)).alloc (.cells (rkNil PK.zeroPk) 52)) = W at *
  have HH := Lib.hid H
  clear H
  go_wp2_with (refine wpl_load_i (by rfl) (.tmp 2) (by rfl) w.heap.size (by rfl) HH.out.box ?_)
  refine (C1.out _).mono ?_
  rintro e v1 ⟨rfl, b1⟩
  have H1 := HH.out.next b1
  have HB := Lib.hid H1
  clear HH b1 H1 C1
  go_upto_region 2 with (refine wpList_store_row (by rfl) 111 (.tmp 2) (.tmp 18) (by rfl) w.heap.size (iC U x1) (by rfl) (by rfl) 111 (iC U x) HB.out.box i_info rfl (iC_one _ _) ?_)
  change Code.wp _ _ _ _ (v1.setRow w.heap.size (iC U x1))
  have H2 := HB.out.setO x1
  clear HB
  generalize v1.setRow w.heap.size (iC U x1) = W1 at *
  have HH := Lib.hid H2
  clear H2
  clear W
  have yc := (cell_heap (i := 4) HH.out.pk).trans (show _ = some (.int .i64 P.id) from rfl)
  have yf := frozen_heap (i := 4) HH.out.pk
  have H4 := Lib.hid (HH.out.setF 4 (.int .i64 n1) { P with id := n1 } rfl rfl rfl rfl rfl rfl)
  clear HH
  go_upto_region 3 with fail
  change Code.wp _ _ _ _ (W1.setCell ⟨w.heap.size + 1, 4, none⟩ (.int .i64 n1))
  generalize W1.setCell ⟨w.heap.size + 1, 4, none⟩ (.int .i64 n1) = W2 at *
  have HH := H4
  clear H4 yc yf
  have z0 := (cell_heap (i := 0) HH.out.pk).trans (show _ = some (.int .i64 kk) from by rw [← HK.out]; rfl)
  go_wp2_with (refine wpl_load_i (by rfl) (.tmp 2) (by rfl) w.heap.size (by rfl) HH.out.box ?_)
  refine (C2.out _).mono ?_
  rintro e v1 ⟨v, rfl, o1, b1⟩
  obtain ⟨A, cap, rfl⟩ := own_form o1
  have H1 := HH.out.next b1
  have O1 := own_base' o1 HH.out.size
  have HB := Lib.hid H1
  dsimp only at O1 ⊢
  have OB := Lib.hid O1
  clear HH b1 H1 o1 O1 C2
  go_upto_region 4 with (refine wpList_store_row (by rfl) 111 (.tmp 2) (.tmp 27) (by rfl) w.heap.size (iC U x2) (by rfl) (by rfl) 111 (iC U x1) HB.out.box i_info rfl (iC_one _ _) ?_)
  change Code.wp _ _ _ _ (v1.setRow w.heap.size (iC U x2))
  have H2 := HB.out.setO x2
  have O2 := own_setRow (iC U x2) OB.out (row_ne OB.out (show w.heap.size < w.heap.size + 4 by omega))
  clear HB OB
  generalize v1.setRow w.heap.size (iC U x2) = W3 at *
  have HH := Lib.hid H2
  have OA := Lib.hid O2
  clear H2 O2
  clear z0
  have yc := (cell_heap (i := 9) HH.out.pk).trans (show _ = some (.slice none 0 0) from rfl)
  have yf := frozen_heap (i := 9) HH.out.pk
  have H4 := Lib.hid (HH.out.setP OA.out)
  clear HH
  go_upto_region 5 with fail
  change Code.wp _ _ _ _ (W3.setCell ⟨w.heap.size + 1, 9, none⟩ (.slice A l2.length cap))
  generalize W3.setCell ⟨w.heap.size + 1, 9, none⟩ (.slice A l2.length cap) = W4 at *
  have HH := H4
  clear H4 yc yf
  clear OA
  obtain ⟨P5, hP5⟩ : ∃ y : Pk, y = { P with id := n1, props := l2 } := ⟨_, rfl⟩
  have H6 : Hid (PB w U x2 P5 (.slice none 0 0) (.slice A l2.length cap) (.slice none 0 0) (.slice none 0 0) (.slice none 0 0) W4) := Lib.hid (by rw [hP5]; exact HH.out)
  have HX9' : Hid (X9 = (Z.1, { P5 with codes := Z.2 })) := Lib.hid (by rw [hP5]; exact HX9.out)
  have HF : Hid (P5.codes = []) := Lib.hid (by rw [hP5]; exact hP.codes)
  have HK5 : Hid (P5.kind = kk) := Lib.hid (by rw [hP5]; exact HK.out)
  clear HH hP5 HX9 HK
  have HH := H6
  clear H6
  obtain ⟨y0, y1, y2⟩ := HH.out.facts
  go_cut [41] from 15 to 106 (fun b wx => b = .bool (decide (x2.2 = 0 ∧ (U.size : Int) ≤ x2.1)) ∧ W4 = wx)
  case first =>
    by_cases h0 : x2.2 = 0
    · have h0' : (x2.2 == 0) = true := by rw [beq_iff_eq]; exact h0
      go_wp2
      go_meet
      exact ⟨congrArg Value.bool (by simp [h0]), rfl⟩
    · have h0' : (x2.2 == 0) = false := by rw [beq_eq_false_iff_ne]; exact h0
      go_wp2
      go_meet
      exact ⟨congrArg Value.bool (by simp [h0]), rfl⟩
  case rest =>
  obtain ⟨rfl, rfl⟩ := hcut
  clear y0 y1 y2
  go_upto_if 41 with fail
  go_cut [] from 15 to 106 (fun wx => PB w U X3 P5 (.slice none 0 0) (.slice A l2.length cap) (.slice none 0 0) (.slice none 0 0) (.slice none 0 0) wx)
  case first =>
    by_cases hc : x2.2 = 0 ∧ (U.size : Int) ≤ x2.1
    · have E1 : RG.fl x2 130 = X3 := by rw [HX3.out, if_pos hc]
      have CF := Lib.hid (dfailed_any U x2 130)
      rw [E1] at CF
      simp only [decide_eq_true hc]
      clear hc E1
      go_wp2_with (refine wpl_load_i (by rfl) (.tmp 2) (by rfl) w.heap.size (by rfl) HH.out.box ?_)
      refine (CF.out _).mono ?_
      rintro e v1 ⟨rfl, b1⟩
      have HB := Lib.hid (HH.out.next b1)
      clear HH b1 CF
      go_wp2_with (refine wpList_store_row (by rfl) 111 (.tmp 2) (.tmp 43) (by rfl) w.heap.size (iC U X3) (by rfl) (by rfl) 111 (iC U x2) HB.out.box i_info rfl (iC_one _ _) ?_)
      go_meet
      exact HB.out.setO X3
    · have E1 : x2 = X3 := by rw [HX3.out, if_neg hc]
      have HE := Lib.hid E1
      simp only [decide_eq_false hc]
      clear hc E1
      go_wp2
      go_meet
      rw [← HE.out]
      exact HH.out
  case rest =>
  have H9 := Lib.hid hcut
  clear HH hcut HX3
  have HH := H9
  clear H9
  try clear W4
  generalize wc = W5 at *
  obtain ⟨B2, hB2⟩ : ∃ y, y = W5.heap.size := ⟨_, rfl⟩
  have hBs : w.heap.size + 4 ≤ B2 := by rw [hB2]; exact HH.out.size
  have HVP : Hid (W5.ownsRow (w.heap.size + 4) 115 4 (.slice A l2.length cap) P5.props.length (flatP P5.props)) := Lib.hid HH.out.own.props
  have HB2 := Lib.hid hB2
  obtain ⟨i0, hi0, hz0, hz1, hz2⟩ := info_parts iInfo
  have Hi := Lib.hid hi0; have Hz0 := Lib.hid hz0; have Hz1 := Lib.hid hz1; have Hz2 := Lib.hid hz2
  clear hi0 hz0 hz1 hz2 hB2
  have e5 : ({ P5 with codes := [] } : Pk) = P5 := by rw [← HF.out]
  have HS : Hid (PB w U X3 { P5 with codes := [] } (.slice none 0 0) (.slice A l2.length cap) (.slice none 0 0) (.slice none 0 0) (.slice none 0 0) W5) := Lib.hid (by rw [e5]; exact HH.out)
  clear e5 HH
  go_wp2_with fail
  go_loopw [8] (fun lv wr => ∃ (xk : Int × Int) (out : List Int) (v : Value), lv = .int .i64 (out.length : Int) ∧ out.length ≤ 64 ∧ Hid (PB w U xk { P5 with codes := out } v (.slice A l2.length cap) (.slice none 0 0) (.slice none 0 0) (.slice none 0 0) wr) ∧ Hid (wr.ownsRow B2 3 1 v out.length (flatI out)) ∧ Hid (B2 ≤ wr.heap.size) ∧ Hid (RG.ls (RG.rN U 1) U.size (66 - out.length) xk out = Z)) (fun lv _ => 65 - (intOf lv).toNat)
  case atStart => exact ⟨X3, [], _, rfl, by simp, HS, Lib.hid (own_nil _ _ _ _), Lib.hid (by rw [HB2.out]; exact Nat.le_refl _), Lib.hid HZ.out.symm⟩
  case round =>
  obtain ⟨xk, out, v, rfl, hl, hPB, hO, hB, hZ⟩ := hrel
  clear HS HZ
  obtain ⟨y0, y1, y2⟩ := hPB.out.facts
  obtain ⟨u, hu⟩ : ∃ u, 66 - out.length = u + 1 := ⟨65 - out.length, by omega⟩
  rw [hu] at hZ
  have FIN : Hid (∀ y, (y, out) = Z → X9 = (y, { P5 with codes := out })) := Lib.hid (fun y h => by rw [HX9'.out, ← h])
  by_cases h0 : xk.2 = 0
  · have h0' : (xk.2 == 0) = true := by rw [beq_iff_eq]; exact h0
    by_cases h1 : xk.1 < (U.size : Int)
    · rw [RG.ls, if_pos ⟨h0, h1⟩] at hZ
      by_cases h64 : 64 ≤ out.length
      · rw [if_pos h64] at hZ
        have CF := Lib.hid (dfailed_any U xk 149)
        obtain ⟨yf, hyf⟩ : ∃ y, y = RG.fl xk 149 := ⟨_, rfl⟩
        rw [← hyf] at CF hZ
        have HE : Hid (X9 = (yf, { P5 with codes := out })) := Lib.hid (FIN.out _ hZ.out)
        have j64 : (64 : Int) ≤ (out.length : Int) := by omega
        clear hZ hyf FIN HX9' hO hu h64
        go_upto_region 11 with fail
        go_wp2_with (refine wpl_load_i (by rfl) (.tmp 2) (by rfl) w.heap.size (by rfl) hPB.out.box ?_)
        refine (CF.out _).mono ?_
        rintro e v1 ⟨rfl, b1⟩
        have HB := Lib.hid (hPB.out.next b1)
        clear hPB b1 CF y0 y1 y2
        go_upto_region 12 with (refine wpList_store_row (by rfl) 111 (.tmp 2) (.tmp 60) (by rfl) w.heap.size (iC U yf) (by rfl) (by rfl) 111 (iC U xk) HB.out.box i_info rfl (iC_one _ _) ?_)
        change Code.wp _ _ _ _ (v1.setRow w.heap.size (iC U yf))
        have H5 := HB.out.setO yf
        clear HB
        generalize v1.setRow w.heap.size (iC U yf) = W9 at *
        obtain ⟨f1, f2, f3⟩ := H5.fin
        have k1 := rk_one _ H5.own
        refine wp_fin (n0 := 2) (n1 := 3) (m0 := 4) (m1 := 5) (d0 := 61) (d1 := 62) (b0 := w.heap.size) (b1 := w.heap.size + 1) (c0 := w.heap.size + 2) (c1 := w.heap.size + 3) (by kernel_rfl) rfl rfl rfl rfl rfl rfl rfl rfl rfl rfl rfl rfl rfl rfl rfl rfl rfl (by kernel_rfl) (by kernel_rfl) (by kernel_rfl) (by kernel_rfl) (by kernel_rfl) (by kernel_rfl) (by kernel_rfl) (by simp [Act.put]) rfl rfl rfl rfl H5.box H5.pk H5.ri H5.rp (by omega) k1 ?_
        have F1 := Lib.hid f1; have F2 := Lib.hid f2; have F3 := Lib.hid f3
        clear f1 f2 f3 k1
        go_wp2_with fail
        refine bodyPost_ret (v := .tuple #[.agg (iC U yf), .agg (rkCells { P5 with codes := out } v (.slice A l2.length cap) (.slice none 0 0) (.slice none 0 0) (.slice none 0 0))]) ?_ rfl (by rw [HE.out]; exact F3.out)
        simp only [results, Tryz.results77]
        simp
        exact two_boxes (load_i_var F1.out) (rk_var F2.out)
      · skip
        rw [if_neg h64] at hZ
        have CT := Lib.hid (dreadnum_any U hN xk 1)
        generalize RG.rN U 1 xk = Tn at *
        obtain ⟨xn, tn⟩ := Tn
        dsimp only at hZ CT
        have j64 : ¬ (64 : Int) ≤ (out.length : Int) := by omega
        clear FIN
        have z0 := (cell_heap (i := 0) hPB.out.pk).trans (show _ = some (.int .i64 kk) from by rw [← HK5.out]; rfl)
        have HH := hPB
        go_upto_region 14 with fail
        clear y0 y1 y2 z0 hPB
        go_wp2_with (refine wpl_load_i (by rfl) (.tmp 2) (by rfl) w.heap.size (by rfl) HH.out.box ?_)
        refine (CT.out _).mono ?_
        rintro e v1 ⟨rfl, b1⟩
        have hO1 := own_below hO.out b1
        have H1 := HH.out.next b1
        have hB1 : Hid (B2 ≤ (nb v1 U xn).heap.size) := Lib.hid (Nat.le_trans hB.out (Nat.le_trans b1.size (nb_below v1 U xn).size))
        have H2 := Lib.hid (H1.next (nb_below v1 U xn))
        have G2 := Lib.hid (nb_heap v1 U xn)
        have A2 := Lib.hid (heap_alloc_new v1 (.cells (iC ⟨#[]⟩ (0, 0)) 111))
        have hO2 := Lib.hid (own_below hO1 (nb_below v1 U xn))
        clear hO hO1
        have hO := hO2
        clear hO2
        clear HH b1 H1 CT
        go_upto_region 15 with (refine wpList_store_row (by rfl) 111 (.tmp 13) (.tmp 68) (by rfl) v1.heap.size (iC U xn) (by rfl) (by rfl) 111 (iC ⟨#[]⟩ (0, 0)) A2.out i_info rfl (iC_one _ _) ?_)
        clear A2
        change Code.wp _ _ _ _ (nb v1 U xn)
        generalize nb v1 U xn = Wa at *
        generalize v1.heap.size = ga at *
        have HH := H2
        have GA := G2
        clear H2 G2
        have hBa0 := hB1
        clear hB1 hB
        go_upto_region 16 with (first
          | refine wpl_load_i (by rfl) (.tmp 13) (by rfl) ga (by rfl) GA.out ?_
          | refine wpList_store_row (by rfl) 111 (.tmp 2) (.tmp 70) (by rfl) w.heap.size (iC U xn) (by rfl) (by rfl) 111 (iC U xk) HH.out.box i_info rfl (iC_one _ _) ?_)
        change Code.wp _ _ _ _ (Wa.setRow w.heap.size (iC U xn))
        have H2 := Lib.hid (HH.out.setO xn)
        have hO2 := Lib.hid (own_setRow (iC U xn) hO.out (row_ne hO.out (show w.heap.size < B2 by omega)))
        have hBa : B2 ≤ (Wa.setRow w.heap.size (iC U xn)).heap.size := by have e : (Wa.setRow w.heap.size (iC U xn)).heap.size = Wa.heap.size := by simp [World.setRow]
                                                                          rw [e]; exact hBa0.out
        clear HH GA hO hBa0
        generalize Wa.setRow w.heap.size (iC U xn) = Wb at *
        have HH := H2
        have hO := hO2
        clear H2 hO2
        obtain ⟨v5, w5, hr5, hown5, hgr5, hb5⟩ := app1 Tryz.underlying46 Hi.out Hz0.out Hz1.out Hz2.out rfl (by omega) (by omega) B2 v out.length _ Wb hO.out hBa #[.int .i64 tn] rfl (by simp [Value.oneCell']) (by omega)
        obtain ⟨A5, c5, hv5⟩ := own_form hown5
        subst hv5
        have hl5 : (out ++ [tn]).length = out.length + 1 := by rw [List.length_append, List.length_singleton]
        have O5 : w5.ownsRow B2 3 1 (.slice A5 (out.length + 1) c5) (out ++ [tn]).length (flatI (out ++ [tn])) := by rw [hl5, flatI_snoc]; simpa using hown5
        have hp := rows_far HVP.out hO.out (by rw [HB2.out]; exact Nat.le_refl _)
        have H5 : Hid (PB w U xn { P5 with codes := out ++ [tn] } (.slice A5 (out.length + 1) c5) (.slice A l2.length cap) (.slice none 0 0) (.slice none 0 0) (.slice none 0 0) (w5.setCell ⟨w.heap.size + 1, 8, none⟩ (.slice A5 (out.length + 1) c5))) := Lib.hid (HH.out.putC hBs hp O5 hgr5 hb5)
        have O6 := Lib.hid (own_set (b := w.heap.size + 1) (j := 8) (u := (.slice A5 (out.length + 1) c5)) O5 (row_ne O5 (show w.heap.size + 1 < B2 by omega)))
        have S5 : Hid (B2 ≤ (w5.setCell ⟨w.heap.size + 1, 8, none⟩ (.slice A5 (out.length + 1) c5)).heap.size) := Lib.hid (by
          have e : (w5.setCell ⟨w.heap.size + 1, 8, none⟩ (.slice A5 (out.length + 1) c5)).heap.size = w5.heap.size := by simp [World.setCell]
          rw [e]; exact Nat.le_trans hBa hb5.size)
        have hu2 : Hid (66 - (out ++ [tn]).length = u) := Lib.hid (by rw [hl5]; omega)
        have yl := (cell_heap (i := 8) HH.out.pk).trans (show _ = some v from rfl)
        have pk5 := (hb5.block (w.heap.size + 1) (by omega)).trans HH.out.pk
        have yc := (cell_heap (i := 8) pk5).trans (show _ = some v from rfl)
        have yf := frozen_heap (i := 8) pk5
        have Hl5 := Lib.hid hl5
        clear HH hO hown5 hgr5 hb5 O5 hp hl5 pk5 HX9'
        go_wp2_with (at_builtin; refine wpList_run (by rfl) (.tmp 72) (.tmp 74) _ _ (by rfl) (by rfl) (by rfl) hr5 ?_; clear hr5)
        go_roundw
        case rel => exact ⟨xn, out ++ [tn], (.slice A5 (out.length + 1) c5), by rw [Hl5.out]; go_num, by rw [Hl5.out]; omega, H5, O6, S5, Lib.hid (by rw [hu2.out]; exact hZ.out)⟩
        case measure => simp [intOf]; omega
    · rw [RG.ls, if_neg (fun h => h1 h.2)] at hZ
      have HE := Lib.hid (FIN.out _ hZ.out)
      clear hZ FIN HX9' hO
      go_upto_region 25 with fail
      have H5 := hPB.out
      obtain ⟨f1, f2, f3⟩ := H5.fin
      have k1 := rk_one _ H5.own
      refine wp_fin (n0 := 2) (n1 := 3) (m0 := 4) (m1 := 5) (d0 := 105) (d1 := 106) (b0 := w.heap.size) (b1 := w.heap.size + 1) (c0 := w.heap.size + 2) (c1 := w.heap.size + 3) (by kernel_rfl) rfl rfl rfl rfl rfl rfl rfl rfl rfl rfl rfl rfl rfl rfl rfl rfl rfl (by kernel_rfl) (by kernel_rfl) (by kernel_rfl) (by kernel_rfl) (by kernel_rfl) (by kernel_rfl) (by kernel_rfl) (by simp) rfl rfl rfl rfl H5.box H5.pk H5.ri H5.rp (by omega) k1 ?_
      have F1 := Lib.hid f1; have F2 := Lib.hid f2; have F3 := Lib.hid f3
      clear f1 f2 f3 k1
      go_wp2_with fail
      refine bodyPost_ret (v := .tuple #[.agg (iC U xk), .agg (rkCells { P5 with codes := out } v (.slice A l2.length cap) (.slice none 0 0) (.slice none 0 0) (.slice none 0 0))]) ?_ rfl (by rw [HE.out]; exact F3.out)
      simp only [results, Tryz.results77]
      simp
      exact two_boxes (load_i_var F1.out) (rk_var F2.out)
  · have h0' : (xk.2 == 0) = false := by rw [beq_eq_false_iff_ne]; exact h0
    rw [RG.ls, if_neg (fun h => h0 h.1)] at hZ
    have HE := Lib.hid (FIN.out _ hZ.out)
    clear hZ FIN HX9' hO
    go_upto_region 25 with fail
    have H5 := hPB.out
    obtain ⟨f1, f2, f3⟩ := H5.fin
    have k1 := rk_one _ H5.own
    refine wp_fin (n0 := 2) (n1 := 3) (m0 := 4) (m1 := 5) (d0 := 105) (d1 := 106) (b0 := w.heap.size) (b1 := w.heap.size + 1) (c0 := w.heap.size + 2) (c1 := w.heap.size + 3) (by kernel_rfl) rfl rfl rfl rfl rfl rfl rfl rfl rfl rfl rfl rfl rfl rfl rfl rfl rfl (by kernel_rfl) (by kernel_rfl) (by kernel_rfl) (by kernel_rfl) (by kernel_rfl) (by kernel_rfl) (by kernel_rfl) (by simp) rfl rfl rfl rfl H5.box H5.pk H5.ri H5.rp (by omega) k1 ?_
    have F1 := Lib.hid f1; have F2 := Lib.hid f2; have F3 := Lib.hid f3
    clear f1 f2 f3 k1
    go_wp2_with fail
    refine bodyPost_ret (v := .tuple #[.agg (iC U xk), .agg (rkCells { P5 with codes := out } v (.slice A l2.length cap) (.slice none 0 0) (.slice none 0 0) (.slice none 0 0))]) ?_ rfl (by rw [HE.out]; exact F3.out)
    simp only [results, Tryz.results77]
    simp
    exact two_boxes (load_i_var F1.out) (rk_var F2.out)
end Go.Proofs.YtemfcaaoobjgkaaGreatDoor
namespace Go.Proofs.YtemfcaaoobjgkaaGreatDoor
open Go.RowKit
attribute [local go_sem ↓] Go.wp_at_zero Go.wp_at_succ
/-- What a callee hands on is handed on. -/
theorem PB.out {w W w1 : World} {U : ByteArray} {x y : Int × Int} {P R : Pk} {vc vp vw vs vf uc up uw us uf : Value} (h : PB w U x P vc vp vw vs vf W) (o : Own5R W.heap.size R uc up uw us uf w1) (b : Below W.heap.size W w1) :
    w1.heap[w.heap.size + 2]? = some (.cells (iC ⟨#[]⟩ (0, 0)) 111 (0, 0)) ∧ (w1.setRow (w.heap.size + 2) (iC U y)).heap[w.heap.size + 3]? = some (.cells (rkNil PK.zeroPk) 52 (0, 0)) ∧ (rkCells R uc up uw us uf).all (·.oneCell') = true ∧
    ((w1.setRow (w.heap.size + 2) (iC U y)).setRow (w.heap.size + 3) (rkCells R uc up uw us uf)).heap[w.heap.size + 2]? = some (.cells (iC U y) 111 (0, 0)) ∧
    ((w1.setRow (w.heap.size + 2) (iC U y)).setRow (w.heap.size + 3) (rkCells R uc up uw us uf)).heap[w.heap.size + 3]? = some (.cells (rkCells R uc up uw us uf) 52 (0, 0)) ∧
    GB w U (y, R) (.returned (.tuple #[.agg (iC U y), .agg (rkCells R uc up uw us uf)])) ((w1.setRow (w.heap.size + 2) (iC U y)).setRow (w.heap.size + 3) (rkCells R uc up uw us uf)) := by
  have d := h.next b
  have z := h.size
  have e2 : (w1.setRow (w.heap.size + 2) (iC U y)).heap[w.heap.size + 3]? = some (.cells (rkNil PK.zeroPk) 52 (0, 0)) := (setRow_other _ (by omega)).trans d.rp
  exact ⟨d.ri, e2, rk_one _ o, (setRow_other _ (by omega)).trans (setRow_heap d.ri), setRow_heap e2, _, _, _, _, _, rfl, ((o.setRow (by omega) _).setRow (by omega) _).base (by omega), below_setRow (below_setRow d.below (by omega) _) (by omega) _⟩
/-- Both answers, stored: what is handed out lies in another box. -/
theorem PB.finY {w W : World} {U : ByteArray} {x y : Int × Int} {P : Pk} {vc vp vw vs vf : Value} (h : PB w U x P vc vp vw vs vf W) : ((W.drew.setRow (w.heap.size + 2) (iC U y)).setRow (w.heap.size + 3) (rkCells P vc vp vw vs vf)).heap[w.heap.size + 2]? = some (.cells (iC U y) 111 (0, 0)) ∧
    ((W.drew.setRow (w.heap.size + 2) (iC U y)).setRow (w.heap.size + 3) (rkCells P vc vp vw vs vf)).heap[w.heap.size + 3]? = some (.cells (rkCells P vc vp vw vs vf) 52 (0, 0)) ∧
    GB w U (y, P) (.returned (.tuple #[.agg (iC U y), .agg (rkCells P vc vp vw vs vf)])) ((W.drew.setRow (w.heap.size + 2) (iC U y)).setRow (w.heap.size + 3) (rkCells P vc vp vw vs vf)) := by
  have d := h.next (below_drew W.heap.size W)
  have r1 : (W.drew.setRow (w.heap.size + 2) (iC U y)).heap[w.heap.size + 2]? = some (.cells (iC U y) 111 (0, 0)) := setRow_heap d.ri
  have r2 : (W.drew.setRow (w.heap.size + 2) (iC U y)).heap[w.heap.size + 3]? = some (.cells (rkNil PK.zeroPk) 52 (0, 0)) := (setRow_other _ (by omega)).trans d.rp
  exact ⟨(setRow_other _ (by omega)).trans r1, setRow_heap r2, _, _, _, _, _, rfl, ((d.own.setRow (by omega) _).setRow (by omega) _).base (by omega), below_setRow (below_setRow d.below (by omega) _) (by omega) _⟩
/-- A store into another box. -/
theorem PB.setG {w W : World} {U : ByteArray} {x : Int × Int} {P : Pk} (h : PB w U x P (.slice none 0 0) (.slice none 0 0) (.slice none 0 0) (.slice none 0 0) (.slice none 0 0) W) (hP : Bare P) {g : Nat} (hg : w.heap.size + 4 ≤ g) (cs : Array Value) :
    PB w U x P (.slice none 0 0) (.slice none 0 0) (.slice none 0 0) (.slice none 0 0) (.slice none 0 0) (W.setRow g cs) :=
  ⟨(setRow_other _ (by omega)).trans h.box, (setRow_other _ (by omega)).trans h.pk, (setRow_other _ (by omega)).trans h.ri, (setRow_other _ (by omega)).trans h.rp, hP.own _ _, below_setRow h.below (by omega) _⟩
theorem PB.setL {w W : World} {U : ByteArray} {x : Int × Int} {P : Pk} {vp : Value} (h : PB w U x P (.slice none 0 0) vp (.slice none 0 0) (.slice none 0 0) (.slice none 0 0) W) {g : Nat} (hg : w.heap.size + 4 ≤ g) (hv : vp.ownBlock ≠ some g) (j : Nat) (u : Value) :
    PB w U x P (.slice none 0 0) vp (.slice none 0 0) (.slice none 0 0) (.slice none 0 0) (W.setCell ⟨g, j, none⟩ u) :=
  ⟨(Below.heap_setCell _ _ _ _ (show w.heap.size ≠ g by omega)).trans h.box, (Below.heap_setCell _ _ _ _ (show w.heap.size + 1 ≠ g by omega)).trans h.pk, (Below.heap_setCell _ _ _ _ (show w.heap.size + 2 ≠ g by omega)).trans h.ri, (Below.heap_setCell _ _ _ _ (show w.heap.size + 3 ≠ g by omega)).trans h.rp,
    ⟨own_set h.own.codes (by simp [Value.ownBlock]), own_set h.own.props hv, own_set h.own.wprops (by simp [Value.ownBlock]), own_set h.own.subs (by simp [Value.ownBlock]), own_set h.own.filters (by simp [Value.ownBlock])⟩, h.below.setCell (p := ⟨g, j, none⟩) (by show w.heap.size ≤ g; omega) _⟩
/-- The place lies in what is read. -/
def InR (U : ByteArray) (x : Int × Int) : Prop := 0 ≤ x.1 ∧ x.1 ≤ (U.size : Int)
theorem rN_in {U : ByteArray} {x : Int × Int} (h : InR U x) (wd : Int) : InR U (RG.rN U wd x).1 := by
  obtain ⟨q, hq⟩ := Int.eq_ofNat_of_zero_le h.1
  unfold RG.rN
  split
  · exact h
  split
  · exact h
  · rename_i hc
    have hc' : (VP.rd U (q : Int) wd).2.2 = 0 := by rw [← hq]; exact Classical.byContradiction hc
    obtain ⟨f, e, -, le⟩ := PR.rd_ok U q wd hc'
    rw [hq, e]
    exact ⟨by show (0 : Int) ≤ (f : Int); omega, by show (f : Int) ≤ _; omega⟩
theorem rT_in {U : ByteArray} {x : Int × Int} (h : InR U x) : InR U (RG.rT U x).1 := by
  obtain ⟨q, hq⟩ := Int.eq_ofNat_of_zero_le h.1
  unfold RG.rT
  split
  · exact h
  split
  · exact h
  · rename_i hc
    have hc' : (TX.getT U (q : Int)).2.2 = 0 := by rw [← hq]; exact Classical.byContradiction hc
    obtain ⟨f, e, -, le⟩ := PR.getT_ok U q hc'
    rw [hq, e]
    exact ⟨by show (0 : Int) ≤ (f : Int); omega, by show (f : Int) ≤ _; omega⟩
theorem rI_in {U : ByteArray} {x : Int × Int} (h : InR U x) : InR U (RG.rI U x).1 := by
  unfold RG.rI
  dsimp only
  split
  · exact rN_in h 2
  · exact rN_in h 2
theorem pubI_in {U : ByteArray} {x : Int × Int} (h : InR U x) (q i : Int) : InR U (RG.pubI U q i x).1 := by
  unfold RG.pubI
  split
  · exact rI_in h
  · exact h
theorem rP_in {U : ByteArray} {x : Int × Int} (h : InR U x) (k : Int) : InR U (RG.rP U k x).1 := by
  obtain ⟨q, hq⟩ := Int.eq_ofNat_of_zero_le h.1
  unfold RG.rP
  split
  · exact h
  split
  · exact h
  split
  · rename_i hc _
    have hc' : (PR.getL U (q : Int)).2.2 = 0 := by rw [← hq]; exact PK.cm_zero (Classical.byContradiction hc)
    obtain ⟨f, a1, a2⟩ := PK.getL_at U q hc'
    rw [hq, a1]
    exact ⟨by show (0 : Int) ≤ (f : Int); omega, by show (f : Int) ≤ _; omega⟩
  · exact h
set_option linter.unusedVariables false in
set_option linter.unusedSimpArgs false in
set_option maxRecDepth 100000 in
set_option maxHeartbeats 8000000 in
theorem dgetbody_1 (U : ByteArray) (hU : U.size ≤ 140737488351232) (x : Int × Int) (P : Pk) (hP : Bare P) (hk : P.kind = 1) (w : World) :
    Calls Tryz.prog 41 #[.agg (iC U x), .agg (rkNil P)] w (GB w U (RG.conn U P x)) := by
  have hN : U.size ≤ maxLen := by unfold maxLen; omega
  have HP0 := Lib.hid hP
  obtain ⟨X9, hX9⟩ : ∃ y, y = RG.conn U P x := ⟨_, rfl⟩
  rw [← hX9]
  have C1 : Hid (∀ W, Calls Tryz.prog 70 #[.agg (iC U x), .agg (rkNil P)] W (GB W U X9)) := Lib.hid (fun W => by rw [hX9]; exact dgetconn_any U hU x P hP W)
  have HK := Lib.hid hk
  clear hk hX9
  go_enter Tryz.func41, Tryz.ntmps41
  go_upto_region 1 with fail
  change Code.wp _ _ _ _ ((((w.alloc (.cells (iC U x) 111)).alloc (.cells (rkNil P) 52)).alloc (.cells (iC ⟨#[]⟩ (0, 0)) 111)).alloc (.cells (rkNil PK.zeroPk) 52))
  have H := PB.start w U x P hP
  generalize ((((w.alloc (.cells (iC U x) 111)).alloc (.cells (rkNil P) 52)).alloc (.cells (iC ⟨#[]⟩ (0, 0)) 111)).alloc (.cells (rkNil PK.zeroPk) 52)) = W at *
  have HH := Lib.hid H
  clear H
  have z0 := (cell_heap (i := 0) HH.out.pk).trans (show _ = some (.int .i64 1) from by rw [← HK.out]; rfl)
  go_upto_region 3 with fail
  clear z0
  go_wp2_with (first
    | refine wpl_load_i (by rfl) (.tmp 2) (by rfl) w.heap.size (by rfl) HH.out.box ?_
    | refine wpl_load_r (by rfl) (.tmp 3) (by rfl) (w.heap.size + 1) (by rfl) HH.out.pk ?_)
  refine (C1.out _).mono ?_
  rintro e v1 ⟨vc, vp, vw, vs, vf, rfl, o1, b1⟩
  obtain ⟨y9, R9⟩ := X9
  dsimp only at o1 ⊢
  obtain ⟨f1, f2, f3, f4, f5, f6⟩ := HH.out.out (y := y9) o1 b1
  have F1 := Lib.hid f1; have F2 := Lib.hid f2; have F3 := Lib.hid f3; have F4 := Lib.hid f4; have F5 := Lib.hid f5; have F6 := Lib.hid f6
  clear f1 f2 f3 f4 f5 f6 o1 b1 HH
  go_wp2_with (first
    | refine wpList_store_row (by rfl) 111 (.tmp 4) (.tmp 27) (by rfl) (w.heap.size + 2) (iC U y9) (by rfl) (by rfl) 111 (iC ⟨#[]⟩ (0, 0)) F1.out i_info rfl (iC_one _ _) ?_
    | refine wpList_store_row (by rfl) 52 (.tmp 5) (.tmp 28) (by rfl) (w.heap.size + 3) (rkCells R9 vc vp vw vs vf) (by rfl) (by rfl) 52 (rkNil PK.zeroPk) F2.out rk_info rfl F3.out ?_)
  refine bodyPost_ret (v := .tuple #[.agg (iC U y9), .agg (rkCells R9 vc vp vw vs vf)]) ?_ rfl F6.out
  simp only [results, Tryz.results41]
  simp [Act.put]
  exact two_boxes (load_i_var F4.out) (rk_var F5.out)
set_option linter.unusedVariables false in
set_option linter.unusedSimpArgs false in
set_option maxRecDepth 100000 in
set_option maxHeartbeats 8000000 in
theorem dgetbody_14 (U : ByteArray) (hU : U.size ≤ 140737488351232) (x : Int × Int) (P : Pk) (hP : Bare P) (hk : P.kind = 14) (w : World) :
    Calls Tryz.prog 41 #[.agg (iC U x), .agg (rkNil P)] w (GB w U (RG.end1 U P x)) := by
  have hN : U.size ≤ maxLen := by unfold maxLen; omega
  have HP0 := Lib.hid hP
  obtain ⟨X9, hX9⟩ : ∃ y, y = RG.end1 U P x := ⟨_, rfl⟩
  rw [← hX9]
  have C1 : Hid (∀ W, Calls Tryz.prog 76 #[.agg (iC U x), .agg (rkNil P)] W (GB W U X9)) := Lib.hid (fun W => by rw [hX9]; exact dgetend_any U hU x P hP W)
  have HK := Lib.hid hk
  clear hk hX9
  go_enter Tryz.func41, Tryz.ntmps41
  go_upto_region 1 with fail
  change Code.wp _ _ _ _ ((((w.alloc (.cells (iC U x) 111)).alloc (.cells (rkNil P) 52)).alloc (.cells (iC ⟨#[]⟩ (0, 0)) 111)).alloc (.cells (rkNil PK.zeroPk) 52))
  have H := PB.start w U x P hP
  generalize ((((w.alloc (.cells (iC U x) 111)).alloc (.cells (rkNil P) 52)).alloc (.cells (iC ⟨#[]⟩ (0, 0)) 111)).alloc (.cells (rkNil PK.zeroPk) 52)) = W at *
  have HH := Lib.hid H
  clear H
  have z0 := (cell_heap (i := 0) HH.out.pk).trans (show _ = some (.int .i64 14) from by rw [← HK.out]; rfl)
  go_upto_region 35 with fail
  clear z0
  go_wp2_with (first
    | refine wpl_load_i (by rfl) (.tmp 2) (by rfl) w.heap.size (by rfl) HH.out.box ?_
    | refine wpl_load_r (by rfl) (.tmp 3) (by rfl) (w.heap.size + 1) (by rfl) HH.out.pk ?_)
  refine (C1.out _).mono ?_
  rintro e v1 ⟨vc, vp, vw, vs, vf, rfl, o1, b1⟩
  obtain ⟨y9, R9⟩ := X9
  dsimp only at o1 ⊢
  obtain ⟨f1, f2, f3, f4, f5, f6⟩ := HH.out.out (y := y9) o1 b1
  have F1 := Lib.hid f1; have F2 := Lib.hid f2; have F3 := Lib.hid f3; have F4 := Lib.hid f4; have F5 := Lib.hid f5; have F6 := Lib.hid f6
  clear f1 f2 f3 f4 f5 f6 o1 b1 HH
  go_wp2_with (first
    | refine wpList_store_row (by rfl) 111 (.tmp 4) (.tmp 121) (by rfl) (w.heap.size + 2) (iC U y9) (by rfl) (by rfl) 111 (iC ⟨#[]⟩ (0, 0)) F1.out i_info rfl (iC_one _ _) ?_
    | refine wpList_store_row (by rfl) 52 (.tmp 5) (.tmp 122) (by rfl) (w.heap.size + 3) (rkCells R9 vc vp vw vs vf) (by rfl) (by rfl) 52 (rkNil PK.zeroPk) F2.out rk_info rfl F3.out ?_)
  refine bodyPost_ret (v := .tuple #[.agg (iC U y9), .agg (rkCells R9 vc vp vw vs vf)]) ?_ rfl F6.out
  simp only [results, Tryz.results41]
  simp [Act.put]
  exact two_boxes (load_i_var F4.out) (rk_var F5.out)
set_option linter.unusedVariables false in
set_option linter.unusedSimpArgs false in
set_option maxRecDepth 100000 in
set_option maxHeartbeats 8000000 in
theorem dgetbody_15 (U : ByteArray) (hU : U.size ≤ 140737488351232) (x : Int × Int) (P : Pk) (hP : Bare P) (hk : P.kind = 15) (w : World) :
    Calls Tryz.prog 41 #[.agg (iC U x), .agg (rkNil P)] w (GB w U (RG.end1 U P x)) := by
  have hN : U.size ≤ maxLen := by unfold maxLen; omega
  have HP0 := Lib.hid hP
  obtain ⟨X9, hX9⟩ : ∃ y, y = RG.end1 U P x := ⟨_, rfl⟩
  rw [← hX9]
  have C1 : Hid (∀ W, Calls Tryz.prog 76 #[.agg (iC U x), .agg (rkNil P)] W (GB W U X9)) := Lib.hid (fun W => by rw [hX9]; exact dgetend_any U hU x P hP W)
  have HK := Lib.hid hk
  clear hk hX9
  go_enter Tryz.func41, Tryz.ntmps41
  go_upto_region 1 with fail
  change Code.wp _ _ _ _ ((((w.alloc (.cells (iC U x) 111)).alloc (.cells (rkNil P) 52)).alloc (.cells (iC ⟨#[]⟩ (0, 0)) 111)).alloc (.cells (rkNil PK.zeroPk) 52))
  have H := PB.start w U x P hP
  generalize ((((w.alloc (.cells (iC U x) 111)).alloc (.cells (rkNil P) 52)).alloc (.cells (iC ⟨#[]⟩ (0, 0)) 111)).alloc (.cells (rkNil PK.zeroPk) 52)) = W at *
  have HH := Lib.hid H
  clear H
  have z0 := (cell_heap (i := 0) HH.out.pk).trans (show _ = some (.int .i64 15) from by rw [← HK.out]; rfl)
  go_upto_region 35 with fail
  clear z0
  go_wp2_with (first
    | refine wpl_load_i (by rfl) (.tmp 2) (by rfl) w.heap.size (by rfl) HH.out.box ?_
    | refine wpl_load_r (by rfl) (.tmp 3) (by rfl) (w.heap.size + 1) (by rfl) HH.out.pk ?_)
  refine (C1.out _).mono ?_
  rintro e v1 ⟨vc, vp, vw, vs, vf, rfl, o1, b1⟩
  obtain ⟨y9, R9⟩ := X9
  dsimp only at o1 ⊢
  obtain ⟨f1, f2, f3, f4, f5, f6⟩ := HH.out.out (y := y9) o1 b1
  have F1 := Lib.hid f1; have F2 := Lib.hid f2; have F3 := Lib.hid f3; have F4 := Lib.hid f4; have F5 := Lib.hid f5; have F6 := Lib.hid f6
  clear f1 f2 f3 f4 f5 f6 o1 b1 HH
  go_wp2_with (first
    | refine wpList_store_row (by rfl) 111 (.tmp 4) (.tmp 121) (by rfl) (w.heap.size + 2) (iC U y9) (by rfl) (by rfl) 111 (iC ⟨#[]⟩ (0, 0)) F1.out i_info rfl (iC_one _ _) ?_
    | refine wpList_store_row (by rfl) 52 (.tmp 5) (.tmp 122) (by rfl) (w.heap.size + 3) (rkCells R9 vc vp vw vs vf) (by rfl) (by rfl) 52 (rkNil PK.zeroPk) F2.out rk_info rfl F3.out ?_)
  refine bodyPost_ret (v := .tuple #[.agg (iC U y9), .agg (rkCells R9 vc vp vw vs vf)]) ?_ rfl F6.out
  simp only [results, Tryz.results41]
  simp [Act.put]
  exact two_boxes (load_i_var F4.out) (rk_var F5.out)
set_option linter.unusedVariables false in
set_option linter.unusedSimpArgs false in
set_option maxRecDepth 100000 in
set_option maxHeartbeats 8000000 in
theorem dgetbody_8 (U : ByteArray) (hU : U.size ≤ 140737488351232) (x : Int × Int) (P : Pk) (hP : Bare P) (hk : P.kind = 8) (w : World) :
    Calls Tryz.prog 41 #[.agg (iC U x), .agg (rkNil P)] w (GB w U (RG.lists U P x)) := by
  have hN : U.size ≤ maxLen := by unfold maxLen; omega
  have HP0 := Lib.hid hP
  obtain ⟨X9, hX9⟩ : ∃ y, y = RG.lists U P x := ⟨_, rfl⟩
  rw [← hX9]
  have C1 : Hid (∀ W, Calls Tryz.prog 77 #[.agg (iC U x), .agg (rkNil P)] W (GB W U X9)) := Lib.hid (fun W => by rw [hX9]; exact dgetlists_subs U hU x P hP hk W)
  have HK := Lib.hid hk
  clear hk hX9
  go_enter Tryz.func41, Tryz.ntmps41
  go_upto_region 1 with fail
  change Code.wp _ _ _ _ ((((w.alloc (.cells (iC U x) 111)).alloc (.cells (rkNil P) 52)).alloc (.cells (iC ⟨#[]⟩ (0, 0)) 111)).alloc (.cells (rkNil PK.zeroPk) 52))
  have H := PB.start w U x P hP
  generalize ((((w.alloc (.cells (iC U x) 111)).alloc (.cells (rkNil P) 52)).alloc (.cells (iC ⟨#[]⟩ (0, 0)) 111)).alloc (.cells (rkNil PK.zeroPk) 52)) = W at *
  have HH := Lib.hid H
  clear H
  have z0 := (cell_heap (i := 0) HH.out.pk).trans (show _ = some (.int .i64 8) from by rw [← HK.out]; rfl)
  go_upto_region 40 with fail
  clear z0
  go_wp2_with (first
    | refine wpl_load_i (by rfl) (.tmp 2) (by rfl) w.heap.size (by rfl) HH.out.box ?_
    | refine wpl_load_r (by rfl) (.tmp 3) (by rfl) (w.heap.size + 1) (by rfl) HH.out.pk ?_)
  refine (C1.out _).mono ?_
  rintro e v1 ⟨vc, vp, vw, vs, vf, rfl, o1, b1⟩
  obtain ⟨y9, R9⟩ := X9
  dsimp only at o1 ⊢
  obtain ⟨f1, f2, f3, f4, f5, f6⟩ := HH.out.out (y := y9) o1 b1
  have F1 := Lib.hid f1; have F2 := Lib.hid f2; have F3 := Lib.hid f3; have F4 := Lib.hid f4; have F5 := Lib.hid f5; have F6 := Lib.hid f6
  clear f1 f2 f3 f4 f5 f6 o1 b1 HH
  go_wp2_with (first
    | refine wpList_store_row (by rfl) 111 (.tmp 4) (.tmp 131) (by rfl) (w.heap.size + 2) (iC U y9) (by rfl) (by rfl) 111 (iC ⟨#[]⟩ (0, 0)) F1.out i_info rfl (iC_one _ _) ?_
    | refine wpList_store_row (by rfl) 52 (.tmp 5) (.tmp 132) (by rfl) (w.heap.size + 3) (rkCells R9 vc vp vw vs vf) (by rfl) (by rfl) 52 (rkNil PK.zeroPk) F2.out rk_info rfl F3.out ?_)
  refine bodyPost_ret (v := .tuple #[.agg (iC U y9), .agg (rkCells R9 vc vp vw vs vf)]) ?_ rfl F6.out
  simp only [results, Tryz.results41]
  simp [Act.put]
  exact two_boxes (load_i_var F4.out) (rk_var F5.out)
set_option linter.unusedVariables false in
set_option linter.unusedSimpArgs false in
set_option maxRecDepth 100000 in
set_option maxHeartbeats 8000000 in
theorem dgetbody_10 (U : ByteArray) (hU : U.size ≤ 140737488351232) (x : Int × Int) (P : Pk) (hP : Bare P) (hk : P.kind = 10) (w : World) :
    Calls Tryz.prog 41 #[.agg (iC U x), .agg (rkNil P)] w (GB w U (RG.lists U P x)) := by
  have hN : U.size ≤ maxLen := by unfold maxLen; omega
  have HP0 := Lib.hid hP
  obtain ⟨X9, hX9⟩ : ∃ y, y = RG.lists U P x := ⟨_, rfl⟩
  rw [← hX9]
  have C1 : Hid (∀ W, Calls Tryz.prog 77 #[.agg (iC U x), .agg (rkNil P)] W (GB W U X9)) := Lib.hid (fun W => by rw [hX9]; exact dgetlists_filters U hU x P hP hk W)
  have HK := Lib.hid hk
  clear hk hX9
  go_enter Tryz.func41, Tryz.ntmps41
  go_upto_region 1 with fail
  change Code.wp _ _ _ _ ((((w.alloc (.cells (iC U x) 111)).alloc (.cells (rkNil P) 52)).alloc (.cells (iC ⟨#[]⟩ (0, 0)) 111)).alloc (.cells (rkNil PK.zeroPk) 52))
  have H := PB.start w U x P hP
  generalize ((((w.alloc (.cells (iC U x) 111)).alloc (.cells (rkNil P) 52)).alloc (.cells (iC ⟨#[]⟩ (0, 0)) 111)).alloc (.cells (rkNil PK.zeroPk) 52)) = W at *
  have HH := Lib.hid H
  clear H
  have z0 := (cell_heap (i := 0) HH.out.pk).trans (show _ = some (.int .i64 10) from by rw [← HK.out]; rfl)
  go_upto_region 40 with fail
  clear z0
  go_wp2_with (first
    | refine wpl_load_i (by rfl) (.tmp 2) (by rfl) w.heap.size (by rfl) HH.out.box ?_
    | refine wpl_load_r (by rfl) (.tmp 3) (by rfl) (w.heap.size + 1) (by rfl) HH.out.pk ?_)
  refine (C1.out _).mono ?_
  rintro e v1 ⟨vc, vp, vw, vs, vf, rfl, o1, b1⟩
  obtain ⟨y9, R9⟩ := X9
  dsimp only at o1 ⊢
  obtain ⟨f1, f2, f3, f4, f5, f6⟩ := HH.out.out (y := y9) o1 b1
  have F1 := Lib.hid f1; have F2 := Lib.hid f2; have F3 := Lib.hid f3; have F4 := Lib.hid f4; have F5 := Lib.hid f5; have F6 := Lib.hid f6
  clear f1 f2 f3 f4 f5 f6 o1 b1 HH
  go_wp2_with (first
    | refine wpList_store_row (by rfl) 111 (.tmp 4) (.tmp 131) (by rfl) (w.heap.size + 2) (iC U y9) (by rfl) (by rfl) 111 (iC ⟨#[]⟩ (0, 0)) F1.out i_info rfl (iC_one _ _) ?_
    | refine wpList_store_row (by rfl) 52 (.tmp 5) (.tmp 132) (by rfl) (w.heap.size + 3) (rkCells R9 vc vp vw vs vf) (by rfl) (by rfl) 52 (rkNil PK.zeroPk) F2.out rk_info rfl F3.out ?_)
  refine bodyPost_ret (v := .tuple #[.agg (iC U y9), .agg (rkCells R9 vc vp vw vs vf)]) ?_ rfl F6.out
  simp only [results, Tryz.results41]
  simp [Act.put]
  exact two_boxes (load_i_var F4.out) (rk_var F5.out)
set_option linter.unusedVariables false in
set_option linter.unusedSimpArgs false in
set_option maxRecDepth 100000 in
set_option maxHeartbeats 8000000 in
theorem dgetbody_9 (U : ByteArray) (hU : U.size ≤ 140737488351232) (x : Int × Int) (P : Pk) (hP : Bare P) (hk : P.kind = 9) (w : World) :
    Calls Tryz.prog 41 #[.agg (iC U x), .agg (rkNil P)] w (GB w U (RG.lists U P x)) := by
  have hN : U.size ≤ maxLen := by unfold maxLen; omega
  have HP0 := Lib.hid hP
  obtain ⟨X9, hX9⟩ : ∃ y, y = RG.lists U P x := ⟨_, rfl⟩
  rw [← hX9]
  have C1 : Hid (∀ W, Calls Tryz.prog 77 #[.agg (iC U x), .agg (rkNil P)] W (GB W U X9)) := Lib.hid (fun W => by rw [hX9]; exact dgetlists_codes U hU x P hP (by omega) (by omega) W)
  have HK := Lib.hid hk
  clear hk hX9
  go_enter Tryz.func41, Tryz.ntmps41
  go_upto_region 1 with fail
  change Code.wp _ _ _ _ ((((w.alloc (.cells (iC U x) 111)).alloc (.cells (rkNil P) 52)).alloc (.cells (iC ⟨#[]⟩ (0, 0)) 111)).alloc (.cells (rkNil PK.zeroPk) 52))
  have H := PB.start w U x P hP
  generalize ((((w.alloc (.cells (iC U x) 111)).alloc (.cells (rkNil P) 52)).alloc (.cells (iC ⟨#[]⟩ (0, 0)) 111)).alloc (.cells (rkNil PK.zeroPk) 52)) = W at *
  have HH := Lib.hid H
  clear H
  have z0 := (cell_heap (i := 0) HH.out.pk).trans (show _ = some (.int .i64 9) from by rw [← HK.out]; rfl)
  go_upto_region 40 with fail
  clear z0
  go_wp2_with (first
    | refine wpl_load_i (by rfl) (.tmp 2) (by rfl) w.heap.size (by rfl) HH.out.box ?_
    | refine wpl_load_r (by rfl) (.tmp 3) (by rfl) (w.heap.size + 1) (by rfl) HH.out.pk ?_)
  refine (C1.out _).mono ?_
  rintro e v1 ⟨vc, vp, vw, vs, vf, rfl, o1, b1⟩
  obtain ⟨y9, R9⟩ := X9
  dsimp only at o1 ⊢
  obtain ⟨f1, f2, f3, f4, f5, f6⟩ := HH.out.out (y := y9) o1 b1
  have F1 := Lib.hid f1; have F2 := Lib.hid f2; have F3 := Lib.hid f3; have F4 := Lib.hid f4; have F5 := Lib.hid f5; have F6 := Lib.hid f6
  clear f1 f2 f3 f4 f5 f6 o1 b1 HH
  go_wp2_with (first
    | refine wpList_store_row (by rfl) 111 (.tmp 4) (.tmp 131) (by rfl) (w.heap.size + 2) (iC U y9) (by rfl) (by rfl) 111 (iC ⟨#[]⟩ (0, 0)) F1.out i_info rfl (iC_one _ _) ?_
    | refine wpList_store_row (by rfl) 52 (.tmp 5) (.tmp 132) (by rfl) (w.heap.size + 3) (rkCells R9 vc vp vw vs vf) (by rfl) (by rfl) 52 (rkNil PK.zeroPk) F2.out rk_info rfl F3.out ?_)
  refine bodyPost_ret (v := .tuple #[.agg (iC U y9), .agg (rkCells R9 vc vp vw vs vf)]) ?_ rfl F6.out
  simp only [results, Tryz.results41]
  simp [Act.put]
  exact two_boxes (load_i_var F4.out) (rk_var F5.out)
set_option linter.unusedVariables false in
set_option linter.unusedSimpArgs false in
set_option maxRecDepth 100000 in
set_option maxHeartbeats 8000000 in
theorem dgetbody_11 (U : ByteArray) (hU : U.size ≤ 140737488351232) (x : Int × Int) (P : Pk) (hP : Bare P) (hk : P.kind = 11) (w : World) :
    Calls Tryz.prog 41 #[.agg (iC U x), .agg (rkNil P)] w (GB w U (RG.lists U P x)) := by
  have hN : U.size ≤ maxLen := by unfold maxLen; omega
  have HP0 := Lib.hid hP
  obtain ⟨X9, hX9⟩ : ∃ y, y = RG.lists U P x := ⟨_, rfl⟩
  rw [← hX9]
  have C1 : Hid (∀ W, Calls Tryz.prog 77 #[.agg (iC U x), .agg (rkNil P)] W (GB W U X9)) := Lib.hid (fun W => by rw [hX9]; exact dgetlists_codes U hU x P hP (by omega) (by omega) W)
  have HK := Lib.hid hk
  clear hk hX9
  go_enter Tryz.func41, Tryz.ntmps41
  go_upto_region 1 with fail
  change Code.wp _ _ _ _ ((((w.alloc (.cells (iC U x) 111)).alloc (.cells (rkNil P) 52)).alloc (.cells (iC ⟨#[]⟩ (0, 0)) 111)).alloc (.cells (rkNil PK.zeroPk) 52))
  have H := PB.start w U x P hP
  generalize ((((w.alloc (.cells (iC U x) 111)).alloc (.cells (rkNil P) 52)).alloc (.cells (iC ⟨#[]⟩ (0, 0)) 111)).alloc (.cells (rkNil PK.zeroPk) 52)) = W at *
  have HH := Lib.hid H
  clear H
  have z0 := (cell_heap (i := 0) HH.out.pk).trans (show _ = some (.int .i64 11) from by rw [← HK.out]; rfl)
  go_upto_region 40 with fail
  clear z0
  go_wp2_with (first
    | refine wpl_load_i (by rfl) (.tmp 2) (by rfl) w.heap.size (by rfl) HH.out.box ?_
    | refine wpl_load_r (by rfl) (.tmp 3) (by rfl) (w.heap.size + 1) (by rfl) HH.out.pk ?_)
  refine (C1.out _).mono ?_
  rintro e v1 ⟨vc, vp, vw, vs, vf, rfl, o1, b1⟩
  obtain ⟨y9, R9⟩ := X9
  dsimp only at o1 ⊢
  obtain ⟨f1, f2, f3, f4, f5, f6⟩ := HH.out.out (y := y9) o1 b1
  have F1 := Lib.hid f1; have F2 := Lib.hid f2; have F3 := Lib.hid f3; have F4 := Lib.hid f4; have F5 := Lib.hid f5; have F6 := Lib.hid f6
  clear f1 f2 f3 f4 f5 f6 o1 b1 HH
  go_wp2_with (first
    | refine wpList_store_row (by rfl) 111 (.tmp 4) (.tmp 131) (by rfl) (w.heap.size + 2) (iC U y9) (by rfl) (by rfl) 111 (iC ⟨#[]⟩ (0, 0)) F1.out i_info rfl (iC_one _ _) ?_
    | refine wpList_store_row (by rfl) 52 (.tmp 5) (.tmp 132) (by rfl) (w.heap.size + 3) (rkCells R9 vc vp vw vs vf) (by rfl) (by rfl) 52 (rkNil PK.zeroPk) F2.out rk_info rfl F3.out ?_)
  refine bodyPost_ret (v := .tuple #[.agg (iC U y9), .agg (rkCells R9 vc vp vw vs vf)]) ?_ rfl F6.out
  simp only [results, Tryz.results41]
  simp [Act.put]
  exact two_boxes (load_i_var F4.out) (rk_var F5.out)
set_option linter.unusedVariables false in
set_option linter.unusedSimpArgs false in
set_option maxRecDepth 100000 in
set_option maxHeartbeats 8000000 in
theorem dgetbody_4 (U : ByteArray) (hU : U.size ≤ 140737488351232) (x : Int × Int) (P : Pk) (hP : Bare P) (hk : P.kind = 4) (w : World) :
    Calls Tryz.prog 41 #[.agg (iC U x), .agg (rkNil P)] w (GB w U (RG.end1 U { P with id := (RG.rI U x).2 } (RG.rI U x).1)) := by
  have hN : U.size ≤ maxLen := by unfold maxLen; omega
  have HP0 := Lib.hid hP
  obtain ⟨X9, hX9⟩ : ∃ y, y = RG.end1 U { P with id := (RG.rI U x).2 } (RG.rI U x).1 := ⟨_, rfl⟩
  rw [← hX9]
  have C1 := Lib.hid (dreadid_any U hN x)
  generalize RG.rI U x = T1 at *
  obtain ⟨x1, n1⟩ := T1
  dsimp only at hX9 C1
  obtain ⟨P1, hP1⟩ : ∃ y : Pk, y = { P with id := n1 } := ⟨_, rfl⟩
  rw [← hP1] at hX9
  have C2 : Hid (∀ W, Calls Tryz.prog 76 #[.agg (iC U x1), .agg (rkNil P1)] W (GB W U X9)) := Lib.hid (fun W => by rw [hX9]; exact dgetend_any U hU x1 P1 (by rw [hP1]; exact ⟨hP.code, hP.codes, hP.props, hP.wprops, hP.subs, hP.filters⟩) W)
  have HK := Lib.hid hk; have HP1 := Lib.hid hP1
  clear hk hX9 hP1
  go_enter Tryz.func41, Tryz.ntmps41
  go_upto_region 1 with fail
  change Code.wp _ _ _ _ ((((w.alloc (.cells (iC U x) 111)).alloc (.cells (rkNil P) 52)).alloc (.cells (iC ⟨#[]⟩ (0, 0)) 111)).alloc (.cells (rkNil PK.zeroPk) 52))
  have H := PB.start w U x P hP
  generalize ((((w.alloc (.cells (iC U x) 111)).alloc (.cells (rkNil P) 52)).alloc (.cells (iC ⟨#[]⟩ (0, 0)) 111)).alloc (.cells (rkNil PK.zeroPk) 52)) = W at *
  have HH := Lib.hid H
  clear H
  have z0 := (cell_heap (i := 0) HH.out.pk).trans (show _ = some (.int .i64 4) from by rw [← HK.out]; rfl)
  go_upto_region 30 with fail
  clear z0
  go_wp2_with (refine wpl_load_i (by rfl) (.tmp 2) (by rfl) w.heap.size (by rfl) HH.out.box ?_)
  refine (C1.out _).mono ?_
  rintro e v1 ⟨rfl, b1⟩
  have H1 := HH.out.next b1
  have hga : w.heap.size + 4 ≤ v1.heap.size := H1.size
  skip
  have H2 := Lib.hid (H1.next (nb_below v1 U x1))
  have G2 := Lib.hid (nb_heap v1 U x1)
  have A2 := Lib.hid (heap_alloc_new v1 (.cells (iC ⟨#[]⟩ (0, 0)) 111))
  clear HH b1 H1 C1
  go_upto_region 31 with (refine wpList_store_row (by rfl) 111 (.tmp 18) (.tmp 106) (by rfl) v1.heap.size (iC U x1) (by rfl) (by rfl) 111 (iC ⟨#[]⟩ (0, 0)) A2.out i_info rfl (iC_one _ _) ?_)
  clear A2
  change Code.wp _ _ _ _ (nb v1 U x1)
  generalize nb v1 U x1 = Wa at *
  generalize v1.heap.size = ga at *
  have HH := H2
  have GA := G2
  clear H2 G2
  have yc := (cell_heap (i := 4) HH.out.pk).trans (show _ = some (.int .i64 P.id) from rfl)
  have yf := frozen_heap (i := 4) HH.out.pk
  have H4 := Lib.hid (show PB w U x P1 (.slice none 0 0) (.slice none 0 0) (.slice none 0 0) (.slice none 0 0) (.slice none 0 0) _ from by rw [HP1.out]; exact HH.out.setF 4 (.int .i64 n1) { P with id := n1 } rfl rfl rfl rfl rfl rfl)
  have GA4 : Hid ((Wa.setCell ⟨w.heap.size + 1, 4, none⟩ (.int .i64 n1)).heap[ga]? = some (.cells (iC U x1) 111 (0, 0))) := Lib.hid ((Below.heap_setCell _ _ _ _ (show ga ≠ w.heap.size + 1 by omega)).trans GA.out)
  clear HH GA
  go_upto_region 32 with fail
  change Code.wp _ _ _ _ (Wa.setCell ⟨w.heap.size + 1, 4, none⟩ (.int .i64 n1))
  generalize Wa.setCell ⟨w.heap.size + 1, 4, none⟩ (.int .i64 n1) = Wb at *
  have HH := H4
  clear H4 yc yf
  go_wp2_with (first
    | refine wpl_load_i (by rfl) (.tmp 18) (by rfl) ga (by rfl) GA4.out ?_
    | refine wpl_load_r (by rfl) (.tmp 3) (by rfl) (w.heap.size + 1) (by rfl) HH.out.pk ?_)
  refine (C2.out _).mono ?_
  rintro e v1 ⟨vc, vp, vw, vs, vf, rfl, o1, b1⟩
  obtain ⟨y9, R9⟩ := X9
  dsimp only at o1 ⊢
  obtain ⟨f1, f2, f3, f4, f5, f6⟩ := HH.out.out (y := y9) o1 b1
  have F1 := Lib.hid f1; have F2 := Lib.hid f2; have F3 := Lib.hid f3; have F4 := Lib.hid f4; have F5 := Lib.hid f5; have F6 := Lib.hid f6
  clear f1 f2 f3 f4 f5 f6 o1 b1 HH
  go_wp2_with (first
    | refine wpList_store_row (by rfl) 111 (.tmp 4) (.tmp 113) (by rfl) (w.heap.size + 2) (iC U y9) (by rfl) (by rfl) 111 (iC ⟨#[]⟩ (0, 0)) F1.out i_info rfl (iC_one _ _) ?_
    | refine wpList_store_row (by rfl) 52 (.tmp 5) (.tmp 114) (by rfl) (w.heap.size + 3) (rkCells R9 vc vp vw vs vf) (by rfl) (by rfl) 52 (rkNil PK.zeroPk) F2.out rk_info rfl F3.out ?_)
  refine bodyPost_ret (v := .tuple #[.agg (iC U y9), .agg (rkCells R9 vc vp vw vs vf)]) ?_ rfl F6.out
  simp only [results, Tryz.results41]
  simp [Act.put]
  exact two_boxes (load_i_var F4.out) (rk_var F5.out)
set_option linter.unusedVariables false in
set_option linter.unusedSimpArgs false in
set_option maxRecDepth 100000 in
set_option maxHeartbeats 8000000 in
theorem dgetbody_5 (U : ByteArray) (hU : U.size ≤ 140737488351232) (x : Int × Int) (P : Pk) (hP : Bare P) (hk : P.kind = 5) (w : World) :
    Calls Tryz.prog 41 #[.agg (iC U x), .agg (rkNil P)] w (GB w U (RG.end1 U { P with id := (RG.rI U x).2 } (RG.rI U x).1)) := by
  have hN : U.size ≤ maxLen := by unfold maxLen; omega
  have HP0 := Lib.hid hP
  obtain ⟨X9, hX9⟩ : ∃ y, y = RG.end1 U { P with id := (RG.rI U x).2 } (RG.rI U x).1 := ⟨_, rfl⟩
  rw [← hX9]
  have C1 := Lib.hid (dreadid_any U hN x)
  generalize RG.rI U x = T1 at *
  obtain ⟨x1, n1⟩ := T1
  dsimp only at hX9 C1
  obtain ⟨P1, hP1⟩ : ∃ y : Pk, y = { P with id := n1 } := ⟨_, rfl⟩
  rw [← hP1] at hX9
  have C2 : Hid (∀ W, Calls Tryz.prog 76 #[.agg (iC U x1), .agg (rkNil P1)] W (GB W U X9)) := Lib.hid (fun W => by rw [hX9]; exact dgetend_any U hU x1 P1 (by rw [hP1]; exact ⟨hP.code, hP.codes, hP.props, hP.wprops, hP.subs, hP.filters⟩) W)
  have HK := Lib.hid hk; have HP1 := Lib.hid hP1
  clear hk hX9 hP1
  go_enter Tryz.func41, Tryz.ntmps41
  go_upto_region 1 with fail
  change Code.wp _ _ _ _ ((((w.alloc (.cells (iC U x) 111)).alloc (.cells (rkNil P) 52)).alloc (.cells (iC ⟨#[]⟩ (0, 0)) 111)).alloc (.cells (rkNil PK.zeroPk) 52))
  have H := PB.start w U x P hP
  generalize ((((w.alloc (.cells (iC U x) 111)).alloc (.cells (rkNil P) 52)).alloc (.cells (iC ⟨#[]⟩ (0, 0)) 111)).alloc (.cells (rkNil PK.zeroPk) 52)) = W at *
  have HH := Lib.hid H
  clear H
  have z0 := (cell_heap (i := 0) HH.out.pk).trans (show _ = some (.int .i64 5) from by rw [← HK.out]; rfl)
  go_upto_region 30 with fail
  clear z0
  go_wp2_with (refine wpl_load_i (by rfl) (.tmp 2) (by rfl) w.heap.size (by rfl) HH.out.box ?_)
  refine (C1.out _).mono ?_
  rintro e v1 ⟨rfl, b1⟩
  have H1 := HH.out.next b1
  have hga : w.heap.size + 4 ≤ v1.heap.size := H1.size
  skip
  have H2 := Lib.hid (H1.next (nb_below v1 U x1))
  have G2 := Lib.hid (nb_heap v1 U x1)
  have A2 := Lib.hid (heap_alloc_new v1 (.cells (iC ⟨#[]⟩ (0, 0)) 111))
  clear HH b1 H1 C1
  go_upto_region 31 with (refine wpList_store_row (by rfl) 111 (.tmp 18) (.tmp 106) (by rfl) v1.heap.size (iC U x1) (by rfl) (by rfl) 111 (iC ⟨#[]⟩ (0, 0)) A2.out i_info rfl (iC_one _ _) ?_)
  clear A2
  change Code.wp _ _ _ _ (nb v1 U x1)
  generalize nb v1 U x1 = Wa at *
  generalize v1.heap.size = ga at *
  have HH := H2
  have GA := G2
  clear H2 G2
  have yc := (cell_heap (i := 4) HH.out.pk).trans (show _ = some (.int .i64 P.id) from rfl)
  have yf := frozen_heap (i := 4) HH.out.pk
  have H4 := Lib.hid (show PB w U x P1 (.slice none 0 0) (.slice none 0 0) (.slice none 0 0) (.slice none 0 0) (.slice none 0 0) _ from by rw [HP1.out]; exact HH.out.setF 4 (.int .i64 n1) { P with id := n1 } rfl rfl rfl rfl rfl rfl)
  have GA4 : Hid ((Wa.setCell ⟨w.heap.size + 1, 4, none⟩ (.int .i64 n1)).heap[ga]? = some (.cells (iC U x1) 111 (0, 0))) := Lib.hid ((Below.heap_setCell _ _ _ _ (show ga ≠ w.heap.size + 1 by omega)).trans GA.out)
  clear HH GA
  go_upto_region 32 with fail
  change Code.wp _ _ _ _ (Wa.setCell ⟨w.heap.size + 1, 4, none⟩ (.int .i64 n1))
  generalize Wa.setCell ⟨w.heap.size + 1, 4, none⟩ (.int .i64 n1) = Wb at *
  have HH := H4
  clear H4 yc yf
  go_wp2_with (first
    | refine wpl_load_i (by rfl) (.tmp 18) (by rfl) ga (by rfl) GA4.out ?_
    | refine wpl_load_r (by rfl) (.tmp 3) (by rfl) (w.heap.size + 1) (by rfl) HH.out.pk ?_)
  refine (C2.out _).mono ?_
  rintro e v1 ⟨vc, vp, vw, vs, vf, rfl, o1, b1⟩
  obtain ⟨y9, R9⟩ := X9
  dsimp only at o1 ⊢
  obtain ⟨f1, f2, f3, f4, f5, f6⟩ := HH.out.out (y := y9) o1 b1
  have F1 := Lib.hid f1; have F2 := Lib.hid f2; have F3 := Lib.hid f3; have F4 := Lib.hid f4; have F5 := Lib.hid f5; have F6 := Lib.hid f6
  clear f1 f2 f3 f4 f5 f6 o1 b1 HH
  go_wp2_with (first
    | refine wpList_store_row (by rfl) 111 (.tmp 4) (.tmp 113) (by rfl) (w.heap.size + 2) (iC U y9) (by rfl) (by rfl) 111 (iC ⟨#[]⟩ (0, 0)) F1.out i_info rfl (iC_one _ _) ?_
    | refine wpList_store_row (by rfl) 52 (.tmp 5) (.tmp 114) (by rfl) (w.heap.size + 3) (rkCells R9 vc vp vw vs vf) (by rfl) (by rfl) 52 (rkNil PK.zeroPk) F2.out rk_info rfl F3.out ?_)
  refine bodyPost_ret (v := .tuple #[.agg (iC U y9), .agg (rkCells R9 vc vp vw vs vf)]) ?_ rfl F6.out
  simp only [results, Tryz.results41]
  simp [Act.put]
  exact two_boxes (load_i_var F4.out) (rk_var F5.out)
set_option linter.unusedVariables false in
set_option linter.unusedSimpArgs false in
set_option maxRecDepth 100000 in
set_option maxHeartbeats 8000000 in
theorem dgetbody_6 (U : ByteArray) (hU : U.size ≤ 140737488351232) (x : Int × Int) (P : Pk) (hP : Bare P) (hk : P.kind = 6) (w : World) :
    Calls Tryz.prog 41 #[.agg (iC U x), .agg (rkNil P)] w (GB w U (RG.end1 U { P with id := (RG.rI U x).2 } (RG.rI U x).1)) := by
  have hN : U.size ≤ maxLen := by unfold maxLen; omega
  have HP0 := Lib.hid hP
  obtain ⟨X9, hX9⟩ : ∃ y, y = RG.end1 U { P with id := (RG.rI U x).2 } (RG.rI U x).1 := ⟨_, rfl⟩
  rw [← hX9]
  have C1 := Lib.hid (dreadid_any U hN x)
  generalize RG.rI U x = T1 at *
  obtain ⟨x1, n1⟩ := T1
  dsimp only at hX9 C1
  obtain ⟨P1, hP1⟩ : ∃ y : Pk, y = { P with id := n1 } := ⟨_, rfl⟩
  rw [← hP1] at hX9
  have C2 : Hid (∀ W, Calls Tryz.prog 76 #[.agg (iC U x1), .agg (rkNil P1)] W (GB W U X9)) := Lib.hid (fun W => by rw [hX9]; exact dgetend_any U hU x1 P1 (by rw [hP1]; exact ⟨hP.code, hP.codes, hP.props, hP.wprops, hP.subs, hP.filters⟩) W)
  have HK := Lib.hid hk; have HP1 := Lib.hid hP1
  clear hk hX9 hP1
  go_enter Tryz.func41, Tryz.ntmps41
  go_upto_region 1 with fail
  change Code.wp _ _ _ _ ((((w.alloc (.cells (iC U x) 111)).alloc (.cells (rkNil P) 52)).alloc (.cells (iC ⟨#[]⟩ (0, 0)) 111)).alloc (.cells (rkNil PK.zeroPk) 52))
  have H := PB.start w U x P hP
  generalize ((((w.alloc (.cells (iC U x) 111)).alloc (.cells (rkNil P) 52)).alloc (.cells (iC ⟨#[]⟩ (0, 0)) 111)).alloc (.cells (rkNil PK.zeroPk) 52)) = W at *
  have HH := Lib.hid H
  clear H
  have z0 := (cell_heap (i := 0) HH.out.pk).trans (show _ = some (.int .i64 6) from by rw [← HK.out]; rfl)
  go_upto_region 30 with fail
  clear z0
  go_wp2_with (refine wpl_load_i (by rfl) (.tmp 2) (by rfl) w.heap.size (by rfl) HH.out.box ?_)
  refine (C1.out _).mono ?_
  rintro e v1 ⟨rfl, b1⟩
  have H1 := HH.out.next b1
  have hga : w.heap.size + 4 ≤ v1.heap.size := H1.size
  skip
  have H2 := Lib.hid (H1.next (nb_below v1 U x1))
  have G2 := Lib.hid (nb_heap v1 U x1)
  have A2 := Lib.hid (heap_alloc_new v1 (.cells (iC ⟨#[]⟩ (0, 0)) 111))
  clear HH b1 H1 C1
  go_upto_region 31 with (refine wpList_store_row (by rfl) 111 (.tmp 18) (.tmp 106) (by rfl) v1.heap.size (iC U x1) (by rfl) (by rfl) 111 (iC ⟨#[]⟩ (0, 0)) A2.out i_info rfl (iC_one _ _) ?_)
  clear A2
  change Code.wp _ _ _ _ (nb v1 U x1)
  generalize nb v1 U x1 = Wa at *
  generalize v1.heap.size = ga at *
  have HH := H2
  have GA := G2
  clear H2 G2
  have yc := (cell_heap (i := 4) HH.out.pk).trans (show _ = some (.int .i64 P.id) from rfl)
  have yf := frozen_heap (i := 4) HH.out.pk
  have H4 := Lib.hid (show PB w U x P1 (.slice none 0 0) (.slice none 0 0) (.slice none 0 0) (.slice none 0 0) (.slice none 0 0) _ from by rw [HP1.out]; exact HH.out.setF 4 (.int .i64 n1) { P with id := n1 } rfl rfl rfl rfl rfl rfl)
  have GA4 : Hid ((Wa.setCell ⟨w.heap.size + 1, 4, none⟩ (.int .i64 n1)).heap[ga]? = some (.cells (iC U x1) 111 (0, 0))) := Lib.hid ((Below.heap_setCell _ _ _ _ (show ga ≠ w.heap.size + 1 by omega)).trans GA.out)
  clear HH GA
  go_upto_region 32 with fail
  change Code.wp _ _ _ _ (Wa.setCell ⟨w.heap.size + 1, 4, none⟩ (.int .i64 n1))
  generalize Wa.setCell ⟨w.heap.size + 1, 4, none⟩ (.int .i64 n1) = Wb at *
  have HH := H4
  clear H4 yc yf
  go_wp2_with (first
    | refine wpl_load_i (by rfl) (.tmp 18) (by rfl) ga (by rfl) GA4.out ?_
    | refine wpl_load_r (by rfl) (.tmp 3) (by rfl) (w.heap.size + 1) (by rfl) HH.out.pk ?_)
  refine (C2.out _).mono ?_
  rintro e v1 ⟨vc, vp, vw, vs, vf, rfl, o1, b1⟩
  obtain ⟨y9, R9⟩ := X9
  dsimp only at o1 ⊢
  obtain ⟨f1, f2, f3, f4, f5, f6⟩ := HH.out.out (y := y9) o1 b1
  have F1 := Lib.hid f1; have F2 := Lib.hid f2; have F3 := Lib.hid f3; have F4 := Lib.hid f4; have F5 := Lib.hid f5; have F6 := Lib.hid f6
  clear f1 f2 f3 f4 f5 f6 o1 b1 HH
  go_wp2_with (first
    | refine wpList_store_row (by rfl) 111 (.tmp 4) (.tmp 113) (by rfl) (w.heap.size + 2) (iC U y9) (by rfl) (by rfl) 111 (iC ⟨#[]⟩ (0, 0)) F1.out i_info rfl (iC_one _ _) ?_
    | refine wpList_store_row (by rfl) 52 (.tmp 5) (.tmp 114) (by rfl) (w.heap.size + 3) (rkCells R9 vc vp vw vs vf) (by rfl) (by rfl) 52 (rkNil PK.zeroPk) F2.out rk_info rfl F3.out ?_)
  refine bodyPost_ret (v := .tuple #[.agg (iC U y9), .agg (rkCells R9 vc vp vw vs vf)]) ?_ rfl F6.out
  simp only [results, Tryz.results41]
  simp [Act.put]
  exact two_boxes (load_i_var F4.out) (rk_var F5.out)
set_option linter.unusedVariables false in
set_option linter.unusedSimpArgs false in
set_option maxRecDepth 100000 in
set_option maxHeartbeats 8000000 in
theorem dgetbody_7 (U : ByteArray) (hU : U.size ≤ 140737488351232) (x : Int × Int) (P : Pk) (hP : Bare P) (hk : P.kind = 7) (w : World) :
    Calls Tryz.prog 41 #[.agg (iC U x), .agg (rkNil P)] w (GB w U (RG.end1 U { P with id := (RG.rI U x).2 } (RG.rI U x).1)) := by
  have hN : U.size ≤ maxLen := by unfold maxLen; omega
  have HP0 := Lib.hid hP
  obtain ⟨X9, hX9⟩ : ∃ y, y = RG.end1 U { P with id := (RG.rI U x).2 } (RG.rI U x).1 := ⟨_, rfl⟩
  rw [← hX9]
  have C1 := Lib.hid (dreadid_any U hN x)
  generalize RG.rI U x = T1 at *
  obtain ⟨x1, n1⟩ := T1
  dsimp only at hX9 C1
  obtain ⟨P1, hP1⟩ : ∃ y : Pk, y = { P with id := n1 } := ⟨_, rfl⟩
  rw [← hP1] at hX9
  have C2 : Hid (∀ W, Calls Tryz.prog 76 #[.agg (iC U x1), .agg (rkNil P1)] W (GB W U X9)) := Lib.hid (fun W => by rw [hX9]; exact dgetend_any U hU x1 P1 (by rw [hP1]; exact ⟨hP.code, hP.codes, hP.props, hP.wprops, hP.subs, hP.filters⟩) W)
  have HK := Lib.hid hk; have HP1 := Lib.hid hP1
  clear hk hX9 hP1
  go_enter Tryz.func41, Tryz.ntmps41
  go_upto_region 1 with fail
  change Code.wp _ _ _ _ ((((w.alloc (.cells (iC U x) 111)).alloc (.cells (rkNil P) 52)).alloc (.cells (iC ⟨#[]⟩ (0, 0)) 111)).alloc (.cells (rkNil PK.zeroPk) 52))
  have H := PB.start w U x P hP
  generalize ((((w.alloc (.cells (iC U x) 111)).alloc (.cells (rkNil P) 52)).alloc (.cells (iC ⟨#[]⟩ (0, 0)) 111)).alloc (.cells (rkNil PK.zeroPk) 52)) = W at *
  have HH := Lib.hid H
  clear H
  have z0 := (cell_heap (i := 0) HH.out.pk).trans (show _ = some (.int .i64 7) from by rw [← HK.out]; rfl)
  go_upto_region 30 with fail
  clear z0
  go_wp2_with (refine wpl_load_i (by rfl) (.tmp 2) (by rfl) w.heap.size (by rfl) HH.out.box ?_)
  refine (C1.out _).mono ?_
  rintro e v1 ⟨rfl, b1⟩
  have H1 := HH.out.next b1
  have hga : w.heap.size + 4 ≤ v1.heap.size := H1.size
  skip
  have H2 := Lib.hid (H1.next (nb_below v1 U x1))
  have G2 := Lib.hid (nb_heap v1 U x1)
  have A2 := Lib.hid (heap_alloc_new v1 (.cells (iC ⟨#[]⟩ (0, 0)) 111))
  clear HH b1 H1 C1
  go_upto_region 31 with (refine wpList_store_row (by rfl) 111 (.tmp 18) (.tmp 106) (by rfl) v1.heap.size (iC U x1) (by rfl) (by rfl) 111 (iC ⟨#[]⟩ (0, 0)) A2.out i_info rfl (iC_one _ _) ?_)
  clear A2
  change Code.wp _ _ _ _ (nb v1 U x1)
  generalize nb v1 U x1 = Wa at *
  generalize v1.heap.size = ga at *
  have HH := H2
  have GA := G2
  clear H2 G2
  have yc := (cell_heap (i := 4) HH.out.pk).trans (show _ = some (.int .i64 P.id) from rfl)
  have yf := frozen_heap (i := 4) HH.out.pk
  have H4 := Lib.hid (show PB w U x P1 (.slice none 0 0) (.slice none 0 0) (.slice none 0 0) (.slice none 0 0) (.slice none 0 0) _ from by rw [HP1.out]; exact HH.out.setF 4 (.int .i64 n1) { P with id := n1 } rfl rfl rfl rfl rfl rfl)
  have GA4 : Hid ((Wa.setCell ⟨w.heap.size + 1, 4, none⟩ (.int .i64 n1)).heap[ga]? = some (.cells (iC U x1) 111 (0, 0))) := Lib.hid ((Below.heap_setCell _ _ _ _ (show ga ≠ w.heap.size + 1 by omega)).trans GA.out)
  clear HH GA
  go_upto_region 32 with fail
  change Code.wp _ _ _ _ (Wa.setCell ⟨w.heap.size + 1, 4, none⟩ (.int .i64 n1))
  generalize Wa.setCell ⟨w.heap.size + 1, 4, none⟩ (.int .i64 n1) = Wb at *
  have HH := H4
  clear H4 yc yf
  go_wp2_with (first
    | refine wpl_load_i (by rfl) (.tmp 18) (by rfl) ga (by rfl) GA4.out ?_
    | refine wpl_load_r (by rfl) (.tmp 3) (by rfl) (w.heap.size + 1) (by rfl) HH.out.pk ?_)
  refine (C2.out _).mono ?_
  rintro e v1 ⟨vc, vp, vw, vs, vf, rfl, o1, b1⟩
  obtain ⟨y9, R9⟩ := X9
  dsimp only at o1 ⊢
  obtain ⟨f1, f2, f3, f4, f5, f6⟩ := HH.out.out (y := y9) o1 b1
  have F1 := Lib.hid f1; have F2 := Lib.hid f2; have F3 := Lib.hid f3; have F4 := Lib.hid f4; have F5 := Lib.hid f5; have F6 := Lib.hid f6
  clear f1 f2 f3 f4 f5 f6 o1 b1 HH
  go_wp2_with (first
    | refine wpList_store_row (by rfl) 111 (.tmp 4) (.tmp 113) (by rfl) (w.heap.size + 2) (iC U y9) (by rfl) (by rfl) 111 (iC ⟨#[]⟩ (0, 0)) F1.out i_info rfl (iC_one _ _) ?_
    | refine wpList_store_row (by rfl) 52 (.tmp 5) (.tmp 114) (by rfl) (w.heap.size + 3) (rkCells R9 vc vp vw vs vf) (by rfl) (by rfl) 52 (rkNil PK.zeroPk) F2.out rk_info rfl F3.out ?_)
  refine bodyPost_ret (v := .tuple #[.agg (iC U y9), .agg (rkCells R9 vc vp vw vs vf)]) ?_ rfl F6.out
  simp only [results, Tryz.results41]
  simp [Act.put]
  exact two_boxes (load_i_var F4.out) (rk_var F5.out)
set_option linter.unusedVariables false in
set_option linter.unusedSimpArgs false in
set_option maxRecDepth 100000 in
set_option maxHeartbeats 8000000 in
theorem dgetbody_0 (U : ByteArray) (hU : U.size ≤ 140737488351232) (x : Int × Int) (P : Pk) (hP : Bare P) (h1 : P.kind ≠ 1) (h2 : P.kind ≠ 2) (h3 : P.kind ≠ 3) (h4 : P.kind ≠ 4) (h5 : P.kind ≠ 5) (h6 : P.kind ≠ 6) (h7 : P.kind ≠ 7) (h8 : P.kind ≠ 8) (h9 : P.kind ≠ 9) (h10 : P.kind ≠ 10) (h11 : P.kind ≠ 11) (h14 : P.kind ≠ 14) (h15 : P.kind ≠ 15) (w : World) :
    Calls Tryz.prog 41 #[.agg (iC U x), .agg (rkNil P)] w (GB w U ((x, P))) := by
  have hN : U.size ≤ maxLen := by unfold maxLen; omega
  have HP0 := Lib.hid hP
  obtain ⟨X9, hX9⟩ : ∃ y, y = (x, P) := ⟨_, rfl⟩
  rw [← hX9]
  obtain ⟨kk, hkk⟩ : ∃ y, y = P.kind := ⟨_, rfl⟩
  have i1 : (kk == 1) = false := by rw [beq_eq_false_iff_ne, hkk]; exact h1
  have i2 : (kk == 2) = false := by rw [beq_eq_false_iff_ne, hkk]; exact h2
  have i3 : (kk == 3) = false := by rw [beq_eq_false_iff_ne, hkk]; exact h3
  have i4 : (kk == 4) = false := by rw [beq_eq_false_iff_ne, hkk]; exact h4
  have i5 : (kk == 5) = false := by rw [beq_eq_false_iff_ne, hkk]; exact h5
  have i6 : (kk == 6) = false := by rw [beq_eq_false_iff_ne, hkk]; exact h6
  have i7 : (kk == 7) = false := by rw [beq_eq_false_iff_ne, hkk]; exact h7
  have i8 : (kk == 8) = false := by rw [beq_eq_false_iff_ne, hkk]; exact h8
  have i9 : (kk == 9) = false := by rw [beq_eq_false_iff_ne, hkk]; exact h9
  have i10 : (kk == 10) = false := by rw [beq_eq_false_iff_ne, hkk]; exact h10
  have i11 : (kk == 11) = false := by rw [beq_eq_false_iff_ne, hkk]; exact h11
  have i14 : (kk == 14) = false := by rw [beq_eq_false_iff_ne, hkk]; exact h14
  have i15 : (kk == 15) = false := by rw [beq_eq_false_iff_ne, hkk]; exact h15
  have HK := Lib.hid hkk.symm
  have HE := Lib.hid hX9
  clear hkk hX9 h1 h2 h3 h4 h5 h6 h7 h8 h9 h10 h11 h14 h15
  go_enter Tryz.func41, Tryz.ntmps41
  go_upto_region 1 with fail
  change Code.wp _ _ _ _ ((((w.alloc (.cells (iC U x) 111)).alloc (.cells (rkNil P) 52)).alloc (.cells (iC ⟨#[]⟩ (0, 0)) 111)).alloc (.cells (rkNil PK.zeroPk) 52))
  have H := PB.start w U x P hP
  generalize ((((w.alloc (.cells (iC U x) 111)).alloc (.cells (rkNil P) 52)).alloc (.cells (iC ⟨#[]⟩ (0, 0)) 111)).alloc (.cells (rkNil PK.zeroPk) 52)) = W at *
  have HH := Lib.hid H
  clear H
  have z0 := (cell_heap (i := 0) HH.out.pk).trans (show _ = some (.int .i64 kk) from by rw [← HK.out]; rfl)
  go_upto_region 41 with fail
  have H5 := HH.out
  obtain ⟨f1, f2, f3⟩ := H5.fin
  have k1 := rk_one _ H5.own
  refine wp_fin (n0 := 2) (n1 := 3) (m0 := 4) (m1 := 5) (d0 := 133) (d1 := 134) (b0 := w.heap.size) (b1 := w.heap.size + 1) (c0 := w.heap.size + 2) (c1 := w.heap.size + 3) (by kernel_rfl) rfl rfl rfl rfl rfl rfl rfl rfl rfl rfl rfl rfl rfl rfl rfl rfl rfl (by kernel_rfl) (by kernel_rfl) (by kernel_rfl) (by kernel_rfl) (by kernel_rfl) (by kernel_rfl) (by kernel_rfl) (by simp) rfl rfl rfl rfl H5.box H5.pk H5.ri H5.rp (by omega) k1 ?_
  have F1 := Lib.hid f1; have F2 := Lib.hid f2; have F3 := Lib.hid f3
  clear f1 f2 f3 k1
  go_wp2_with fail
  refine bodyPost_ret (v := .tuple #[.agg (iC U x), .agg (rkCells P (.slice none 0 0) (.slice none 0 0) (.slice none 0 0) (.slice none 0 0) (.slice none 0 0))]) ?_ rfl (by rw [HE.out]; exact F3.out)
  simp only [results, Tryz.results41]
  simp
  exact two_boxes (load_i_var F1.out) (rk_var F2.out)
set_option linter.unusedVariables false in
set_option linter.unusedSimpArgs false in
set_option maxRecDepth 100000 in
set_option maxHeartbeats 8000000 in
theorem dgetbody_2 (U : ByteArray) (hU : U.size ≤ 140737488351232) (x : Int × Int) (P : Pk) (hP : Bare P) (hk : P.kind = 2) (w : World) :
    Calls Tryz.prog 41 #[.agg (iC U x), .agg (rkNil P)] w (GB w U (RG.ack U P x)) := by
  have hN : U.size ≤ maxLen := by unfold maxLen; omega
  have HP0 := Lib.hid hP
  obtain ⟨X9, hX9⟩ : ∃ y, y = RG.ack U P x := ⟨_, rfl⟩
  rw [← hX9]
  unfold RG.ack RG.ses RG.chk at hX9
  have C1 := Lib.hid (dreadnum_any U hN x 1)
  generalize RG.rN U 1 x = T1 at *
  obtain ⟨x1, n1⟩ := T1
  dsimp only at hX9 C1
  obtain ⟨X1, hX1⟩ : ∃ y, y = (if 1 < n1 then RG.fl x1 129 else x1) := ⟨_, rfl⟩
  have e1 : (if (if 1 < n1 then (129 : Int) else 0) ≠ 0 then RG.fl x1 (if 1 < n1 then (129 : Int) else 0) else x1) = X1 := by
    rw [hX1]
    by_cases h : 1 < n1
    · rw [if_pos h, if_pos h, if_pos (by decide)]
    · rw [if_neg h, if_neg h, if_neg (by decide)]
  rw [e1] at hX9
  unfold RG.ack2 at hX9
  have C2 := Lib.hid (dreadnum_any U hN X1 1)
  generalize RG.rN U 1 X1 = T2 at *
  obtain ⟨x2, n2⟩ := T2
  unfold RG.ack3 at hX9
  dsimp only at hX9 C2
  have C3 := Lib.hid (dreadprops_any U hU x2 2)
  generalize RG.rP U 2 x2 = T3 at *
  obtain ⟨x3, l3⟩ := T3
  dsimp only at hX9 C3
  have HK := Lib.hid hk; have HE := Lib.hid hX9; have HX1 := Lib.hid hX1
  clear hk hX9 hX1 e1
  go_enter Tryz.func41, Tryz.ntmps41
  go_upto_region 1 with fail
  change Code.wp _ _ _ _ ((((w.alloc (.cells (iC U x) 111)).alloc (.cells (rkNil P) 52)).alloc (.cells (iC ⟨#[]⟩ (0, 0)) 111)).alloc (.cells (rkNil PK.zeroPk) 52))
  have H := PB.start w U x P hP
  generalize ((((w.alloc (.cells (iC U x) 111)).alloc (.cells (rkNil P) 52)).alloc (.cells (iC ⟨#[]⟩ (0, 0)) 111)).alloc (.cells (rkNil PK.zeroPk) 52)) = W at *
  have HH := Lib.hid H
  clear H
  have z0 := (cell_heap (i := 0) HH.out.pk).trans (show _ = some (.int .i64 2) from by rw [← HK.out]; rfl)
  go_upto_region 5 with fail
  clear z0
  go_wp2_with (refine wpl_load_i (by rfl) (.tmp 2) (by rfl) w.heap.size (by rfl) HH.out.box ?_)
  refine (C1.out _).mono ?_
  rintro e v1 ⟨rfl, b1⟩
  have H1 := HH.out.next b1
  have hga : w.heap.size + 4 ≤ v1.heap.size := H1.size
  skip
  have H2 := Lib.hid (H1.next (nb_below v1 U x1))
  have G2 := Lib.hid (nb_heap v1 U x1)
  have A2 := Lib.hid (heap_alloc_new v1 (.cells (iC ⟨#[]⟩ (0, 0)) 111))
  clear HH b1 H1 C1
  go_upto_region 6 with (refine wpList_store_row (by rfl) 111 (.tmp 6) (.tmp 34) (by rfl) v1.heap.size (iC U x1) (by rfl) (by rfl) 111 (iC ⟨#[]⟩ (0, 0)) A2.out i_info rfl (iC_one _ _) ?_)
  clear A2
  change Code.wp _ _ _ _ (nb v1 U x1)
  generalize nb v1 U x1 = Wa at *
  generalize v1.heap.size = ga at *
  have HH := H2
  have GA := G2
  clear H2 G2
  go_upto_if 37 with fail
  go_cut [] from 20 to 134 (fun wx => PB w U x P (.slice none 0 0) (.slice none 0 0) (.slice none 0 0) (.slice none 0 0) (.slice none 0 0) wx ∧ wx.heap[ga]? = some (.cells (iC U X1) 111 (0, 0)))
  case first =>
    by_cases hc : 1 < n1
    · have E1 : RG.fl x1 129 = X1 := by rw [HX1.out, if_pos hc]
      have CF := Lib.hid (dfailed_any U x1 129)
      rw [E1] at CF
      simp only [decide_eq_true hc]
      clear hc E1
      go_wp2_with (refine wpl_load_i (by rfl) (.tmp 6) (by rfl) ga (by rfl) GA.out ?_)
      refine (CF.out _).mono ?_
      rintro e v1 ⟨rfl, b1⟩
      have HB := Lib.hid (HH.out.next b1)
      have GB' := Lib.hid ((b1.block _ (lt_heap GA.out)).trans GA.out)
      clear HH GA b1 CF
      go_wp2_with (refine wpList_store_row (by rfl) 111 (.tmp 6) (.tmp 39) (by rfl) ga (iC U X1) (by rfl) (by rfl) 111 (iC U x1) GB'.out i_info rfl (iC_one _ _) ?_)
      go_meet
      exact ⟨HB.out.setG HP0.out hga _, setRow_heap GB'.out⟩
    · have E1 : x1 = X1 := by rw [HX1.out, if_neg hc]
      have HE1 := Lib.hid E1
      simp only [decide_eq_false hc]
      clear hc E1
      go_wp2
      go_meet
      rw [← HE1.out]
      exact ⟨HH.out, GA.out⟩
  case rest =>
  obtain ⟨h1, h2⟩ := hcut
  have H9 := Lib.hid h1; have G9 := Lib.hid h2
  clear HH GA h1 h2 HX1
  have HH := H9
  have GA := G9
  clear H9 G9 Wa
  generalize wc = Wb at *
  have yc := (cell_heap (i := 23) HH.out.pk).trans (show _ = some (.bool P.session) from rfl)
  have yf := frozen_heap (i := 23) HH.out.pk
  have H4 : Hid (PB w U x { P with session := n1 == 1 } (.slice none 0 0) (.slice none 0 0) (.slice none 0 0) (.slice none 0 0) (.slice none 0 0) (Wb.setCell ⟨w.heap.size + 1, 23, none⟩ (.bool (n1 == 1)))) := Lib.hid (HH.out.setF 23 (.bool (n1 == 1)) { P with session := n1 == 1 } rfl rfl rfl rfl rfl rfl)
  have GA4 : Hid ((Wb.setCell ⟨w.heap.size + 1, 23, none⟩ (.bool (n1 == 1))).heap[ga]? = _) := Lib.hid ((Below.heap_setCell _ _ _ _ (show ga ≠ w.heap.size + 1 by omega)).trans GA.out)
  clear HH GA
  go_upto_region 9 with fail
  change Code.wp _ _ _ _ (Wb.setCell ⟨w.heap.size + 1, 23, none⟩ (.bool (n1 == 1)))
  generalize Wb.setCell ⟨w.heap.size + 1, 23, none⟩ (.bool (n1 == 1)) = Wc at *
  have HH := H4
  have GA := GA4
  clear H4 GA4 yc yf
  go_wp2_with (refine wpl_load_i (by rfl) (.tmp 6) (by rfl) ga (by rfl) GA.out ?_)
  refine (C2.out _).mono ?_
  rintro e v1 ⟨rfl, b1⟩
  have H1 := HH.out.next b1
  have hgb : w.heap.size + 4 ≤ v1.heap.size := H1.size
  skip
  have H2 := Lib.hid (H1.next (nb_below v1 U x2))
  have G2 := Lib.hid (nb_heap v1 U x2)
  have A2 := Lib.hid (heap_alloc_new v1 (.cells (iC ⟨#[]⟩ (0, 0)) 111))
  clear HH b1 H1 C2 GA
  go_upto_region 10 with (refine wpList_store_row (by rfl) 111 (.tmp 8) (.tmp 46) (by rfl) v1.heap.size (iC U x2) (by rfl) (by rfl) 111 (iC ⟨#[]⟩ (0, 0)) A2.out i_info rfl (iC_one _ _) ?_)
  clear A2
  change Code.wp _ _ _ _ (nb v1 U x2)
  generalize nb v1 U x2 = Wd at *
  generalize v1.heap.size = gb at *
  have HH := H2
  have GA := G2
  clear H2 G2
  have yc := (cell_heap (i := 7) HH.out.pk).trans (show _ = some (.int .i64 P.code) from rfl)
  have yf := frozen_heap (i := 7) HH.out.pk
  have H4 : Hid (PB w U x { P with session := n1 == 1, code := n2 } (.slice none 0 0) (.slice none 0 0) (.slice none 0 0) (.slice none 0 0) (.slice none 0 0) (Wd.setCell ⟨w.heap.size + 1, 7, none⟩ (.int .i64 n2))) := Lib.hid (HH.out.setF 7 (.int .i64 n2) { P with session := n1 == 1, code := n2 } rfl rfl rfl rfl rfl rfl)
  have GA4 : Hid ((Wd.setCell ⟨w.heap.size + 1, 7, none⟩ (.int .i64 n2)).heap[gb]? = _) := Lib.hid ((Below.heap_setCell _ _ _ _ (show gb ≠ w.heap.size + 1 by omega)).trans GA.out)
  clear HH GA
  go_upto_region 11 with fail
  change Code.wp _ _ _ _ (Wd.setCell ⟨w.heap.size + 1, 7, none⟩ (.int .i64 n2))
  generalize Wd.setCell ⟨w.heap.size + 1, 7, none⟩ (.int .i64 n2) = We at *
  have HH := H4
  have GA := GA4
  clear H4 GA4 yc yf
  go_wp2_with (refine wpl_load_i (by rfl) (.tmp 8) (by rfl) gb (by rfl) GA.out ?_)
  refine (C3.out _).mono ?_
  rintro e v1 ⟨v, rfl, o1, b1⟩
  obtain ⟨Aw, cw, rfl⟩ := own_form o1
  have O1 := own_base' o1 HH.out.size
  dsimp only at O1 ⊢
  have H1 := HH.out.next b1
  have hgc : w.heap.size + 4 ≤ v1.heap.size := H1.size
  skip
  have H2 := Lib.hid (H1.next (nb_below v1 U x3))
  have G2 := Lib.hid (nb_heap v1 U x3)
  have A2 := Lib.hid (heap_alloc_new v1 (.cells (iC ⟨#[]⟩ (0, 0)) 111))
  have OW := Lib.hid (own_below O1 (nb_below v1 U x3))
  clear O1 o1
  clear HH b1 H1 C3 GA
  go_upto_region 12 with (refine wpList_store_row (by rfl) 111 (.tmp 10) (.tmp 53) (by rfl) v1.heap.size (iC U x3) (by rfl) (by rfl) 111 (iC ⟨#[]⟩ (0, 0)) A2.out i_info rfl (iC_one _ _) ?_)
  clear A2
  change Code.wp _ _ _ _ (nb v1 U x3)
  generalize nb v1 U x3 = Wf at *
  generalize v1.heap.size = gc at *
  have HH := H2
  have GA := G2
  clear H2 G2
  have yc := (cell_heap (i := 9) HH.out.pk).trans (show _ = some (.slice none 0 0) from rfl)
  have yf := frozen_heap (i := 9) HH.out.pk
  have H4 : Hid (PB w U x { P with session := n1 == 1, code := n2, props := l3 } (.slice none 0 0) (.slice Aw l3.length cw) (.slice none 0 0) (.slice none 0 0) (.slice none 0 0) (Wf.setCell ⟨w.heap.size + 1, 9, none⟩ (.slice Aw l3.length cw))) := Lib.hid (HH.out.setP OW.out)
  have GA4 : Hid ((Wf.setCell ⟨w.heap.size + 1, 9, none⟩ (.slice Aw l3.length cw)).heap[gc]? = _) := Lib.hid ((Below.heap_setCell _ _ _ _ (show gc ≠ w.heap.size + 1 by omega)).trans GA.out)
  clear HH GA
  go_upto_region 13 with fail
  change Code.wp _ _ _ _ (Wf.setCell ⟨w.heap.size + 1, 9, none⟩ (.slice Aw l3.length cw))
  generalize Wf.setCell ⟨w.heap.size + 1, 9, none⟩ (.slice Aw l3.length cw) = Wg at *
  have HH := H4
  have GA := GA4
  clear H4 GA4 yc yf
  have H5 := HH.out
  clear HH OW
  obtain ⟨f1, f2, f3⟩ := H5.finY (y := x3)
  have k1 := rk_one _ H5.own
  refine wp_fin (n0 := 10) (n1 := 3) (m0 := 4) (m1 := 5) (d0 := 57) (d1 := 58) (b0 := gc) (b1 := w.heap.size + 1) (c0 := w.heap.size + 2) (c1 := w.heap.size + 3) (by kernel_rfl) rfl rfl rfl rfl rfl rfl rfl rfl rfl rfl rfl rfl rfl rfl rfl rfl rfl (by kernel_rfl) (by kernel_rfl) (by kernel_rfl) (by kernel_rfl) (by kernel_rfl) (by kernel_rfl) (by kernel_rfl) (by simp) rfl rfl rfl rfl GA.out H5.pk H5.ri H5.rp (by omega) k1 ?_
  have F1 := Lib.hid f1; have F2 := Lib.hid f2; have F3 := Lib.hid f3
  clear f1 f2 f3 k1
  go_wp2_with fail
  refine bodyPost_ret (v := .tuple #[.agg (iC U x3), .agg (rkCells { P with session := n1 == 1, code := n2, props := l3 } (.slice none 0 0) (.slice Aw l3.length cw) (.slice none 0 0) (.slice none 0 0) (.slice none 0 0))]) ?_ rfl (by rw [HE.out]; exact F3.out)
  simp only [results, Tryz.results41]
  simp
  exact two_boxes (load_i_var F1.out) (rk_var F2.out)
set_option linter.unusedVariables false in
set_option linter.unusedSimpArgs false in
set_option maxRecDepth 100000 in
set_option maxHeartbeats 8000000 in
theorem dgetbody_3 (U : ByteArray) (hU : U.size ≤ 140737488351232) (x : Int × Int) (P : Pk) (hP : Bare P) (hk : P.kind = 3) (hx : InR U x) (w : World) :
    Calls Tryz.prog 41 #[.agg (iC U x), .agg (rkNil P)] w (GB w U (RG.pub U P x)) := by
  have hN : U.size ≤ maxLen := by unfold maxLen; omega
  have HP0 := Lib.hid hP
  obtain ⟨X9, hX9⟩ : ∃ y, y = RG.pub U P x := ⟨_, rfl⟩
  rw [← hX9]
  unfold RG.pub RG.pub3 RG.pair at hX9
  dsimp only at hX9
  have hR := rP_in (pubI_in (rT_in hx) P.qos P.id) 3
  have C1 := Lib.hid (dreadtext_any U hU x)
  generalize RG.rT U x = T1 at *
  obtain ⟨x1, t1⟩ := T1
  dsimp only at hX9 C1 hR
  obtain ⟨x2, i2, hI⟩ : ∃ a b, RG.pubI U P.qos P.id x1 = (a, b) := ⟨_, _, rfl⟩
  rw [hI] at hX9 hR
  dsimp only at hX9 hR
  have C3 := Lib.hid (dreadprops_any U hU x2 3)
  generalize RG.rP U 3 x2 = T3 at *
  obtain ⟨x3, l3⟩ := T3
  dsimp only at hX9 C3 hR
  have HK := Lib.hid hk; have HE := Lib.hid hX9; have HI := Lib.hid hI; have HR := Lib.hid hR
  clear hk hX9 hI hR
  go_enter Tryz.func41, Tryz.ntmps41
  go_upto_region 1 with fail
  change Code.wp _ _ _ _ ((((w.alloc (.cells (iC U x) 111)).alloc (.cells (rkNil P) 52)).alloc (.cells (iC ⟨#[]⟩ (0, 0)) 111)).alloc (.cells (rkNil PK.zeroPk) 52))
  have H := PB.start w U x P hP
  generalize ((((w.alloc (.cells (iC U x) 111)).alloc (.cells (rkNil P) 52)).alloc (.cells (iC ⟨#[]⟩ (0, 0)) 111)).alloc (.cells (rkNil PK.zeroPk) 52)) = W at *
  have HH := Lib.hid H
  clear H
  have z0 := (cell_heap (i := 0) HH.out.pk).trans (show _ = some (.int .i64 3) from by rw [← HK.out]; rfl)
  go_upto_region 15 with fail
  clear z0
  go_wp2_with (refine wpl_load_i (by rfl) (.tmp 2) (by rfl) w.heap.size (by rfl) HH.out.box ?_)
  refine (C1.out _).mono ?_
  rintro e v1 ⟨rfl, b1⟩
  have H1 := HH.out.next b1
  have hga : w.heap.size + 4 ≤ v1.heap.size := H1.size
  skip
  have H2 := Lib.hid (H1.next (nb_below v1 U x1))
  have G2 := Lib.hid (nb_heap v1 U x1)
  have A2 := Lib.hid (heap_alloc_new v1 (.cells (iC ⟨#[]⟩ (0, 0)) 111))
  clear HH b1 H1 C1
  go_upto_region 16 with (refine wpList_store_row (by rfl) 111 (.tmp 12) (.tmp 64) (by rfl) v1.heap.size (iC U x1) (by rfl) (by rfl) 111 (iC ⟨#[]⟩ (0, 0)) A2.out i_info rfl (iC_one _ _) ?_)
  clear A2
  change Code.wp _ _ _ _ (nb v1 U x1)
  generalize nb v1 U x1 = Wa at *
  generalize v1.heap.size = ga at *
  have HH := H2
  have GA := G2
  clear H2 G2
  have yc := (cell_heap (i := 5) HH.out.pk).trans (show _ = some (.string P.topic) from rfl)
  have yf := frozen_heap (i := 5) HH.out.pk
  have H4 : Hid (PB w U x { P with topic := t1 } (.slice none 0 0) (.slice none 0 0) (.slice none 0 0) (.slice none 0 0) (.slice none 0 0) (Wa.setCell ⟨w.heap.size + 1, 5, none⟩ (.string t1))) := Lib.hid (HH.out.setF 5 (.string t1) { P with topic := t1 } rfl rfl rfl rfl rfl rfl)
  have GA4 : Hid ((Wa.setCell ⟨w.heap.size + 1, 5, none⟩ (.string t1)).heap[ga]? = _) := Lib.hid ((Below.heap_setCell _ _ _ _ (show ga ≠ w.heap.size + 1 by omega)).trans GA.out)
  clear HH GA
  go_upto_region 17 with fail
  change Code.wp _ _ _ _ (Wa.setCell ⟨w.heap.size + 1, 5, none⟩ (.string t1))
  generalize Wa.setCell ⟨w.heap.size + 1, 5, none⟩ (.string t1) = Wb at *
  have HH := H4
  have GA := GA4
  clear H4 GA4 yc yf
  have y3 := (cell_heap (i := 3) HH.out.pk).trans (show _ = some (.int .i64 P.qos) from rfl)
  go_upto_if 70 with fail
  clear y3
  go_cut [] from 20 to 134 (fun wx => PB w U x { P with topic := t1, id := i2 } (.slice none 0 0) (.slice none 0 0) (.slice none 0 0) (.slice none 0 0) (.slice none 0 0) wx ∧ wx.heap[ga]? = some (.cells (iC U x2) 111 (0, 0)))
  case first =>
    by_cases hc : 0 < P.qos
    · have E1 : RG.rI U x1 = (x2, i2) := by have e := HI.out; unfold RG.pubI at e; rw [if_pos hc] at e; exact e
      have C2 := Lib.hid (dreadid_any U hN x1)
      rw [E1] at C2
      simp only [decide_eq_true hc]
      dsimp only at C2
      clear hc E1
      go_wp2_with (refine wpl_load_i (by rfl) (.tmp 12) (by rfl) ga (by rfl) GA.out ?_)
      refine (C2.out _).mono ?_
      rintro e v1 ⟨rfl, b1⟩
      have H1 := HH.out.next b1
      have hgb : w.heap.size + 4 ≤ v1.heap.size := H1.size
      have GZ := Lib.hid (((nb_below v1 U x2).block _ (by have := lt_heap GA.out; have := b1.size; omega)).trans ((b1.block _ (lt_heap GA.out)).trans GA.out))
      have H2 := Lib.hid (H1.next (nb_below v1 U x2))
      have G2 := Lib.hid (nb_heap v1 U x2)
      have A2 := Lib.hid (heap_alloc_new v1 (.cells (iC ⟨#[]⟩ (0, 0)) 111))
      clear HH b1 H1 C2 GA
      go_upto_region 19 with (refine wpList_store_row (by rfl) 111 (.tmp 14) (.tmp 74) (by rfl) v1.heap.size (iC U x2) (by rfl) (by rfl) 111 (iC ⟨#[]⟩ (0, 0)) A2.out i_info rfl (iC_one _ _) ?_)
      clear A2
      change Code.wp _ _ _ _ (nb v1 U x2)
      generalize nb v1 U x2 = Wc at *
      generalize v1.heap.size = gb at *
      have HH := H2
      have GA := G2
      clear H2 G2
      go_upto_region 20 with (first
        | refine wpl_load_i (by rfl) (.tmp 14) (by rfl) gb (by rfl) GA.out ?_
        | refine wpList_store_row (by rfl) 111 (.tmp 12) (.tmp 76) (by rfl) ga (iC U x2) (by rfl) (by rfl) 111 (iC U x1) GZ.out i_info rfl (iC_one _ _) ?_)
      change Code.wp _ _ _ _ (Wc.setRow ga (iC U x2))
      have H2 := Lib.hid (HH.out.setG ⟨HP0.out.code, HP0.out.codes, HP0.out.props, HP0.out.wprops, HP0.out.subs, HP0.out.filters⟩ hga (iC U x2))
      have G2 := Lib.hid (setRow_heap (cs := iC U x2) GZ.out)
      clear HH GA GZ
      generalize Wc.setRow ga (iC U x2) = Wd at *
      have HH := H2
      clear H2
      have yc := (cell_heap (i := 4) HH.out.pk).trans (show _ = some (.int .i64 P.id) from rfl)
      have yf := frozen_heap (i := 4) HH.out.pk
      go_wp2_with fail
      go_meet
      exact ⟨HH.out.setF 4 (.int .i64 i2) _ rfl rfl rfl rfl rfl rfl, (Below.heap_setCell _ _ _ _ (show ga ≠ w.heap.size + 1 by omega)).trans G2.out⟩
    · have E1 : x1 = x2 ∧ P.id = i2 := by have e := HI.out; unfold RG.pubI at e; rw [if_neg hc] at e; exact ⟨congrArg Prod.fst e, congrArg Prod.snd e⟩
      have HE1 := Lib.hid E1
      simp only [decide_eq_false hc]
      clear hc E1
      go_wp2
      go_meet
      rw [← HE1.out.1, ← HE1.out.2]
      exact ⟨HH.out, GA.out⟩
  case rest =>
  obtain ⟨h1, h2⟩ := hcut
  have H9 := Lib.hid h1; have G9 := Lib.hid h2
  clear HH GA h1 h2 HI
  have HH := H9
  have GA := G9
  clear H9 G9 Wb
  generalize wc = Wc at *
  go_wp2_with (refine wpl_load_i (by rfl) (.tmp 12) (by rfl) ga (by rfl) GA.out ?_)
  refine (C3.out _).mono ?_
  rintro e v1 ⟨v, rfl, o1, b1⟩
  obtain ⟨Aw, cw, rfl⟩ := own_form o1
  have O1 := own_base' o1 HH.out.size
  dsimp only at O1 ⊢
  have H1 := HH.out.next b1
  have hgc : w.heap.size + 4 ≤ v1.heap.size := H1.size
  have hOne : Hid ((Value.slice Aw l3.length cw).ownBlock ≠ some v1.heap.size) := Lib.hid (fun e => by have := (O1.lt _ e).2; omega)
  have H2 := Lib.hid (H1.next (nb_below v1 U x3))
  have G2 := Lib.hid (nb_heap v1 U x3)
  have A2 := Lib.hid (heap_alloc_new v1 (.cells (iC ⟨#[]⟩ (0, 0)) 111))
  have OW := Lib.hid (own_below O1 (nb_below v1 U x3))
  clear O1 o1
  clear HH b1 H1 C3 GA
  go_upto_region 22 with (refine wpList_store_row (by rfl) 111 (.tmp 16) (.tmp 82) (by rfl) v1.heap.size (iC U x3) (by rfl) (by rfl) 111 (iC ⟨#[]⟩ (0, 0)) A2.out i_info rfl (iC_one _ _) ?_)
  clear A2
  change Code.wp _ _ _ _ (nb v1 U x3)
  generalize nb v1 U x3 = Wf at *
  generalize v1.heap.size = gc at *
  have HH := H2
  have GA := G2
  clear H2 G2
  have yc := (cell_heap (i := 9) HH.out.pk).trans (show _ = some (.slice none 0 0) from rfl)
  have yf := frozen_heap (i := 9) HH.out.pk
  have H4 : Hid (PB w U x { P with topic := t1, id := i2, props := l3 } (.slice none 0 0) (.slice Aw l3.length cw) (.slice none 0 0) (.slice none 0 0) (.slice none 0 0) (Wf.setCell ⟨w.heap.size + 1, 9, none⟩ (.slice Aw l3.length cw))) := Lib.hid (HH.out.setP OW.out)
  have GA4 : Hid ((Wf.setCell ⟨w.heap.size + 1, 9, none⟩ (.slice Aw l3.length cw)).heap[gc]? = _) := Lib.hid ((Below.heap_setCell _ _ _ _ (show gc ≠ w.heap.size + 1 by omega)).trans GA.out)
  clear HH GA
  go_upto_region 23 with fail
  change Code.wp _ _ _ _ (Wf.setCell ⟨w.heap.size + 1, 9, none⟩ (.slice Aw l3.length cw))
  generalize Wf.setCell ⟨w.heap.size + 1, 9, none⟩ (.slice Aw l3.length cw) = Wg at *
  have HH := H4
  have GA := GA4
  clear H4 GA4 yc yf
  clear OW
  obtain ⟨r0, r1⟩ := HR.out
  have c0 := (cell_heap (i := 0) GA.out).trans (show _ = some (.string U) from rfl)
  have c1 := (cell_heap (i := 1) GA.out).trans (show _ = some (.int .i64 x3.1) from rfl)
  have yc := (cell_heap (i := 6) HH.out.pk).trans (show _ = some (.string P.pay) from rfl)
  have yf := frozen_heap (i := 6) HH.out.pk
  go_upto_region 24 with fail
  change Code.wp _ _ _ _ (Wg.setCell ⟨w.heap.size + 1, 6, none⟩ (.string (U.extract x3.1.toNat U.size)))
  have H4 : Hid (PB w U x { P with topic := t1, id := i2, props := l3, pay := U.extract x3.1.toNat U.size } (.slice none 0 0) (.slice Aw l3.length cw) (.slice none 0 0) (.slice none 0 0) (.slice none 0 0) (Wg.setCell ⟨w.heap.size + 1, 6, none⟩ (.string (U.extract x3.1.toNat U.size)))) := Lib.hid (HH.out.setF 6 (.string (U.extract x3.1.toNat U.size)) { P with topic := t1, id := i2, props := l3, pay := U.extract x3.1.toNat U.size } rfl rfl rfl rfl rfl rfl)
  have GA4 := Lib.hid ((Below.heap_setCell Wg ⟨w.heap.size + 1, 6, none⟩ (.string (U.extract x3.1.toNat U.size)) _ (show gc ≠ w.heap.size + 1 by omega)).trans GA.out)
  clear HH GA yc yf c0 c1 r0 r1
  generalize Wg.setCell ⟨w.heap.size + 1, 6, none⟩ (.string (U.extract x3.1.toNat U.size)) = Wh at *
  have c0 := (cell_heap (i := 0) GA4.out).trans (show _ = some (.string U) from rfl)
  have c1 := (cell_heap (i := 1) GA4.out).trans (show _ = some (.int .i64 x3.1) from rfl)
  have cf := frozen_heap (i := 1) GA4.out
  have H5 := Lib.hid (H4.out.setL hgc hOne.out 1 (.int .i64 (U.size : Int)))
  have GA5 : Hid ((Wh.setCell ⟨gc, 1, none⟩ (.int .i64 (U.size : Int))).heap[gc]? = some (.cells (iC U ((U.size : Int), x3.2)) 111 (0, 0))) := Lib.hid (set_block GA4.out rfl)
  clear H4 GA4
  go_upto_region 25 with fail
  change Code.wp _ _ _ _ (Wh.setCell ⟨gc, 1, none⟩ (.int .i64 (U.size : Int)))
  generalize Wh.setCell ⟨gc, 1, none⟩ (.int .i64 (U.size : Int)) = Wi at *
  have H6 := H5.out
  clear H5 c0 c1 cf
  obtain ⟨f1, f2, f3⟩ := H6.finY (y := ((U.size : Int), x3.2))
  have k1 := rk_one _ H6.own
  refine wp_fin (n0 := 16) (n1 := 3) (m0 := 4) (m1 := 5) (d0 := 96) (d1 := 97) (b0 := gc) (b1 := w.heap.size + 1) (c0 := w.heap.size + 2) (c1 := w.heap.size + 3) (by kernel_rfl) rfl rfl rfl rfl rfl rfl rfl rfl rfl rfl rfl rfl rfl rfl rfl rfl rfl (by kernel_rfl) (by kernel_rfl) (by kernel_rfl) (by kernel_rfl) (by kernel_rfl) (by kernel_rfl) (by kernel_rfl) (by simp) rfl rfl rfl rfl GA5.out H6.pk H6.ri H6.rp (by omega) k1 ?_
  have F1 := Lib.hid f1; have F2 := Lib.hid f2; have F3 := Lib.hid f3
  clear f1 f2 f3 k1
  go_wp2_with fail
  refine bodyPost_ret (v := .tuple #[.agg (iC U ((U.size : Int), x3.2)), .agg (rkCells { P with topic := t1, id := i2, props := l3, pay := U.extract x3.1.toNat U.size } (.slice none 0 0) (.slice Aw l3.length cw) (.slice none 0 0) (.slice none 0 0) (.slice none 0 0))]) ?_ rfl (by rw [HE.out]; exact F3.out)
  simp only [results, Tryz.results41]
  simp
  exact two_boxes (load_i_var F1.out) (rk_var F2.out)
theorem dgetbody_any (U : ByteArray) (hU : U.size ≤ 140737488351232) (x : Int × Int) (hx : InR U x) (P : Pk) (hP : Bare P) (w : World) :
    Calls Tryz.prog 41 #[.agg (iC U x), .agg (rkNil P)] w (GB w U (RG.body P.kind U P x)) := by
  unfold RG.body
  by_cases h1 : P.kind = 1
  · rw [if_pos h1]; exact dgetbody_1 U hU x P hP h1 w
  rw [if_neg h1]
  by_cases h2 : P.kind = 2
  · rw [if_pos h2]; exact dgetbody_2 U hU x P hP h2 w
  rw [if_neg h2]
  by_cases h3 : P.kind = 3
  · rw [if_pos h3]; exact dgetbody_3 U hU x P hP h3 hx w
  rw [if_neg h3]
  by_cases h4 : P.kind = 4 ∨ P.kind = 5 ∨ P.kind = 6 ∨ P.kind = 7
  · rw [if_pos h4]
    rcases h4 with h | h | h | h
    · exact dgetbody_4 U hU x P hP h w
    · exact dgetbody_5 U hU x P hP h w
    · exact dgetbody_6 U hU x P hP h w
    · exact dgetbody_7 U hU x P hP h w
  rw [if_neg h4]
  by_cases h5 : P.kind = 14 ∨ P.kind = 15
  · rw [if_pos h5]
    rcases h5 with h | h
    · exact dgetbody_14 U hU x P hP h w
    · exact dgetbody_15 U hU x P hP h w
  rw [if_neg h5]
  by_cases h6 : P.kind = 8 ∨ P.kind = 9 ∨ P.kind = 10 ∨ P.kind = 11
  · rw [if_pos h6]
    rcases h6 with h | h | h | h
    · exact dgetbody_8 U hU x P hP h w
    · exact dgetbody_9 U hU x P hP h w
    · exact dgetbody_10 U hU x P hP h w
    · exact dgetbody_11 U hU x P hP h w
  rw [if_neg h6]
  exact dgetbody_0 U hU x P hP h1 h2 h3 (by omega) (by omega) (by omega) (by omega) (by omega) (by omega) (by omega) (by omega) (by omega) (by omega) w
end Go.Proofs.YtemfcaaoobjgkaaGreatDoor
namespace Go.Proofs.YtemfcaaoobjgkaaGreatDoor
open Go.RowKit
section
variable {P : Program} {ops : Array Oper} {Q : Exit → Act → World → Prop} {md : Region.Mode} {S : World → Prop} {T : Nat}
theorem wpAnyT_three (i k m : Nat) {fuel : Nat} {listed : Array Bool} {a : Act} {w : World} (hr : Region.ready md ops listed = [i, k, m])
    (h : wpOp P ops Q i (fun a' w' => (i < T → S w') ∧ wpAnyT P md ops Q S T fuel (listed.setIfInBounds i true) a' w') a w)
    (h' : wpOp P ops Q k (fun a' w' => (k < T → S w') ∧ wpAnyT P md ops Q S T fuel (listed.setIfInBounds k true) a' w') a w)
    (h'' : wpOp P ops Q m (fun a' w' => (m < T → S w') ∧ wpAnyT P md ops Q S T fuel (listed.setIfInBounds m true) a' w') a w) : wpAnyT P md ops Q S T (fuel + 1) listed a w := by
  refine ⟨fun h0 => (by rw [hr] at h0; cases h0), fun j hj => ?_⟩
  rw [hr] at hj
  simp at hj
  rcases hj with rfl | rfl | rfl
  · exact h
  · exact h'
  · exact h''
end
theorem opU_call {ops : Array Oper} {Q : Exit → Act → World → Prop} {i : Nat} {o : Oper} {K : Act → World → Prop} {a : Act} {w w1 : World} {f : FuncId} {args : Array Value} {R : Ending → World → Prop} (ho : ops[i]? = some o) (hgd : o.guard = none)
    (hrun : (execOp a.eval o).run Tryz.prog w = .ok (.enter f args) w1) (hc : Calls Tryz.prog f args w1 R) (hR : ∀ e w', R e w' → ∃ v, e = .returned v ∧ K (a.put o.dst v) w') : wpOp Tryz.prog ops Q i K a w := by
  refine opU_wp ho hgd ?_
  unfold Oper.wp
  rw [hrun, Oper.upon_enter]
  refine hc.mono fun e w' h => ?_
  obtain ⟨v, rfl, hk⟩ := hR e w' h
  exact hk
theorem body_enters (args : Array Value) (W : World) : (callFunc 41 args).run Tryz.prog W = .ok (.enter 41 args) W := enters_of Tryz.func41 (by kernel_rfl) rfl args W
/-- What the region leaves: what getBody answered, in two new locals. -/
structure GG (W : World) (U : ByteArray) (X : (Int × Int) × Pk) (gi gp : Nat) (vc vp vw vs vf : Value) (w' : World) : Prop where
  li : W.heap.size ≤ gi
  lp : W.heap.size ≤ gp
  bi : w'.heap[gi]? = some (.cells (iC U X.1) 111 (0, 0))
  bp : w'.heap[gp]? = some (.cells (rkCells X.2 vc vp vw vs vf) 52 (0, 0))
  own : Own5R W.heap.size X.2 vc vp vw vs vf w'
  below : Below W.heap.size W w'
theorem Own5R.far {B g : Nat} {P : Pk} {vc vp vw vs vf : Value} {w : World} (h : Own5R B P vc vp vw vs vf w) (hg : g < B ∨ w.heap.size ≤ g) : vc.ownBlock ≠ some g ∧ vp.ownBlock ≠ some g ∧ vw.ownBlock ≠ some g ∧ vs.ownBlock ≠ some g ∧ vf.ownBlock ≠ some g :=
  ⟨fun e => by have := h.codes.lt g e; omega, fun e => by have := h.props.lt g e; omega, fun e => by have := h.wprops.lt g e; omega, fun e => by have := h.subs.lt g e; omega, fun e => by have := h.filters.lt g e; omega⟩
theorem Own5R.setRow' {B b : Nat} {P : Pk} {vc vp vw vs vf : Value} {w : World} (h : Own5R B P vc vp vw vs vf w) (hb : vc.ownBlock ≠ some b ∧ vp.ownBlock ≠ some b ∧ vw.ownBlock ≠ some b ∧ vs.ownBlock ≠ some b ∧ vf.ownBlock ≠ some b) (cs : Array Value) : Own5R B P vc vp vw vs vf (w.setRow b cs) :=
  ⟨own_setRow cs h.codes hb.1, own_setRow cs h.props hb.2.1, own_setRow cs h.wprops hb.2.2.1, own_setRow cs h.subs hb.2.2.2.1, own_setRow cs h.filters hb.2.2.2.2⟩
/-- Both stores. -/
theorem GG.mk' {W w : World} {U : ByteArray} {X : (Int × Int) × Pk} {gi gp : Nat} {vc vp vw vs vf : Value} (li : W.heap.size ≤ gi) (lp : W.heap.size ≤ gp) (hne : gi ≠ gp) {oi op : Array Value} (bi : w.heap[gi]? = some (.cells oi 111 (0, 0))) (bp : w.heap[gp]? = some (.cells op 52 (0, 0)))
    (own : Own5R W.heap.size X.2 vc vp vw vs vf w) (hi : vc.ownBlock ≠ some gi ∧ vp.ownBlock ≠ some gi ∧ vw.ownBlock ≠ some gi ∧ vs.ownBlock ≠ some gi ∧ vf.ownBlock ≠ some gi) (hp : vc.ownBlock ≠ some gp ∧ vp.ownBlock ≠ some gp ∧ vw.ownBlock ≠ some gp ∧ vs.ownBlock ≠ some gp ∧ vf.ownBlock ≠ some gp) (below : Below W.heap.size W w) :
    GG W U X gi gp vc vp vw vs vf ((w.setRow gi (iC U X.1)).setRow gp (rkCells X.2 vc vp vw vs vf)) :=
  ⟨li, lp, (setRow_other _ hne).trans (setRow_heap bi), setRow_heap ((setRow_other _ (Ne.symm hne)).trans bp), (own.setRow' hi _).setRow' hp _, below_setRow (below_setRow below li _) lp _⟩

set_option linter.unusedSimpArgs false in
set_option linter.unusedVariables false in
set_option maxHeartbeats 8000000 in
set_option maxRecDepth 100000 in
theorem rg_get {Q : Exit → Act → World → Prop} (hQ : ∀ c d v a w, Q (.panic c) (a.put d v) w → Q (.panic c) a w) (ops : Array Oper) (hops : Tryz.f21.body.bind (findR 27) = some ops)
    (a : Act) (hsz : a.tmps.size = 113) (s : ByteArray) (f : Nat) (hf : f ≤ s.size) (hs : s.size ≤ 140737488351232) (h0 : a.eval (.tmp 0) = .string s) (h10 : a.eval (.tmp 10) = .int .i64 (f : Int)) (p : Nat) (h6 : a.eval (.tmp 6) = .pointer (some ⟨p, 0, none⟩))
    (W : World) (P : Pk) (bp : W.heap[p]? = some (.cells (rkNil P) 52 (0, 0))) (X : (Int × Int) × Pk)
    (hc : ∀ W', Calls Tryz.prog 41 #[.agg (iC (s.extract f s.size) (0, 0)), .agg (rkNil P)] W' (GB W' (s.extract f s.size) X))
    (hK : ∀ gi gp vc vp vw vs vf w', GG W (s.extract f s.size) X gi gp vc vp vw vs vf w' → Q .normal ((((((((((((a.put (some 91) (.string s)).put (some 92) (.int .i64 (f : Int))).put (some 93) (.string (s.extract f s.size))).put (some 94) (.agg (iC (s.extract f s.size) (0, 0)))).put (some 95) (.agg (rkNil P))).put (some 96) (.tuple #[.agg (iC (s.extract f s.size) X.1), .agg (rkCells X.2 vc vp vw vs vf)])).put (some 90) (.tuple #[.agg (iC (s.extract f s.size) X.1), .agg (rkCells X.2 vc vp vw vs vf)])).put (some 97) (.agg (iC (s.extract f s.size) X.1))).put (some 98) (.agg (rkCells X.2 vc vp vw vs vf))).put (some 12) (.pointer (some ⟨gi, 0, none⟩))).put (some 13) (.pointer (some ⟨gp, 0, none⟩)))) w') :
    wpAnyT Tryz.prog .any ops Q (fun w' => Below W.heap.size W w') 13 ops.size (Array.replicate ops.size false) a W := by
  conv at hops => lhs; whnf
  obtain rfl := Option.some.inj hops
  clear hops
  have S0 : (fun w' => Below W.heap.size W w') W := Below.refl _ _
  have lp := lt_heap bp
  change wpAnyT _ _ _ _ _ _ 13 (Array.replicate 13 false) _ _
  refine wpAnyT_take 0 0 (v := (.string s)) (by rfl) (by rfl) (by kernel_rfl) (by kernel_rfl) (by kernel_rfl) (by kernel_rfl) (by kernel_rfl) (fun _ _ _ h => hQ _ _ _ _ _ h) (fun w hSw => (by show Sem.run _ (execOp _ ⟨_, .move (.tmp 0), _, _, _, _⟩) _ = _; unfold execOp; simp only [show a.eval (.tmp 0) = _ from h0]; go_simp)) S0 ?_
  change wpAnyT _ _ _ _ _ _ _ _ (a.put (some 91) (.string s)) _
  refine wpAnyT_take 1 1 (v := (.int .i64 (f : Int))) (by rfl) (by rfl) (by kernel_rfl) (by kernel_rfl) (by kernel_rfl) (by kernel_rfl) (by kernel_rfl) (fun _ _ _ h => hQ _ _ _ _ _ h) (fun w hSw => (by show Sem.run _ (execOp _ ⟨_, .move (.tmp 10), _, _, _, _⟩) _ = _; unfold execOp; simp only [show (a.put (some 91) (.string s)).eval (.tmp 10) = _ from ((ev_ne (by decide)).trans h10)]; go_simp)) S0 ?_
  change wpAnyT _ _ _ _ _ _ _ _ ((a.put (some 91) (.string s)).put (some 92) (.int .i64 (f : Int))) _
  refine wpAnyT_take 2 2 (v := (.string (s.extract f s.size))) (by rfl) (by rfl) (by kernel_rfl) (by kernel_rfl) (by kernel_rfl) (by kernel_rfl) (by kernel_rfl) (fun _ _ _ h => hQ _ _ _ _ _ h) (fun w hSw => (by show Sem.run _ (execOp _ ⟨_, .slice 9 (.tmp 91) (some (.tmp 92)) none none, _, _, _, _⟩) _ = _; unfold execOp; simp only [Option.map, show ((a.put (some 91) (.string s)).put (some 92) (.int .i64 (f : Int))).eval (.tmp 91) = _ from ((ev_ne (by decide)).trans (ev_same (by simp only [put_sz, hsz]; decide))), show ((a.put (some 91) (.string s)).put (some 92) (.int .i64 (f : Int))).eval (.tmp 92) = _ from (ev_same (by simp only [put_sz, hsz]; decide))]; go_simp)) S0 ?_
  change wpAnyT _ _ _ _ _ _ _ _ (((a.put (some 91) (.string s)).put (some 92) (.int .i64 (f : Int))).put (some 93) (.string (s.extract f s.size))) _
  refine wpAnyT_take 3 3 (v := (.agg (iC (s.extract f s.size) (0, 0)))) (by rfl) (by rfl) (by kernel_rfl) (by kernel_rfl) (by kernel_rfl) (by kernel_rfl) (by kernel_rfl) (fun _ _ _ h => hQ _ _ _ _ _ h) (fun w hSw => (by show Sem.run _ (execOp _ ⟨_, .build 111 #[(0, .tmp 93)], _, _, _, _⟩) _ = _; unfold execOp; simp only [show (((a.put (some 91) (.string s)).put (some 92) (.int .i64 (f : Int))).put (some 93) (.string (s.extract f s.size))).eval (.tmp 93) = _ from (ev_same (by simp only [put_sz, hsz]; decide))]; go_simp; rfl)) S0 ?_
  change wpAnyT _ _ _ _ _ _ _ _ ((((a.put (some 91) (.string s)).put (some 92) (.int .i64 (f : Int))).put (some 93) (.string (s.extract f s.size))).put (some 94) (.agg (iC (s.extract f s.size) (0, 0)))) _
  refine wpAnyT_take 4 4 (v := (.agg (rkNil P))) (by rfl) (by rfl) (by kernel_rfl) (by kernel_rfl) (by kernel_rfl) (by kernel_rfl) (by kernel_rfl) (fun _ _ _ h => hQ _ _ _ _ _ h) (fun w hSw => (by have q0 : (loadVar 52 ⟨p, 0, none⟩).run Tryz.prog w = .ok (.agg (rkNil P)) w := rk_var ((hSw.block _ lp).trans bp); show Sem.run _ (execOp _ ⟨_, .load 52 (.tmp 6), _, _, _, _⟩) _ = _; unfold execOp; simp only [show ((((a.put (some 91) (.string s)).put (some 92) (.int .i64 (f : Int))).put (some 93) (.string (s.extract f s.size))).put (some 94) (.agg (iC (s.extract f s.size) (0, 0)))).eval (.tmp 6) = _ from ((ev_ne (by decide)).trans ((ev_ne (by decide)).trans ((ev_ne (by decide)).trans ((ev_ne (by decide)).trans h6)))), Instr.loadAt, Instr.sureAddr, Sem.run_bind, Sem.run_pure, Result.andThen_ok, q0])) S0 ?_
  change wpAnyT _ _ _ _ _ _ _ _ (((((a.put (some 91) (.string s)).put (some 92) (.int .i64 (f : Int))).put (some 93) (.string (s.extract f s.size))).put (some 94) (.agg (iC (s.extract f s.size) (0, 0)))).put (some 95) (.agg (rkNil P))) _
  refine wpAnyT_three 5 9 10 (by kernel_rfl) ?_ ?_ ?_
  · skip
    refine opU_call (f := 41) (args := #[.agg (iC (s.extract f s.size) (0, 0)), .agg (rkNil P)]) (w1 := W) (by rfl) (by rfl) (by show Sem.run _ (execOp _ ⟨_, .call { callee := .value (.func 41), args := #[.tmp 94, .tmp 95], argTypes := #[111, 52] }, _, _, _, _⟩) _ = _; unfold execOp; have e1 := body_enters; simp only [List.map_toArray, List.map_cons, List.map_nil, show (((((a.put (some 91) (.string s)).put (some 92) (.int .i64 (f : Int))).put (some 93) (.string (s.extract f s.size))).put (some 94) (.agg (iC (s.extract f s.size) (0, 0)))).put (some 95) (.agg (rkNil P))).eval (.tmp 94) = _ from ((ev_ne (by decide)).trans (ev_same (by simp only [put_sz, hsz]; decide))), show (((((a.put (some 91) (.string s)).put (some 92) (.int .i64 (f : Int))).put (some 93) (.string (s.extract f s.size))).put (some 94) (.agg (iC (s.extract f s.size) (0, 0)))).put (some 95) (.agg (rkNil P))).eval (.tmp 95) = _ from (ev_same (by simp only [put_sz, hsz]; decide))]; go_simp) (hc W) ?_
    rintro e w1 ⟨vc, vp, vw, vs, vf, rfl, o1, b1⟩
    have B1 := S0.trans (b1.mono S0.size)
    have O1 := o1.base S0.size
    refine ⟨_, rfl, fun _ => B1, ?_⟩
    change wpAnyT _ _ _ _ _ _ _ _ ((((((a.put (some 91) (.string s)).put (some 92) (.int .i64 (f : Int))).put (some 93) (.string (s.extract f s.size))).put (some 94) (.agg (iC (s.extract f s.size) (0, 0)))).put (some 95) (.agg (rkNil P))).put (some 96) (.tuple #[.agg (iC (s.extract f s.size) X.1), .agg (rkCells X.2 vc vp vw vs vf)])) _
    refine wpAnyT_take 6 6 (v := (.tuple #[.agg (iC (s.extract f s.size) X.1), .agg (rkCells X.2 vc vp vw vs vf)])) (by rfl) (by rfl) (by kernel_rfl) (by kernel_rfl) (by kernel_rfl) (by kernel_rfl) (by kernel_rfl) (fun _ _ _ h => hQ _ _ _ _ _ h) (fun w hSw => (by show Sem.run _ (execOp _ ⟨_, .move (.tmp 96), _, _, _, _⟩) _ = _; unfold execOp; simp only [show ((((((a.put (some 91) (.string s)).put (some 92) (.int .i64 (f : Int))).put (some 93) (.string (s.extract f s.size))).put (some 94) (.agg (iC (s.extract f s.size) (0, 0)))).put (some 95) (.agg (rkNil P))).put (some 96) (.tuple #[.agg (iC (s.extract f s.size) X.1), .agg (rkCells X.2 vc vp vw vs vf)])).eval (.tmp 96) = _ from (ev_same (by simp only [put_sz, hsz]; decide))]; go_simp)) B1 ?_
    change wpAnyT _ _ _ _ _ _ _ _ (((((((a.put (some 91) (.string s)).put (some 92) (.int .i64 (f : Int))).put (some 93) (.string (s.extract f s.size))).put (some 94) (.agg (iC (s.extract f s.size) (0, 0)))).put (some 95) (.agg (rkNil P))).put (some 96) (.tuple #[.agg (iC (s.extract f s.size) X.1), .agg (rkCells X.2 vc vp vw vs vf)])).put (some 90) (.tuple #[.agg (iC (s.extract f s.size) X.1), .agg (rkCells X.2 vc vp vw vs vf)])) _
    refine wpAnyT_take 7 7 (v := (.agg (iC (s.extract f s.size) X.1))) (by rfl) (by rfl) (by kernel_rfl) (by kernel_rfl) (by kernel_rfl) (by kernel_rfl) (by kernel_rfl) (fun _ _ _ h => hQ _ _ _ _ _ h) (fun w hSw => (by show Sem.run _ (execOp _ ⟨_, .extract (.tmp 90) 0, _, _, _, _⟩) _ = _; unfold execOp; simp only [show (((((((a.put (some 91) (.string s)).put (some 92) (.int .i64 (f : Int))).put (some 93) (.string (s.extract f s.size))).put (some 94) (.agg (iC (s.extract f s.size) (0, 0)))).put (some 95) (.agg (rkNil P))).put (some 96) (.tuple #[.agg (iC (s.extract f s.size) X.1), .agg (rkCells X.2 vc vp vw vs vf)])).put (some 90) (.tuple #[.agg (iC (s.extract f s.size) X.1), .agg (rkCells X.2 vc vp vw vs vf)])).eval (.tmp 90) = _ from (ev_same (by simp only [put_sz, hsz]; decide))]; go_simp)) B1 ?_
    change wpAnyT _ _ _ _ _ _ _ _ ((((((((a.put (some 91) (.string s)).put (some 92) (.int .i64 (f : Int))).put (some 93) (.string (s.extract f s.size))).put (some 94) (.agg (iC (s.extract f s.size) (0, 0)))).put (some 95) (.agg (rkNil P))).put (some 96) (.tuple #[.agg (iC (s.extract f s.size) X.1), .agg (rkCells X.2 vc vp vw vs vf)])).put (some 90) (.tuple #[.agg (iC (s.extract f s.size) X.1), .agg (rkCells X.2 vc vp vw vs vf)])).put (some 97) (.agg (iC (s.extract f s.size) X.1))) _
    refine wpAnyT_take 8 8 (v := (.agg (rkCells X.2 vc vp vw vs vf))) (by rfl) (by rfl) (by kernel_rfl) (by kernel_rfl) (by kernel_rfl) (by kernel_rfl) (by kernel_rfl) (fun _ _ _ h => hQ _ _ _ _ _ h) (fun w hSw => (by show Sem.run _ (execOp _ ⟨_, .extract (.tmp 90) 1, _, _, _, _⟩) _ = _; unfold execOp; simp only [show ((((((((a.put (some 91) (.string s)).put (some 92) (.int .i64 (f : Int))).put (some 93) (.string (s.extract f s.size))).put (some 94) (.agg (iC (s.extract f s.size) (0, 0)))).put (some 95) (.agg (rkNil P))).put (some 96) (.tuple #[.agg (iC (s.extract f s.size) X.1), .agg (rkCells X.2 vc vp vw vs vf)])).put (some 90) (.tuple #[.agg (iC (s.extract f s.size) X.1), .agg (rkCells X.2 vc vp vw vs vf)])).put (some 97) (.agg (iC (s.extract f s.size) X.1))).eval (.tmp 90) = _ from ((ev_ne (by decide)).trans (ev_same (by simp only [put_sz, hsz]; decide)))]; go_simp)) B1 ?_
    change wpAnyT _ _ _ _ _ _ _ _ (((((((((a.put (some 91) (.string s)).put (some 92) (.int .i64 (f : Int))).put (some 93) (.string (s.extract f s.size))).put (some 94) (.agg (iC (s.extract f s.size) (0, 0)))).put (some 95) (.agg (rkNil P))).put (some 96) (.tuple #[.agg (iC (s.extract f s.size) X.1), .agg (rkCells X.2 vc vp vw vs vf)])).put (some 90) (.tuple #[.agg (iC (s.extract f s.size) X.1), .agg (rkCells X.2 vc vp vw vs vf)])).put (some 97) (.agg (iC (s.extract f s.size) X.1))).put (some 98) (.agg (rkCells X.2 vc vp vw vs vf))) _
    refine wpAnyT_two 9 10 (by kernel_rfl) ?_ ?_
    · skip
      refine opT (v := .pointer (some ⟨w1.heap.size, 0, none⟩)) (w' := w1.alloc (.cells (iC ⟨#[]⟩ (0, 0)) 111)) (by rfl) (by rfl) (by show Sem.run _ (execOp _ ⟨_, .alloc 111, _, _, _, _⟩) _ = _; unfold execOp; go_simp; try rfl) ?_
      have bl2 : Below w1.heap.size w1 (w1.alloc (.cells (iC ⟨#[]⟩ (0, 0)) 111)) := (Below.refl _ _).alloc (Nat.le_refl _) _
      have B2 := B1.trans (bl2.mono B1.size)
      have li2 : W.heap.size ≤ w1.heap.size := B1.size
      have zi2 := heap_alloc_new w1 (.cells (iC ⟨#[]⟩ (0, 0)) 111)
      refine ⟨fun _ => B2, ?_⟩
      have O2 := O1.below bl2
      have fi2 := O1.far (.inr (Nat.le_refl _))
      change wpAnyT _ _ _ _ _ _ _ _ ((((((((((a.put (some 91) (.string s)).put (some 92) (.int .i64 (f : Int))).put (some 93) (.string (s.extract f s.size))).put (some 94) (.agg (iC (s.extract f s.size) (0, 0)))).put (some 95) (.agg (rkNil P))).put (some 96) (.tuple #[.agg (iC (s.extract f s.size) X.1), .agg (rkCells X.2 vc vp vw vs vf)])).put (some 90) (.tuple #[.agg (iC (s.extract f s.size) X.1), .agg (rkCells X.2 vc vp vw vs vf)])).put (some 97) (.agg (iC (s.extract f s.size) X.1))).put (some 98) (.agg (rkCells X.2 vc vp vw vs vf))).put (some 12) (.pointer (some ⟨w1.heap.size, 0, none⟩))) _
      generalize hw2 : w1.alloc (.cells (iC ⟨#[]⟩ (0, 0)) 111) = w2 at *
      refine wpAnyT_one 10 (by kernel_rfl) ?_
      refine opT (v := .pointer (some ⟨w2.heap.size, 0, none⟩)) (w' := w2.alloc (.cells (rkNil PK.zeroPk) 52)) (by rfl) (by rfl) (by show Sem.run _ (execOp _ ⟨_, .alloc 52, _, _, _, _⟩) _ = _; unfold execOp; go_simp; try rfl) ?_
      have bl3 : Below w2.heap.size w2 (w2.alloc (.cells (rkNil PK.zeroPk) 52)) := (Below.refl _ _).alloc (Nat.le_refl _) _
      have B3 := B2.trans (bl3.mono B2.size)
      have lp3 : W.heap.size ≤ w2.heap.size := B2.size
      have zp3 := heap_alloc_new w2 (.cells (rkNil PK.zeroPk) 52)
      refine ⟨fun _ => B3, ?_⟩
      have O3 := O2.below bl3
      have fp3 := O2.far (.inr (Nat.le_refl _))
      have zi3 := (bl3.block _ (lt_heap zi2)).trans zi2
      have ne3 : w2.heap.size ≠ w1.heap.size := fun h => by have := lt_heap zi2; omega
      change wpAnyT _ _ _ _ _ _ _ _ (((((((((((a.put (some 91) (.string s)).put (some 92) (.int .i64 (f : Int))).put (some 93) (.string (s.extract f s.size))).put (some 94) (.agg (iC (s.extract f s.size) (0, 0)))).put (some 95) (.agg (rkNil P))).put (some 96) (.tuple #[.agg (iC (s.extract f s.size) X.1), .agg (rkCells X.2 vc vp vw vs vf)])).put (some 90) (.tuple #[.agg (iC (s.extract f s.size) X.1), .agg (rkCells X.2 vc vp vw vs vf)])).put (some 97) (.agg (iC (s.extract f s.size) X.1))).put (some 98) (.agg (rkCells X.2 vc vp vw vs vf))).put (some 12) (.pointer (some ⟨w1.heap.size, 0, none⟩))).put (some 13) (.pointer (some ⟨w2.heap.size, 0, none⟩))) _
      generalize hw3 : w2.alloc (.cells (rkNil PK.zeroPk) 52) = w3 at *
      have FI := fi2
      have FP := fp3
      refine wpAnyT_one 11 (by kernel_rfl) (opU_store (by rfl) (by rfl) (by rfl) 111 (.tmp 12) (.tmp 97) (by rfl) w1.heap.size (iC (s.extract f s.size) X.1) ((ev_ne (by decide)).trans (ev_same (by simp only [put_sz, hsz]; decide))) ((ev_ne (by decide)).trans ((ev_ne (by decide)).trans ((ev_ne (by decide)).trans (ev_same (by simp only [put_sz, hsz]; decide))))) 111 (iC ⟨#[]⟩ (0, 0)) zi3 i_info rfl (iC_one _ _) ⟨fun _ => below_setRow B3 li2 _, ?_⟩)
      refine wpAnyT_one 12 (by kernel_rfl) (opU_store (by rfl) (by rfl) (by rfl) 52 (.tmp 13) (.tmp 98) (by rfl) w2.heap.size (rkCells X.2 vc vp vw vs vf) (ev_same (by simp only [put_sz, hsz]; decide)) ((ev_ne (by decide)).trans ((ev_ne (by decide)).trans (ev_same (by simp only [put_sz, hsz]; decide)))) 52 (rkNil PK.zeroPk) ((setRow_other _ ne3).trans zp3) rk_info rfl (rk_one _ O3) ⟨fun _ => below_setRow (below_setRow B3 li2 _) lp3 _, ?_⟩)
      refine wpAnyT_done (by kernel_rfl) ?_
      rw [pc (d := 12) (e := 13) (by decide), pc (d := 13) (e := 12) (by decide)]
      exact hK _ _ _ _ _ _ _ _ (GG.mk' li2 lp3 (fun h => ne3 h.symm) zi3 zp3 O3 FI FP B3)
    · skip
      refine opT (v := .pointer (some ⟨w1.heap.size, 0, none⟩)) (w' := w1.alloc (.cells (rkNil PK.zeroPk) 52)) (by rfl) (by rfl) (by show Sem.run _ (execOp _ ⟨_, .alloc 52, _, _, _, _⟩) _ = _; unfold execOp; go_simp; try rfl) ?_
      have bl2 : Below w1.heap.size w1 (w1.alloc (.cells (rkNil PK.zeroPk) 52)) := (Below.refl _ _).alloc (Nat.le_refl _) _
      have B2 := B1.trans (bl2.mono B1.size)
      have lp2 : W.heap.size ≤ w1.heap.size := B1.size
      have zp2 := heap_alloc_new w1 (.cells (rkNil PK.zeroPk) 52)
      refine ⟨fun _ => B2, ?_⟩
      have O2 := O1.below bl2
      have fp2 := O1.far (.inr (Nat.le_refl _))
      change wpAnyT _ _ _ _ _ _ _ _ ((((((((((a.put (some 91) (.string s)).put (some 92) (.int .i64 (f : Int))).put (some 93) (.string (s.extract f s.size))).put (some 94) (.agg (iC (s.extract f s.size) (0, 0)))).put (some 95) (.agg (rkNil P))).put (some 96) (.tuple #[.agg (iC (s.extract f s.size) X.1), .agg (rkCells X.2 vc vp vw vs vf)])).put (some 90) (.tuple #[.agg (iC (s.extract f s.size) X.1), .agg (rkCells X.2 vc vp vw vs vf)])).put (some 97) (.agg (iC (s.extract f s.size) X.1))).put (some 98) (.agg (rkCells X.2 vc vp vw vs vf))).put (some 13) (.pointer (some ⟨w1.heap.size, 0, none⟩))) _
      generalize hw2 : w1.alloc (.cells (rkNil PK.zeroPk) 52) = w2 at *
      refine wpAnyT_one 9 (by kernel_rfl) ?_
      refine opT (v := .pointer (some ⟨w2.heap.size, 0, none⟩)) (w' := w2.alloc (.cells (iC ⟨#[]⟩ (0, 0)) 111)) (by rfl) (by rfl) (by show Sem.run _ (execOp _ ⟨_, .alloc 111, _, _, _, _⟩) _ = _; unfold execOp; go_simp; try rfl) ?_
      have bl3 : Below w2.heap.size w2 (w2.alloc (.cells (iC ⟨#[]⟩ (0, 0)) 111)) := (Below.refl _ _).alloc (Nat.le_refl _) _
      have B3 := B2.trans (bl3.mono B2.size)
      have li3 : W.heap.size ≤ w2.heap.size := B2.size
      have zi3 := heap_alloc_new w2 (.cells (iC ⟨#[]⟩ (0, 0)) 111)
      refine ⟨fun _ => B3, ?_⟩
      have O3 := O2.below bl3
      have fi3 := O2.far (.inr (Nat.le_refl _))
      have zp3 := (bl3.block _ (lt_heap zp2)).trans zp2
      have ne3 : w2.heap.size ≠ w1.heap.size := fun h => by have := lt_heap zp2; omega
      change wpAnyT _ _ _ _ _ _ _ _ (((((((((((a.put (some 91) (.string s)).put (some 92) (.int .i64 (f : Int))).put (some 93) (.string (s.extract f s.size))).put (some 94) (.agg (iC (s.extract f s.size) (0, 0)))).put (some 95) (.agg (rkNil P))).put (some 96) (.tuple #[.agg (iC (s.extract f s.size) X.1), .agg (rkCells X.2 vc vp vw vs vf)])).put (some 90) (.tuple #[.agg (iC (s.extract f s.size) X.1), .agg (rkCells X.2 vc vp vw vs vf)])).put (some 97) (.agg (iC (s.extract f s.size) X.1))).put (some 98) (.agg (rkCells X.2 vc vp vw vs vf))).put (some 13) (.pointer (some ⟨w1.heap.size, 0, none⟩))).put (some 12) (.pointer (some ⟨w2.heap.size, 0, none⟩))) _
      generalize hw3 : w2.alloc (.cells (iC ⟨#[]⟩ (0, 0)) 111) = w3 at *
      have FI := fi3
      have FP := fp2
      refine wpAnyT_one 11 (by kernel_rfl) (opU_store (by rfl) (by rfl) (by rfl) 111 (.tmp 12) (.tmp 97) (by rfl) w2.heap.size (iC (s.extract f s.size) X.1) (ev_same (by simp only [put_sz, hsz]; decide)) ((ev_ne (by decide)).trans ((ev_ne (by decide)).trans ((ev_ne (by decide)).trans (ev_same (by simp only [put_sz, hsz]; decide))))) 111 (iC ⟨#[]⟩ (0, 0)) zi3 i_info rfl (iC_one _ _) ⟨fun _ => below_setRow B3 li3 _, ?_⟩)
      refine wpAnyT_one 12 (by kernel_rfl) (opU_store (by rfl) (by rfl) (by rfl) 52 (.tmp 13) (.tmp 98) (by rfl) w1.heap.size (rkCells X.2 vc vp vw vs vf) ((ev_ne (by decide)).trans (ev_same (by simp only [put_sz, hsz]; decide))) ((ev_ne (by decide)).trans ((ev_ne (by decide)).trans (ev_same (by simp only [put_sz, hsz]; decide)))) 52 (rkNil PK.zeroPk) ((setRow_other _ (Ne.symm ne3)).trans zp3) rk_info rfl (rk_one _ O3) ⟨fun _ => below_setRow (below_setRow B3 li3 _) lp2 _, ?_⟩)
      refine wpAnyT_done (by kernel_rfl) ?_
      rw [pc (d := 13) (e := 12) (by decide)]
      exact hK _ _ _ _ _ _ _ _ (GG.mk' li3 lp2 (fun h => (Ne.symm ne3) h.symm) zi3 zp3 O3 FI FP B3)
  · skip
    refine opT (v := .pointer (some ⟨W.heap.size, 0, none⟩)) (w' := W.alloc (.cells (iC ⟨#[]⟩ (0, 0)) 111)) (by rfl) (by rfl) (by show Sem.run _ (execOp _ ⟨_, .alloc 111, _, _, _, _⟩) _ = _; unfold execOp; go_simp; try rfl) ?_
    have bl1 : Below W.heap.size W (W.alloc (.cells (iC ⟨#[]⟩ (0, 0)) 111)) := (Below.refl _ _).alloc (Nat.le_refl _) _
    have B1 := S0.trans (bl1.mono S0.size)
    have li1 : W.heap.size ≤ W.heap.size := S0.size
    have zi1 := heap_alloc_new W (.cells (iC ⟨#[]⟩ (0, 0)) 111)
    refine ⟨fun _ => B1, ?_⟩
    change wpAnyT _ _ _ _ _ _ _ _ ((((((a.put (some 91) (.string s)).put (some 92) (.int .i64 (f : Int))).put (some 93) (.string (s.extract f s.size))).put (some 94) (.agg (iC (s.extract f s.size) (0, 0)))).put (some 95) (.agg (rkNil P))).put (some 12) (.pointer (some ⟨W.heap.size, 0, none⟩))) _
    generalize hw1 : W.alloc (.cells (iC ⟨#[]⟩ (0, 0)) 111) = w1 at *
    refine wpAnyT_two 5 10 (by kernel_rfl) ?_ ?_
    · skip
      refine opU_call (f := 41) (args := #[.agg (iC (s.extract f s.size) (0, 0)), .agg (rkNil P)]) (w1 := w1) (by rfl) (by rfl) (by show Sem.run _ (execOp _ ⟨_, .call { callee := .value (.func 41), args := #[.tmp 94, .tmp 95], argTypes := #[111, 52] }, _, _, _, _⟩) _ = _; unfold execOp; have e1 := body_enters; simp only [List.map_toArray, List.map_cons, List.map_nil, show ((((((a.put (some 91) (.string s)).put (some 92) (.int .i64 (f : Int))).put (some 93) (.string (s.extract f s.size))).put (some 94) (.agg (iC (s.extract f s.size) (0, 0)))).put (some 95) (.agg (rkNil P))).put (some 12) (.pointer (some ⟨W.heap.size, 0, none⟩))).eval (.tmp 94) = _ from ((ev_ne (by decide)).trans ((ev_ne (by decide)).trans (ev_same (by simp only [put_sz, hsz]; decide)))), show ((((((a.put (some 91) (.string s)).put (some 92) (.int .i64 (f : Int))).put (some 93) (.string (s.extract f s.size))).put (some 94) (.agg (iC (s.extract f s.size) (0, 0)))).put (some 95) (.agg (rkNil P))).put (some 12) (.pointer (some ⟨W.heap.size, 0, none⟩))).eval (.tmp 95) = _ from ((ev_ne (by decide)).trans (ev_same (by simp only [put_sz, hsz]; decide)))]; go_simp) (hc w1) ?_
      rintro e w2 ⟨vc, vp, vw, vs, vf, rfl, o2, b2⟩
      have B2 := B1.trans (b2.mono B1.size)
      have O2 := o2.base B1.size
      refine ⟨_, rfl, fun _ => B2, ?_⟩
      change wpAnyT _ _ _ _ _ _ _ _ (((((((a.put (some 91) (.string s)).put (some 92) (.int .i64 (f : Int))).put (some 93) (.string (s.extract f s.size))).put (some 94) (.agg (iC (s.extract f s.size) (0, 0)))).put (some 95) (.agg (rkNil P))).put (some 12) (.pointer (some ⟨W.heap.size, 0, none⟩))).put (some 96) (.tuple #[.agg (iC (s.extract f s.size) X.1), .agg (rkCells X.2 vc vp vw vs vf)])) _
      have zi2 := (b2.block _ (lt_heap zi1)).trans zi1
      have fi2 := o2.far (.inl (lt_heap zi1))
      refine wpAnyT_take 6 6 (v := (.tuple #[.agg (iC (s.extract f s.size) X.1), .agg (rkCells X.2 vc vp vw vs vf)])) (by rfl) (by rfl) (by kernel_rfl) (by kernel_rfl) (by kernel_rfl) (by kernel_rfl) (by kernel_rfl) (fun _ _ _ h => hQ _ _ _ _ _ h) (fun w hSw => (by show Sem.run _ (execOp _ ⟨_, .move (.tmp 96), _, _, _, _⟩) _ = _; unfold execOp; simp only [show (((((((a.put (some 91) (.string s)).put (some 92) (.int .i64 (f : Int))).put (some 93) (.string (s.extract f s.size))).put (some 94) (.agg (iC (s.extract f s.size) (0, 0)))).put (some 95) (.agg (rkNil P))).put (some 12) (.pointer (some ⟨W.heap.size, 0, none⟩))).put (some 96) (.tuple #[.agg (iC (s.extract f s.size) X.1), .agg (rkCells X.2 vc vp vw vs vf)])).eval (.tmp 96) = _ from (ev_same (by simp only [put_sz, hsz]; decide))]; go_simp)) B2 ?_
      change wpAnyT _ _ _ _ _ _ _ _ ((((((((a.put (some 91) (.string s)).put (some 92) (.int .i64 (f : Int))).put (some 93) (.string (s.extract f s.size))).put (some 94) (.agg (iC (s.extract f s.size) (0, 0)))).put (some 95) (.agg (rkNil P))).put (some 12) (.pointer (some ⟨W.heap.size, 0, none⟩))).put (some 96) (.tuple #[.agg (iC (s.extract f s.size) X.1), .agg (rkCells X.2 vc vp vw vs vf)])).put (some 90) (.tuple #[.agg (iC (s.extract f s.size) X.1), .agg (rkCells X.2 vc vp vw vs vf)])) _
      refine wpAnyT_take 7 7 (v := (.agg (iC (s.extract f s.size) X.1))) (by rfl) (by rfl) (by kernel_rfl) (by kernel_rfl) (by kernel_rfl) (by kernel_rfl) (by kernel_rfl) (fun _ _ _ h => hQ _ _ _ _ _ h) (fun w hSw => (by show Sem.run _ (execOp _ ⟨_, .extract (.tmp 90) 0, _, _, _, _⟩) _ = _; unfold execOp; simp only [show ((((((((a.put (some 91) (.string s)).put (some 92) (.int .i64 (f : Int))).put (some 93) (.string (s.extract f s.size))).put (some 94) (.agg (iC (s.extract f s.size) (0, 0)))).put (some 95) (.agg (rkNil P))).put (some 12) (.pointer (some ⟨W.heap.size, 0, none⟩))).put (some 96) (.tuple #[.agg (iC (s.extract f s.size) X.1), .agg (rkCells X.2 vc vp vw vs vf)])).put (some 90) (.tuple #[.agg (iC (s.extract f s.size) X.1), .agg (rkCells X.2 vc vp vw vs vf)])).eval (.tmp 90) = _ from (ev_same (by simp only [put_sz, hsz]; decide))]; go_simp)) B2 ?_
      change wpAnyT _ _ _ _ _ _ _ _ (((((((((a.put (some 91) (.string s)).put (some 92) (.int .i64 (f : Int))).put (some 93) (.string (s.extract f s.size))).put (some 94) (.agg (iC (s.extract f s.size) (0, 0)))).put (some 95) (.agg (rkNil P))).put (some 12) (.pointer (some ⟨W.heap.size, 0, none⟩))).put (some 96) (.tuple #[.agg (iC (s.extract f s.size) X.1), .agg (rkCells X.2 vc vp vw vs vf)])).put (some 90) (.tuple #[.agg (iC (s.extract f s.size) X.1), .agg (rkCells X.2 vc vp vw vs vf)])).put (some 97) (.agg (iC (s.extract f s.size) X.1))) _
      refine wpAnyT_take 8 8 (v := (.agg (rkCells X.2 vc vp vw vs vf))) (by rfl) (by rfl) (by kernel_rfl) (by kernel_rfl) (by kernel_rfl) (by kernel_rfl) (by kernel_rfl) (fun _ _ _ h => hQ _ _ _ _ _ h) (fun w hSw => (by show Sem.run _ (execOp _ ⟨_, .extract (.tmp 90) 1, _, _, _, _⟩) _ = _; unfold execOp; simp only [show (((((((((a.put (some 91) (.string s)).put (some 92) (.int .i64 (f : Int))).put (some 93) (.string (s.extract f s.size))).put (some 94) (.agg (iC (s.extract f s.size) (0, 0)))).put (some 95) (.agg (rkNil P))).put (some 12) (.pointer (some ⟨W.heap.size, 0, none⟩))).put (some 96) (.tuple #[.agg (iC (s.extract f s.size) X.1), .agg (rkCells X.2 vc vp vw vs vf)])).put (some 90) (.tuple #[.agg (iC (s.extract f s.size) X.1), .agg (rkCells X.2 vc vp vw vs vf)])).put (some 97) (.agg (iC (s.extract f s.size) X.1))).eval (.tmp 90) = _ from ((ev_ne (by decide)).trans (ev_same (by simp only [put_sz, hsz]; decide)))]; go_simp)) B2 ?_
      change wpAnyT _ _ _ _ _ _ _ _ ((((((((((a.put (some 91) (.string s)).put (some 92) (.int .i64 (f : Int))).put (some 93) (.string (s.extract f s.size))).put (some 94) (.agg (iC (s.extract f s.size) (0, 0)))).put (some 95) (.agg (rkNil P))).put (some 12) (.pointer (some ⟨W.heap.size, 0, none⟩))).put (some 96) (.tuple #[.agg (iC (s.extract f s.size) X.1), .agg (rkCells X.2 vc vp vw vs vf)])).put (some 90) (.tuple #[.agg (iC (s.extract f s.size) X.1), .agg (rkCells X.2 vc vp vw vs vf)])).put (some 97) (.agg (iC (s.extract f s.size) X.1))).put (some 98) (.agg (rkCells X.2 vc vp vw vs vf))) _
      refine wpAnyT_one 10 (by kernel_rfl) ?_
      refine opT (v := .pointer (some ⟨w2.heap.size, 0, none⟩)) (w' := w2.alloc (.cells (rkNil PK.zeroPk) 52)) (by rfl) (by rfl) (by show Sem.run _ (execOp _ ⟨_, .alloc 52, _, _, _, _⟩) _ = _; unfold execOp; go_simp; try rfl) ?_
      have bl3 : Below w2.heap.size w2 (w2.alloc (.cells (rkNil PK.zeroPk) 52)) := (Below.refl _ _).alloc (Nat.le_refl _) _
      have B3 := B2.trans (bl3.mono B2.size)
      have lp3 : W.heap.size ≤ w2.heap.size := B2.size
      have zp3 := heap_alloc_new w2 (.cells (rkNil PK.zeroPk) 52)
      refine ⟨fun _ => B3, ?_⟩
      have O3 := O2.below bl3
      have fp3 := O2.far (.inr (Nat.le_refl _))
      have zi3 := (bl3.block _ (lt_heap zi2)).trans zi2
      have ne3 : w2.heap.size ≠ W.heap.size := fun h => by have := lt_heap zi2; omega
      change wpAnyT _ _ _ _ _ _ _ _ (((((((((((a.put (some 91) (.string s)).put (some 92) (.int .i64 (f : Int))).put (some 93) (.string (s.extract f s.size))).put (some 94) (.agg (iC (s.extract f s.size) (0, 0)))).put (some 95) (.agg (rkNil P))).put (some 12) (.pointer (some ⟨W.heap.size, 0, none⟩))).put (some 96) (.tuple #[.agg (iC (s.extract f s.size) X.1), .agg (rkCells X.2 vc vp vw vs vf)])).put (some 90) (.tuple #[.agg (iC (s.extract f s.size) X.1), .agg (rkCells X.2 vc vp vw vs vf)])).put (some 97) (.agg (iC (s.extract f s.size) X.1))).put (some 98) (.agg (rkCells X.2 vc vp vw vs vf))).put (some 13) (.pointer (some ⟨w2.heap.size, 0, none⟩))) _
      generalize hw3 : w2.alloc (.cells (rkNil PK.zeroPk) 52) = w3 at *
      have FI := fi2
      have FP := fp3
      refine wpAnyT_one 11 (by kernel_rfl) (opU_store (by rfl) (by rfl) (by rfl) 111 (.tmp 12) (.tmp 97) (by rfl) W.heap.size (iC (s.extract f s.size) X.1) ((ev_ne (by decide)).trans ((ev_ne (by decide)).trans ((ev_ne (by decide)).trans ((ev_ne (by decide)).trans ((ev_ne (by decide)).trans (ev_same (by simp only [put_sz, hsz]; decide))))))) ((ev_ne (by decide)).trans ((ev_ne (by decide)).trans (ev_same (by simp only [put_sz, hsz]; decide)))) 111 (iC ⟨#[]⟩ (0, 0)) zi3 i_info rfl (iC_one _ _) ⟨fun _ => below_setRow B3 li1 _, ?_⟩)
      refine wpAnyT_one 12 (by kernel_rfl) (opU_store (by rfl) (by rfl) (by rfl) 52 (.tmp 13) (.tmp 98) (by rfl) w2.heap.size (rkCells X.2 vc vp vw vs vf) (ev_same (by simp only [put_sz, hsz]; decide)) ((ev_ne (by decide)).trans (ev_same (by simp only [put_sz, hsz]; decide))) 52 (rkNil PK.zeroPk) ((setRow_other _ ne3).trans zp3) rk_info rfl (rk_one _ O3) ⟨fun _ => below_setRow (below_setRow B3 li1 _) lp3 _, ?_⟩)
      refine wpAnyT_done (by kernel_rfl) ?_
      rw [pc (d := 12) (e := 96) (by decide), pc (d := 12) (e := 90) (by decide), pc (d := 12) (e := 97) (by decide), pc (d := 12) (e := 98) (by decide), pc (d := 12) (e := 13) (by decide), pc (d := 13) (e := 12) (by decide)]
      exact hK _ _ _ _ _ _ _ _ (GG.mk' li1 lp3 (fun h => ne3 h.symm) zi3 zp3 O3 FI FP B3)
    · skip
      refine opT (v := .pointer (some ⟨w1.heap.size, 0, none⟩)) (w' := w1.alloc (.cells (rkNil PK.zeroPk) 52)) (by rfl) (by rfl) (by show Sem.run _ (execOp _ ⟨_, .alloc 52, _, _, _, _⟩) _ = _; unfold execOp; go_simp; try rfl) ?_
      have bl2 : Below w1.heap.size w1 (w1.alloc (.cells (rkNil PK.zeroPk) 52)) := (Below.refl _ _).alloc (Nat.le_refl _) _
      have B2 := B1.trans (bl2.mono B1.size)
      have lp2 : W.heap.size ≤ w1.heap.size := B1.size
      have zp2 := heap_alloc_new w1 (.cells (rkNil PK.zeroPk) 52)
      refine ⟨fun _ => B2, ?_⟩
      have zi2 := (bl2.block _ (lt_heap zi1)).trans zi1
      have ne2 : w1.heap.size ≠ W.heap.size := fun h => by have := lt_heap zi1; omega
      change wpAnyT _ _ _ _ _ _ _ _ (((((((a.put (some 91) (.string s)).put (some 92) (.int .i64 (f : Int))).put (some 93) (.string (s.extract f s.size))).put (some 94) (.agg (iC (s.extract f s.size) (0, 0)))).put (some 95) (.agg (rkNil P))).put (some 12) (.pointer (some ⟨W.heap.size, 0, none⟩))).put (some 13) (.pointer (some ⟨w1.heap.size, 0, none⟩))) _
      generalize hw2 : w1.alloc (.cells (rkNil PK.zeroPk) 52) = w2 at *
      refine wpAnyT_one 5 (by kernel_rfl) ?_
      refine opU_call (f := 41) (args := #[.agg (iC (s.extract f s.size) (0, 0)), .agg (rkNil P)]) (w1 := w2) (by rfl) (by rfl) (by show Sem.run _ (execOp _ ⟨_, .call { callee := .value (.func 41), args := #[.tmp 94, .tmp 95], argTypes := #[111, 52] }, _, _, _, _⟩) _ = _; unfold execOp; have e1 := body_enters; simp only [List.map_toArray, List.map_cons, List.map_nil, show (((((((a.put (some 91) (.string s)).put (some 92) (.int .i64 (f : Int))).put (some 93) (.string (s.extract f s.size))).put (some 94) (.agg (iC (s.extract f s.size) (0, 0)))).put (some 95) (.agg (rkNil P))).put (some 12) (.pointer (some ⟨W.heap.size, 0, none⟩))).put (some 13) (.pointer (some ⟨w1.heap.size, 0, none⟩))).eval (.tmp 94) = _ from ((ev_ne (by decide)).trans ((ev_ne (by decide)).trans ((ev_ne (by decide)).trans (ev_same (by simp only [put_sz, hsz]; decide))))), show (((((((a.put (some 91) (.string s)).put (some 92) (.int .i64 (f : Int))).put (some 93) (.string (s.extract f s.size))).put (some 94) (.agg (iC (s.extract f s.size) (0, 0)))).put (some 95) (.agg (rkNil P))).put (some 12) (.pointer (some ⟨W.heap.size, 0, none⟩))).put (some 13) (.pointer (some ⟨w1.heap.size, 0, none⟩))).eval (.tmp 95) = _ from ((ev_ne (by decide)).trans ((ev_ne (by decide)).trans (ev_same (by simp only [put_sz, hsz]; decide))))]; go_simp) (hc w2) ?_
      rintro e w3 ⟨vc, vp, vw, vs, vf, rfl, o3, b3⟩
      have B3 := B2.trans (b3.mono B2.size)
      have O3 := o3.base B2.size
      refine ⟨_, rfl, fun _ => B3, ?_⟩
      change wpAnyT _ _ _ _ _ _ _ _ ((((((((a.put (some 91) (.string s)).put (some 92) (.int .i64 (f : Int))).put (some 93) (.string (s.extract f s.size))).put (some 94) (.agg (iC (s.extract f s.size) (0, 0)))).put (some 95) (.agg (rkNil P))).put (some 12) (.pointer (some ⟨W.heap.size, 0, none⟩))).put (some 13) (.pointer (some ⟨w1.heap.size, 0, none⟩))).put (some 96) (.tuple #[.agg (iC (s.extract f s.size) X.1), .agg (rkCells X.2 vc vp vw vs vf)])) _
      have zi3 := (b3.block _ (lt_heap zi2)).trans zi2
      have fi3 := o3.far (.inl (lt_heap zi2))
      have zp3 := (b3.block _ (lt_heap zp2)).trans zp2
      have fp3 := o3.far (.inl (lt_heap zp2))
      refine wpAnyT_take 6 6 (v := (.tuple #[.agg (iC (s.extract f s.size) X.1), .agg (rkCells X.2 vc vp vw vs vf)])) (by rfl) (by rfl) (by kernel_rfl) (by kernel_rfl) (by kernel_rfl) (by kernel_rfl) (by kernel_rfl) (fun _ _ _ h => hQ _ _ _ _ _ h) (fun w hSw => (by show Sem.run _ (execOp _ ⟨_, .move (.tmp 96), _, _, _, _⟩) _ = _; unfold execOp; simp only [show ((((((((a.put (some 91) (.string s)).put (some 92) (.int .i64 (f : Int))).put (some 93) (.string (s.extract f s.size))).put (some 94) (.agg (iC (s.extract f s.size) (0, 0)))).put (some 95) (.agg (rkNil P))).put (some 12) (.pointer (some ⟨W.heap.size, 0, none⟩))).put (some 13) (.pointer (some ⟨w1.heap.size, 0, none⟩))).put (some 96) (.tuple #[.agg (iC (s.extract f s.size) X.1), .agg (rkCells X.2 vc vp vw vs vf)])).eval (.tmp 96) = _ from (ev_same (by simp only [put_sz, hsz]; decide))]; go_simp)) B3 ?_
      change wpAnyT _ _ _ _ _ _ _ _ (((((((((a.put (some 91) (.string s)).put (some 92) (.int .i64 (f : Int))).put (some 93) (.string (s.extract f s.size))).put (some 94) (.agg (iC (s.extract f s.size) (0, 0)))).put (some 95) (.agg (rkNil P))).put (some 12) (.pointer (some ⟨W.heap.size, 0, none⟩))).put (some 13) (.pointer (some ⟨w1.heap.size, 0, none⟩))).put (some 96) (.tuple #[.agg (iC (s.extract f s.size) X.1), .agg (rkCells X.2 vc vp vw vs vf)])).put (some 90) (.tuple #[.agg (iC (s.extract f s.size) X.1), .agg (rkCells X.2 vc vp vw vs vf)])) _
      refine wpAnyT_take 7 7 (v := (.agg (iC (s.extract f s.size) X.1))) (by rfl) (by rfl) (by kernel_rfl) (by kernel_rfl) (by kernel_rfl) (by kernel_rfl) (by kernel_rfl) (fun _ _ _ h => hQ _ _ _ _ _ h) (fun w hSw => (by show Sem.run _ (execOp _ ⟨_, .extract (.tmp 90) 0, _, _, _, _⟩) _ = _; unfold execOp; simp only [show (((((((((a.put (some 91) (.string s)).put (some 92) (.int .i64 (f : Int))).put (some 93) (.string (s.extract f s.size))).put (some 94) (.agg (iC (s.extract f s.size) (0, 0)))).put (some 95) (.agg (rkNil P))).put (some 12) (.pointer (some ⟨W.heap.size, 0, none⟩))).put (some 13) (.pointer (some ⟨w1.heap.size, 0, none⟩))).put (some 96) (.tuple #[.agg (iC (s.extract f s.size) X.1), .agg (rkCells X.2 vc vp vw vs vf)])).put (some 90) (.tuple #[.agg (iC (s.extract f s.size) X.1), .agg (rkCells X.2 vc vp vw vs vf)])).eval (.tmp 90) = _ from (ev_same (by simp only [put_sz, hsz]; decide))]; go_simp)) B3 ?_
      change wpAnyT _ _ _ _ _ _ _ _ ((((((((((a.put (some 91) (.string s)).put (some 92) (.int .i64 (f : Int))).put (some 93) (.string (s.extract f s.size))).put (some 94) (.agg (iC (s.extract f s.size) (0, 0)))).put (some 95) (.agg (rkNil P))).put (some 12) (.pointer (some ⟨W.heap.size, 0, none⟩))).put (some 13) (.pointer (some ⟨w1.heap.size, 0, none⟩))).put (some 96) (.tuple #[.agg (iC (s.extract f s.size) X.1), .agg (rkCells X.2 vc vp vw vs vf)])).put (some 90) (.tuple #[.agg (iC (s.extract f s.size) X.1), .agg (rkCells X.2 vc vp vw vs vf)])).put (some 97) (.agg (iC (s.extract f s.size) X.1))) _
      refine wpAnyT_take 8 8 (v := (.agg (rkCells X.2 vc vp vw vs vf))) (by rfl) (by rfl) (by kernel_rfl) (by kernel_rfl) (by kernel_rfl) (by kernel_rfl) (by kernel_rfl) (fun _ _ _ h => hQ _ _ _ _ _ h) (fun w hSw => (by show Sem.run _ (execOp _ ⟨_, .extract (.tmp 90) 1, _, _, _, _⟩) _ = _; unfold execOp; simp only [show ((((((((((a.put (some 91) (.string s)).put (some 92) (.int .i64 (f : Int))).put (some 93) (.string (s.extract f s.size))).put (some 94) (.agg (iC (s.extract f s.size) (0, 0)))).put (some 95) (.agg (rkNil P))).put (some 12) (.pointer (some ⟨W.heap.size, 0, none⟩))).put (some 13) (.pointer (some ⟨w1.heap.size, 0, none⟩))).put (some 96) (.tuple #[.agg (iC (s.extract f s.size) X.1), .agg (rkCells X.2 vc vp vw vs vf)])).put (some 90) (.tuple #[.agg (iC (s.extract f s.size) X.1), .agg (rkCells X.2 vc vp vw vs vf)])).put (some 97) (.agg (iC (s.extract f s.size) X.1))).eval (.tmp 90) = _ from ((ev_ne (by decide)).trans (ev_same (by simp only [put_sz, hsz]; decide)))]; go_simp)) B3 ?_
      change wpAnyT _ _ _ _ _ _ _ _ (((((((((((a.put (some 91) (.string s)).put (some 92) (.int .i64 (f : Int))).put (some 93) (.string (s.extract f s.size))).put (some 94) (.agg (iC (s.extract f s.size) (0, 0)))).put (some 95) (.agg (rkNil P))).put (some 12) (.pointer (some ⟨W.heap.size, 0, none⟩))).put (some 13) (.pointer (some ⟨w1.heap.size, 0, none⟩))).put (some 96) (.tuple #[.agg (iC (s.extract f s.size) X.1), .agg (rkCells X.2 vc vp vw vs vf)])).put (some 90) (.tuple #[.agg (iC (s.extract f s.size) X.1), .agg (rkCells X.2 vc vp vw vs vf)])).put (some 97) (.agg (iC (s.extract f s.size) X.1))).put (some 98) (.agg (rkCells X.2 vc vp vw vs vf))) _
      have FI := fi3
      have FP := fp3
      refine wpAnyT_one 11 (by kernel_rfl) (opU_store (by rfl) (by rfl) (by rfl) 111 (.tmp 12) (.tmp 97) (by rfl) W.heap.size (iC (s.extract f s.size) X.1) ((ev_ne (by decide)).trans ((ev_ne (by decide)).trans ((ev_ne (by decide)).trans ((ev_ne (by decide)).trans ((ev_ne (by decide)).trans (ev_same (by simp only [put_sz, hsz]; decide))))))) ((ev_ne (by decide)).trans (ev_same (by simp only [put_sz, hsz]; decide))) 111 (iC ⟨#[]⟩ (0, 0)) zi3 i_info rfl (iC_one _ _) ⟨fun _ => below_setRow B3 li1 _, ?_⟩)
      refine wpAnyT_one 12 (by kernel_rfl) (opU_store (by rfl) (by rfl) (by rfl) 52 (.tmp 13) (.tmp 98) (by rfl) w1.heap.size (rkCells X.2 vc vp vw vs vf) ((ev_ne (by decide)).trans ((ev_ne (by decide)).trans ((ev_ne (by decide)).trans ((ev_ne (by decide)).trans (ev_same (by simp only [put_sz, hsz]; decide)))))) (ev_same (by simp only [put_sz, hsz]; decide)) 52 (rkNil PK.zeroPk) ((setRow_other _ ne2).trans zp3) rk_info rfl (rk_one _ O3) ⟨fun _ => below_setRow (below_setRow B3 li1 _) lp2 _, ?_⟩)
      refine wpAnyT_done (by kernel_rfl) ?_
      rw [pc (d := 12) (e := 13) (by decide), pc (d := 12) (e := 96) (by decide), pc (d := 12) (e := 90) (by decide), pc (d := 12) (e := 97) (by decide), pc (d := 12) (e := 98) (by decide), pc (d := 13) (e := 96) (by decide), pc (d := 13) (e := 90) (by decide), pc (d := 13) (e := 97) (by decide), pc (d := 13) (e := 98) (by decide), pc (d := 13) (e := 12) (by decide)]
      exact hK _ _ _ _ _ _ _ _ (GG.mk' li1 lp2 (fun h => ne2 h.symm) zi3 zp3 O3 FI FP B3)
  · skip
    refine opT (v := .pointer (some ⟨W.heap.size, 0, none⟩)) (w' := W.alloc (.cells (rkNil PK.zeroPk) 52)) (by rfl) (by rfl) (by show Sem.run _ (execOp _ ⟨_, .alloc 52, _, _, _, _⟩) _ = _; unfold execOp; go_simp; try rfl) ?_
    have bl1 : Below W.heap.size W (W.alloc (.cells (rkNil PK.zeroPk) 52)) := (Below.refl _ _).alloc (Nat.le_refl _) _
    have B1 := S0.trans (bl1.mono S0.size)
    have lp1 : W.heap.size ≤ W.heap.size := S0.size
    have zp1 := heap_alloc_new W (.cells (rkNil PK.zeroPk) 52)
    refine ⟨fun _ => B1, ?_⟩
    change wpAnyT _ _ _ _ _ _ _ _ ((((((a.put (some 91) (.string s)).put (some 92) (.int .i64 (f : Int))).put (some 93) (.string (s.extract f s.size))).put (some 94) (.agg (iC (s.extract f s.size) (0, 0)))).put (some 95) (.agg (rkNil P))).put (some 13) (.pointer (some ⟨W.heap.size, 0, none⟩))) _
    generalize hw1 : W.alloc (.cells (rkNil PK.zeroPk) 52) = w1 at *
    refine wpAnyT_two 5 9 (by kernel_rfl) ?_ ?_
    · skip
      refine opU_call (f := 41) (args := #[.agg (iC (s.extract f s.size) (0, 0)), .agg (rkNil P)]) (w1 := w1) (by rfl) (by rfl) (by show Sem.run _ (execOp _ ⟨_, .call { callee := .value (.func 41), args := #[.tmp 94, .tmp 95], argTypes := #[111, 52] }, _, _, _, _⟩) _ = _; unfold execOp; have e1 := body_enters; simp only [List.map_toArray, List.map_cons, List.map_nil, show ((((((a.put (some 91) (.string s)).put (some 92) (.int .i64 (f : Int))).put (some 93) (.string (s.extract f s.size))).put (some 94) (.agg (iC (s.extract f s.size) (0, 0)))).put (some 95) (.agg (rkNil P))).put (some 13) (.pointer (some ⟨W.heap.size, 0, none⟩))).eval (.tmp 94) = _ from ((ev_ne (by decide)).trans ((ev_ne (by decide)).trans (ev_same (by simp only [put_sz, hsz]; decide)))), show ((((((a.put (some 91) (.string s)).put (some 92) (.int .i64 (f : Int))).put (some 93) (.string (s.extract f s.size))).put (some 94) (.agg (iC (s.extract f s.size) (0, 0)))).put (some 95) (.agg (rkNil P))).put (some 13) (.pointer (some ⟨W.heap.size, 0, none⟩))).eval (.tmp 95) = _ from ((ev_ne (by decide)).trans (ev_same (by simp only [put_sz, hsz]; decide)))]; go_simp) (hc w1) ?_
      rintro e w2 ⟨vc, vp, vw, vs, vf, rfl, o2, b2⟩
      have B2 := B1.trans (b2.mono B1.size)
      have O2 := o2.base B1.size
      refine ⟨_, rfl, fun _ => B2, ?_⟩
      change wpAnyT _ _ _ _ _ _ _ _ (((((((a.put (some 91) (.string s)).put (some 92) (.int .i64 (f : Int))).put (some 93) (.string (s.extract f s.size))).put (some 94) (.agg (iC (s.extract f s.size) (0, 0)))).put (some 95) (.agg (rkNil P))).put (some 13) (.pointer (some ⟨W.heap.size, 0, none⟩))).put (some 96) (.tuple #[.agg (iC (s.extract f s.size) X.1), .agg (rkCells X.2 vc vp vw vs vf)])) _
      have zp2 := (b2.block _ (lt_heap zp1)).trans zp1
      have fp2 := o2.far (.inl (lt_heap zp1))
      refine wpAnyT_take 6 6 (v := (.tuple #[.agg (iC (s.extract f s.size) X.1), .agg (rkCells X.2 vc vp vw vs vf)])) (by rfl) (by rfl) (by kernel_rfl) (by kernel_rfl) (by kernel_rfl) (by kernel_rfl) (by kernel_rfl) (fun _ _ _ h => hQ _ _ _ _ _ h) (fun w hSw => (by show Sem.run _ (execOp _ ⟨_, .move (.tmp 96), _, _, _, _⟩) _ = _; unfold execOp; simp only [show (((((((a.put (some 91) (.string s)).put (some 92) (.int .i64 (f : Int))).put (some 93) (.string (s.extract f s.size))).put (some 94) (.agg (iC (s.extract f s.size) (0, 0)))).put (some 95) (.agg (rkNil P))).put (some 13) (.pointer (some ⟨W.heap.size, 0, none⟩))).put (some 96) (.tuple #[.agg (iC (s.extract f s.size) X.1), .agg (rkCells X.2 vc vp vw vs vf)])).eval (.tmp 96) = _ from (ev_same (by simp only [put_sz, hsz]; decide))]; go_simp)) B2 ?_
      change wpAnyT _ _ _ _ _ _ _ _ ((((((((a.put (some 91) (.string s)).put (some 92) (.int .i64 (f : Int))).put (some 93) (.string (s.extract f s.size))).put (some 94) (.agg (iC (s.extract f s.size) (0, 0)))).put (some 95) (.agg (rkNil P))).put (some 13) (.pointer (some ⟨W.heap.size, 0, none⟩))).put (some 96) (.tuple #[.agg (iC (s.extract f s.size) X.1), .agg (rkCells X.2 vc vp vw vs vf)])).put (some 90) (.tuple #[.agg (iC (s.extract f s.size) X.1), .agg (rkCells X.2 vc vp vw vs vf)])) _
      refine wpAnyT_take 7 7 (v := (.agg (iC (s.extract f s.size) X.1))) (by rfl) (by rfl) (by kernel_rfl) (by kernel_rfl) (by kernel_rfl) (by kernel_rfl) (by kernel_rfl) (fun _ _ _ h => hQ _ _ _ _ _ h) (fun w hSw => (by show Sem.run _ (execOp _ ⟨_, .extract (.tmp 90) 0, _, _, _, _⟩) _ = _; unfold execOp; simp only [show ((((((((a.put (some 91) (.string s)).put (some 92) (.int .i64 (f : Int))).put (some 93) (.string (s.extract f s.size))).put (some 94) (.agg (iC (s.extract f s.size) (0, 0)))).put (some 95) (.agg (rkNil P))).put (some 13) (.pointer (some ⟨W.heap.size, 0, none⟩))).put (some 96) (.tuple #[.agg (iC (s.extract f s.size) X.1), .agg (rkCells X.2 vc vp vw vs vf)])).put (some 90) (.tuple #[.agg (iC (s.extract f s.size) X.1), .agg (rkCells X.2 vc vp vw vs vf)])).eval (.tmp 90) = _ from (ev_same (by simp only [put_sz, hsz]; decide))]; go_simp)) B2 ?_
      change wpAnyT _ _ _ _ _ _ _ _ (((((((((a.put (some 91) (.string s)).put (some 92) (.int .i64 (f : Int))).put (some 93) (.string (s.extract f s.size))).put (some 94) (.agg (iC (s.extract f s.size) (0, 0)))).put (some 95) (.agg (rkNil P))).put (some 13) (.pointer (some ⟨W.heap.size, 0, none⟩))).put (some 96) (.tuple #[.agg (iC (s.extract f s.size) X.1), .agg (rkCells X.2 vc vp vw vs vf)])).put (some 90) (.tuple #[.agg (iC (s.extract f s.size) X.1), .agg (rkCells X.2 vc vp vw vs vf)])).put (some 97) (.agg (iC (s.extract f s.size) X.1))) _
      refine wpAnyT_take 8 8 (v := (.agg (rkCells X.2 vc vp vw vs vf))) (by rfl) (by rfl) (by kernel_rfl) (by kernel_rfl) (by kernel_rfl) (by kernel_rfl) (by kernel_rfl) (fun _ _ _ h => hQ _ _ _ _ _ h) (fun w hSw => (by show Sem.run _ (execOp _ ⟨_, .extract (.tmp 90) 1, _, _, _, _⟩) _ = _; unfold execOp; simp only [show (((((((((a.put (some 91) (.string s)).put (some 92) (.int .i64 (f : Int))).put (some 93) (.string (s.extract f s.size))).put (some 94) (.agg (iC (s.extract f s.size) (0, 0)))).put (some 95) (.agg (rkNil P))).put (some 13) (.pointer (some ⟨W.heap.size, 0, none⟩))).put (some 96) (.tuple #[.agg (iC (s.extract f s.size) X.1), .agg (rkCells X.2 vc vp vw vs vf)])).put (some 90) (.tuple #[.agg (iC (s.extract f s.size) X.1), .agg (rkCells X.2 vc vp vw vs vf)])).put (some 97) (.agg (iC (s.extract f s.size) X.1))).eval (.tmp 90) = _ from ((ev_ne (by decide)).trans (ev_same (by simp only [put_sz, hsz]; decide)))]; go_simp)) B2 ?_
      change wpAnyT _ _ _ _ _ _ _ _ ((((((((((a.put (some 91) (.string s)).put (some 92) (.int .i64 (f : Int))).put (some 93) (.string (s.extract f s.size))).put (some 94) (.agg (iC (s.extract f s.size) (0, 0)))).put (some 95) (.agg (rkNil P))).put (some 13) (.pointer (some ⟨W.heap.size, 0, none⟩))).put (some 96) (.tuple #[.agg (iC (s.extract f s.size) X.1), .agg (rkCells X.2 vc vp vw vs vf)])).put (some 90) (.tuple #[.agg (iC (s.extract f s.size) X.1), .agg (rkCells X.2 vc vp vw vs vf)])).put (some 97) (.agg (iC (s.extract f s.size) X.1))).put (some 98) (.agg (rkCells X.2 vc vp vw vs vf))) _
      refine wpAnyT_one 9 (by kernel_rfl) ?_
      refine opT (v := .pointer (some ⟨w2.heap.size, 0, none⟩)) (w' := w2.alloc (.cells (iC ⟨#[]⟩ (0, 0)) 111)) (by rfl) (by rfl) (by show Sem.run _ (execOp _ ⟨_, .alloc 111, _, _, _, _⟩) _ = _; unfold execOp; go_simp; try rfl) ?_
      have bl3 : Below w2.heap.size w2 (w2.alloc (.cells (iC ⟨#[]⟩ (0, 0)) 111)) := (Below.refl _ _).alloc (Nat.le_refl _) _
      have B3 := B2.trans (bl3.mono B2.size)
      have li3 : W.heap.size ≤ w2.heap.size := B2.size
      have zi3 := heap_alloc_new w2 (.cells (iC ⟨#[]⟩ (0, 0)) 111)
      refine ⟨fun _ => B3, ?_⟩
      have O3 := O2.below bl3
      have fi3 := O2.far (.inr (Nat.le_refl _))
      have zp3 := (bl3.block _ (lt_heap zp2)).trans zp2
      have ne3 : w2.heap.size ≠ W.heap.size := fun h => by have := lt_heap zp2; omega
      change wpAnyT _ _ _ _ _ _ _ _ (((((((((((a.put (some 91) (.string s)).put (some 92) (.int .i64 (f : Int))).put (some 93) (.string (s.extract f s.size))).put (some 94) (.agg (iC (s.extract f s.size) (0, 0)))).put (some 95) (.agg (rkNil P))).put (some 13) (.pointer (some ⟨W.heap.size, 0, none⟩))).put (some 96) (.tuple #[.agg (iC (s.extract f s.size) X.1), .agg (rkCells X.2 vc vp vw vs vf)])).put (some 90) (.tuple #[.agg (iC (s.extract f s.size) X.1), .agg (rkCells X.2 vc vp vw vs vf)])).put (some 97) (.agg (iC (s.extract f s.size) X.1))).put (some 98) (.agg (rkCells X.2 vc vp vw vs vf))).put (some 12) (.pointer (some ⟨w2.heap.size, 0, none⟩))) _
      generalize hw3 : w2.alloc (.cells (iC ⟨#[]⟩ (0, 0)) 111) = w3 at *
      have FI := fi3
      have FP := fp2
      refine wpAnyT_one 11 (by kernel_rfl) (opU_store (by rfl) (by rfl) (by rfl) 111 (.tmp 12) (.tmp 97) (by rfl) w2.heap.size (iC (s.extract f s.size) X.1) (ev_same (by simp only [put_sz, hsz]; decide)) ((ev_ne (by decide)).trans ((ev_ne (by decide)).trans (ev_same (by simp only [put_sz, hsz]; decide)))) 111 (iC ⟨#[]⟩ (0, 0)) zi3 i_info rfl (iC_one _ _) ⟨fun _ => below_setRow B3 li3 _, ?_⟩)
      refine wpAnyT_one 12 (by kernel_rfl) (opU_store (by rfl) (by rfl) (by rfl) 52 (.tmp 13) (.tmp 98) (by rfl) W.heap.size (rkCells X.2 vc vp vw vs vf) ((ev_ne (by decide)).trans ((ev_ne (by decide)).trans ((ev_ne (by decide)).trans ((ev_ne (by decide)).trans ((ev_ne (by decide)).trans (ev_same (by simp only [put_sz, hsz]; decide))))))) ((ev_ne (by decide)).trans (ev_same (by simp only [put_sz, hsz]; decide))) 52 (rkNil PK.zeroPk) ((setRow_other _ (Ne.symm ne3)).trans zp3) rk_info rfl (rk_one _ O3) ⟨fun _ => below_setRow (below_setRow B3 li3 _) lp1 _, ?_⟩)
      refine wpAnyT_done (by kernel_rfl) ?_
      rw [pc (d := 13) (e := 96) (by decide), pc (d := 13) (e := 90) (by decide), pc (d := 13) (e := 97) (by decide), pc (d := 13) (e := 98) (by decide), pc (d := 13) (e := 12) (by decide)]
      exact hK _ _ _ _ _ _ _ _ (GG.mk' li3 lp1 (fun h => (Ne.symm ne3) h.symm) zi3 zp3 O3 FI FP B3)
    · skip
      refine opT (v := .pointer (some ⟨w1.heap.size, 0, none⟩)) (w' := w1.alloc (.cells (iC ⟨#[]⟩ (0, 0)) 111)) (by rfl) (by rfl) (by show Sem.run _ (execOp _ ⟨_, .alloc 111, _, _, _, _⟩) _ = _; unfold execOp; go_simp; try rfl) ?_
      have bl2 : Below w1.heap.size w1 (w1.alloc (.cells (iC ⟨#[]⟩ (0, 0)) 111)) := (Below.refl _ _).alloc (Nat.le_refl _) _
      have B2 := B1.trans (bl2.mono B1.size)
      have li2 : W.heap.size ≤ w1.heap.size := B1.size
      have zi2 := heap_alloc_new w1 (.cells (iC ⟨#[]⟩ (0, 0)) 111)
      refine ⟨fun _ => B2, ?_⟩
      have zp2 := (bl2.block _ (lt_heap zp1)).trans zp1
      have ne2 : w1.heap.size ≠ W.heap.size := fun h => by have := lt_heap zp1; omega
      change wpAnyT _ _ _ _ _ _ _ _ (((((((a.put (some 91) (.string s)).put (some 92) (.int .i64 (f : Int))).put (some 93) (.string (s.extract f s.size))).put (some 94) (.agg (iC (s.extract f s.size) (0, 0)))).put (some 95) (.agg (rkNil P))).put (some 13) (.pointer (some ⟨W.heap.size, 0, none⟩))).put (some 12) (.pointer (some ⟨w1.heap.size, 0, none⟩))) _
      generalize hw2 : w1.alloc (.cells (iC ⟨#[]⟩ (0, 0)) 111) = w2 at *
      refine wpAnyT_one 5 (by kernel_rfl) ?_
      refine opU_call (f := 41) (args := #[.agg (iC (s.extract f s.size) (0, 0)), .agg (rkNil P)]) (w1 := w2) (by rfl) (by rfl) (by show Sem.run _ (execOp _ ⟨_, .call { callee := .value (.func 41), args := #[.tmp 94, .tmp 95], argTypes := #[111, 52] }, _, _, _, _⟩) _ = _; unfold execOp; have e1 := body_enters; simp only [List.map_toArray, List.map_cons, List.map_nil, show (((((((a.put (some 91) (.string s)).put (some 92) (.int .i64 (f : Int))).put (some 93) (.string (s.extract f s.size))).put (some 94) (.agg (iC (s.extract f s.size) (0, 0)))).put (some 95) (.agg (rkNil P))).put (some 13) (.pointer (some ⟨W.heap.size, 0, none⟩))).put (some 12) (.pointer (some ⟨w1.heap.size, 0, none⟩))).eval (.tmp 94) = _ from ((ev_ne (by decide)).trans ((ev_ne (by decide)).trans ((ev_ne (by decide)).trans (ev_same (by simp only [put_sz, hsz]; decide))))), show (((((((a.put (some 91) (.string s)).put (some 92) (.int .i64 (f : Int))).put (some 93) (.string (s.extract f s.size))).put (some 94) (.agg (iC (s.extract f s.size) (0, 0)))).put (some 95) (.agg (rkNil P))).put (some 13) (.pointer (some ⟨W.heap.size, 0, none⟩))).put (some 12) (.pointer (some ⟨w1.heap.size, 0, none⟩))).eval (.tmp 95) = _ from ((ev_ne (by decide)).trans ((ev_ne (by decide)).trans (ev_same (by simp only [put_sz, hsz]; decide))))]; go_simp) (hc w2) ?_
      rintro e w3 ⟨vc, vp, vw, vs, vf, rfl, o3, b3⟩
      have B3 := B2.trans (b3.mono B2.size)
      have O3 := o3.base B2.size
      refine ⟨_, rfl, fun _ => B3, ?_⟩
      change wpAnyT _ _ _ _ _ _ _ _ ((((((((a.put (some 91) (.string s)).put (some 92) (.int .i64 (f : Int))).put (some 93) (.string (s.extract f s.size))).put (some 94) (.agg (iC (s.extract f s.size) (0, 0)))).put (some 95) (.agg (rkNil P))).put (some 13) (.pointer (some ⟨W.heap.size, 0, none⟩))).put (some 12) (.pointer (some ⟨w1.heap.size, 0, none⟩))).put (some 96) (.tuple #[.agg (iC (s.extract f s.size) X.1), .agg (rkCells X.2 vc vp vw vs vf)])) _
      have zi3 := (b3.block _ (lt_heap zi2)).trans zi2
      have fi3 := o3.far (.inl (lt_heap zi2))
      have zp3 := (b3.block _ (lt_heap zp2)).trans zp2
      have fp3 := o3.far (.inl (lt_heap zp2))
      refine wpAnyT_take 6 6 (v := (.tuple #[.agg (iC (s.extract f s.size) X.1), .agg (rkCells X.2 vc vp vw vs vf)])) (by rfl) (by rfl) (by kernel_rfl) (by kernel_rfl) (by kernel_rfl) (by kernel_rfl) (by kernel_rfl) (fun _ _ _ h => hQ _ _ _ _ _ h) (fun w hSw => (by show Sem.run _ (execOp _ ⟨_, .move (.tmp 96), _, _, _, _⟩) _ = _; unfold execOp; simp only [show ((((((((a.put (some 91) (.string s)).put (some 92) (.int .i64 (f : Int))).put (some 93) (.string (s.extract f s.size))).put (some 94) (.agg (iC (s.extract f s.size) (0, 0)))).put (some 95) (.agg (rkNil P))).put (some 13) (.pointer (some ⟨W.heap.size, 0, none⟩))).put (some 12) (.pointer (some ⟨w1.heap.size, 0, none⟩))).put (some 96) (.tuple #[.agg (iC (s.extract f s.size) X.1), .agg (rkCells X.2 vc vp vw vs vf)])).eval (.tmp 96) = _ from (ev_same (by simp only [put_sz, hsz]; decide))]; go_simp)) B3 ?_
      change wpAnyT _ _ _ _ _ _ _ _ (((((((((a.put (some 91) (.string s)).put (some 92) (.int .i64 (f : Int))).put (some 93) (.string (s.extract f s.size))).put (some 94) (.agg (iC (s.extract f s.size) (0, 0)))).put (some 95) (.agg (rkNil P))).put (some 13) (.pointer (some ⟨W.heap.size, 0, none⟩))).put (some 12) (.pointer (some ⟨w1.heap.size, 0, none⟩))).put (some 96) (.tuple #[.agg (iC (s.extract f s.size) X.1), .agg (rkCells X.2 vc vp vw vs vf)])).put (some 90) (.tuple #[.agg (iC (s.extract f s.size) X.1), .agg (rkCells X.2 vc vp vw vs vf)])) _
      refine wpAnyT_take 7 7 (v := (.agg (iC (s.extract f s.size) X.1))) (by rfl) (by rfl) (by kernel_rfl) (by kernel_rfl) (by kernel_rfl) (by kernel_rfl) (by kernel_rfl) (fun _ _ _ h => hQ _ _ _ _ _ h) (fun w hSw => (by show Sem.run _ (execOp _ ⟨_, .extract (.tmp 90) 0, _, _, _, _⟩) _ = _; unfold execOp; simp only [show (((((((((a.put (some 91) (.string s)).put (some 92) (.int .i64 (f : Int))).put (some 93) (.string (s.extract f s.size))).put (some 94) (.agg (iC (s.extract f s.size) (0, 0)))).put (some 95) (.agg (rkNil P))).put (some 13) (.pointer (some ⟨W.heap.size, 0, none⟩))).put (some 12) (.pointer (some ⟨w1.heap.size, 0, none⟩))).put (some 96) (.tuple #[.agg (iC (s.extract f s.size) X.1), .agg (rkCells X.2 vc vp vw vs vf)])).put (some 90) (.tuple #[.agg (iC (s.extract f s.size) X.1), .agg (rkCells X.2 vc vp vw vs vf)])).eval (.tmp 90) = _ from (ev_same (by simp only [put_sz, hsz]; decide))]; go_simp)) B3 ?_
      change wpAnyT _ _ _ _ _ _ _ _ ((((((((((a.put (some 91) (.string s)).put (some 92) (.int .i64 (f : Int))).put (some 93) (.string (s.extract f s.size))).put (some 94) (.agg (iC (s.extract f s.size) (0, 0)))).put (some 95) (.agg (rkNil P))).put (some 13) (.pointer (some ⟨W.heap.size, 0, none⟩))).put (some 12) (.pointer (some ⟨w1.heap.size, 0, none⟩))).put (some 96) (.tuple #[.agg (iC (s.extract f s.size) X.1), .agg (rkCells X.2 vc vp vw vs vf)])).put (some 90) (.tuple #[.agg (iC (s.extract f s.size) X.1), .agg (rkCells X.2 vc vp vw vs vf)])).put (some 97) (.agg (iC (s.extract f s.size) X.1))) _
      refine wpAnyT_take 8 8 (v := (.agg (rkCells X.2 vc vp vw vs vf))) (by rfl) (by rfl) (by kernel_rfl) (by kernel_rfl) (by kernel_rfl) (by kernel_rfl) (by kernel_rfl) (fun _ _ _ h => hQ _ _ _ _ _ h) (fun w hSw => (by show Sem.run _ (execOp _ ⟨_, .extract (.tmp 90) 1, _, _, _, _⟩) _ = _; unfold execOp; simp only [show ((((((((((a.put (some 91) (.string s)).put (some 92) (.int .i64 (f : Int))).put (some 93) (.string (s.extract f s.size))).put (some 94) (.agg (iC (s.extract f s.size) (0, 0)))).put (some 95) (.agg (rkNil P))).put (some 13) (.pointer (some ⟨W.heap.size, 0, none⟩))).put (some 12) (.pointer (some ⟨w1.heap.size, 0, none⟩))).put (some 96) (.tuple #[.agg (iC (s.extract f s.size) X.1), .agg (rkCells X.2 vc vp vw vs vf)])).put (some 90) (.tuple #[.agg (iC (s.extract f s.size) X.1), .agg (rkCells X.2 vc vp vw vs vf)])).put (some 97) (.agg (iC (s.extract f s.size) X.1))).eval (.tmp 90) = _ from ((ev_ne (by decide)).trans (ev_same (by simp only [put_sz, hsz]; decide)))]; go_simp)) B3 ?_
      change wpAnyT _ _ _ _ _ _ _ _ (((((((((((a.put (some 91) (.string s)).put (some 92) (.int .i64 (f : Int))).put (some 93) (.string (s.extract f s.size))).put (some 94) (.agg (iC (s.extract f s.size) (0, 0)))).put (some 95) (.agg (rkNil P))).put (some 13) (.pointer (some ⟨W.heap.size, 0, none⟩))).put (some 12) (.pointer (some ⟨w1.heap.size, 0, none⟩))).put (some 96) (.tuple #[.agg (iC (s.extract f s.size) X.1), .agg (rkCells X.2 vc vp vw vs vf)])).put (some 90) (.tuple #[.agg (iC (s.extract f s.size) X.1), .agg (rkCells X.2 vc vp vw vs vf)])).put (some 97) (.agg (iC (s.extract f s.size) X.1))).put (some 98) (.agg (rkCells X.2 vc vp vw vs vf))) _
      have FI := fi3
      have FP := fp3
      refine wpAnyT_one 11 (by kernel_rfl) (opU_store (by rfl) (by rfl) (by rfl) 111 (.tmp 12) (.tmp 97) (by rfl) w1.heap.size (iC (s.extract f s.size) X.1) ((ev_ne (by decide)).trans ((ev_ne (by decide)).trans ((ev_ne (by decide)).trans ((ev_ne (by decide)).trans (ev_same (by simp only [put_sz, hsz]; decide)))))) ((ev_ne (by decide)).trans (ev_same (by simp only [put_sz, hsz]; decide))) 111 (iC ⟨#[]⟩ (0, 0)) zi3 i_info rfl (iC_one _ _) ⟨fun _ => below_setRow B3 li2 _, ?_⟩)
      refine wpAnyT_one 12 (by kernel_rfl) (opU_store (by rfl) (by rfl) (by rfl) 52 (.tmp 13) (.tmp 98) (by rfl) W.heap.size (rkCells X.2 vc vp vw vs vf) ((ev_ne (by decide)).trans ((ev_ne (by decide)).trans ((ev_ne (by decide)).trans ((ev_ne (by decide)).trans ((ev_ne (by decide)).trans (ev_same (by simp only [put_sz, hsz]; decide))))))) (ev_same (by simp only [put_sz, hsz]; decide)) 52 (rkNil PK.zeroPk) ((setRow_other _ (Ne.symm ne2)).trans zp3) rk_info rfl (rk_one _ O3) ⟨fun _ => below_setRow (below_setRow B3 li2 _) lp1 _, ?_⟩)
      refine wpAnyT_done (by kernel_rfl) ?_
      rw [pc (d := 12) (e := 96) (by decide), pc (d := 12) (e := 90) (by decide), pc (d := 12) (e := 97) (by decide), pc (d := 12) (e := 98) (by decide), pc (d := 13) (e := 96) (by decide), pc (d := 13) (e := 90) (by decide), pc (d := 13) (e := 97) (by decide), pc (d := 13) (e := 98) (by decide), pc (d := 13) (e := 12) (by decide)]
      exact hK _ _ _ _ _ _ _ _ (GG.mk' li2 lp1 (fun h => (Ne.symm ne2) h.symm) zi3 zp3 O3 FI FP B3)
end Go.Proofs.YtemfcaaoobjgkaaGreatDoor
namespace Go.Proofs.YtemfcaaoobjgkaaGreatDoor
namespace RP
open PK (fl isQ alAll)
def ad (o : ByteArray × Int) (s : ByteArray) (c : Int) : ByteArray × Int := (o.1 ++ s, if o.2 = 0 then c else o.2)
def nm (o : ByteArray × Int) (w n : Int) : ByteArray × Int := ad o (strOfNums (VP.fixL w n)) (VP.fixC w n)
def tx (o : ByteArray × Int) (s : ByteArray) : ByteArray × Int := ad o (TX.putS s) (TX.putC s)
def dt (o : ByteArray × Int) (s : ByteArray) : ByteArray × Int := ad o (TX.dataS s) (TX.dataC s)
def idd (o : ByteArray × Int) (n : Int) : ByteArray × Int := if n < 1 ∨ 65535 < n then ad o ⟨#[]⟩ 130 else nm o 2 n
def pr (o : ByteArray × Int) (k : Int) (l : List Pr) : ByteArray × Int := if alAll k l = true then ad o (PR.putS l) (PR.putC l) else ad (ad o (PR.putS l) (PR.putC l)) ⟨#[]⟩ 130
def qs (o : ByteArray × Int) (n : Int) : ByteArray × Int := if n < 0 ∨ 2 < n then ad o ⟨#[]⟩ 129 else o
def low (n : Int) : Int := n % 4
def sub (o : ByteArray × Int) (s : Sb) : ByteArray × Int := nm (qs (qs (tx o s.f) s.q) s.h) 1 (low s.q + fl s.nl 4 + fl s.ap 8 + 16 * low s.h)
def cflN (p : Pk) : Int := fl p.clean 2 + fl p.hasPass 64 + fl p.hasUser 128 + if p.hasWill = true then 4 + 8 * low p.wqos + fl p.wret 32 else 0
def cfl (o : ByteArray × Int) (p : Pk) : ByteArray × Int := nm (if p.hasWill = true then qs o p.wqos else o) 1 (cflN p)
def conn1 (o : ByteArray × Int) (p : Pk) : ByteArray × Int := tx (pr (nm (cfl (nm (tx o ⟨#[77, 81, 84, 84]⟩) 1 5) p) 2 p.keep) 1 p.props) p.client
def conn2 (o : ByteArray × Int) (p : Pk) : ByteArray × Int := if p.hasWill = true then dt (tx (pr o 0 p.wprops) p.wtopic) p.wpay else o
def conn3 (o : ByteArray × Int) (p : Pk) : ByteArray × Int := if p.hasUser = true then tx o p.user else o
def conn4 (o : ByteArray × Int) (p : Pk) : ByteArray × Int := if p.hasPass = true then dt o p.pass else o
def conn (o : ByteArray × Int) (p : Pk) : ByteArray × Int := conn4 (conn3 (conn2 (conn1 o p) p) p) p
def smo (o : ByteArray × Int) (n : Nat) : ByteArray × Int := if n = 0 then ad o ⟨#[]⟩ 130 else if 64 < n then ad o ⟨#[]⟩ 149 else o
def each {α : Type} (o : ByteArray × Int) (l : List α) (f : ByteArray × Int → α → ByteArray × Int) : ByteArray × Int := (l.take 64).foldl f (smo o l.length)
def head (o : ByteArray × Int) (p : Pk) : ByteArray × Int := pr (idd o p.id) p.kind p.props
def ending (o : ByteArray × Int) (p : Pk) : ByteArray × Int := if p.props = [] then (if p.code = 0 then o else nm o 1 p.code) else pr (nm o 1 p.code) p.kind p.props
def pub0 (o : ByteArray × Int) (p : Pk) : ByteArray × Int := if p.dup = true ∧ p.qos = 0 then ad (qs o p.qos) ⟨#[]⟩ 129 else qs o p.qos
def pub1 (o : ByteArray × Int) (p : Pk) : ByteArray × Int := if 0 < p.qos then idd (tx (pub0 o p) p.topic) p.id else tx (pub0 o p) p.topic
def pub (o : ByteArray × Int) (p : Pk) : ByteArray × Int := ad (pr (pub1 o p) 3 p.props) p.pay 0
def body (o : ByteArray × Int) (p : Pk) : ByteArray × Int :=
  if p.kind = 1 then conn o p
  else if p.kind = 2 then pr (nm (nm o 1 (fl p.session 1)) 1 p.code) 2 p.props
  else if p.kind = 3 then pub o p
  else if p.kind = 8 then each (head o p) p.subs sub
  else if p.kind = 10 then each (head o p) p.filters tx
  else if p.kind = 9 ∨ p.kind = 11 then each (head o p) p.codes (fun o c => nm o 1 c)
  else if p.kind = 4 ∨ p.kind = 5 ∨ p.kind = 6 ∨ p.kind = 7 then ending (idd o p.id) p
  else if p.kind = 14 ∨ p.kind = 15 then ending o p else o

/-- The same code, and where there is none the same bytes. -/
def Sm (o' o : ByteArray × Int) : Prop := o'.2 = o.2 ∧ (o.2 = 0 → o'.1 = o.1)
theorem Sm.refl (o : ByteArray × Int) : Sm o o := ⟨rfl, fun _ => rfl⟩
end RP
end Go.Proofs.YtemfcaaoobjgkaaGreatDoor
namespace Go.Proofs.YtemfcaaoobjgkaaGreatDoor
open Go.RowKit
attribute [local go_sem ↓] Go.wp_at_zero Go.wp_at_succ

/-- Bytes so far and a code, as the document's functions hand them on. -/
def oC (o : ByteArray × Int) : Array Value := #[.string o.1, .int .i64 o.2]
/-- What such a function answers. -/
def OP (w : World) (o : ByteArray × Int) (e : Ending) (w' : World) : Prop := e = .returned (.agg (oC o)) ∧ Below w.heap.size w w'
theorem dbit_any (b : Bool) (n : Int) (w : World) : Calls Tryz.prog 69 #[.bool b, .int .i64 n] w fun e w' => e = .returned (.int .i64 (PK.fl b n)) ∧ w = w' := by
  unfold PK.fl
  cases b
  · go_enter Tryz.func69, Tryz.ntmps69
    go_wp2
    go_ret
    exact ⟨rfl, rfl⟩
  · go_enter Tryz.func69, Tryz.ntmps69
    go_wp2
    go_ret
    exact ⟨rfl, rfl⟩
end Go.Proofs.YtemfcaaoobjgkaaGreatDoor
namespace Go.Proofs.YtemfcaaoobjgkaaGreatDoor

namespace PK
theorem getG_zero (s : ByteArray) (k : Nat) : ∀ (u i : Nat) (n : Int), (VP.getG s k u i n).2.2 ≠ 0 → (VP.getG s k u i n).1 = 0
  | 0, _, _, _ => by rw [VP.getG_0]
  | u + 1, i, n, h => by
    rw [VP.getG] at h ⊢
    split
    · rename_i h1
      rw [dif_pos h1] at h
      split
      · rename_i h2
        rw [if_pos h2] at h
        split
        · rename_i h3
          rw [if_pos h3] at h
          exact absurd rfl h
        · rfl
      · rename_i h2
        rw [if_neg h2] at h
        exact getG_zero s k u (i + 1) _ h
    · rfl
theorem get_le (s : ByteArray) (a : Int) : (VP.get s a).1 ≤ 268435455 := by
  by_cases ho : a < 0 ∨ (s.size : Int) < a
  · rw [VP.get_out s a ho]; decide
  · obtain ⟨k, rfl⟩ := Int.eq_ofNat_of_zero_le (show 0 ≤ a by omega)
    by_cases hc : (VP.get s (k : Int)).2.2 = 0
    · obtain ⟨x, m, _, _, h3, h4, _, h6, _⟩ := VP.get_inv s k (by omega) hc
      rw [h6]; exact h4
    · rw [VP.get_in s k (by omega)] at hc ⊢
      rw [getG_zero s k 4 0 0 hc]; decide
theorem dat_le (s : ByteArray) (a : Int) : (VP.dat s a).1.size ≤ s.size := by
  unfold VP.dat
  split
  · split
    · exact Nat.zero_le _
    · simp only; rw [ByteArray.size_extract]; omega
  · exact Nat.zero_le _
theorem getT_le (s : ByteArray) (a : Int) : (TX.getT s a).1.size ≤ s.size := by
  unfold TX.getT
  split
  · exact Nat.zero_le _
  · split
    · exact Nat.zero_le _
    · exact dat_le s a
theorem rdv_fine (T : ByteArray) (p id : Int) (hT : T.size ≤ 140737488351232) : Fine (PR.rdv T p id).1 := by
  have z : (ByteArray.mk #[]).size = 0 := rfl
  have g1 := PR.get_nn T p
  have g2 := get_le T p
  have d1 := dat_le T p
  have t1 := getT_le T p
  have t2 := getT_le T (TX.getT T p).2.1
  have r1 := rd_nn T p (PR.wd (PR.kd id))
  unfold PR.rdv
  repeat' split
  all_goals
    refine ⟨⟨?_, ?_⟩, ?_, ?_⟩ <;> simp only [z] <;> omega
theorem g1_fine (T : ByteArray) (p : Int) (out : List Pr) (hT : T.size ≤ 140737488351232) (h : (PR.g1 T p out).2.2 = 0) : Fine (PR.g1 T p out).1 := by
  unfold PR.g1 at h ⊢
  split at h
  · exact absurd h (by simp)
  · rename_i c1
    rw [if_neg c1]
    split at h
    · exact absurd h (by simp)
    · rename_i c2
      rw [if_neg c2]
      split at h
      · rename_i c3; exact absurd h c3
      · rename_i c3
        rw [if_neg c3]
        split at h
        · exact absurd h (by simp)
        · rename_i c4
          rw [if_neg c4]
          exact rdv_fine _ _ _ hT
theorem gl_fine (U : ByteArray) (hU : U.size ≤ 140737488351232) : ∀ (u : Nat) (p : Int) (out : List Pr), (∀ q ∈ out, Fine q) → ∀ q ∈ (PR.gl U u p out).1, Fine q
  | 0, _, _, _ => by intro q hq; simp [PR.gl] at hq
  | u + 1, p, out, ho => by
    rw [PR.gl]
    split
    · exact ho
    · split
      · intro q hq; simp at hq
      · rename_i h1
        refine gl_fine U hU u _ _ ?_
        intro q hq
        rcases List.mem_append.1 hq with hq | hq
        · exact ho q hq
        · simp at hq; subst hq; exact g1_fine U p out hU (Classical.not_not.1 h1)
theorem getL_fine (s : ByteArray) (a : Int) (hs : s.size ≤ 140737488351232) : ∀ q ∈ (PR.getL s a).1, Fine q := by
  unfold PR.getL
  repeat' split
  all_goals first
    | (intro q hq; simp at hq; done)
    | exact gl_fine _ (by rw [ByteArray.size_extract]; omega) 66 0 [] (fun q hq => by cases hq)
end PK
/-- A packet whose every part a machine can hold. -/
structure PkF (P : Pk) : Prop where
  fine : PkFine P
  pr : P.props.length ≤ 100 ∧ ∀ p ∈ P.props, Fine p
  wpr : P.wprops.length ≤ 100 ∧ ∀ p ∈ P.wprops, Fine p
namespace PK
theorem and3 (n : Int) (h0 : 0 ≤ n) (h1 : n ≤ 255) : 0 ≤ bits .and .i64 n 3 ∧ bits .and .i64 n 3 ≤ 3 := by
  obtain ⟨k, rfl⟩ := Int.eq_ofNat_of_zero_le h0
  have h : ∀ k : Fin 256, 0 ≤ bits .and .i64 ((k.val : Nat) : Int) 3 ∧ bits .and .i64 ((k.val : Nat) : Int) 3 ≤ 3 := by decide +kernel
  exact h ⟨k, by omega⟩
theorem i64_of {n : Int} (h0 : 0 ≤ n) (h1 : n ≤ 4294967295) : I64 n := ⟨by omega, by omega⟩
theorem bnd_f {α : Type} {P : Pk} {x : α × Int × Int} {f : α → Int → Pk × Int × Int} (hP : PkF P) (h : PkF (f x.1 x.2.1).1) : PkF (bnd P x f).1 := by
  unfold bnd
  split
  · exact hP
  · exact h
theorem rdPr_f (s : ByteArray) (a k : Int) (hs : s.size ≤ 140737488351232) : (rdPr s a k).1.length ≤ 100 ∧ ∀ p ∈ (rdPr s a k).1, Fine p :=
  ⟨by have := (PR.getL_facts s a).2.2; show (PR.getL s a).1.length ≤ 100; omega, getL_fine s a hs⟩
theorem lst_le {α : Type} (rd : Int → α × Int × Int) (sz : Nat) : ∀ (u : Nat) (a : Int) (out : List α), out.length ≤ 64 → (lst rd sz u a out).1.length ≤ 64
  | 0, _, _, _ => by simp [lst]
  | u + 1, a, out, h => by
    rw [lst]
    split
    · split
      · simp
      · exact h
    · split
      · simp
      · split
        · simp
        · exact lst_le rd sz u _ _ (by simp; omega)
theorem lst_all {α : Type} (rd : Int → α × Int × Int) (sz : Nat) (p : α → Prop) (hp : ∀ a, p (rd a).1) : ∀ (u : Nat) (a : Int) (out : List α), (∀ x ∈ out, p x) → ∀ x ∈ (lst rd sz u a out).1, p x
  | 0, _, _, _ => by intro x hx; simp [lst] at hx
  | u + 1, a, out, h => by
    rw [lst]
    split
    · split
      · intro x hx; simp at hx
      · exact h
    · split
      · intro x hx; simp at hx
      · split
        · intro x hx; simp at hx
        · refine lst_all rd sz p hp u _ _ ?_
          intro x hx
          rcases List.mem_append.1 hx with hx | hx
          · exact h x hx
          · simp at hx; subst hx; exact hp a
end PK
end Go.Proofs.YtemfcaaoobjgkaaGreatDoor
namespace Go.Proofs.YtemfcaaoobjgkaaGreatDoor
open Go.RowKit

namespace PK
theorem rdC_u8 (s : ByteArray) (a : Int) : 0 ≤ (rdC s a).1 ∧ (rdC s a).1 ≤ 255 := ⟨(rd_nn s a 1).1, rd_1le s a⟩
theorem rdSub_f (s : ByteArray) (hs : s.size ≤ 140737488351232) (a : Int) : SbFine (rdSub s a).1 := by
  have h1 := getT_le s a
  have h2 := rd_nn s (TX.getT s a).2.1 1
  have h3 := rd_1le s (TX.getT s a).2.1
  have b1 := and3 _ h2.1 h3
  have b2 := and3 ((VP.rd s (TX.getT s a).2.1 1).1 / 16) (by omega) (by omega)
  exact ⟨Nat.le_trans h1 hs, ⟨by show _ ≤ bits .and .i64 _ 3; omega, by show bits .and .i64 _ 3 ≤ _; omega⟩, ⟨by show _ ≤ bits .and .i64 _ 3; omega, by show bits .and .i64 _ 3 ≤ _; omega⟩⟩
theorem rdN_i (s : ByteArray) (a wd : Int) : I64 (rdN s a wd).1 := i64_of (rd_nn s a wd).1 (rd_nn s a wd).2
theorem rdId_i (s : ByteArray) (a : Int) : I64 (rdId s a).1 := i64_of (rd_nn s a 2).1 (rd_nn s a 2).2
theorem rdT_s (s : ByteArray) (hs : s.size ≤ 140737488351232) (a : Int) : Short (rdT s a).1 := Nat.le_trans (getT_le s a) hs
theorem rdD_s (s : ByteArray) (hs : s.size ≤ 140737488351232) (a : Int) : Short (rdD s a).1 := Nat.le_trans (dat_le s a) hs
section
variable {s : ByteArray} (hs : s.size ≤ 140737488351232)
include hs
theorem rdPass_f' (a : Int) (P : Pk) (h : PkF P) : PkF (rdPass s a P).1 := by
  unfold rdPass
  split
  · refine bnd_f h ?_
    obtain ⟨⟨k1, k2, k3, k4, k5, k6, k7, k8, k9, k10, k11, k12, k13, k14, k15, k16⟩, p1, p2⟩ := h
    exact ⟨⟨k1, k2, k3, k4, k5, k6, k7, k8, k9, k10, k11, k12, rdD_s s hs a, k14, k15, k16⟩, p1, p2⟩
  · exact h
theorem rdUser_f' (a : Int) (P : Pk) (h : PkF P) : PkF (rdUser s a P).1 := by
  unfold rdUser
  split
  · refine bnd_f h (rdPass_f' hs _ _ ?_)
    obtain ⟨⟨k1, k2, k3, k4, k5, k6, k7, k8, k9, k10, k11, k12, k13, k14, k15, k16⟩, p1, p2⟩ := h
    exact ⟨⟨k1, k2, k3, k4, k5, k6, k7, k8, k9, k10, k11, rdT_s s hs a, k13, k14, k15, k16⟩, p1, p2⟩
  · exact rdPass_f' hs _ _ h
theorem rdWill_f' (a : Int) (P : Pk) (h : PkF P) : PkF (rdWill s a P).1 := by
  unfold rdWill
  split
  · refine bnd_f h (bnd_f h (bnd_f h (rdUser_f' hs _ _ ?_)))
    obtain ⟨⟨k1, k2, k3, k4, k5, k6, k7, k8, k9, k10, k11, k12, k13, k14, k15, k16⟩, p1, p2⟩ := h
    exact ⟨⟨k1, k2, k3, k4, k5, k6, k7, k8, rdT_s s hs _, rdD_s s hs _, k11, k12, k13, k14, k15, k16⟩, p1, rdPr_f s a 0 hs⟩
  · exact rdUser_f' hs _ _ h
theorem rdConn1_f (a : Int) (P : Pk) (h : PkF P) : PkF (rdConn1 s a P).1 := by
  unfold rdConn1
  refine bnd_f h (bnd_f h (bnd_f h (rdWill_f' hs _ _ ?_)))
  obtain ⟨⟨k1, k2, k3, k4, k5, k6, k7, k8, k9, k10, k11, k12, k13, k14, k15, k16⟩, p1, p2⟩ := h
  exact ⟨⟨k1, k2, k3, k4, k5, k6, rdT_s s hs _, rdN_i s _ 2, k9, k10, k11, k12, k13, k14, k15, k16⟩, rdPr_f s _ P.kind hs, p2⟩
theorem rdConn_f (a : Int) (P : Pk) (h : PkF P) : PkF (rdConn s a P).1 := by
  unfold rdConn
  refine bnd_f h ?_
  split
  · exact h
  · refine bnd_f h ?_
    split
    · exact h
    · refine bnd_f h (rdConn1_f hs _ _ ?_)
      have n0 := (rd_nn s (rdN s (rdT s a).2.1 1).2.1 1).1
      have n1 := rd_1le s (rdN s (rdT s a).2.1 1).2.1
      have b := and3 ((VP.rd s (rdN s (rdT s a).2.1 1).2.1 1).1 / 8) (by omega) (by omega)
      obtain ⟨⟨k1, k2, k3, k4, k5, k6, k7, k8, k9, k10, k11, k12, k13, k14, k15, k16⟩, p1, p2⟩ := h
      exact ⟨⟨k1, k2, k3, k4, k5, k6, k7, k8, k9, k10, i64_of b.1 (Int.le_trans b.2 (by decide)), k12, k13, k14, k15, k16⟩, p1, p2⟩
theorem rdEndP_f (a k : Int) (P : Pk) (h : PkF P) : PkF (rdEndP s a k P).1 := by
  obtain ⟨⟨k1, k2, k3, k4, k5, k6, k7, k8, k9, k10, k11, k12, k13, k14, k15, k16⟩, p1, p2⟩ := h
  have e : (0 ≤ (rdEnd s a k).1.1 ∧ (rdEnd s a k).1.1 ≤ 255) ∧ ((rdEnd s a k).1.2.length ≤ 100 ∧ ∀ p ∈ (rdEnd s a k).1.2, Fine p) := by
    unfold rdEnd
    repeat' split
    · exact ⟨⟨Int.le_refl 0, (by decide : (0 : Int) ≤ 255)⟩, by simp, fun p hp => by cases hp⟩
    · exact ⟨⟨Int.le_refl 0, (by decide : (0 : Int) ≤ 255)⟩, by simp, fun p hp => by cases hp⟩
    · exact ⟨rdC_u8 s a, by simp, fun p hp => by cases hp⟩
    · exact ⟨rdC_u8 s a, rdPr_f s _ k hs⟩
  exact ⟨⟨k1, k2, k3, k4, k5, e.1, k7, k8, k9, k10, k11, k12, k13, k14, k15, k16⟩, e.2, p2⟩
theorem partsK_f (k a : Int) (P : Pk) (h : PkF P) : PkF (partsK k s a P).1 := by
  unfold partsK
  split
  · exact rdConn_f hs a P h
  split
  · refine bnd_f h (bnd_f h (bnd_f h ?_))
    obtain ⟨⟨k1, k2, k3, k4, k5, k6, k7, k8, k9, k10, k11, k12, k13, k14, k15, k16⟩, p1, p2⟩ := h
    exact ⟨⟨k1, k2, k3, k4, k5, rdC_u8 s _, k7, k8, k9, k10, k11, k12, k13, k14, k15, k16⟩, rdPr_f s _ k hs, p2⟩
  split
  · obtain ⟨⟨k1, k2, k3, k4, k5, k6, k7, k8, k9, k10, k11, k12, k13, k14, k15, k16⟩, p1, p2⟩ := h
    refine ⟨⟨k1, k2, ?_, rdT_s s hs a, ?_, k6, k7, k8, k9, k10, k11, k12, k13, k14, k15, k16⟩, rdPr_f s _ k hs, p2⟩
    · show I64 (rdI s (rdT s a).2.1 P.qos P.id).1
      unfold rdI
      split
      · exact rdId_i s _
      · exact k3
    · show (s.extract _ s.size).size ≤ _
      rw [ByteArray.size_extract]; omega
  split
  · refine bnd_f h (bnd_f h ?_)
    obtain ⟨⟨k1, k2, k3, k4, k5, k6, k7, k8, k9, k10, k11, k12, k13, k14, k15, k16⟩, p1, p2⟩ := h
    exact ⟨⟨k1, k2, rdId_i s a, k4, k5, k6, k7, k8, k9, k10, k11, k12, k13, k14, ⟨Nat.le_trans (lst_le _ _ 66 _ [] (by simp)) (by decide), lst_all _ _ _ (rdSub_f s hs) 66 _ [] (fun x hx => by cases hx)⟩, k16⟩, rdPr_f s _ k hs, p2⟩
  split
  · refine bnd_f h (bnd_f h ?_)
    obtain ⟨⟨k1, k2, k3, k4, k5, k6, k7, k8, k9, k10, k11, k12, k13, k14, k15, k16⟩, p1, p2⟩ := h
    exact ⟨⟨k1, k2, rdId_i s a, k4, k5, k6, k7, k8, k9, k10, k11, k12, k13, k14, k15, ⟨Nat.le_trans (lst_le _ _ 66 _ [] (by simp)) (by decide), lst_all _ _ _ (rdT_s s hs) 66 _ [] (fun x hx => by cases hx)⟩⟩, rdPr_f s _ k hs, p2⟩
  split
  · refine bnd_f h (bnd_f h ?_)
    obtain ⟨⟨k1, k2, k3, k4, k5, k6, k7, k8, k9, k10, k11, k12, k13, k14, k15, k16⟩, p1, p2⟩ := h
    exact ⟨⟨k1, k2, rdId_i s a, k4, k5, k6, k7, k8, k9, k10, k11, k12, k13, ⟨Nat.le_trans (lst_le _ _ 66 _ [] (by simp)) (by decide), lst_all _ _ (fun c => 0 ≤ c ∧ c ≤ 255) (rdC_u8 s) 66 _ [] (fun x hx => by cases hx)⟩, k15, k16⟩, rdPr_f s _ k hs, p2⟩
  split
  · refine bnd_f h (rdEndP_f hs _ _ _ ?_)
    obtain ⟨⟨k1, k2, k3, k4, k5, k6, k7, k8, k9, k10, k11, k12, k13, k14, k15, k16⟩, p1, p2⟩ := h
    exact ⟨⟨k1, k2, rdId_i s a, k4, k5, k6, k7, k8, k9, k10, k11, k12, k13, k14, k15, k16⟩, p1, p2⟩
  split
  · exact rdEndP_f hs _ _ _ h
  · exact h
end
theorem bare_f (k : Int) (d r : Bool) (q : Int) (hk : I64 k) (hq : I64 q) : PkF (barePk k d r q) := by
  have z : Short (ByteArray.mk #[]) := Nat.zero_le _
  have i0 : I64 0 := ⟨by decide, by decide⟩
  exact ⟨⟨hk, hq, i0, z, z, ⟨(by decide : (0 : Int) ≤ 0), (by decide : (0 : Int) ≤ 255)⟩, z, i0, z, z, i0, z, z, ⟨Nat.zero_le _, fun c hc => by cases hc⟩, ⟨Nat.zero_le _, fun c hc => by cases hc⟩, ⟨Nat.zero_le _, fun c hc => by cases hc⟩⟩, ⟨Nat.zero_le _, fun c hc => by cases hc⟩, ⟨Nat.zero_le _, fun c hc => by cases hc⟩⟩
theorem begPk_f (n : Int) (h0 : 0 ≤ n) (h1 : n ≤ 255) : PkF (begPk n) := by
  unfold begPk
  split
  · have b := and3 (n % 16 / 2) (by omega) (by omega)
    exact bare_f _ _ _ _ ⟨by decide, by decide⟩ (i64_of b.1 (Int.le_trans b.2 (by decide)))
  · exact bare_f _ _ _ _ ⟨by omega, by omega⟩ ⟨by decide, by decide⟩
theorem b0_u8 (s : ByteArray) : 0 ≤ b0 s ∧ b0 s ≤ 255 := by
  unfold b0
  split
  · rename_i h
    have := VP.byte_lt s 0 h
    omega
  · exact ⟨by decide, by decide⟩
theorem getPk_f (s : ByteArray) (hs : s.size ≤ 140737488351232) : PkF (getPk s).1 := by
  have hz : PkF zeroPk := bare_f 0 false false 0 ⟨by decide, by decide⟩ ⟨by decide, by decide⟩
  unfold getPk
  repeat' split
  all_goals first
    | exact hz
    | exact partsK_f hs _ _ _ (begPk_f _ (b0_u8 s).1 (b0_u8 s).2)
end PK
theorem own_codes {w : World} {B : Nat} {A : Option Addr} {n cap : Nat} {l : List Int} (h : w.ownsRow B 30 1 (.slice A n cap) n (flatC l)) : Codes w A l := fun i x hx => by
  have hn : l.length = n := by simpa [flatC] using h.1
  have hi : i < l.length := (List.getElem?_eq_some_iff.1 hx).1
  obtain ⟨g, c', hv, hg, hg'⟩ := h.form (by omega)
  injection hv with hv _ _
  subst hv
  refine ⟨g, 0, rfl, hg', ?_⟩
  rw [Nat.zero_add, ← add0]
  exact h.cells (g := g) rfl i _ (by rw [flatC, List.getElem?_map, hx]; rfl)
theorem own_texts {w : World} {B : Nat} {A : Option Addr} {n cap : Nat} {l : List ByteArray} (h : w.ownsRow B 9 1 (.slice A n cap) n (flatT l)) : Texts w A l := fun i x hx => by
  have hn : l.length = n := by simpa [flatT] using h.1
  have hi : i < l.length := (List.getElem?_eq_some_iff.1 hx).1
  obtain ⟨g, c', hv, hg, hg'⟩ := h.form (by omega)
  injection hv with hv _ _
  subst hv
  refine ⟨g, 0, rfl, hg', ?_⟩
  rw [Nat.zero_add, ← add0]
  exact h.cells (g := g) rfl i _ (by rw [flatT, List.getElem?_map, hx]; rfl)
theorem flatB_at : ∀ (l : List Sb) (i : Nat) (s : Sb), l[i]? = some s → (flatB l)[i * 5]? = some (.string s.f) ∧ (flatB l)[i * 5 + 1]? = some (.int .i64 s.q) ∧ (flatB l)[i * 5 + 2]? = some (.bool s.nl) ∧ (flatB l)[i * 5 + 3]? = some (.bool s.ap) ∧ (flatB l)[i * 5 + 4]? = some (.int .i64 s.h)
  | [], i, s, h => by simp at h
  | x :: l, 0, s, h => by simp at h; subst h; simp [flatB, Sb.cells]
  | x :: l, i + 1, s, h => by
    have ih := flatB_at l i s (by simpa using h)
    have e : ∀ j, (flatB (x :: l))[(i + 1) * 5 + j]? = (flatB l)[i * 5 + j]? := fun j => by
      have : (i + 1) * 5 + j = 5 + (i * 5 + j) := by omega
      rw [this]
      simp only [flatB, List.flatMap_cons]
      rw [List.getElem?_append_right (by simp [Sb.cells])]
      simp [Sb.cells]
    have e0 := e 0
    simp only [Nat.add_zero] at e0
    rw [e0, e 1, e 2, e 3, e 4]
    exact ih
theorem own_subs {w : World} {B : Nat} {A : Option Addr} {n cap : Nat} {l : List Sb} (hn : l.length = n) (h : w.ownsRow B 61 5 (.slice A n cap) n (flatB l)) : Subs w A l := fun i x hx => by
  have hi : i < l.length := (List.getElem?_eq_some_iff.1 hx).1
  obtain ⟨g, c', hv, hg, hg'⟩ := h.form (by omega)
  injection hv with hv _ _
  subst hv
  obtain ⟨f0, f1, f2, f3, f4⟩ := flatB_at l i x hx
  refine ⟨g, 0, rfl, hg', ?_, ?_, ?_, ?_, ?_⟩
  · rw [Nat.zero_add, ← add0]; exact h.cells (g := g) rfl _ _ f0
  · rw [Nat.zero_add, ← add0]; exact h.cells (g := g) rfl _ _ f1
  · rw [Nat.zero_add, ← add0]; exact h.cells (g := g) rfl _ _ f2
  · rw [Nat.zero_add, ← add0]; exact h.cells (g := g) rfl _ _ f3
  · rw [Nat.zero_add, ← add0]; exact h.cells (g := g) rfl _ _ f4
end Go.Proofs.YtemfcaaoobjgkaaGreatDoor
namespace Go.Proofs.YtemfcaaoobjgkaaGreatDoor
open Go.RowKit
attribute [local go_sem ↓] Go.wp_at_zero Go.wp_at_succ

section
variable {w W W' : World} {P : Pk} {vc vp vw vs vf : Value} {o r : ByteArray × Int}
end
theorem fl_le (b : Bool) (n : Int) (h : 0 ≤ n) : 0 ≤ PK.fl b n ∧ PK.fl b n ≤ n := by
  unfold PK.fl
  split <;> omega
set_option linter.unusedSimpArgs false in
set_option maxRecDepth 100000 in
set_option maxHeartbeats 4000000 in
theorem dflags_any (P : Pk) (h3 : P.kind = 3 → 0 ≤ P.qos ∧ P.qos ≤ 2) (vc vp vw vs vf : Value) (w : World) :
    Calls Tryz.prog 40 #[.agg (rkCells P vc vp vw vs vf)] w fun e w' => e = .returned (.int .i64 (PK.flagsN P)) ∧ Below w.heap.size w w' := by
  have k0 := heap_alloc_new w (.cells (rkCells P vc vp vw vs vf) 52)
  have x0 := (cell_heap (i := 0) k0).trans (show _ = some (.int .i64 P.kind) from rfl)
  have x1 := (cell_heap (i := 1) k0).trans (show _ = some (.bool P.dup) from rfl)
  have x2 := (cell_heap (i := 2) k0).trans (show _ = some (.bool P.ret) from rfl)
  have x3 := (cell_heap (i := 3) k0).trans (show _ = some (.int .i64 P.qos) from rfl)
  have bb := Lib.hid ((Below.refl w.heap.size w).alloc (Nat.le_refl _) (.cells (rkCells P vc vp vw vs vf) 52))
  clear k0
  unfold PK.flagsN
  by_cases k3 : P.kind = 3
  · rw [if_pos k3]
    obtain ⟨q0, q1⟩ := h3 k3
    rw [k3] at x0
    have CD : Hid (∀ W, _) := Lib.hid (fun W => dbit_any P.dup 8 W)
    have CR : Hid (∀ W, _) := Lib.hid (fun W => dbit_any P.ret 1 W)
    have b1 := fl_le P.dup 8 (by decide)
    have b2 := fl_le P.ret 1 (by decide)
    generalize PK.fl P.dup 8 = d at *
    generalize PK.fl P.ret 1 = r at *
    clear k3 h3
    go_enter Tryz.func40, Tryz.ntmps40
    go_wp2_with fail
    refine (CD.out _).mono ?_
    rintro e _ ⟨rfl, rfl⟩
    go_wp2_with fail
    refine (CR.out _).mono ?_
    rintro e _ ⟨rfl, rfl⟩
    go_wp2_with fail
    go_ret
    exact ⟨rfl, bb.out⟩
  · rw [if_neg k3]
    have n3 : (P.kind == 3) = false := by rw [beq_eq_false_iff_ne]; exact k3
    by_cases k2 : P.kind = 6 ∨ P.kind = 8 ∨ P.kind = 10
    · rw [if_pos k2]
      rcases k2 with k | k | k <;>
      · rw [k] at x0
        clear h3 k3 n3 k
        go_enter Tryz.func40, Tryz.ntmps40
        go_wp2_with fail
        go_ret
        exact ⟨rfl, bb.out⟩
    · rw [if_neg k2]
      have n6 : (P.kind == 6) = false := by rw [beq_eq_false_iff_ne]; exact fun e => k2 (.inl e)
      have n8 : (P.kind == 8) = false := by rw [beq_eq_false_iff_ne]; exact fun e => k2 (.inr (.inl e))
      have n10 : (P.kind == 10) = false := by rw [beq_eq_false_iff_ne]; exact fun e => k2 (.inr (.inr e))
      clear h3 k3 k2
      go_enter Tryz.func40, Tryz.ntmps40
      go_wp2_with fail
      go_ret
      exact ⟨rfl, bb.out⟩
end Go.Proofs.YtemfcaaoobjgkaaGreatDoor
