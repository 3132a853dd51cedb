/- A filter with its options, put; and a Connect's flags. -/
import Derived.Test.YtemfcaaoobjgkaaGreatDoorPkHead
import Derived.Laws.Closers25b
import Derived.Deep.RegionHeld3
import Derived.Deep.DrawnRows
import Derived.IntWalk
import Derived.BigQuiet
namespace Go.Proofs.YtemfcaaoobjgkaaGreatDoor
open Go.RowKit
attribute [local go_sem ↓] Go.wp_at_zero Go.wp_at_succ

theorem bits_in (op : BinOp) (a b : Int) : I64 (bits op .i64 a b) := by
  unfold bits I64
  have h1 : IntKind.i64.min = -9223372036854775808 := rfl
  have h2 : IntKind.i64.max = 9223372036854775807 := rfl
  rw [← h1, ← h2]
  exact wrap_within _ _
theorem Kp.of_drew {b : Nat} {w w' : World} (h : Kp b w.drew w') : Kp b w w' := ⟨below_of_drew h.1, h.2⟩
theorem isQ_cases {n : Int} (h : PK.isQ n = true) : n = 0 ∨ n = 1 ∨ n = 2 := by
  unfold PK.isQ at h
  simp only [Bool.and_eq_true, decide_eq_true_eq] at h
  omega
theorem sub_or {s : Sb} (hq : PK.isQ s.q = true) (hh : PK.isQ s.h = true) : bits .or .i64 (bits .or .i64 (bits .or .i64 s.q (PK.fl s.nl 4)) (PK.fl s.ap 8)) (IntKind.i64.wrap (s.h * 16)) = PK.subN s := by
  obtain ⟨sf, sq, snl, sap, sh⟩ := s
  simp only at hq hh
  unfold PK.subN
  simp only
  rcases isQ_cases hq with rfl | rfl | rfl <;> rcases isQ_cases hh with rfl | rfl | rfl <;> cases snl <;> cases sap <;> decide +kernel
set_option maxRecDepth 100000 in
set_option maxHeartbeats 4000000 in
theorem wsub_any (b N : Nat) (o : ByteArray × Int) (s : Sb) (w : World) (h : WO b N o w) (hN : N ≤ 990) (hs : SbFine s) (hT : ∀ W, Below b w W → Tabs W) :
    Calls Tryz.prog 54 #[.pointer (some ⟨b, 0, none⟩), .agg #[.string s.f, .int .i64 s.q, .bool s.nl, .bool s.ap, .int .i64 s.h]] w (WP b (N + 1 + 1) (PK.sub o s) w) := by
  have hal := (Below.refl w.heap.size w).alloc (Nat.le_refl _) (.cells #[.string s.f, .int .i64 s.q, .bool s.nl, .bool s.ap, .int .i64 s.h] 61)
  have k0 : Kp b w (w.alloc (.cells #[.string s.f, .int .i64 s.q, .bool s.nl, .bool s.ap, .int .i64 s.h] 61)) := Kp.of_below (Nat.le_of_lt h.lt) hal
  have hb0 : (w.alloc (.cells #[.string s.f, .int .i64 s.q, .bool s.nl, .bool s.ap, .int .i64 s.h] 61)).heap[w.heap.size]? = some (.cells #[.string s.f, .int .i64 s.q, .bool s.nl, .bool s.ap, .int .i64 s.h] 61 (0, 0)) := heap_alloc_new w _
  have hne : w.heap.size ≠ b := by have := h.lt; omega
  have C1 := Lib.hid (wtext_any b N o s.f _ (h.below hal) (by omega) hs.1 (hT _ k0.1))
  have C2 : Hid (∀ W, WO b (N + 1) (PK.tx o s.f) W → Calls Tryz.prog 45 #[.pointer (some ⟨b, 0, none⟩), .int .u8 129] W (WP b (N + 1) (PK.rf (PK.tx o s.f) 129) W)) := fun W hO => wrefuse_any b (N + 1) _ 129 W hO (by omega) (by decide)
  have C3 : Hid (∀ O n W, I64 n → WO b (N + 1) O W → Calls Tryz.prog 48 #[.pointer (some ⟨b, 0, none⟩), .int .i64 1, .int .i64 n] W (WP b (N + 1 + 1) (PK.nm O 1 n) W)) := fun O n W hn hO => wnumber_any b (N + 1) O 1 n W hO (by omega) hn
  have CF := Lib.hid flag_any
  have CQ := Lib.hid isqos_any
  have CH := Lib.hid ishand_any
  have HK0 := Lib.hid k0
  have HB := Lib.hid hb0
  have hq1 := hs.2.1.1; have hq2 := hs.2.1.2; have hh1 := hs.2.2.1; have hh2 := hs.2.2.2
  obtain ⟨sf, sq, snl, sap, sh⟩ := s
  simp only at *
  by_cases hq : PK.isQ sq = true
  · by_cases hh : PK.isQ sh = true
    · have E : Hid (PK.sub o ⟨sf, sq, snl, sap, sh⟩ = PK.nm (PK.tx o sf) 1 (bits .or .i64 (bits .or .i64 (bits .or .i64 sq (PK.fl snl 4)) (PK.fl sap 8)) (IntKind.i64.wrap (sh * 16)))) := Lib.hid (by unfold PK.sub; simp only; rw [hq, hh, sub_or (s := ⟨sf, sq, snl, sap, sh⟩) hq hh]; rfl)
      generalize PK.sub o ⟨sf, sq, snl, sap, sh⟩ = o2 at *
      generalize PK.tx o sf = o1 at *
      have Hq := Lib.hid hq
      have Hh := Lib.hid hh
      clear h hT k0 hb0 hal hs hq hh C2
      go_enter Tryz.func54, Tryz.ntmps54
      go_wp2_with fail
      refine C1.out.mono ?_
      rintro e w1 ⟨rfl, hw, hk⟩
      have K1 : Hid (Kp b w w1) := HK0.out.trans hk
      have H1 := Lib.hid hw
      have hb1 := hk.block HB.out hne (by decide)
      have HB1 := Lib.hid hb1
      have q0 : w1.cell? ⟨w.heap.size, 0, none⟩ = some (.string sf) := by rw [cell_heap hb1]; rfl
      have q1 : w1.cell? ⟨w.heap.size, 1, none⟩ = some (.int .i64 sq) := by rw [cell_heap hb1]; rfl
      have q2 : w1.cell? ⟨w.heap.size, 2, none⟩ = some (.bool snl) := by rw [cell_heap hb1]; rfl
      have q3 : w1.cell? ⟨w.heap.size, 3, none⟩ = some (.bool sap) := by rw [cell_heap hb1]; rfl
      have q4 : w1.cell? ⟨w.heap.size, 4, none⟩ = some (.int .i64 sh) := by rw [cell_heap hb1]; rfl
      clear C1 hw hk hb1
      go_wp2_with fail
      refine (CQ.out _ _).mono ?_
      rintro e w' ⟨rfl, rfl⟩
      rw [Hq.out]
      go_wp2_with fail
      refine (CH.out _ _).mono ?_
      rintro e w' ⟨rfl, rfl⟩
      rw [Hh.out]
      go_wp2_with fail
      go_region_held3 (fun w' => w'.cell? ⟨w.heap.size, 1, none⟩ = some (.int .i64 sq) ∧ w'.cell? ⟨w.heap.size, 2, none⟩ = some (.bool snl) ∧ w'.cell? ⟨w.heap.size, 3, none⟩ = some (.bool sap) ∧ w'.cell? ⟨w.heap.size, 4, none⟩ = some (.int .i64 sh))
        (first | exact ⟨q1, q2, q3, q4⟩ | exact ⟨r1, r2, r3, r4⟩)
        (first
          | (go_at_call 46
             refine (CF.out _ _ _).mono ?_
             rintro e w' ⟨rfl, rfl⟩)
          | (go_at_call 48
             refine (C3.out o1 _ _ (bits_in _ _ _) (show WO b (N + 1) o1 w1.drew from H1.out)).mono ?_
             rintro e w2 ⟨rfl, hw, hk⟩
             have hb2 := hk.block (show w1.drew.heap[w.heap.size]? = _ from HB1.out) hne (by decide)
             have r1 : w2.cell? ⟨w.heap.size, 1, none⟩ = some (.int .i64 sq) := by rw [cell_heap hb2]; rfl
             have r2 : w2.cell? ⟨w.heap.size, 2, none⟩ = some (.bool snl) := by rw [cell_heap hb2]; rfl
             have r3 : w2.cell? ⟨w.heap.size, 3, none⟩ = some (.bool sap) := by rw [cell_heap hb2]; rfl
             have r4 : w2.cell? ⟨w.heap.size, 4, none⟩ = some (.int .i64 sh) := by rw [cell_heap hb2]; rfl))
      all_goals
        have H2 := Lib.hid hw
        have K2 : Hid (Kp b w w2) := K1.out.trans (Kp.of_drew hk)
        clear hw hk
        go_wp2
        go_end0
        exact ⟨rfl, by rw [E.out]; exact H2.out, K2.out⟩
    · have E : Hid (∀ V, PK.nm (PK.rf (PK.tx o sf) 129) 1 V = PK.sub o ⟨sf, sq, snl, sap, sh⟩) := Lib.hid (fun V => by rw [PK.nm_rf _ (by decide)]; unfold PK.sub; simp only; rw [hq]; simp [hh])
      have Hq := Lib.hid hq
      have Hh : Hid (PK.isQ sh = false) := Lib.hid (by simpa using hh)
      clear hq hh
      generalize PK.sub o ⟨sf, sq, snl, sap, sh⟩ = o2 at *
      generalize PK.rf (PK.tx o sf) 129 = o3 at *
      generalize PK.tx o sf = o1 at *
      clear h hT k0 hb0 hal hs
      go_enter Tryz.func54, Tryz.ntmps54
      go_wp2_with fail
      refine C1.out.mono ?_
      rintro e w0 ⟨rfl, hw, hk⟩
      have K0 : Hid (Kp b w w0) := HK0.out.trans hk
      have D2 := Lib.hid (C2.out w0 hw)
      have hb1 := hk.block HB.out hne (by decide)
      have HB0 := Lib.hid hb1
      have p1 : w0.cell? ⟨w.heap.size, 1, none⟩ = some (.int .i64 sq) := by rw [cell_heap hb1]; rfl
      have p4 : w0.cell? ⟨w.heap.size, 4, none⟩ = some (.int .i64 sh) := by rw [cell_heap hb1]; rfl
      clear C1 C2 hw hk hb1
      go_wp2_with fail
      refine (CQ.out _ _).mono ?_
      rintro e w' ⟨rfl, rfl⟩
      rw [Hq.out]
      go_wp2_with fail
      refine (CH.out _ _).mono ?_
      rintro e w' ⟨rfl, rfl⟩
      rw [Hh.out]
      go_wp2_with fail
      refine D2.out.mono ?_
      rintro e w1 ⟨rfl, hw, hk⟩
      have K1 : Hid (Kp b w w1) := K0.out.trans hk
      have H1 := Lib.hid hw
      have hb1 := hk.block HB0.out hne (by decide)
      have HB1 := Lib.hid hb1
      have q1 : w1.cell? ⟨w.heap.size, 1, none⟩ = some (.int .i64 sq) := by rw [cell_heap hb1]; rfl
      have q2 : w1.cell? ⟨w.heap.size, 2, none⟩ = some (.bool snl) := by rw [cell_heap hb1]; rfl
      have q3 : w1.cell? ⟨w.heap.size, 3, none⟩ = some (.bool sap) := by rw [cell_heap hb1]; rfl
      have q4 : w1.cell? ⟨w.heap.size, 4, none⟩ = some (.int .i64 sh) := by rw [cell_heap hb1]; rfl
      clear D2 hw hk hb1 p1 p4
      go_wp2_with fail
      go_region_held3 (fun w' => w'.cell? ⟨w.heap.size, 1, none⟩ = some (.int .i64 sq) ∧ w'.cell? ⟨w.heap.size, 2, none⟩ = some (.bool snl) ∧ w'.cell? ⟨w.heap.size, 3, none⟩ = some (.bool sap) ∧ w'.cell? ⟨w.heap.size, 4, none⟩ = some (.int .i64 sh))
        (first | exact ⟨q1, q2, q3, q4⟩ | exact ⟨r1, r2, r3, r4⟩)
        (first
          | (go_at_call 46
             refine (CF.out _ _ _).mono ?_
             rintro e w' ⟨rfl, rfl⟩)
          | (go_at_call 48
             refine (C3.out o3 _ _ (bits_in _ _ _) (show WO b (N + 1) o3 w1.drew from H1.out)).mono ?_
             rintro e w2 ⟨rfl, hw, hk⟩
             have hb2 := hk.block (show w1.drew.heap[w.heap.size]? = _ from HB1.out) hne (by decide)
             have r1 : w2.cell? ⟨w.heap.size, 1, none⟩ = some (.int .i64 sq) := by rw [cell_heap hb2]; rfl
             have r2 : w2.cell? ⟨w.heap.size, 2, none⟩ = some (.bool snl) := by rw [cell_heap hb2]; rfl
             have r3 : w2.cell? ⟨w.heap.size, 3, none⟩ = some (.bool sap) := by rw [cell_heap hb2]; rfl
             have r4 : w2.cell? ⟨w.heap.size, 4, none⟩ = some (.int .i64 sh) := by rw [cell_heap hb2]; rfl))
      all_goals
        have H2 := Lib.hid hw
        have K2 : Hid (Kp b w w2) := K1.out.trans (Kp.of_drew hk)
        clear hw hk
        go_wp2
        go_end0
        exact ⟨rfl, by rw [← E.out]; exact H2.out, K2.out⟩
  · have E : Hid (∀ V, PK.nm (PK.rf (PK.tx o sf) 129) 1 V = PK.sub o ⟨sf, sq, snl, sap, sh⟩) := Lib.hid (fun V => by rw [PK.nm_rf _ (by decide)]; unfold PK.sub; simp only; simp [hq])
    have Hq : Hid (PK.isQ sq = false) := Lib.hid (by simpa using hq)
    clear hq
    generalize PK.sub o ⟨sf, sq, snl, sap, sh⟩ = o2 at *
    generalize PK.rf (PK.tx o sf) 129 = o3 at *
    generalize PK.tx o sf = o1 at *
    clear h hT k0 hb0 hal hs
    go_enter Tryz.func54, Tryz.ntmps54
    go_wp2_with fail
    refine C1.out.mono ?_
    rintro e w0 ⟨rfl, hw, hk⟩
    have K0 : Hid (Kp b w w0) := HK0.out.trans hk
    have D2 := Lib.hid (C2.out w0 hw)
    have hb1 := hk.block HB.out hne (by decide)
    have HB0 := Lib.hid hb1
    have p1 : w0.cell? ⟨w.heap.size, 1, none⟩ = some (.int .i64 sq) := by rw [cell_heap hb1]; rfl
    have p4 : w0.cell? ⟨w.heap.size, 4, none⟩ = some (.int .i64 sh) := by rw [cell_heap hb1]; rfl
    clear C1 C2 hw hk hb1
    go_wp2_with fail
    refine (CQ.out _ _).mono ?_
    rintro e w' ⟨rfl, rfl⟩
    rw [Hq.out]
    go_wp2_with fail
    refine D2.out.mono ?_
    rintro e w1 ⟨rfl, hw, hk⟩
    have K1 : Hid (Kp b w w1) := K0.out.trans hk
    have H1 := Lib.hid hw
    have hb1 := hk.block HB0.out hne (by decide)
    have HB1 := Lib.hid hb1
    have q1 : w1.cell? ⟨w.heap.size, 1, none⟩ = some (.int .i64 sq) := by rw [cell_heap hb1]; rfl
    have q2 : w1.cell? ⟨w.heap.size, 2, none⟩ = some (.bool snl) := by rw [cell_heap hb1]; rfl
    have q3 : w1.cell? ⟨w.heap.size, 3, none⟩ = some (.bool sap) := by rw [cell_heap hb1]; rfl
    have q4 : w1.cell? ⟨w.heap.size, 4, none⟩ = some (.int .i64 sh) := by rw [cell_heap hb1]; rfl
    clear D2 hw hk hb1 p1 p4
    go_wp2_with fail
    go_region_held3 (fun w' => w'.cell? ⟨w.heap.size, 1, none⟩ = some (.int .i64 sq) ∧ w'.cell? ⟨w.heap.size, 2, none⟩ = some (.bool snl) ∧ w'.cell? ⟨w.heap.size, 3, none⟩ = some (.bool sap) ∧ w'.cell? ⟨w.heap.size, 4, none⟩ = some (.int .i64 sh))
      (first | exact ⟨q1, q2, q3, q4⟩ | exact ⟨r1, r2, r3, r4⟩)
      (first
        | (go_at_call 46
           refine (CF.out _ _ _).mono ?_
           rintro e w' ⟨rfl, rfl⟩)
        | (go_at_call 48
           refine (C3.out o3 _ _ (bits_in _ _ _) (show WO b (N + 1) o3 w1.drew from H1.out)).mono ?_
           rintro e w2 ⟨rfl, hw, hk⟩
           have hb2 := hk.block (show w1.drew.heap[w.heap.size]? = _ from HB1.out) hne (by decide)
           have r1 : w2.cell? ⟨w.heap.size, 1, none⟩ = some (.int .i64 sq) := by rw [cell_heap hb2]; rfl
           have r2 : w2.cell? ⟨w.heap.size, 2, none⟩ = some (.bool snl) := by rw [cell_heap hb2]; rfl
           have r3 : w2.cell? ⟨w.heap.size, 3, none⟩ = some (.bool sap) := by rw [cell_heap hb2]; rfl
           have r4 : w2.cell? ⟨w.heap.size, 4, none⟩ = some (.int .i64 sh) := by rw [cell_heap hb2]; rfl))
    all_goals
      have H2 := Lib.hid hw
      have K2 : Hid (Kp b w w2) := K1.out.trans (Kp.of_drew hk)
      clear hw hk
      go_wp2
      go_end0
      exact ⟨rfl, by rw [← E.out]; exact H2.out, K2.out⟩

theorem cfl_or (a c d : Bool) : bits .or .i64 (bits .or .i64 (PK.fl a 2) (PK.fl c 64)) (PK.fl d 128) = PK.fl a 2 + PK.fl c 64 + PK.fl d 128 := by
  cases a <;> cases c <;> cases d <;> decide +kernel
theorem cfw_or (a c d : Bool) {q : Int} (hq : PK.isQ q = true) (r : Bool) : bits .or .i64 (bits .or .i64 (bits .or .i64 (PK.fl a 2) (PK.fl c 64)) (PK.fl d 128)) (bits .or .i64 (bits .or .i64 4 (wrap64 (q * 8))) (PK.fl r 32)) = PK.fl a 2 + PK.fl c 64 + PK.fl d 128 + (4 + 8 * q + PK.fl r 32) := by
  rcases isQ_cases hq with rfl | rfl | rfl <;> cases a <;> cases c <;> cases d <;> cases r <;> decide +kernel
theorem drew_block {w : World} {n : Nat} {o : Obj} (h : w.heap[n]? = some o) : w.drew.heap[n]? = some o := h

set_option maxRecDepth 100000 in
set_option maxHeartbeats 8000000 in
theorem wcflags_any (b N : Nat) (o : ByteArray × Int) (p : Pk) (vc vp vw vs vf : Value) (w : World) (h : WO b N o w) (hN : N ≤ 990) (hp : PkFine p) :
    Calls Tryz.prog 80 #[.pointer (some ⟨b, 0, none⟩), .agg (pkCells p vc vp vw vs vf)] w (WP b (N + 1) (PK.cflags o p) w) := by
  obtain ⟨w0, k0, hb0⟩ := boxed h p vc vp vw vs vf
  have hne : w.heap.size ≠ b := by have := h.lt; omega
  have C2 : Hid (∀ W, WO b N o W → Calls Tryz.prog 45 #[.pointer (some ⟨b, 0, none⟩), .int .u8 129] W (WP b N (PK.rf o 129) W)) := fun W hO => wrefuse_any b N _ 129 W hO (by omega) (by decide)
  have C3 : Hid (∀ O n W, I64 n → WO b N O W → Calls Tryz.prog 48 #[.pointer (some ⟨b, 0, none⟩), .int .i64 1, .int .i64 n] W (WP b (N + 1) (PK.nm O 1 n) W)) := fun O n W hn hO => wnumber_any b N O 1 n W hO (by omega) hn
  have CF := Lib.hid flag_any
  have CQ := Lib.hid isqos_any
  have HK0 := Lib.hid k0
  have HB := Lib.hid hb0
  have HW0 := Lib.hid w0
  have hw1 := hp.wqos.1; have hw2 := hp.wqos.2
  by_cases hW : p.hasWill = true
  · have HW := Lib.hid hW
    by_cases hq : PK.isQ p.wqos = true
    · have E : Hid (PK.cflags o p = PK.nm o 1 (bits .or .i64 (bits .or .i64 (bits .or .i64 (PK.fl p.clean 2) (PK.fl p.hasPass 64)) (PK.fl p.hasUser 128)) (bits .or .i64 (bits .or .i64 4 (wrap64 (p.wqos * 8))) (PK.fl p.wret 32)))) := Lib.hid (by
        unfold PK.cflags PK.cflagsN
        rw [cfw_or _ _ _ hq, hW, hq]; rfl)
      have Hq := Lib.hid hq
      generalize PK.cflags o p = o2 at *
      clear h hp w0 k0 hb0 hW hq C2
      unfold pkCells at *
      go_enter Tryz.func80, Tryz.ntmps80
      go_wp2_with fail
      generalize w.alloc (.cells #[.int .i64 p.kind, .bool p.dup, .bool p.ret, .int .i64 p.qos, .int .i64 p.id, .string p.topic, .string p.pay, .int .u8 p.code, vc, vp, .string p.client, .bool p.clean, .int .i64 p.keep, .bool p.hasWill, .string p.wtopic, .string p.wpay, .int .i64 p.wqos, .bool p.wret, vw, .bool p.hasUser, .bool p.hasPass, .string p.user, .string p.pass, .bool p.session, vs, vf] 45) = V at *
      obtain ⟨_, _, _, _, _, _, _, _, _, _, _, q11, _, q13, _, _, q16, q17, _, q19, q20, _⟩ := pk_cells (p := p) (vc := vc) (vp := vp) (vw := vw) (vs := vs) (vf := vf) HB.out
      rw [HW.out] at q13
      go_region_held3 (fun w' => w'.cell? ⟨w.heap.size, 11, none⟩ = some (.bool p.clean) ∧ w'.cell? ⟨w.heap.size, 20, none⟩ = some (.bool p.hasPass) ∧ w'.cell? ⟨w.heap.size, 19, none⟩ = some (.bool p.hasUser))
        (first | exact ⟨q11, q20, q19⟩)
        (first
          | (go_at_call 46
             refine (CF.out _ _ _).mono ?_
             rintro e w' ⟨rfl, rfl⟩))
      all_goals
        go_wp2_with fail
        refine (CQ.out _ _).mono ?_
        rintro e w' ⟨rfl, rfl⟩
        rw [Hq.out]
        go_wp2_with fail
        go_region_held3 (fun w' => w'.cell? ⟨w.heap.size, 16, none⟩ = some (.int .i64 p.wqos) ∧ w'.cell? ⟨w.heap.size, 17, none⟩ = some (.bool p.wret))
          (first | exact ⟨q16, q17⟩)
          (first
            | (go_at_call 46
               refine (CF.out _ _ _).mono ?_
               rintro e w' ⟨rfl, rfl⟩))
        go_wp2_with fail
        refine (C3.out o _ _ (bits_in _ _ _) (show WO b N o V.drew.drew from HW0.out)).mono ?_
        rintro e w2 ⟨rfl, hw, hk⟩
        have H2 := Lib.hid hw
        have K2 : Hid (Kp b w w2) := HK0.out.trans (Kp.of_drew (Kp.of_drew hk))
        clear hw hk
        go_wp2
        go_end0
        exact ⟨rfl, by rw [E.out]; exact H2.out, K2.out⟩
    · have E : Hid (∀ V, PK.nm (PK.rf o 129) 1 V = PK.cflags o p) := Lib.hid (fun V => by rw [PK.nm_rf _ (by decide)]; unfold PK.cflags; rw [hW]; simp [hq])
      have Hq : Hid (PK.isQ p.wqos = false) := Lib.hid (by simpa using hq)
      generalize PK.cflags o p = o2 at *
      generalize PK.rf o 129 = o3 at *
      clear h hp w0 k0 hb0 hW hq
      unfold pkCells at *
      go_enter Tryz.func80, Tryz.ntmps80
      go_wp2_with fail
      generalize w.alloc (.cells #[.int .i64 p.kind, .bool p.dup, .bool p.ret, .int .i64 p.qos, .int .i64 p.id, .string p.topic, .string p.pay, .int .u8 p.code, vc, vp, .string p.client, .bool p.clean, .int .i64 p.keep, .bool p.hasWill, .string p.wtopic, .string p.wpay, .int .i64 p.wqos, .bool p.wret, vw, .bool p.hasUser, .bool p.hasPass, .string p.user, .string p.pass, .bool p.session, vs, vf] 45) = V at *
      obtain ⟨_, _, _, _, _, _, _, _, _, _, _, q11, _, q13, _, _, q16, q17, _, q19, q20, _⟩ := pk_cells (p := p) (vc := vc) (vp := vp) (vw := vw) (vs := vs) (vf := vf) HB.out
      rw [HW.out] at q13
      go_region_held3 (fun w' => w'.cell? ⟨w.heap.size, 11, none⟩ = some (.bool p.clean) ∧ w'.cell? ⟨w.heap.size, 20, none⟩ = some (.bool p.hasPass) ∧ w'.cell? ⟨w.heap.size, 19, none⟩ = some (.bool p.hasUser))
        (first | exact ⟨q11, q20, q19⟩)
        (first
          | (go_at_call 46
             refine (CF.out _ _ _).mono ?_
             rintro e w' ⟨rfl, rfl⟩))
      all_goals
        go_wp2_with fail
        refine (CQ.out _ _).mono ?_
        rintro e w' ⟨rfl, rfl⟩
        rw [Hq.out]
        go_wp2_with fail
        refine (C2.out _ (show WO b N o V.drew from HW0.out)).mono ?_
        rintro e w1 ⟨rfl, hw, hk⟩
        have H1 := Lib.hid hw
        have K1 : Hid (Kp b w w1) := HK0.out.trans (Kp.of_drew hk)
        obtain ⟨_, _, _, _, _, _, _, _, _, _, _, _, _, _, _, _, r16, r17, _⟩ := pk_cells (p := p) (vc := vc) (vp := vp) (vw := vw) (vs := vs) (vf := vf) (hk.block (drew_block HB.out) hne (by decide))
        clear hw hk
        go_wp2_with fail
        go_region_held3 (fun w' => w'.cell? ⟨w.heap.size, 16, none⟩ = some (.int .i64 p.wqos) ∧ w'.cell? ⟨w.heap.size, 17, none⟩ = some (.bool p.wret))
          (first | exact ⟨r16, r17⟩)
          (first
            | (go_at_call 46
               refine (CF.out _ _ _).mono ?_
               rintro e w' ⟨rfl, rfl⟩))
        go_wp2_with fail
        refine (C3.out o3 _ _ (bits_in _ _ _) (show WO b N o3 w1.drew from H1.out)).mono ?_
        rintro e w2 ⟨rfl, hw, hk⟩
        have H2 := Lib.hid hw
        have K2 : Hid (Kp b w w2) := K1.out.trans (Kp.of_drew hk)
        clear hw hk
        go_wp2
        go_end0
        exact ⟨rfl, by rw [← E.out]; exact H2.out, K2.out⟩
  · have HW : Hid (p.hasWill = false) := Lib.hid (by simpa using hW)
    have E : Hid (PK.cflags o p = PK.nm o 1 (bits .or .i64 (bits .or .i64 (PK.fl p.clean 2) (PK.fl p.hasPass 64)) (PK.fl p.hasUser 128))) := Lib.hid (by
      unfold PK.cflags PK.cflagsN
      rw [cfl_or, HW.out]; simp)
    generalize PK.cflags o p = o2 at *
    clear h hp w0 k0 hb0 hW C2
    unfold pkCells at *
    go_enter Tryz.func80, Tryz.ntmps80
    go_wp2_with fail
    generalize w.alloc (.cells #[.int .i64 p.kind, .bool p.dup, .bool p.ret, .int .i64 p.qos, .int .i64 p.id, .string p.topic, .string p.pay, .int .u8 p.code, vc, vp, .string p.client, .bool p.clean, .int .i64 p.keep, .bool p.hasWill, .string p.wtopic, .string p.wpay, .int .i64 p.wqos, .bool p.wret, vw, .bool p.hasUser, .bool p.hasPass, .string p.user, .string p.pass, .bool p.session, vs, vf] 45) = V at *
    obtain ⟨_, _, _, _, _, _, _, _, _, _, _, q11, _, q13, _, _, q16, q17, _, q19, q20, _⟩ := pk_cells (p := p) (vc := vc) (vp := vp) (vw := vw) (vs := vs) (vf := vf) HB.out
    rw [HW.out] at q13
    go_region_held3 (fun w' => w'.cell? ⟨w.heap.size, 11, none⟩ = some (.bool p.clean) ∧ w'.cell? ⟨w.heap.size, 20, none⟩ = some (.bool p.hasPass) ∧ w'.cell? ⟨w.heap.size, 19, none⟩ = some (.bool p.hasUser))
      (first | exact ⟨q11, q20, q19⟩)
      (first
        | (go_at_call 46
           refine (CF.out _ _ _).mono ?_
           rintro e w' ⟨rfl, rfl⟩))
    all_goals
      go_wp2_with fail
      refine (C3.out o _ _ (bits_in _ _ _) (show WO b N o V.drew from HW0.out)).mono ?_
      rintro e w2 ⟨rfl, hw, hk⟩
      have H2 := Lib.hid hw
      have K2 : Hid (Kp b w w2) := HK0.out.trans (Kp.of_drew hk)
      clear hw hk
      go_wp2
      go_end0
      exact ⟨rfl, by rw [E.out]; exact H2.out, K2.out⟩
end Go.Proofs.YtemfcaaoobjgkaaGreatDoor
