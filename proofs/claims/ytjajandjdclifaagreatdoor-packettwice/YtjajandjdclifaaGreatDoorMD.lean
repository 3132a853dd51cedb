/- A filter with its options, put; and a Connect's flags.; The writer's connect. (Written by wip/tools/gen_conn.py.); The writer's lists.; The flags of a packet's first byte; its parts. -/
import Derived.Test.YtjajandjdclifaaGreatDoorMC
import Derived.Laws.Closers25b
import Derived.Deep.RegionHeld3
import Derived.Deep.DrawnRows
import Derived.IntWalk
import Derived.BigQuiet
namespace Go.Proofs.YtjajandjdclifaaGreatDoor
open Go.RowKit
attribute [local go_sem ↓] Go.wp_at_zero Go.wp_at_succ

theorem bits_in (op : BinOp) (a b : Int) : I64 (bits op .i64 a b) := by
  unfold bits I64
  have h1 : IntKind.i64.min = -9223372036854775808 := rfl
  have h2 : IntKind.i64.max = 9223372036854775807 := rfl
  rw [← h1, ← h2]
  exact wrap_within _ _
theorem Kp.of_drew {b : Nat} {w w' : World} (h : Kp b w.drew w') : Kp b w w' := ⟨below_of_drew h.1, h.2⟩
theorem isQ_cases {n : Int} (h : PK.isQ n = true) : n = 0 ∨ n = 1 ∨ n = 2 := by
  unfold PK.isQ at h
  simp only [Bool.and_eq_true, decide_eq_true_eq] at h
  omega
theorem sub_or {s : Sb} (hq : PK.isQ s.q = true) (hh : PK.isQ s.h = true) : bits .or .i64 (bits .or .i64 (bits .or .i64 s.q (PK.fl s.nl 4)) (PK.fl s.ap 8)) (IntKind.i64.wrap (s.h * 16)) = PK.subN s := by
  obtain ⟨sf, sq, snl, sap, sh⟩ := s
  simp only at hq hh
  unfold PK.subN
  simp only
  rcases isQ_cases hq with rfl | rfl | rfl <;> rcases isQ_cases hh with rfl | rfl | rfl <;> cases snl <;> cases sap <;> decide +kernel
set_option maxRecDepth 100000 in
set_option maxHeartbeats 4000000 in
theorem wsub_any (b N : Nat) (o : ByteArray × Int) (s : Sb) (w : World) (h : WO b N o w) (hN : N ≤ 990) (hs : SbFine s) (hT : ∀ W, Below b w W → Tabs W) :
    Calls Tryz.prog 82 #[.pointer (some ⟨b, 0, none⟩), .agg #[.string s.f, .int .i64 s.q, .bool s.nl, .bool s.ap, .int .i64 s.h]] w (WP b (N + 1 + 1) (PK.sub o s) w) := by
  have hal := (Below.refl w.heap.size w).alloc (Nat.le_refl _) (.cells #[.string s.f, .int .i64 s.q, .bool s.nl, .bool s.ap, .int .i64 s.h] 90)
  have k0 : Kp b w (w.alloc (.cells #[.string s.f, .int .i64 s.q, .bool s.nl, .bool s.ap, .int .i64 s.h] 90)) := Kp.of_below (Nat.le_of_lt h.lt) hal
  have hb0 : (w.alloc (.cells #[.string s.f, .int .i64 s.q, .bool s.nl, .bool s.ap, .int .i64 s.h] 90)).heap[w.heap.size]? = some (.cells #[.string s.f, .int .i64 s.q, .bool s.nl, .bool s.ap, .int .i64 s.h] 90 (0, 0)) := heap_alloc_new w _
  have hne : w.heap.size ≠ b := by have := h.lt; omega
  have C1 := Lib.hid (wtext_any b N o s.f _ (h.below hal) (by omega) hs.1 (hT _ k0.1))
  have C2 : Hid (∀ W, WO b (N + 1) (PK.tx o s.f) W → Calls Tryz.prog 73 #[.pointer (some ⟨b, 0, none⟩), .int .u8 129] W (WP b (N + 1) (PK.rf (PK.tx o s.f) 129) W)) := fun W hO => wrefuse_any b (N + 1) _ 129 W hO (by omega) (by decide)
  have C3 : Hid (∀ O n W, I64 n → WO b (N + 1) O W → Calls Tryz.prog 76 #[.pointer (some ⟨b, 0, none⟩), .int .i64 1, .int .i64 n] W (WP b (N + 1 + 1) (PK.nm O 1 n) W)) := fun O n W hn hO => wnumber_any b (N + 1) O 1 n W hO (by omega) hn
  have CF := Lib.hid flag_any
  have CQ := Lib.hid isqos_any
  have CH := Lib.hid ishand_any
  have HK0 := Lib.hid k0
  have HB := Lib.hid hb0
  have hq1 := hs.2.1.1; have hq2 := hs.2.1.2; have hh1 := hs.2.2.1; have hh2 := hs.2.2.2
  obtain ⟨sf, sq, snl, sap, sh⟩ := s
  simp only at *
  by_cases hq : PK.isQ sq = true
  · by_cases hh : PK.isQ sh = true
    · have E : Hid (PK.sub o ⟨sf, sq, snl, sap, sh⟩ = PK.nm (PK.tx o sf) 1 (bits .or .i64 (bits .or .i64 (bits .or .i64 sq (PK.fl snl 4)) (PK.fl sap 8)) (IntKind.i64.wrap (sh * 16)))) := Lib.hid (by unfold PK.sub; simp only; rw [hq, hh, sub_or (s := ⟨sf, sq, snl, sap, sh⟩) hq hh]; rfl)
      generalize PK.sub o ⟨sf, sq, snl, sap, sh⟩ = o2 at *
      generalize PK.tx o sf = o1 at *
      have Hq := Lib.hid hq
      have Hh := Lib.hid hh
      clear h hT k0 hb0 hal hs hq hh C2
      go_enter Tryz.func82, Tryz.ntmps82
      go_wp2_with fail
      refine C1.out.mono ?_
      rintro e w1 ⟨rfl, hw, hk⟩
      have K1 : Hid (Kp b w w1) := HK0.out.trans hk
      have H1 := Lib.hid hw
      have hb1 := hk.block HB.out hne (by decide)
      have HB1 := Lib.hid hb1
      have q0 : w1.cell? ⟨w.heap.size, 0, none⟩ = some (.string sf) := by rw [cell_heap hb1]; rfl
      have q1 : w1.cell? ⟨w.heap.size, 1, none⟩ = some (.int .i64 sq) := by rw [cell_heap hb1]; rfl
      have q2 : w1.cell? ⟨w.heap.size, 2, none⟩ = some (.bool snl) := by rw [cell_heap hb1]; rfl
      have q3 : w1.cell? ⟨w.heap.size, 3, none⟩ = some (.bool sap) := by rw [cell_heap hb1]; rfl
      have q4 : w1.cell? ⟨w.heap.size, 4, none⟩ = some (.int .i64 sh) := by rw [cell_heap hb1]; rfl
      clear C1 hw hk hb1
      go_wp2_with fail
      refine (CQ.out _ _).mono ?_
      rintro e w' ⟨rfl, rfl⟩
      rw [Hq.out]
      go_wp2_with fail
      refine (CH.out _ _).mono ?_
      rintro e w' ⟨rfl, rfl⟩
      rw [Hh.out]
      go_wp2_with fail
      go_region_held3 (fun w' => w'.cell? ⟨w.heap.size, 1, none⟩ = some (.int .i64 sq) ∧ w'.cell? ⟨w.heap.size, 2, none⟩ = some (.bool snl) ∧ w'.cell? ⟨w.heap.size, 3, none⟩ = some (.bool sap) ∧ w'.cell? ⟨w.heap.size, 4, none⟩ = some (.int .i64 sh))
        (first | exact ⟨q1, q2, q3, q4⟩ | exact ⟨r1, r2, r3, r4⟩)
        (first
          | (go_at_call 74
             refine (CF.out _ _ _).mono ?_
             rintro e w' ⟨rfl, rfl⟩)
          | (go_at_call 76
             refine (C3.out o1 _ _ (bits_in _ _ _) (show WO b (N + 1) o1 w1.drew from H1.out)).mono ?_
             rintro e w2 ⟨rfl, hw, hk⟩
             have hb2 := hk.block (show w1.drew.heap[w.heap.size]? = _ from HB1.out) hne (by decide)
             have r1 : w2.cell? ⟨w.heap.size, 1, none⟩ = some (.int .i64 sq) := by rw [cell_heap hb2]; rfl
             have r2 : w2.cell? ⟨w.heap.size, 2, none⟩ = some (.bool snl) := by rw [cell_heap hb2]; rfl
             have r3 : w2.cell? ⟨w.heap.size, 3, none⟩ = some (.bool sap) := by rw [cell_heap hb2]; rfl
             have r4 : w2.cell? ⟨w.heap.size, 4, none⟩ = some (.int .i64 sh) := by rw [cell_heap hb2]; rfl))
      all_goals
        have H2 := Lib.hid hw
        have K2 : Hid (Kp b w w2) := K1.out.trans (Kp.of_drew hk)
        clear hw hk
        go_wp2
        go_end0
        exact ⟨rfl, by rw [E.out]; exact H2.out, K2.out⟩
    · have E : Hid (∀ V, PK.nm (PK.rf (PK.tx o sf) 129) 1 V = PK.sub o ⟨sf, sq, snl, sap, sh⟩) := Lib.hid (fun V => by rw [PK.nm_rf _ (by decide)]; unfold PK.sub; simp only; rw [hq]; simp [hh])
      have Hq := Lib.hid hq
      have Hh : Hid (PK.isQ sh = false) := Lib.hid (by simpa using hh)
      clear hq hh
      generalize PK.sub o ⟨sf, sq, snl, sap, sh⟩ = o2 at *
      generalize PK.rf (PK.tx o sf) 129 = o3 at *
      generalize PK.tx o sf = o1 at *
      clear h hT k0 hb0 hal hs
      go_enter Tryz.func82, Tryz.ntmps82
      go_wp2_with fail
      refine C1.out.mono ?_
      rintro e w0 ⟨rfl, hw, hk⟩
      have K0 : Hid (Kp b w w0) := HK0.out.trans hk
      have D2 := Lib.hid (C2.out w0 hw)
      have hb1 := hk.block HB.out hne (by decide)
      have HB0 := Lib.hid hb1
      have p1 : w0.cell? ⟨w.heap.size, 1, none⟩ = some (.int .i64 sq) := by rw [cell_heap hb1]; rfl
      have p4 : w0.cell? ⟨w.heap.size, 4, none⟩ = some (.int .i64 sh) := by rw [cell_heap hb1]; rfl
      clear C1 C2 hw hk hb1
      go_wp2_with fail
      refine (CQ.out _ _).mono ?_
      rintro e w' ⟨rfl, rfl⟩
      rw [Hq.out]
      go_wp2_with fail
      refine (CH.out _ _).mono ?_
      rintro e w' ⟨rfl, rfl⟩
      rw [Hh.out]
      go_wp2_with fail
      refine D2.out.mono ?_
      rintro e w1 ⟨rfl, hw, hk⟩
      have K1 : Hid (Kp b w w1) := K0.out.trans hk
      have H1 := Lib.hid hw
      have hb1 := hk.block HB0.out hne (by decide)
      have HB1 := Lib.hid hb1
      have q1 : w1.cell? ⟨w.heap.size, 1, none⟩ = some (.int .i64 sq) := by rw [cell_heap hb1]; rfl
      have q2 : w1.cell? ⟨w.heap.size, 2, none⟩ = some (.bool snl) := by rw [cell_heap hb1]; rfl
      have q3 : w1.cell? ⟨w.heap.size, 3, none⟩ = some (.bool sap) := by rw [cell_heap hb1]; rfl
      have q4 : w1.cell? ⟨w.heap.size, 4, none⟩ = some (.int .i64 sh) := by rw [cell_heap hb1]; rfl
      clear D2 hw hk hb1 p1 p4
      go_wp2_with fail
      go_region_held3 (fun w' => w'.cell? ⟨w.heap.size, 1, none⟩ = some (.int .i64 sq) ∧ w'.cell? ⟨w.heap.size, 2, none⟩ = some (.bool snl) ∧ w'.cell? ⟨w.heap.size, 3, none⟩ = some (.bool sap) ∧ w'.cell? ⟨w.heap.size, 4, none⟩ = some (.int .i64 sh))
        (first | exact ⟨q1, q2, q3, q4⟩ | exact ⟨r1, r2, r3, r4⟩)
        (first
          | (go_at_call 74
             refine (CF.out _ _ _).mono ?_
             rintro e w' ⟨rfl, rfl⟩)
          | (go_at_call 76
             refine (C3.out o3 _ _ (bits_in _ _ _) (show WO b (N + 1) o3 w1.drew from H1.out)).mono ?_
             rintro e w2 ⟨rfl, hw, hk⟩
             have hb2 := hk.block (show w1.drew.heap[w.heap.size]? = _ from HB1.out) hne (by decide)
             have r1 : w2.cell? ⟨w.heap.size, 1, none⟩ = some (.int .i64 sq) := by rw [cell_heap hb2]; rfl
             have r2 : w2.cell? ⟨w.heap.size, 2, none⟩ = some (.bool snl) := by rw [cell_heap hb2]; rfl
             have r3 : w2.cell? ⟨w.heap.size, 3, none⟩ = some (.bool sap) := by rw [cell_heap hb2]; rfl
             have r4 : w2.cell? ⟨w.heap.size, 4, none⟩ = some (.int .i64 sh) := by rw [cell_heap hb2]; rfl))
      all_goals
        have H2 := Lib.hid hw
        have K2 : Hid (Kp b w w2) := K1.out.trans (Kp.of_drew hk)
        clear hw hk
        go_wp2
        go_end0
        exact ⟨rfl, by rw [← E.out]; exact H2.out, K2.out⟩
  · have E : Hid (∀ V, PK.nm (PK.rf (PK.tx o sf) 129) 1 V = PK.sub o ⟨sf, sq, snl, sap, sh⟩) := Lib.hid (fun V => by rw [PK.nm_rf _ (by decide)]; unfold PK.sub; simp only; simp [hq])
    have Hq : Hid (PK.isQ sq = false) := Lib.hid (by simpa using hq)
    clear hq
    generalize PK.sub o ⟨sf, sq, snl, sap, sh⟩ = o2 at *
    generalize PK.rf (PK.tx o sf) 129 = o3 at *
    generalize PK.tx o sf = o1 at *
    clear h hT k0 hb0 hal hs
    go_enter Tryz.func82, Tryz.ntmps82
    go_wp2_with fail
    refine C1.out.mono ?_
    rintro e w0 ⟨rfl, hw, hk⟩
    have K0 : Hid (Kp b w w0) := HK0.out.trans hk
    have D2 := Lib.hid (C2.out w0 hw)
    have hb1 := hk.block HB.out hne (by decide)
    have HB0 := Lib.hid hb1
    have p1 : w0.cell? ⟨w.heap.size, 1, none⟩ = some (.int .i64 sq) := by rw [cell_heap hb1]; rfl
    have p4 : w0.cell? ⟨w.heap.size, 4, none⟩ = some (.int .i64 sh) := by rw [cell_heap hb1]; rfl
    clear C1 C2 hw hk hb1
    go_wp2_with fail
    refine (CQ.out _ _).mono ?_
    rintro e w' ⟨rfl, rfl⟩
    rw [Hq.out]
    go_wp2_with fail
    refine D2.out.mono ?_
    rintro e w1 ⟨rfl, hw, hk⟩
    have K1 : Hid (Kp b w w1) := K0.out.trans hk
    have H1 := Lib.hid hw
    have hb1 := hk.block HB0.out hne (by decide)
    have HB1 := Lib.hid hb1
    have q1 : w1.cell? ⟨w.heap.size, 1, none⟩ = some (.int .i64 sq) := by rw [cell_heap hb1]; rfl
    have q2 : w1.cell? ⟨w.heap.size, 2, none⟩ = some (.bool snl) := by rw [cell_heap hb1]; rfl
    have q3 : w1.cell? ⟨w.heap.size, 3, none⟩ = some (.bool sap) := by rw [cell_heap hb1]; rfl
    have q4 : w1.cell? ⟨w.heap.size, 4, none⟩ = some (.int .i64 sh) := by rw [cell_heap hb1]; rfl
    clear D2 hw hk hb1 p1 p4
    go_wp2_with fail
    go_region_held3 (fun w' => w'.cell? ⟨w.heap.size, 1, none⟩ = some (.int .i64 sq) ∧ w'.cell? ⟨w.heap.size, 2, none⟩ = some (.bool snl) ∧ w'.cell? ⟨w.heap.size, 3, none⟩ = some (.bool sap) ∧ w'.cell? ⟨w.heap.size, 4, none⟩ = some (.int .i64 sh))
      (first | exact ⟨q1, q2, q3, q4⟩ | exact ⟨r1, r2, r3, r4⟩)
      (first
        | (go_at_call 74
           refine (CF.out _ _ _).mono ?_
           rintro e w' ⟨rfl, rfl⟩)
        | (go_at_call 76
           refine (C3.out o3 _ _ (bits_in _ _ _) (show WO b (N + 1) o3 w1.drew from H1.out)).mono ?_
           rintro e w2 ⟨rfl, hw, hk⟩
           have hb2 := hk.block (show w1.drew.heap[w.heap.size]? = _ from HB1.out) hne (by decide)
           have r1 : w2.cell? ⟨w.heap.size, 1, none⟩ = some (.int .i64 sq) := by rw [cell_heap hb2]; rfl
           have r2 : w2.cell? ⟨w.heap.size, 2, none⟩ = some (.bool snl) := by rw [cell_heap hb2]; rfl
           have r3 : w2.cell? ⟨w.heap.size, 3, none⟩ = some (.bool sap) := by rw [cell_heap hb2]; rfl
           have r4 : w2.cell? ⟨w.heap.size, 4, none⟩ = some (.int .i64 sh) := by rw [cell_heap hb2]; rfl))
    all_goals
      have H2 := Lib.hid hw
      have K2 : Hid (Kp b w w2) := K1.out.trans (Kp.of_drew hk)
      clear hw hk
      go_wp2
      go_end0
      exact ⟨rfl, by rw [← E.out]; exact H2.out, K2.out⟩

theorem cfl_or (a c d : Bool) : bits .or .i64 (bits .or .i64 (PK.fl a 2) (PK.fl c 64)) (PK.fl d 128) = PK.fl a 2 + PK.fl c 64 + PK.fl d 128 := by
  cases a <;> cases c <;> cases d <;> decide +kernel
theorem cfw_or (a c d : Bool) {q : Int} (hq : PK.isQ q = true) (r : Bool) : bits .or .i64 (bits .or .i64 (bits .or .i64 (PK.fl a 2) (PK.fl c 64)) (PK.fl d 128)) (bits .or .i64 (bits .or .i64 4 (wrap64 (q * 8))) (PK.fl r 32)) = PK.fl a 2 + PK.fl c 64 + PK.fl d 128 + (4 + 8 * q + PK.fl r 32) := by
  rcases isQ_cases hq with rfl | rfl | rfl <;> cases a <;> cases c <;> cases d <;> cases r <;> decide +kernel
theorem drew_block {w : World} {n : Nat} {o : Obj} (h : w.heap[n]? = some o) : w.drew.heap[n]? = some o := h

set_option maxRecDepth 100000 in
set_option maxHeartbeats 8000000 in
theorem wcflags_any (b N : Nat) (o : ByteArray × Int) (p : Pk) (vc vp vw vs vf : Value) (w : World) (h : WO b N o w) (hN : N ≤ 990) (hp : PkFine p) :
    Calls Tryz.prog 113 #[.pointer (some ⟨b, 0, none⟩), .agg (pkCells p vc vp vw vs vf)] w (WP b (N + 1) (PK.cflags o p) w) := by
  obtain ⟨w0, k0, hb0⟩ := boxed h p vc vp vw vs vf
  have hne : w.heap.size ≠ b := by have := h.lt; omega
  have C2 : Hid (∀ W, WO b N o W → Calls Tryz.prog 73 #[.pointer (some ⟨b, 0, none⟩), .int .u8 129] W (WP b N (PK.rf o 129) W)) := fun W hO => wrefuse_any b N _ 129 W hO (by omega) (by decide)
  have C3 : Hid (∀ O n W, I64 n → WO b N O W → Calls Tryz.prog 76 #[.pointer (some ⟨b, 0, none⟩), .int .i64 1, .int .i64 n] W (WP b (N + 1) (PK.nm O 1 n) W)) := fun O n W hn hO => wnumber_any b N O 1 n W hO (by omega) hn
  have CF := Lib.hid flag_any
  have CQ := Lib.hid isqos_any
  have HK0 := Lib.hid k0
  have HB := Lib.hid hb0
  have HW0 := Lib.hid w0
  have hw1 := hp.wqos.1; have hw2 := hp.wqos.2
  by_cases hW : p.hasWill = true
  · have HW := Lib.hid hW
    by_cases hq : PK.isQ p.wqos = true
    · have E : Hid (PK.cflags o p = PK.nm o 1 (bits .or .i64 (bits .or .i64 (bits .or .i64 (PK.fl p.clean 2) (PK.fl p.hasPass 64)) (PK.fl p.hasUser 128)) (bits .or .i64 (bits .or .i64 4 (wrap64 (p.wqos * 8))) (PK.fl p.wret 32)))) := Lib.hid (by
        unfold PK.cflags PK.cflagsN
        rw [cfw_or _ _ _ hq, hW, hq]; rfl)
      have Hq := Lib.hid hq
      generalize PK.cflags o p = o2 at *
      clear h hp w0 k0 hb0 hW hq C2
      unfold pkCells at *
      go_enter Tryz.func113, Tryz.ntmps113
      go_wp2_with fail
      generalize w.alloc (.cells #[.int .i64 p.kind, .bool p.dup, .bool p.ret, .int .i64 p.qos, .int .i64 p.id, .string p.topic, .string p.pay, .int .u8 p.code, vc, vp, .string p.client, .bool p.clean, .int .i64 p.keep, .bool p.hasWill, .string p.wtopic, .string p.wpay, .int .i64 p.wqos, .bool p.wret, vw, .bool p.hasUser, .bool p.hasPass, .string p.user, .string p.pass, .bool p.session, vs, vf] 31) = V at *
      obtain ⟨_, _, _, _, _, _, _, _, _, _, _, q11, _, q13, _, _, q16, q17, _, q19, q20, _⟩ := pk_cells (p := p) (vc := vc) (vp := vp) (vw := vw) (vs := vs) (vf := vf) HB.out
      rw [HW.out] at q13
      go_region_held3 (fun w' => w'.cell? ⟨w.heap.size, 11, none⟩ = some (.bool p.clean) ∧ w'.cell? ⟨w.heap.size, 20, none⟩ = some (.bool p.hasPass) ∧ w'.cell? ⟨w.heap.size, 19, none⟩ = some (.bool p.hasUser))
        (first | exact ⟨q11, q20, q19⟩)
        (first
          | (go_at_call 74
             refine (CF.out _ _ _).mono ?_
             rintro e w' ⟨rfl, rfl⟩))
      all_goals
        go_wp2_with fail
        refine (CQ.out _ _).mono ?_
        rintro e w' ⟨rfl, rfl⟩
        rw [Hq.out]
        go_wp2_with fail
        go_region_held3 (fun w' => w'.cell? ⟨w.heap.size, 16, none⟩ = some (.int .i64 p.wqos) ∧ w'.cell? ⟨w.heap.size, 17, none⟩ = some (.bool p.wret))
          (first | exact ⟨q16, q17⟩)
          (first
            | (go_at_call 74
               refine (CF.out _ _ _).mono ?_
               rintro e w' ⟨rfl, rfl⟩))
        go_wp2_with fail
        refine (C3.out o _ _ (bits_in _ _ _) (show WO b N o V.drew.drew from HW0.out)).mono ?_
        rintro e w2 ⟨rfl, hw, hk⟩
        have H2 := Lib.hid hw
        have K2 : Hid (Kp b w w2) := HK0.out.trans (Kp.of_drew (Kp.of_drew hk))
        clear hw hk
        go_wp2
        go_end0
        exact ⟨rfl, by rw [E.out]; exact H2.out, K2.out⟩
    · have E : Hid (∀ V, PK.nm (PK.rf o 129) 1 V = PK.cflags o p) := Lib.hid (fun V => by rw [PK.nm_rf _ (by decide)]; unfold PK.cflags; rw [hW]; simp [hq])
      have Hq : Hid (PK.isQ p.wqos = false) := Lib.hid (by simpa using hq)
      generalize PK.cflags o p = o2 at *
      generalize PK.rf o 129 = o3 at *
      clear h hp w0 k0 hb0 hW hq
      unfold pkCells at *
      go_enter Tryz.func113, Tryz.ntmps113
      go_wp2_with fail
      generalize w.alloc (.cells #[.int .i64 p.kind, .bool p.dup, .bool p.ret, .int .i64 p.qos, .int .i64 p.id, .string p.topic, .string p.pay, .int .u8 p.code, vc, vp, .string p.client, .bool p.clean, .int .i64 p.keep, .bool p.hasWill, .string p.wtopic, .string p.wpay, .int .i64 p.wqos, .bool p.wret, vw, .bool p.hasUser, .bool p.hasPass, .string p.user, .string p.pass, .bool p.session, vs, vf] 31) = V at *
      obtain ⟨_, _, _, _, _, _, _, _, _, _, _, q11, _, q13, _, _, q16, q17, _, q19, q20, _⟩ := pk_cells (p := p) (vc := vc) (vp := vp) (vw := vw) (vs := vs) (vf := vf) HB.out
      rw [HW.out] at q13
      go_region_held3 (fun w' => w'.cell? ⟨w.heap.size, 11, none⟩ = some (.bool p.clean) ∧ w'.cell? ⟨w.heap.size, 20, none⟩ = some (.bool p.hasPass) ∧ w'.cell? ⟨w.heap.size, 19, none⟩ = some (.bool p.hasUser))
        (first | exact ⟨q11, q20, q19⟩)
        (first
          | (go_at_call 74
             refine (CF.out _ _ _).mono ?_
             rintro e w' ⟨rfl, rfl⟩))
      all_goals
        go_wp2_with fail
        refine (CQ.out _ _).mono ?_
        rintro e w' ⟨rfl, rfl⟩
        rw [Hq.out]
        go_wp2_with fail
        refine (C2.out _ (show WO b N o V.drew from HW0.out)).mono ?_
        rintro e w1 ⟨rfl, hw, hk⟩
        have H1 := Lib.hid hw
        have K1 : Hid (Kp b w w1) := HK0.out.trans (Kp.of_drew hk)
        obtain ⟨_, _, _, _, _, _, _, _, _, _, _, _, _, _, _, _, r16, r17, _⟩ := pk_cells (p := p) (vc := vc) (vp := vp) (vw := vw) (vs := vs) (vf := vf) (hk.block (drew_block HB.out) hne (by decide))
        clear hw hk
        go_wp2_with fail
        go_region_held3 (fun w' => w'.cell? ⟨w.heap.size, 16, none⟩ = some (.int .i64 p.wqos) ∧ w'.cell? ⟨w.heap.size, 17, none⟩ = some (.bool p.wret))
          (first | exact ⟨r16, r17⟩)
          (first
            | (go_at_call 74
               refine (CF.out _ _ _).mono ?_
               rintro e w' ⟨rfl, rfl⟩))
        go_wp2_with fail
        refine (C3.out o3 _ _ (bits_in _ _ _) (show WO b N o3 w1.drew from H1.out)).mono ?_
        rintro e w2 ⟨rfl, hw, hk⟩
        have H2 := Lib.hid hw
        have K2 : Hid (Kp b w w2) := K1.out.trans (Kp.of_drew hk)
        clear hw hk
        go_wp2
        go_end0
        exact ⟨rfl, by rw [← E.out]; exact H2.out, K2.out⟩
  · have HW : Hid (p.hasWill = false) := Lib.hid (by simpa using hW)
    have E : Hid (PK.cflags o p = PK.nm o 1 (bits .or .i64 (bits .or .i64 (PK.fl p.clean 2) (PK.fl p.hasPass 64)) (PK.fl p.hasUser 128))) := Lib.hid (by
      unfold PK.cflags PK.cflagsN
      rw [cfl_or, HW.out]; simp)
    generalize PK.cflags o p = o2 at *
    clear h hp w0 k0 hb0 hW C2
    unfold pkCells at *
    go_enter Tryz.func113, Tryz.ntmps113
    go_wp2_with fail
    generalize w.alloc (.cells #[.int .i64 p.kind, .bool p.dup, .bool p.ret, .int .i64 p.qos, .int .i64 p.id, .string p.topic, .string p.pay, .int .u8 p.code, vc, vp, .string p.client, .bool p.clean, .int .i64 p.keep, .bool p.hasWill, .string p.wtopic, .string p.wpay, .int .i64 p.wqos, .bool p.wret, vw, .bool p.hasUser, .bool p.hasPass, .string p.user, .string p.pass, .bool p.session, vs, vf] 31) = V at *
    obtain ⟨_, _, _, _, _, _, _, _, _, _, _, q11, _, q13, _, _, q16, q17, _, q19, q20, _⟩ := pk_cells (p := p) (vc := vc) (vp := vp) (vw := vw) (vs := vs) (vf := vf) HB.out
    rw [HW.out] at q13
    go_region_held3 (fun w' => w'.cell? ⟨w.heap.size, 11, none⟩ = some (.bool p.clean) ∧ w'.cell? ⟨w.heap.size, 20, none⟩ = some (.bool p.hasPass) ∧ w'.cell? ⟨w.heap.size, 19, none⟩ = some (.bool p.hasUser))
      (first | exact ⟨q11, q20, q19⟩)
      (first
        | (go_at_call 74
           refine (CF.out _ _ _).mono ?_
           rintro e w' ⟨rfl, rfl⟩))
    all_goals
      go_wp2_with fail
      refine (C3.out o _ _ (bits_in _ _ _) (show WO b N o V.drew from HW0.out)).mono ?_
      rintro e w2 ⟨rfl, hw, hk⟩
      have H2 := Lib.hid hw
      have K2 : Hid (Kp b w w2) := HK0.out.trans (Kp.of_drew hk)
      clear hw hk
      go_wp2
      go_end0
      exact ⟨rfl, by rw [E.out]; exact H2.out, K2.out⟩
end Go.Proofs.YtjajandjdclifaaGreatDoor
namespace Go.Proofs.YtjajandjdclifaaGreatDoor
open Go.RowKit

set_option maxRecDepth 100000 in
set_option maxHeartbeats 8000000 in
theorem wconn_any (b N : Nat) (o : ByteArray × Int) (p : Pk) (vc vp vw vs vf : Value) (w : World) (h : WO b N o w) (hN : N ≤ 90) (hp : PkIn b w p vc vp vw vs vf) (hkind : p.kind = 1) :
    Calls Tryz.prog 75 #[.pointer (some ⟨b, 0, none⟩), .agg (pkCells p vc vp vw vs vf)] w (WP b 16777000 (PK.conn o p) w) := by
  obtain ⟨Ap, cp, rfl, hpr⟩ := hp.props
  obtain ⟨Aw, cw, rfl, hwr⟩ := hp.wprops
  obtain ⟨w0, k0, hb0⟩ := boxed h p vc (.slice Ap p.props.length cp) (.slice Aw p.wprops.length cw) vs vf
  have hne : w.heap.size ≠ b := by have := h.lt; omega
  have CT : Hid (∀ n O s W, n ≤ 990 → Short s → Kp b w W → WO b n O W → Calls Tryz.prog 84 #[.pointer (some ⟨b, 0, none⟩), .string s] W (WP b (n + 1) (PK.tx O s) W)) := fun n O s W hn hs hk hO => wtext_any b n O s W hO (by omega) hs (hp.tabs W hk.1)
  have CD : Hid (∀ n O s W, n ≤ 990 → Short s → WO b n O W → Calls Tryz.prog 114 #[.pointer (some ⟨b, 0, none⟩), .string s] W (WP b (n + 1) (PK.dt O s) W)) := fun n O s W hn hs hO => wdata_any b n O s W hO (by omega) hs
  have CN : Hid (∀ n O wd m W, n ≤ 990 → I64 m → WO b n O W → Calls Tryz.prog 76 #[.pointer (some ⟨b, 0, none⟩), .int .i64 wd, .int .i64 m] W (WP b (n + 1) (PK.nm O wd m) W)) := fun n O wd m W hn hm hO => wnumber_any b n O wd m W hO (by omega) hm
  have CF : Hid (∀ n O W, n ≤ 990 → WO b n O W → Calls Tryz.prog 113 #[.pointer (some ⟨b, 0, none⟩), .agg (pkCells p vc (.slice Ap p.props.length cp) (.slice Aw p.wprops.length cw) vs vf)] W (WP b (n + 1) (PK.cflags O p) W)) := fun n O W hn hO => wcflags_any b n O p _ _ _ _ _ W hO hn hp.fine
  have CP : Hid (∀ n O W, n ≤ 990 → Kp b w W → WO b n O W → Calls Tryz.prog 78 #[.pointer (some ⟨b, 0, none⟩), .int .i64 1, .slice Ap p.props.length cp] W (WP b (n + 1) (PK.pr O 1 p.props) W)) := fun n O W hn hk hO => wprops_any b n O 1 Ap cp p.props W hO (by omega) (fun W' hk' => hpr W' (hk.1.trans hk'.1)) (fun W' hk' => hp.tabs W' (hk.1.trans hk'.1))
  have CW : Hid (∀ n O W, n ≤ 990 → Kp b w W → WO b n O W → Calls Tryz.prog 78 #[.pointer (some ⟨b, 0, none⟩), .int .i64 0, .slice Aw p.wprops.length cw] W (WP b (n + 1) (PK.pr O 0 p.wprops) W)) := fun n O W hn hk hO => wprops_any b n O 0 Aw cw p.wprops W hO (by omega) (fun W' hk' => hwr W' (hk.1.trans hk'.1)) (fun W' hk' => hp.tabs W' (hk.1.trans hk'.1))
  have hs1 := hp.fine.client; have hs2 := hp.fine.wtopic; have hs3 := hp.fine.wpay; have hs4 := hp.fine.user; have hs5 := hp.fine.pass; have hkp := hp.fine.keep
  have hs0 : Short ⟨#[77, 81, 84, 84]⟩ := by unfold Short; decide
  have HS1 := Lib.hid hs1; have HS2 := Lib.hid hs2; have HS3 := Lib.hid hs3; have HS4 := Lib.hid hs4; have HS5 := Lib.hid hs5; have HKP := Lib.hid hkp; have HS0 := Lib.hid hs0
  have h15 : I64 5 := by unfold I64; decide
  have H15 := Lib.hid h15
  have K0 := Lib.hid k0
  have B0 := Lib.hid hb0
  have O0 := Lib.hid w0
  have HKI := Lib.hid hkind
  have E : Hid (PK.conn o p = PK.conn4 (PK.conn3 (PK.conn2 (PK.tx (PK.pr (PK.nm (PK.cflags (PK.nm (PK.tx o ⟨#[77, 81, 84, 84]⟩) 1 5) p) 2 p.keep) 1 p.props) p.client) p) p) p) := Lib.hid (by unfold PK.conn PK.conn1; rfl)
  generalize PK.conn o p = oe at *
  clear h hp hpr hwr w0 k0 hb0 hs0 hs1 hs2 hs3 hs4 hs5 hkp h15 hkind
  go_enter Tryz.func75, Tryz.ntmps75
  go_wp2_with fail
  refine (CT.out N o ⟨#[77, 81, 84, 84]⟩ _ (by omega) HS0.out K0.out O0.out).mono ?_
  rintro e w1 ⟨rfl, h1, x1⟩
  have K1 : Hid (Kp b w w1) := K0.out.trans x1
  have B1 := Lib.hid (boxed_kept (p := p) (vc := vc) (vp := .slice Ap p.props.length cp) (vw := .slice Aw p.wprops.length cw) (vs := vs) (vf := vf) x1 hne B0.out)
  have O1 := Lib.hid h1
  clear h1 x1
  go_wp2_with fail
  refine (CN.out (N + 1) _ 1 5 _ (by omega) H15.out O1.out).mono ?_
  rintro e w2 ⟨rfl, h2, x2⟩
  have K2 : Hid (Kp b w w2) := K1.out.trans x2
  have B2 := Lib.hid (boxed_kept (p := p) (vc := vc) (vp := .slice Ap p.props.length cp) (vw := .slice Aw p.wprops.length cw) (vs := vs) (vf := vf) x2 hne B1.out)
  have O2 := Lib.hid h2
  clear h2 x2
  go_wp2_with (refine wpl_load_pk (by rfl) (.tmp 3) (by rfl) w.heap.size (by rfl) B2.out ?_)
  refine (CF.out (N + 1 + 1) _ _ (by omega) O2.out).mono ?_
  rintro e w3 ⟨rfl, h3, x3⟩
  have K3 : Hid (Kp b w w3) := K2.out.trans x3
  have B3 := Lib.hid (boxed_kept (p := p) (vc := vc) (vp := .slice Ap p.props.length cp) (vw := .slice Aw p.wprops.length cw) (vs := vs) (vf := vf) x3 hne B2.out)
  have O3 := Lib.hid h3
  clear h3 x3
  obtain ⟨-, -, -, -, -, -, -, -, -, -, -, -, c12, -⟩ := pk_cells (p := p) (vc := vc) (vp := .slice Ap p.props.length cp) (vw := .slice Aw p.wprops.length cw) (vs := vs) (vf := vf) B3.out
  go_wp2_with fail
  refine (CN.out (N + 1 + 1 + 1) _ 2 p.keep _ (by omega) HKP.out O3.out).mono ?_
  rintro e w4 ⟨rfl, h4, x4⟩
  have K4 : Hid (Kp b w w4) := K3.out.trans x4
  have B4 := Lib.hid (boxed_kept (p := p) (vc := vc) (vp := .slice Ap p.props.length cp) (vw := .slice Aw p.wprops.length cw) (vs := vs) (vf := vf) x4 hne B3.out)
  have O4 := Lib.hid h4
  clear h4 x4 c12
  obtain ⟨c0, -, -, -, -, -, -, -, -, c9, -⟩ := pk_cells (p := p) (vc := vc) (vp := .slice Ap p.props.length cp) (vw := .slice Aw p.wprops.length cw) (vs := vs) (vf := vf) B4.out
  rw [HKI.out] at c0
  go_wp2_with fail
  refine (CP.out (N + 1 + 1 + 1 + 1) _ _ (by omega) K4.out O4.out).mono ?_
  rintro e w5 ⟨rfl, h5, x5⟩
  have K5 : Hid (Kp b w w5) := K4.out.trans x5
  have B5 := Lib.hid (boxed_kept (p := p) (vc := vc) (vp := .slice Ap p.props.length cp) (vw := .slice Aw p.wprops.length cw) (vs := vs) (vf := vf) x5 hne B4.out)
  have O5 := Lib.hid h5
  clear h5 x5 c0 c9
  obtain ⟨-, -, -, -, -, -, -, -, -, -, c10, -⟩ := pk_cells (p := p) (vc := vc) (vp := .slice Ap p.props.length cp) (vw := .slice Aw p.wprops.length cw) (vs := vs) (vf := vf) B5.out
  go_wp2_with fail
  refine (CT.out (N + 1 + 1 + 1 + 1 + 1) _ p.client _ (by omega) HS1.out K5.out O5.out).mono ?_
  rintro e w6 ⟨rfl, h6, x6⟩
  have K6 : Hid (Kp b w w6) := K5.out.trans x6
  have B6 := Lib.hid (boxed_kept (p := p) (vc := vc) (vp := .slice Ap p.props.length cp) (vw := .slice Aw p.wprops.length cw) (vs := vs) (vf := vf) x6 hne B5.out)
  have O6 := Lib.hid h6
  clear h6 x6 c10
  obtain ⟨-, -, -, -, -, -, -, -, -, -, -, -, -, c13, -⟩ := pk_cells (p := p) (vc := vc) (vp := .slice Ap p.props.length cp) (vw := .slice Aw p.wprops.length cw) (vs := vs) (vf := vf) B6.out
  generalize PK.tx (PK.pr (PK.nm (PK.cflags (PK.nm (PK.tx o ⟨#[77, 81, 84, 84]⟩) 1 5) p) 2 p.keep) 1 p.props) p.client = o6 at *
  clear CN CF CP
  cases hw : p.hasWill
  · as_aux_lemma =>
    rw [hw] at c13
    have E2 : Hid (PK.conn2 o6 p = o6) := Lib.hid (by unfold PK.conn2; rw [hw]; rfl)
    clear hw
    obtain ⟨-, -, -, -, -, -, -, -, -, -, -, -, -, -, -, -, -, -, -, c19, -⟩ := pk_cells (p := p) (vc := vc) (vp := .slice Ap p.props.length cp) (vw := .slice Aw p.wprops.length cw) (vs := vs) (vf := vf) B6.out
    cases hu : p.hasUser
    · as_aux_lemma =>
      rw [hu] at c19
      have E3 : Hid (∀ O, PK.conn3 O p = O) := Lib.hid (fun O => by unfold PK.conn3; rw [hu]; rfl)
      clear hu
      obtain ⟨-, -, -, -, -, -, -, -, -, -, -, -, -, -, -, -, -, -, -, -, c20, -⟩ := pk_cells (p := p) (vc := vc) (vp := .slice Ap p.props.length cp) (vw := .slice Aw p.wprops.length cw) (vs := vs) (vf := vf) B6.out
      cases hs : p.hasPass
      · as_aux_lemma =>
        rw [hs] at c20
        have E4 : Hid (∀ O, PK.conn4 O p = O) := Lib.hid (fun O => by unfold PK.conn4; rw [hs]; rfl)
        clear hs
        go_wp2
        go_end0
        exact ⟨rfl, by rw [E.out, E2.out, E3.out, E4.out]; exact O6.out.mono (by omega), K6.out⟩
      · as_aux_lemma =>
        rw [hs] at c20
        have E4 : Hid (∀ O, PK.conn4 O p = PK.dt O p.pass) := Lib.hid (fun O => by unfold PK.conn4; rw [hs]; rfl)
        clear hs
        obtain ⟨-, -, -, -, -, -, -, -, -, -, -, -, -, -, -, -, -, -, -, -, -, -, c22, -⟩ := pk_cells (p := p) (vc := vc) (vp := .slice Ap p.props.length cp) (vw := .slice Aw p.wprops.length cw) (vs := vs) (vf := vf) B6.out
        go_wp2_with fail
        refine (CD.out (N + 1 + 1 + 1 + 1 + 1 + 1) _ p.pass _ (by omega) HS5.out O6.out).mono ?_
        rintro e w7 ⟨rfl, h7, x7⟩
        have K7 : Hid (Kp b w w7) := K6.out.trans x7
        have B7 := Lib.hid (boxed_kept (p := p) (vc := vc) (vp := .slice Ap p.props.length cp) (vw := .slice Aw p.wprops.length cw) (vs := vs) (vf := vf) x7 hne B6.out)
        have O7 := Lib.hid h7
        clear h7 x7 c13 c19 c20 c22
        go_wp2
        go_end0
        exact ⟨rfl, by rw [E.out, E2.out, E3.out, E4.out]; exact O7.out.mono (by omega), K7.out⟩
    · as_aux_lemma =>
      rw [hu] at c19
      have E3 : Hid (∀ O, PK.conn3 O p = PK.tx O p.user) := Lib.hid (fun O => by unfold PK.conn3; rw [hu]; rfl)
      clear hu
      obtain ⟨-, -, -, -, -, -, -, -, -, -, -, -, -, -, -, -, -, -, -, -, -, c21, -⟩ := pk_cells (p := p) (vc := vc) (vp := .slice Ap p.props.length cp) (vw := .slice Aw p.wprops.length cw) (vs := vs) (vf := vf) B6.out
      go_wp2_with fail
      refine (CT.out (N + 1 + 1 + 1 + 1 + 1 + 1) _ p.user _ (by omega) HS4.out K6.out O6.out).mono ?_
      rintro e w7 ⟨rfl, h7, x7⟩
      have K7 : Hid (Kp b w w7) := K6.out.trans x7
      have B7 := Lib.hid (boxed_kept (p := p) (vc := vc) (vp := .slice Ap p.props.length cp) (vw := .slice Aw p.wprops.length cw) (vs := vs) (vf := vf) x7 hne B6.out)
      have O7 := Lib.hid h7
      clear h7 x7 c13 c19 c21
      obtain ⟨-, -, -, -, -, -, -, -, -, -, -, -, -, -, -, -, -, -, -, -, c20, -⟩ := pk_cells (p := p) (vc := vc) (vp := .slice Ap p.props.length cp) (vw := .slice Aw p.wprops.length cw) (vs := vs) (vf := vf) B7.out
      cases hs : p.hasPass
      · as_aux_lemma =>
        rw [hs] at c20
        have E4 : Hid (∀ O, PK.conn4 O p = O) := Lib.hid (fun O => by unfold PK.conn4; rw [hs]; rfl)
        clear hs
        go_wp2
        go_end0
        exact ⟨rfl, by rw [E.out, E2.out, E3.out, E4.out]; exact O7.out.mono (by omega), K7.out⟩
      · as_aux_lemma =>
        rw [hs] at c20
        have E4 : Hid (∀ O, PK.conn4 O p = PK.dt O p.pass) := Lib.hid (fun O => by unfold PK.conn4; rw [hs]; rfl)
        clear hs
        obtain ⟨-, -, -, -, -, -, -, -, -, -, -, -, -, -, -, -, -, -, -, -, -, -, c22, -⟩ := pk_cells (p := p) (vc := vc) (vp := .slice Ap p.props.length cp) (vw := .slice Aw p.wprops.length cw) (vs := vs) (vf := vf) B7.out
        go_wp2_with fail
        refine (CD.out (N + 1 + 1 + 1 + 1 + 1 + 1 + 1) _ p.pass _ (by omega) HS5.out O7.out).mono ?_
        rintro e w8 ⟨rfl, h8, x8⟩
        have K8 : Hid (Kp b w w8) := K7.out.trans x8
        have B8 := Lib.hid (boxed_kept (p := p) (vc := vc) (vp := .slice Ap p.props.length cp) (vw := .slice Aw p.wprops.length cw) (vs := vs) (vf := vf) x8 hne B7.out)
        have O8 := Lib.hid h8
        clear h8 x8 c20 c22
        go_wp2
        go_end0
        exact ⟨rfl, by rw [E.out, E2.out, E3.out, E4.out]; exact O8.out.mono (by omega), K8.out⟩
  · as_aux_lemma =>
    rw [hw] at c13
    have E2 : Hid (PK.conn2 o6 p = PK.dt (PK.tx (PK.pr o6 0 p.wprops) p.wtopic) p.wpay) := Lib.hid (by unfold PK.conn2; rw [hw]; rfl)
    clear hw
    obtain ⟨-, -, -, -, -, -, -, -, -, -, -, -, -, -, -, -, -, -, c18, -⟩ := pk_cells (p := p) (vc := vc) (vp := .slice Ap p.props.length cp) (vw := .slice Aw p.wprops.length cw) (vs := vs) (vf := vf) B6.out
    go_wp2_with fail
    refine (CW.out (N + 1 + 1 + 1 + 1 + 1 + 1) _ _ (by omega) K6.out O6.out).mono ?_
    rintro e w7 ⟨rfl, h7, x7⟩
    have K7 : Hid (Kp b w w7) := K6.out.trans x7
    have B7 := Lib.hid (boxed_kept (p := p) (vc := vc) (vp := .slice Ap p.props.length cp) (vw := .slice Aw p.wprops.length cw) (vs := vs) (vf := vf) x7 hne B6.out)
    have O7 := Lib.hid h7
    clear h7 x7 c13 c18
    obtain ⟨-, -, -, -, -, -, -, -, -, -, -, -, -, -, c14, -⟩ := pk_cells (p := p) (vc := vc) (vp := .slice Ap p.props.length cp) (vw := .slice Aw p.wprops.length cw) (vs := vs) (vf := vf) B7.out
    go_wp2_with fail
    refine (CT.out (N + 1 + 1 + 1 + 1 + 1 + 1 + 1) _ p.wtopic _ (by omega) HS2.out K7.out O7.out).mono ?_
    rintro e w8 ⟨rfl, h8, x8⟩
    have K8 : Hid (Kp b w w8) := K7.out.trans x8
    have B8 := Lib.hid (boxed_kept (p := p) (vc := vc) (vp := .slice Ap p.props.length cp) (vw := .slice Aw p.wprops.length cw) (vs := vs) (vf := vf) x8 hne B7.out)
    have O8 := Lib.hid h8
    clear h8 x8 c14
    obtain ⟨-, -, -, -, -, -, -, -, -, -, -, -, -, -, -, c15, -⟩ := pk_cells (p := p) (vc := vc) (vp := .slice Ap p.props.length cp) (vw := .slice Aw p.wprops.length cw) (vs := vs) (vf := vf) B8.out
    go_wp2_with fail
    refine (CD.out (N + 1 + 1 + 1 + 1 + 1 + 1 + 1 + 1) _ p.wpay _ (by omega) HS3.out O8.out).mono ?_
    rintro e w9 ⟨rfl, h9, x9⟩
    have K9 : Hid (Kp b w w9) := K8.out.trans x9
    have B9 := Lib.hid (boxed_kept (p := p) (vc := vc) (vp := .slice Ap p.props.length cp) (vw := .slice Aw p.wprops.length cw) (vs := vs) (vf := vf) x9 hne B8.out)
    have O9 := Lib.hid h9
    clear h9 x9 c15
    obtain ⟨-, -, -, -, -, -, -, -, -, -, -, -, -, -, -, -, -, -, -, c19, -⟩ := pk_cells (p := p) (vc := vc) (vp := .slice Ap p.props.length cp) (vw := .slice Aw p.wprops.length cw) (vs := vs) (vf := vf) B9.out
    cases hu : p.hasUser
    · as_aux_lemma =>
      rw [hu] at c19
      have E3 : Hid (∀ O, PK.conn3 O p = O) := Lib.hid (fun O => by unfold PK.conn3; rw [hu]; rfl)
      clear hu
      obtain ⟨-, -, -, -, -, -, -, -, -, -, -, -, -, -, -, -, -, -, -, -, c20, -⟩ := pk_cells (p := p) (vc := vc) (vp := .slice Ap p.props.length cp) (vw := .slice Aw p.wprops.length cw) (vs := vs) (vf := vf) B9.out
      cases hs : p.hasPass
      · as_aux_lemma =>
        rw [hs] at c20
        have E4 : Hid (∀ O, PK.conn4 O p = O) := Lib.hid (fun O => by unfold PK.conn4; rw [hs]; rfl)
        clear hs
        go_wp2
        go_end0
        exact ⟨rfl, by rw [E.out, E2.out, E3.out, E4.out]; exact O9.out.mono (by omega), K9.out⟩
      · as_aux_lemma =>
        rw [hs] at c20
        have E4 : Hid (∀ O, PK.conn4 O p = PK.dt O p.pass) := Lib.hid (fun O => by unfold PK.conn4; rw [hs]; rfl)
        clear hs
        obtain ⟨-, -, -, -, -, -, -, -, -, -, -, -, -, -, -, -, -, -, -, -, -, -, c22, -⟩ := pk_cells (p := p) (vc := vc) (vp := .slice Ap p.props.length cp) (vw := .slice Aw p.wprops.length cw) (vs := vs) (vf := vf) B9.out
        go_wp2_with fail
        refine (CD.out (N + 1 + 1 + 1 + 1 + 1 + 1 + 1 + 1 + 1) _ p.pass _ (by omega) HS5.out O9.out).mono ?_
        rintro e w10 ⟨rfl, h10, x10⟩
        have K10 : Hid (Kp b w w10) := K9.out.trans x10
        have B10 := Lib.hid (boxed_kept (p := p) (vc := vc) (vp := .slice Ap p.props.length cp) (vw := .slice Aw p.wprops.length cw) (vs := vs) (vf := vf) x10 hne B9.out)
        have O10 := Lib.hid h10
        clear h10 x10 c19 c20 c22
        go_wp2
        go_end0
        exact ⟨rfl, by rw [E.out, E2.out, E3.out, E4.out]; exact O10.out.mono (by omega), K10.out⟩
    · as_aux_lemma =>
      rw [hu] at c19
      have E3 : Hid (∀ O, PK.conn3 O p = PK.tx O p.user) := Lib.hid (fun O => by unfold PK.conn3; rw [hu]; rfl)
      clear hu
      obtain ⟨-, -, -, -, -, -, -, -, -, -, -, -, -, -, -, -, -, -, -, -, -, c21, -⟩ := pk_cells (p := p) (vc := vc) (vp := .slice Ap p.props.length cp) (vw := .slice Aw p.wprops.length cw) (vs := vs) (vf := vf) B9.out
      go_wp2_with fail
      refine (CT.out (N + 1 + 1 + 1 + 1 + 1 + 1 + 1 + 1 + 1) _ p.user _ (by omega) HS4.out K9.out O9.out).mono ?_
      rintro e w10 ⟨rfl, h10, x10⟩
      have K10 : Hid (Kp b w w10) := K9.out.trans x10
      have B10 := Lib.hid (boxed_kept (p := p) (vc := vc) (vp := .slice Ap p.props.length cp) (vw := .slice Aw p.wprops.length cw) (vs := vs) (vf := vf) x10 hne B9.out)
      have O10 := Lib.hid h10
      clear h10 x10 c19 c21
      obtain ⟨-, -, -, -, -, -, -, -, -, -, -, -, -, -, -, -, -, -, -, -, c20, -⟩ := pk_cells (p := p) (vc := vc) (vp := .slice Ap p.props.length cp) (vw := .slice Aw p.wprops.length cw) (vs := vs) (vf := vf) B10.out
      cases hs : p.hasPass
      · as_aux_lemma =>
        rw [hs] at c20
        have E4 : Hid (∀ O, PK.conn4 O p = O) := Lib.hid (fun O => by unfold PK.conn4; rw [hs]; rfl)
        clear hs
        go_wp2
        go_end0
        exact ⟨rfl, by rw [E.out, E2.out, E3.out, E4.out]; exact O10.out.mono (by omega), K10.out⟩
      · as_aux_lemma =>
        rw [hs] at c20
        have E4 : Hid (∀ O, PK.conn4 O p = PK.dt O p.pass) := Lib.hid (fun O => by unfold PK.conn4; rw [hs]; rfl)
        clear hs
        obtain ⟨-, -, -, -, -, -, -, -, -, -, -, -, -, -, -, -, -, -, -, -, -, -, c22, -⟩ := pk_cells (p := p) (vc := vc) (vp := .slice Ap p.props.length cp) (vw := .slice Aw p.wprops.length cw) (vs := vs) (vf := vf) B10.out
        go_wp2_with fail
        refine (CD.out (N + 1 + 1 + 1 + 1 + 1 + 1 + 1 + 1 + 1 + 1) _ p.pass _ (by omega) HS5.out O10.out).mono ?_
        rintro e w11 ⟨rfl, h11, x11⟩
        have K11 : Hid (Kp b w w11) := K10.out.trans x11
        have B11 := Lib.hid (boxed_kept (p := p) (vc := vc) (vp := .slice Ap p.props.length cp) (vw := .slice Aw p.wprops.length cw) (vs := vs) (vf := vf) x11 hne B10.out)
        have O11 := Lib.hid h11
        clear h11 x11 c20 c22
        go_wp2
        go_end0
        exact ⟨rfl, by rw [E.out, E2.out, E3.out, E4.out]; exact O11.out.mono (by omega), K11.out⟩
end Go.Proofs.YtjajandjdclifaaGreatDoor
namespace Go.Proofs.YtjajandjdclifaaGreatDoor
open Go.RowKit

theorem fold_snoc {α β : Type} (f : β → α → β) (o : β) (l : List α) (k : Nat) (x : α) (h : l[k]? = some x) : (l.take (k + 1)).foldl f o = f ((l.take k).foldl f o) x := by
  obtain ⟨hk, he⟩ := List.getElem?_eq_some_iff.1 h
  rw [List.take_succ_eq_append_getElem hk, he, List.foldl_append]
  rfl

set_option maxRecDepth 100000 in
set_option maxHeartbeats 4000000 in
theorem weachs_any (b N : Nat) (o : ByteArray × Int) (A : Option Addr) (cap : Nat) (l : List Sb) (w : World) (h : WO b N o w) (hN : N ≤ 500) (hr : ∀ W, Below b w W → Subs W A l) (hf : l.length ≤ 100 ∧ ∀ s ∈ l, SbFine s) (hT : ∀ W, Below b w W → Tabs W) :
    Calls Tryz.prog 81 #[.pointer (some ⟨b, 0, none⟩), .slice A l.length cap, .func (.func 82) #[.pointer (some ⟨b, 0, none⟩)] #[]] w (WP b (N + 200) (PK.eachO o l PK.sub) w) := by
  have hll := hf.1
  have C1 : Hid (∀ c, 0 ≤ c ∧ c ≤ 255 → Calls Tryz.prog 73 #[.pointer (some ⟨b, 0, none⟩), .int .u8 c] w (WP b N (PK.rf o c) w)) := fun c hc => wrefuse_any b N o c w h (by omega) hc
  have E : Hid (PK.eachO o l PK.sub = if l.length = 0 then PK.rf o 130 else if 64 < l.length then PK.rf o 149 else l.foldl PK.sub o) := rfl
  by_cases h0 : l.length = 0
  · have i0 : ((l.length : Int) == 0) = true := by rw [h0]; rfl
    have E1 : Hid (PK.eachO o l PK.sub = PK.rf o 130) := Lib.hid (by rw [E.out, if_pos h0])
    have D1 := Lib.hid (C1.out 130 (by decide))
    generalize PK.eachO o l PK.sub = oe at *
    clear h hr hf hT h0 C1 E
    go_enter Tryz.func81, Tryz.ntmps81
    go_wp2_with fail
    refine D1.out.mono ?_
    rintro e w1 ⟨rfl, hw, hk⟩
    have H1 := Lib.hid hw
    have K1 := Lib.hid hk
    clear hw hk D1
    go_wp2
    go_end0
    exact ⟨rfl, by rw [E1.out]; exact H1.out.mono (by omega), K1.out⟩
  · have i0 : ((l.length : Int) == 0) = false := by rw [beq_eq_false_iff_ne]; omega
    by_cases h64 : 64 < l.length
    · have i1 : (64 : Int) < (l.length : Int) := by omega
      have E1 : Hid (PK.eachO o l PK.sub = PK.rf o 149) := Lib.hid (by rw [E.out, if_neg h0, if_pos h64])
      have D1 := Lib.hid (C1.out 149 (by decide))
      generalize PK.eachO o l PK.sub = oe at *
      clear h hr hf hT h0 C1 E h64
      go_enter Tryz.func81, Tryz.ntmps81
      go_wp2_with fail
      refine D1.out.mono ?_
      rintro e w1 ⟨rfl, hw, hk⟩
      have H1 := Lib.hid hw
      have K1 := Lib.hid hk
      clear hw hk D1
      go_wp2
      go_end0
      exact ⟨rfl, by rw [E1.out]; exact H1.out.mono (by omega), K1.out⟩
    · have i1 : ¬ (64 : Int) < (l.length : Int) := by omega
      have hl64 : l.length ≤ 64 := by omega
      have E1 : Hid (PK.eachO o l PK.sub = l.foldl PK.sub o) := Lib.hid (by rw [E.out, if_neg h0, if_neg h64])
      have HR := Lib.hid hr
      have HF := Lib.hid hf.2
      have HT := Lib.hid hT
      have H0 := Lib.hid h
      generalize PK.eachO o l PK.sub = oe at *
      clear h hr hf hT h0 C1 E h64
      go_enter Tryz.func81, Tryz.ntmps81
      go_wp2_with fail
      go_loopw [10] (fun i wr => ∃ k : Nat, i = .int .i64 k ∧ k ≤ l.length ∧ Hid (WO b (N + 2 * k) ((l.take k).foldl PK.sub o) wr) ∧ Hid (Kp b w wr)) (fun i _ => l.length - (intOf i).toNat)
      case atStart => exact ⟨0, rfl, by omega, H0, Lib.hid (Kp.refl _ _)⟩
      case round =>
        obtain ⟨k, rfl, hk, hwo, hkp⟩ := hrel
        by_cases hlt : k < l.length
        · obtain ⟨x, hx⟩ : ∃ x, l[k]? = some x := ⟨l[k], List.getElem?_eq_getElem hlt⟩
          obtain ⟨g, oo, rfl, hg, q0, q1, q2, q3, q4⟩ := HR.out wr hkp.out.1 k x hx
          have hal := (Below.refl wr.heap.size wr).alloc (Nat.le_refl _) (.cells #[.string x.f, .int .i64 x.q, .bool x.nl, .bool x.ap, .int .i64 x.h] 90)
          have kal : Kp b wr (wr.alloc (.cells #[.string x.f, .int .i64 x.q, .bool x.nl, .bool x.ap, .int .i64 x.h] 90)) := Kp.of_below (Nat.le_of_lt hwo.out.lt) hal
          have C2 := Lib.hid (wsub_any b (N + 2 * k) ((l.take k).foldl PK.sub o) x _ (hwo.out.below hal) (by omega) (HF.out x (List.mem_of_getElem? hx)) (fun W hW => HT.out W (hkp.out.1.trans (kal.1.trans hW))))
          have E2 := Lib.hid (fold_snoc PK.sub o l k x hx)
          have KA := Lib.hid (hkp.out.trans kal)
          have j0 : (0 : Int) ≤ (k : Int) := by omega
          have j1 : (k : Int) < (l.length : Int) := by omega
          clear hal kal hx
          go_wp2_with fail
          refine C2.out.mono ?_
          rintro e w1 ⟨rfl, hw, hk⟩
          have H1 := Lib.hid hw
          have K1 : Hid (Kp b w w1) := KA.out.trans hk
          clear hw hk C2
          go_wp2
          go_roundw
          case rel => exact ⟨k + 1, by go_num, by omega, Lib.hid (by rw [E2.out]; exact H1.out.mono (by omega)), K1⟩
          case measure => simp [intOf]; omega
        · have hkl : k = l.length := by omega
          subst hkl
          rw [List.take_length] at hwo
          go_wp2
          go_end0
          exact ⟨rfl, by rw [E1.out]; exact hwo.out.mono (by omega), hkp.out⟩

set_option maxRecDepth 100000 in
set_option maxHeartbeats 4000000 in
theorem weacht_any (b N : Nat) (o : ByteArray × Int) (A : Option Addr) (cap : Nat) (l : List ByteArray) (w : World) (h : WO b N o w) (hN : N ≤ 500) (hr : ∀ W, Below b w W → Texts W A l) (hf : l.length ≤ 100 ∧ ∀ s ∈ l, Short s) (hT : ∀ W, Below b w W → Tabs W) :
    Calls Tryz.prog 83 #[.pointer (some ⟨b, 0, none⟩), .slice A l.length cap, .func (.func 84) #[.pointer (some ⟨b, 0, none⟩)] #[]] w (WP b (N + 200) (PK.eachO o l PK.tx) w) := by
  have hll := hf.1
  have C1 : Hid (∀ c, 0 ≤ c ∧ c ≤ 255 → Calls Tryz.prog 73 #[.pointer (some ⟨b, 0, none⟩), .int .u8 c] w (WP b N (PK.rf o c) w)) := fun c hc => wrefuse_any b N o c w h (by omega) hc
  have E : Hid (PK.eachO o l PK.tx = if l.length = 0 then PK.rf o 130 else if 64 < l.length then PK.rf o 149 else l.foldl PK.tx o) := rfl
  by_cases h0 : l.length = 0
  · have i0 : ((l.length : Int) == 0) = true := by rw [h0]; rfl
    have E1 : Hid (PK.eachO o l PK.tx = PK.rf o 130) := Lib.hid (by rw [E.out, if_pos h0])
    have D1 := Lib.hid (C1.out 130 (by decide))
    generalize PK.eachO o l PK.tx = oe at *
    clear h hr hf hT h0 C1 E
    go_enter Tryz.func83, Tryz.ntmps83
    go_wp2_with fail
    refine D1.out.mono ?_
    rintro e w1 ⟨rfl, hw, hk⟩
    have H1 := Lib.hid hw
    have K1 := Lib.hid hk
    clear hw hk D1
    go_wp2
    go_end0
    exact ⟨rfl, by rw [E1.out]; exact H1.out.mono (by omega), K1.out⟩
  · have i0 : ((l.length : Int) == 0) = false := by rw [beq_eq_false_iff_ne]; omega
    by_cases h64 : 64 < l.length
    · have i1 : (64 : Int) < (l.length : Int) := by omega
      have E1 : Hid (PK.eachO o l PK.tx = PK.rf o 149) := Lib.hid (by rw [E.out, if_neg h0, if_pos h64])
      have D1 := Lib.hid (C1.out 149 (by decide))
      generalize PK.eachO o l PK.tx = oe at *
      clear h hr hf hT h0 C1 E h64
      go_enter Tryz.func83, Tryz.ntmps83
      go_wp2_with fail
      refine D1.out.mono ?_
      rintro e w1 ⟨rfl, hw, hk⟩
      have H1 := Lib.hid hw
      have K1 := Lib.hid hk
      clear hw hk D1
      go_wp2
      go_end0
      exact ⟨rfl, by rw [E1.out]; exact H1.out.mono (by omega), K1.out⟩
    · have i1 : ¬ (64 : Int) < (l.length : Int) := by omega
      have hl64 : l.length ≤ 64 := by omega
      have E1 : Hid (PK.eachO o l PK.tx = l.foldl PK.tx o) := Lib.hid (by rw [E.out, if_neg h0, if_neg h64])
      have HR := Lib.hid hr
      have HF := Lib.hid hf.2
      have HT := Lib.hid hT
      have H0 := Lib.hid h
      generalize PK.eachO o l PK.tx = oe at *
      clear h hr hf hT h0 C1 E h64
      go_enter Tryz.func83, Tryz.ntmps83
      go_wp2_with fail
      go_loopw [10] (fun i wr => ∃ k : Nat, i = .int .i64 k ∧ k ≤ l.length ∧ Hid (WO b (N + 2 * k) ((l.take k).foldl PK.tx o) wr) ∧ Hid (Kp b w wr)) (fun i _ => l.length - (intOf i).toNat)
      case atStart => exact ⟨0, rfl, by omega, H0, Lib.hid (Kp.refl _ _)⟩
      case round =>
        obtain ⟨k, rfl, hk, hwo, hkp⟩ := hrel
        by_cases hlt : k < l.length
        · obtain ⟨x, hx⟩ : ∃ x, l[k]? = some x := ⟨l[k], List.getElem?_eq_getElem hlt⟩
          obtain ⟨g, oo, rfl, hg, q0⟩ := HR.out wr hkp.out.1 k x hx
          have C2 := Lib.hid (wtext_any b (N + 2 * k) ((l.take k).foldl PK.tx o) x wr hwo.out (by omega) (HF.out x (List.mem_of_getElem? hx)) (HT.out wr hkp.out.1))
          have E2 := Lib.hid (fold_snoc PK.tx o l k x hx)
          have KA := hkp
          have j0 : (0 : Int) ≤ (k : Int) := by omega
          have j1 : (k : Int) < (l.length : Int) := by omega
          clear hx
          go_wp2_with fail
          refine C2.out.mono ?_
          rintro e w1 ⟨rfl, hw, hk⟩
          have H1 := Lib.hid hw
          have K1 : Hid (Kp b w w1) := KA.out.trans hk
          clear hw hk C2
          go_wp2
          go_roundw
          case rel => exact ⟨k + 1, by go_num, by omega, Lib.hid (by rw [E2.out]; exact H1.out.mono (by omega)), K1⟩
          case measure => simp [intOf]; omega
        · have hkl : k = l.length := by omega
          subst hkl
          rw [List.take_length] at hwo
          go_wp2
          go_end0
          exact ⟨rfl, by rw [E1.out]; exact hwo.out.mono (by omega), hkp.out⟩

set_option maxRecDepth 100000 in
set_option maxHeartbeats 4000000 in
theorem weachc_any (b N : Nat) (o : ByteArray × Int) (A : Option Addr) (cap : Nat) (l : List Int) (w : World) (h : WO b N o w) (hN : N ≤ 500) (hr : ∀ W, Below b w W → Codes W A l) (hf : l.length ≤ 100 ∧ ∀ c ∈ l, 0 ≤ c ∧ c ≤ 255) :
    Calls Tryz.prog 85 #[.pointer (some ⟨b, 0, none⟩), .slice A l.length cap, .func (.func 77) #[.pointer (some ⟨b, 0, none⟩)] #[]] w (WP b (N + 200) (PK.eachO o l (fun o c => PK.nm o 1 c)) w) := by
  have hll := hf.1
  have C1 : Hid (∀ c, 0 ≤ c ∧ c ≤ 255 → Calls Tryz.prog 73 #[.pointer (some ⟨b, 0, none⟩), .int .u8 c] w (WP b N (PK.rf o c) w)) := fun c hc => wrefuse_any b N o c w h (by omega) hc
  have E : Hid (PK.eachO o l (fun o c => PK.nm o 1 c) = if l.length = 0 then PK.rf o 130 else if 64 < l.length then PK.rf o 149 else l.foldl (fun o c => PK.nm o 1 c) o) := rfl
  by_cases h0 : l.length = 0
  · have i0 : ((l.length : Int) == 0) = true := by rw [h0]; rfl
    have E1 : Hid (PK.eachO o l (fun o c => PK.nm o 1 c) = PK.rf o 130) := Lib.hid (by rw [E.out, if_pos h0])
    have D1 := Lib.hid (C1.out 130 (by decide))
    generalize PK.eachO o l (fun o c => PK.nm o 1 c) = oe at *
    clear h hr hf h0 C1 E
    go_enter Tryz.func85, Tryz.ntmps85
    go_wp2_with fail
    refine D1.out.mono ?_
    rintro e w1 ⟨rfl, hw, hk⟩
    have H1 := Lib.hid hw
    have K1 := Lib.hid hk
    clear hw hk D1
    go_wp2
    go_end0
    exact ⟨rfl, by rw [E1.out]; exact H1.out.mono (by omega), K1.out⟩
  · have i0 : ((l.length : Int) == 0) = false := by rw [beq_eq_false_iff_ne]; omega
    by_cases h64 : 64 < l.length
    · have i1 : (64 : Int) < (l.length : Int) := by omega
      have E1 : Hid (PK.eachO o l (fun o c => PK.nm o 1 c) = PK.rf o 149) := Lib.hid (by rw [E.out, if_neg h0, if_pos h64])
      have D1 := Lib.hid (C1.out 149 (by decide))
      generalize PK.eachO o l (fun o c => PK.nm o 1 c) = oe at *
      clear h hr hf h0 C1 E h64
      go_enter Tryz.func85, Tryz.ntmps85
      go_wp2_with fail
      refine D1.out.mono ?_
      rintro e w1 ⟨rfl, hw, hk⟩
      have H1 := Lib.hid hw
      have K1 := Lib.hid hk
      clear hw hk D1
      go_wp2
      go_end0
      exact ⟨rfl, by rw [E1.out]; exact H1.out.mono (by omega), K1.out⟩
    · have i1 : ¬ (64 : Int) < (l.length : Int) := by omega
      have hl64 : l.length ≤ 64 := by omega
      have E1 : Hid (PK.eachO o l (fun o c => PK.nm o 1 c) = l.foldl (fun o c => PK.nm o 1 c) o) := Lib.hid (by rw [E.out, if_neg h0, if_neg h64])
      have HR := Lib.hid hr
      have HF := Lib.hid hf.2
      have H0 := Lib.hid h
      generalize PK.eachO o l (fun o c => PK.nm o 1 c) = oe at *
      clear h hr hf h0 C1 E h64
      go_enter Tryz.func85, Tryz.ntmps85
      go_wp2_with fail
      go_loopw [10] (fun i wr => ∃ k : Nat, i = .int .i64 k ∧ k ≤ l.length ∧ Hid (WO b (N + 2 * k) ((l.take k).foldl (fun o c => PK.nm o 1 c) o) wr) ∧ Hid (Kp b w wr)) (fun i _ => l.length - (intOf i).toNat)
      case atStart => exact ⟨0, rfl, by omega, H0, Lib.hid (Kp.refl _ _)⟩
      case round =>
        obtain ⟨k, rfl, hk, hwo, hkp⟩ := hrel
        by_cases hlt : k < l.length
        · obtain ⟨x, hx⟩ : ∃ x, l[k]? = some x := ⟨l[k], List.getElem?_eq_getElem hlt⟩
          obtain ⟨g, oo, rfl, hg, q0⟩ := HR.out wr hkp.out.1 k x hx
          have C2 := Lib.hid (wreason_any b (N + 2 * k) ((l.take k).foldl (fun o c => PK.nm o 1 c) o) x wr hwo.out (by omega) (HF.out x (List.mem_of_getElem? hx)))
          have E2 := Lib.hid (fold_snoc (fun o c => PK.nm o 1 c) o l k x hx)
          have KA := hkp
          have j0 : (0 : Int) ≤ (k : Int) := by omega
          have j1 : (k : Int) < (l.length : Int) := by omega
          clear hx
          go_wp2_with fail
          refine C2.out.mono ?_
          rintro e w1 ⟨rfl, hw, hk⟩
          have H1 := Lib.hid hw
          have K1 : Hid (Kp b w w1) := KA.out.trans hk
          clear hw hk C2
          go_wp2
          go_roundw
          case rel => exact ⟨k + 1, by go_num, by omega, Lib.hid (by rw [E2.out]; exact H1.out.mono (by omega)), K1⟩
          case measure => simp [intOf]; omega
        · have hkl : k = l.length := by omega
          subst hkl
          rw [List.take_length] at hwo
          go_wp2
          go_end0
          exact ⟨rfl, by rw [E1.out]; exact hwo.out.mono (by omega), hkp.out⟩
end Go.Proofs.YtjajandjdclifaaGreatDoor
namespace Go.Proofs.YtjajandjdclifaaGreatDoor
open Go.RowKit
attribute [local go_sem ↓] Go.wp_at_zero Go.wp_at_succ

namespace PK
def fixN (k : Int) : Int := if k = 6 ∨ k = 8 ∨ k = 10 then 2 else 0
def isK (k : Int) : Bool := decide (1 ≤ k) && decide (k ≤ 15)
end PK
theorem fixed_flags (k : Int) (w : World) : Calls Tryz.prog 55 #[.int .i64 k] w fun e w' => e = .returned (.int .i64 (PK.fixN k)) ∧ w = w' := by
  unfold PK.fixN
  by_cases h6 : k = 6
  · subst h6
    go_enter Tryz.func55, Tryz.ntmps55
    go_wp2
    go_ret
    exact ⟨rfl, rfl⟩
  · by_cases h8 : k = 8
    · subst h8
      go_enter Tryz.func55, Tryz.ntmps55
      go_wp2
      go_ret
      exact ⟨rfl, rfl⟩
    · by_cases h10 : k = 10
      · subst h10
        go_enter Tryz.func55, Tryz.ntmps55
        go_wp2
        go_ret
        exact ⟨rfl, rfl⟩
      · rw [if_neg (by omega)]
        have e6 : (k == 6) = false := by rw [beq_eq_false_iff_ne]; exact h6
        have e8 : (k == 8) = false := by rw [beq_eq_false_iff_ne]; exact h8
        have e10 : (k == 10) = false := by rw [beq_eq_false_iff_ne]; exact h10
        clear h6 h8 h10
        go_enter Tryz.func55, Tryz.ntmps55
        go_wp2
        go_ret
        exact ⟨rfl, rfl⟩
theorem iskind_any (k : Int) (w : World) : Calls Tryz.prog 40 #[.int .i64 k] w fun e w' => e = .returned (.bool (PK.isK k)) ∧ w = w' := by
  have E : Hid (PK.isK k = (decide (1 ≤ k) && decide (k ≤ 15))) := rfl
  generalize PK.isK k = q at *
  by_cases h0 : 1 ≤ k
  · go_enter Tryz.func40, Tryz.ntmps40
    go_wp2
    go_ret
    exact ⟨by rw [E.out]; simp [h0], rfl⟩
  · go_enter Tryz.func40, Tryz.ntmps40
    go_wp2
    go_ret
    exact ⟨by rw [E.out]; simp; omega, rfl⟩
theorem canpub_any (p : Pk) (vc vp vw vs vf : Value) (w : World) : Calls Tryz.prog 56 #[.agg (pkCells p vc vp vw vs vf)] w fun e w' => e = .returned (.bool (PK.canPub p)) ∧ Below w.heap.size w w' := by
  have hb0 : (w.alloc (.cells (pkCells p vc vp vw vs vf) 31)).heap[w.heap.size]? = some (.cells (pkCells p vc vp vw vs vf) 31 (0, 0)) := heap_alloc_new w _
  have hal := Lib.hid ((Below.refl w.heap.size w).alloc (Nat.le_refl _) (.cells (pkCells p vc vp vw vs vf) 31))
  obtain ⟨-, q1, -, q3, -⟩ := pk_cells hb0
  have CQ := Lib.hid isqos_any
  have E : Hid (PK.canPub p = (PK.isQ p.qos && (decide (0 < p.qos) || !p.dup))) := rfl
  generalize PK.canPub p = r at *
  clear hb0
  cases hq : PK.isQ p.qos
  · go_enter Tryz.func56, Tryz.ntmps56
    go_wp2_with fail
    refine (CQ.out _ _).mono ?_
    rintro e w' ⟨rfl, rfl⟩
    rw [hq]
    go_wp2
    go_ret
    exact ⟨by rw [E.out, hq]; rfl, hal.out⟩
  · by_cases h0 : 0 < p.qos
    · have HQ := Lib.hid hq
      clear hq
      go_enter Tryz.func56, Tryz.ntmps56
      go_wp2_with fail
      refine (CQ.out _ _).mono ?_
      rintro e w' ⟨rfl, rfl⟩
      rw [HQ.out]
      go_wp2
      go_ret
      exact ⟨by rw [E.out, HQ.out]; simp [h0], hal.out⟩
    · have HQ := Lib.hid hq
      clear hq
      go_enter Tryz.func56, Tryz.ntmps56
      go_wp2_with fail
      refine (CQ.out _ _).mono ?_
      rintro e w' ⟨rfl, rfl⟩
      rw [HQ.out]
      go_wp2
      go_ret
      exact ⟨by rw [E.out, HQ.out]; simp, hal.out⟩
end Go.Proofs.YtjajandjdclifaaGreatDoor
