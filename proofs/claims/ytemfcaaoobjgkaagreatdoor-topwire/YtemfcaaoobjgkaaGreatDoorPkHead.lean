/- What stands ahead of a list; endings; publish. -/
import Derived.Test.YtemfcaaoobjgkaaGreatDoorPkRep
namespace Go.Proofs.YtemfcaaoobjgkaaGreatDoor
open Go.RowKit

set_option maxRecDepth 100000 in
set_option maxHeartbeats 2000000 in
theorem whead_any (b N : Nat) (o : ByteArray × Int) (p : Pk) (vc vp vw vs vf : Value) (w : World) (h : WO b N o w) (hN : N ≤ 990) (hp : PkIn b w p vc vp vw vs vf) :
    Calls Tryz.prog 52 #[.pointer (some ⟨b, 0, none⟩), .agg (pkCells p vc vp vw vs vf)] w (WP b (N + 1 + 1) (PK.head o p) w) := by
  obtain ⟨w0, k0, hb0⟩ := boxed h p vc vp vw vs vf
  obtain ⟨A, cap, rfl, hpr⟩ := hp.props
  have hne : w.heap.size ≠ b := by have := h.lt; omega
  have C1 := Lib.hid (wid_any b N o p.id _ w0 (by omega) hp.fine.id)
  have C2 : Hid (∀ W, Kp b w W → WO b (N + 1) (PK.idd o p.id) W → Calls Tryz.prog 50 #[.pointer (some ⟨b, 0, none⟩), .int .i64 p.kind, .slice A p.props.length cap] W (WP b (N + 1 + 1) (PK.head o p) W)) := fun W hW hO =>
    wprops_any b (N + 1) _ p.kind A cap p.props W hO (by omega) (fun W' hk => hpr W' (hW.1.trans hk.1)) (fun W' hk => hp.tabs W' (hW.1.trans hk.1))
  have K0 := Lib.hid k0
  have HB := Lib.hid hb0
  generalize PK.head o p = o2 at *
  generalize PK.idd o p.id = o1 at *
  clear h hp hpr w0 k0 hb0
  unfold pkCells at *
  go_enter Tryz.func52, Tryz.ntmps52
  go_wp2_with fail
  refine C1.out.mono ?_
  rintro e w1 ⟨rfl, hw, hk⟩
  have C3 := Lib.hid (C2.out w1 (K0.out.trans hk) hw)
  have K1 : Hid (Kp b w w1) := K0.out.trans hk
  obtain ⟨q0, _, _, _, _, _, _, _, _, q9, _⟩ := pk_cells (boxed_kept hk hne HB.out)
  clear C1 C2 hw hk
  go_wp2_with fail
  refine C3.out.mono ?_
  rintro e w2 ⟨rfl, hw, hk⟩
  have H1 := Lib.hid hw
  have K2 : Hid (Kp b w w2) := K1.out.trans hk
  clear hw hk C3
  go_wp2
  go_end0
  exact ⟨rfl, H1.out, K2.out⟩

set_option maxRecDepth 100000 in
set_option maxHeartbeats 2000000 in
theorem wending_any (b N : Nat) (o : ByteArray × Int) (p : Pk) (vc vp vw vs vf : Value) (w : World) (h : WO b N o w) (hN : N ≤ 990) (hp : PkIn b w p vc vp vw vs vf) :
    Calls Tryz.prog 59 #[.pointer (some ⟨b, 0, none⟩), .agg (pkCells p vc vp vw vs vf)] w (WP b (N + 1 + 1) (PK.ending o p) w) := by
  obtain ⟨w0, k0, hb0⟩ := boxed h p vc vp vw vs vf
  obtain ⟨A, cap, rfl, hpr⟩ := hp.props
  have hne : w.heap.size ≠ b := by have := h.lt; omega
  have C1 := Lib.hid (wreason_any b N o p.code _ w0 (by omega) hp.fine.code)
  have C2 : Hid (∀ W, Kp b w W → WO b (N + 1) (PK.nm o 1 p.code) W → Calls Tryz.prog 50 #[.pointer (some ⟨b, 0, none⟩), .int .i64 p.kind, .slice A p.props.length cap] W (WP b (N + 1 + 1) (PK.pr (PK.nm o 1 p.code) p.kind p.props) W)) := fun W hW hO =>
    wprops_any b (N + 1) _ p.kind A cap p.props W hO (by omega) (fun W' hk => hpr W' (hW.1.trans hk.1)) (fun W' hk => hp.tabs W' (hW.1.trans hk.1))
  have HK0 := Lib.hid k0
  have HB := Lib.hid hb0
  have HW0 := Lib.hid w0
  have hpl := (hpr w (Below.refl _ _)).2.1
  have E : Hid (PK.ending o p = if p.code = 0 ∧ p.props = [] then o else if p.props = [] then PK.nm o 1 p.code else PK.pr (PK.nm o 1 p.code) p.kind p.props) := rfl
  generalize PK.ending o p = o3 at *
  generalize PK.pr (PK.nm o 1 p.code) p.kind p.props = o2 at *
  generalize PK.nm o 1 p.code = o1 at *
  have hcode := hp.fine.code
  clear h hp hpr w0 k0 hb0
  by_cases hl : p.props = []
  · have hl0 : ((p.props.length : Int) == 0) = true := by rw [hl]; rfl
    have hl1 : ¬ (0 : Int) < (p.props.length : Int) := by rw [hl]; decide
    by_cases hc : p.code = 0
    · have hc0 : (p.code == 0) = true := by simp [hc]
      have E2 : Hid (o3 = o) := Lib.hid (by rw [E.out, if_pos ⟨hc, hl⟩])
      clear E hc hl C1 C2
      unfold pkCells at *
      go_enter Tryz.func59, Tryz.ntmps59
      go_wp2
      go_end0
      exact ⟨rfl, by rw [E2.out]; exact HW0.out.mono (by omega), HK0.out⟩
    · have hc0 : (p.code == 0) = false := by simp [hc]
      have E2 : Hid (o3 = o1) := Lib.hid (by rw [E.out, if_neg (fun h => hc h.1), if_pos hl])
      clear E hc hl C2
      unfold pkCells at *
      go_enter Tryz.func59, Tryz.ntmps59
      go_wp2_with fail
      refine C1.out.mono ?_
      rintro e w1 ⟨rfl, hw, hk⟩
      have H1 := Lib.hid hw
      have K1 : Hid (Kp b w w1) := HK0.out.trans hk
      obtain ⟨q0, _, _, _, _, _, _, _, _, q9, _⟩ := pk_cells (boxed_kept hk hne HB.out)
      clear C1 hw hk
      go_wp2
      go_end0
      exact ⟨rfl, by rw [E2.out]; exact H1.out.mono (by omega), K1.out⟩
  · have hlp : 0 < p.props.length := List.length_pos_iff.2 hl
    have hl0 : ((p.props.length : Int) == 0) = false := by rw [beq_eq_false_iff_ne]; omega
    have hl1 : (0 : Int) < (p.props.length : Int) := by omega
    have E2 : Hid (o3 = o2) := Lib.hid (by rw [E.out, if_neg (fun h => hl h.2), if_neg hl])
    clear E hl
    by_cases hc : p.code = 0
    · have hc0 : (p.code == 0) = true := by simp [hc]
      clear hc
      unfold pkCells at *
      go_enter Tryz.func59, Tryz.ntmps59
      go_wp2_with fail
      refine C1.out.mono ?_
      rintro e w1 ⟨rfl, hw, hk⟩
      have C3 := Lib.hid (C2.out w1 (HK0.out.trans hk) hw)
      have K1 : Hid (Kp b w w1) := HK0.out.trans hk
      obtain ⟨q0, _, _, _, _, _, _, _, _, q9, _⟩ := pk_cells (boxed_kept hk hne HB.out)
      clear C1 C2 hw hk
      go_wp2_with fail
      refine C3.out.mono ?_
      rintro e w2 ⟨rfl, hw, hk⟩
      have H1 := Lib.hid hw
      have K2 : Hid (Kp b w w2) := K1.out.trans hk
      clear hw hk C3
      go_wp2
      go_end0
      exact ⟨rfl, by rw [E2.out]; exact H1.out, K2.out⟩
    · have hc0 : (p.code == 0) = false := by simp [hc]
      clear hc
      unfold pkCells at *
      go_enter Tryz.func59, Tryz.ntmps59
      go_wp2_with fail
      refine C1.out.mono ?_
      rintro e w1 ⟨rfl, hw, hk⟩
      have C3 := Lib.hid (C2.out w1 (HK0.out.trans hk) hw)
      have K1 : Hid (Kp b w w1) := HK0.out.trans hk
      obtain ⟨q0, _, _, _, _, _, _, _, _, q9, _⟩ := pk_cells (boxed_kept hk hne HB.out)
      clear C1 C2 hw hk
      go_wp2_with fail
      refine C3.out.mono ?_
      rintro e w2 ⟨rfl, hw, hk⟩
      have H1 := Lib.hid hw
      have K2 : Hid (Kp b w w2) := K1.out.trans hk
      clear hw hk C3
      go_wp2
      go_end0
      exact ⟨rfl, by rw [E2.out]; exact H1.out, K2.out⟩

set_option maxRecDepth 100000 in
set_option maxHeartbeats 2000000 in
theorem wpublish_any (b N : Nat) (o : ByteArray × Int) (p : Pk) (vc vp vw vs vf : Value) (w : World) (h : WO b N o w) (hN : N ≤ 90) (hp : PkIn b w p vc vp vw vs vf) :
    Calls Tryz.prog 51 #[.pointer (some ⟨b, 0, none⟩), .agg (pkCells p vc vp vw vs vf)] w (WP b 16777000 (PK.pub o p) w) := by
  obtain ⟨w0, k0, hb0⟩ := boxed h p vc vp vw vs vf
  obtain ⟨A, cap, rfl, hpr⟩ := hp.props
  have hne : w.heap.size ≠ b := by have := h.lt; omega
  have C1 := Lib.hid (wtext_any b N o p.topic _ w0 (by omega) hp.fine.topic (hp.tabs _ k0.1))
  have C2 : Hid (∀ W, WO b (N + 1) (PK.tx o p.topic) W → Calls Tryz.prog 58 #[.pointer (some ⟨b, 0, none⟩), .int .i64 p.id] W (WP b (N + 1 + 1) (PK.idd (PK.tx o p.topic) p.id) W)) := fun W hO =>
    wid_any b (N + 1) _ p.id W hO (by omega) hp.fine.id
  have C3 : Hid (∀ O W, Kp b w W → WO b (N + 1 + 1) O W → Calls Tryz.prog 50 #[.pointer (some ⟨b, 0, none⟩), .int .i64 p.kind, .slice A p.props.length cap] W (WP b (N + 1 + 1 + 1) (PK.pr O p.kind p.props) W)) := fun O W hW hO =>
    wprops_any b (N + 1 + 1) _ p.kind A cap p.props W hO (by omega) (fun W' hk => hpr W' (hW.1.trans hk.1)) (fun W' hk => hp.tabs W' (hW.1.trans hk.1))
  have hpay : p.pay.size ≤ 140737488351232 := hp.fine.pay
  have C4 : Hid (∀ O W, WO b (N + 1 + 1 + 1) O W → Calls Tryz.prog 79 #[.pointer (some ⟨b, 0, none⟩), .string p.pay, .int .u8 0] W (WP b 16777000 (PK.ad O p.pay 0) W)) := fun O W hO =>
    (wadd_any b (N + 1 + 1 + 1) 16776500 O p.pay 0 W hO (by omega) (by omega) (by omega) (by decide) (by decide)).mono fun e w' h => WP.mono h (by omega)
  have HK0 := Lib.hid k0
  have HB := Lib.hid hb0
  have hq := hp.fine.qos
  by_cases hqos : 0 < p.qos
  · have E : Hid (PK.pub o p = PK.ad (PK.pr (PK.idd (PK.tx o p.topic) p.id) p.kind p.props) p.pay 0) := Lib.hid (by unfold PK.pub PK.pub1; rw [if_pos hqos])
    generalize PK.pub o p = o5 at *
    generalize PK.idd (PK.tx o p.topic) p.id = o2 at *
    generalize PK.tx o p.topic = o1 at *
    clear h hp hpr w0 k0 hb0
    unfold pkCells at *
    go_enter Tryz.func51, Tryz.ntmps51
    go_wp2_with fail
    refine C1.out.mono ?_
    rintro e w1 ⟨rfl, hw, hk⟩
    have D2 := Lib.hid (C2.out w1 hw)
    have K1 : Hid (Kp b w w1) := HK0.out.trans hk
    have hb1 := boxed_kept hk hne HB.out
    obtain ⟨_, _, _, q3, q4, _⟩ := pk_cells hb1
    have HB1 := Lib.hid hb1
    clear C1 C2 hw hk hb1
    go_wp2_with fail
    refine D2.out.mono ?_
    rintro e w2 ⟨rfl, hw, hk⟩
    have K2 : Hid (Kp b w w2) := K1.out.trans hk
    have D3 := Lib.hid (C3.out _ w2 K2.out hw)
    have hb2 := boxed_kept hk hne HB1.out
    obtain ⟨p0, _, _, _, _, _, _, _, _, p9, _⟩ := pk_cells hb2
    have HB2 := Lib.hid hb2
    clear D2 C3 hw hk hb2 q3 q4
    go_wp2_with fail
    refine D3.out.mono ?_
    rintro e w3 ⟨rfl, hw, hk⟩
    have K3 : Hid (Kp b w w3) := K2.out.trans hk
    have D4 := Lib.hid (C4.out _ w3 hw)
    obtain ⟨_, _, _, _, _, _, r6, _⟩ := pk_cells (boxed_kept hk hne HB2.out)
    clear D3 C4 hw hk p0 p9
    go_wp2_with fail
    refine D4.out.mono ?_
    rintro e w4 ⟨rfl, hw, hk⟩
    have H4 := Lib.hid hw
    have K4 : Hid (Kp b w w4) := K3.out.trans hk
    clear D4 hw hk
    go_wp2
    go_end0
    exact ⟨rfl, by rw [E.out]; exact H4.out, K4.out⟩
  · have E : Hid (PK.pub o p = PK.ad (PK.pr (PK.tx o p.topic) p.kind p.props) p.pay 0) := Lib.hid (by unfold PK.pub PK.pub1; rw [if_neg hqos])
    generalize PK.pub o p = o5 at *
    generalize PK.tx o p.topic = o1 at *
    clear h hp hpr w0 k0 hb0 C2
    unfold pkCells at *
    go_enter Tryz.func51, Tryz.ntmps51
    go_wp2_with fail
    refine C1.out.mono ?_
    rintro e w1 ⟨rfl, hw, hk⟩
    have K1 : Hid (Kp b w w1) := HK0.out.trans hk
    have D3 := Lib.hid (C3.out _ w1 K1.out (hw.mono (by omega)))
    have hb1 := boxed_kept hk hne HB.out
    obtain ⟨p0, _, _, q3, _, _, _, _, _, p9, _⟩ := pk_cells hb1
    have HB1 := Lib.hid hb1
    clear C1 hw hk hb1 C3
    go_wp2_with fail
    refine D3.out.mono ?_
    rintro e w3 ⟨rfl, hw, hk⟩
    have K3 : Hid (Kp b w w3) := K1.out.trans hk
    have D4 := Lib.hid (C4.out _ w3 hw)
    obtain ⟨_, _, _, _, _, _, r6, _⟩ := pk_cells (boxed_kept hk hne HB1.out)
    clear D3 C4 hw hk p0 p9 q3
    go_wp2_with fail
    refine D4.out.mono ?_
    rintro e w4 ⟨rfl, hw, hk⟩
    have H4 := Lib.hid hw
    have K4 : Hid (Kp b w w4) := K3.out.trans hk
    clear D4 hw hk
    go_wp2
    go_end0
    exact ⟨rfl, by rw [E.out]; exact H4.out, K4.out⟩
end Go.Proofs.YtemfcaaoobjgkaaGreatDoor
