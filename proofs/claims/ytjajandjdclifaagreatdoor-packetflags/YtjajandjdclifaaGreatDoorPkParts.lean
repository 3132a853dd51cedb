/- The flags of a packet's first byte, told by the writer; its parts. (Written by wip/tools/gen_parts.py.) -/
import Derived.Test.YtjajandjdclifaaGreatDoorPkFlags
namespace Go.Proofs.YtjajandjdclifaaGreatDoor
open Go.RowKit
attribute [local go_sem ↓] Go.wp_at_zero Go.wp_at_succ

/-- What the writer's flags answers. -/
def FlP (b : Nat) (p : Pk) (w : World) (e : Ending) (w' : World) : Prop :=
  ∃ v, e = .returned (.int .i64 v) ∧ ((PK.flagsO p).2 = 0 → v = PK.flagsN p) ∧ I64 v ∧ WO b 0 (PK.flagsO p) w' ∧ Kp b w w'
theorem Kp.to_drew {b : Nat} {w w' : World} (h : Kp b w w') : Kp b w w'.drew := ⟨h.1.drew, h.2.drew⟩
theorem pub_or (d r : Bool) {q : Int} (hq : PK.isQ q = true) : bits .or .i64 (bits .or .i64 (PK.fl d 8) (IntKind.i64.wrap (q * 2))) (PK.fl r 1) = PK.fl d 8 + 2 * q + PK.fl r 1 := by
  rcases isQ_cases hq with rfl | rfl | rfl <;> cases d <;> cases r <;> decide +kernel
theorem fixN_le (k : Int) : 0 ≤ PK.fixN k ∧ PK.fixN k ≤ 2 := by unfold PK.fixN; split <;> decide
theorem canpub_q {p : Pk} (h : PK.canPub p = true) : PK.isQ p.qos = true := by unfold PK.canPub at h; simp only [Bool.and_eq_true] at h; exact h.1

set_option maxRecDepth 100000 in
set_option maxHeartbeats 4000000 in
theorem wflags_any (b : Nat) (p : Pk) (vc vp vw vs vf : Value) (w : World) (h : WO b 0 (⟨#[]⟩, 0) w) (hp : PkFine p) :
    Calls Tryz.prog 41 #[.pointer (some ⟨b, 0, none⟩), .agg (pkCells p vc vp vw vs vf)] w (FlP b p w) := by
  obtain ⟨w0, k0, hb0⟩ := boxed h p vc vp vw vs vf
  have hne : w.heap.size ≠ b := by have := h.lt; omega
  have C2 : Hid (∀ W, WO b 0 (⟨#[]⟩, 0) W → Calls Tryz.prog 73 #[.pointer (some ⟨b, 0, none⟩), .int .u8 129] W (WP b 0 (PK.rf (⟨#[]⟩, 0) 129) W)) := fun W hO => wrefuse_any b 0 _ 129 W hO (by omega) (by decide)
  have CF := Lib.hid flag_any
  have CX := Lib.hid fixed_flags
  have CC : Hid (∀ W, Calls Tryz.prog 56 #[.agg (pkCells p vc vp vw vs vf)] W fun e w' => e = .returned (.bool (PK.canPub p)) ∧ Below W.heap.size W w') := fun W => canpub_any p _ _ _ _ _ W
  obtain ⟨q0, -⟩ := pk_cells hb0
  have K0 := Lib.hid k0
  have B0 := Lib.hid hb0
  have O0 := Lib.hid w0
  have hq1 := hp.qos.1; have hq2 := hp.qos.2
  by_cases h3 : p.kind = 3
  · have e3 : (p.kind != 3) = false := by simp [h3]
    by_cases hc : PK.canPub p = true
    · have E1 : Hid (PK.flagsO p = (⟨#[]⟩, 0)) := Lib.hid (by unfold PK.flagsO; rw [if_neg (by simp [hc])])
      have E2 : Hid (PK.flagsN p = bits .or .i64 (bits .or .i64 (PK.fl p.dup 8) (IntKind.i64.wrap (p.qos * 2))) (PK.fl p.ret 1)) := Lib.hid (by unfold PK.flagsN; rw [if_pos h3, pub_or _ _ (canpub_q hc)])
      have HC := Lib.hid hc
      clear h hp w0 k0 hb0 h3 hc C2
      go_enter Tryz.func41, Tryz.ntmps41
      go_wp2_with (refine wpl_load_pk (by rfl) (.tmp 3) (by rfl) w.heap.size (by rfl) B0.out ?_)
      refine (CC.out _).mono ?_
      rintro e w1 ⟨rfl, b1⟩
      have hb1 := (b1.block _ (lt_heap B0.out)).trans B0.out
      have K1 : Hid (Kp b w w1) := K0.out.trans (Kp.of_below (Nat.le_of_lt O0.out.lt) b1)
      have O1 := Lib.hid (O0.out.below b1)
      rw [HC.out]
      obtain ⟨-, r1, r2, r3, -⟩ := pk_cells hb1
      clear b1 hb1 CC
      go_wp2_with fail
      go_region_held3 (fun w' => w'.cell? ⟨w.heap.size, 1, none⟩ = some (.bool p.dup) ∧ w'.cell? ⟨w.heap.size, 2, none⟩ = some (.bool p.ret) ∧ w'.cell? ⟨w.heap.size, 3, none⟩ = some (.int .i64 p.qos))
        (first | exact ⟨r1, r2, r3⟩)
        (first
          | (go_at_call 74
             refine (CF.out _ _ _).mono ?_
             rintro e w' ⟨rfl, rfl⟩))
      all_goals
        go_wp2
        go_ret
        exact ⟨_, rfl, fun _ => E2.out.symm, bits_in _ _ _, by rw [E1.out]; exact O1.out, K1.out.to_drew⟩
    · have hcf : PK.canPub p = false := by simpa using hc
      have E1 : Hid (PK.flagsO p = PK.rf (⟨#[]⟩, 0) 129) := Lib.hid (by unfold PK.flagsO; rw [if_pos ⟨h3, hcf⟩]; rfl)
      have HC := Lib.hid hcf
      clear h hp w0 k0 hb0 h3 hc hcf
      go_enter Tryz.func41, Tryz.ntmps41
      go_wp2_with (refine wpl_load_pk (by rfl) (.tmp 3) (by rfl) w.heap.size (by rfl) B0.out ?_)
      refine (CC.out _).mono ?_
      rintro e w1 ⟨rfl, b1⟩
      have hb1 := (b1.block _ (lt_heap B0.out)).trans B0.out
      have K1 : Hid (Kp b w w1) := K0.out.trans (Kp.of_below (Nat.le_of_lt O0.out.lt) b1)
      have D2 := Lib.hid (C2.out w1 (O0.out.below b1))
      have B1 := Lib.hid hb1
      rw [HC.out]
      clear b1 hb1 CC C2
      go_wp2_with fail
      refine D2.out.mono ?_
      rintro e w2 ⟨rfl, hw, hk⟩
      have K2 : Hid (Kp b w w2) := K1.out.trans hk
      have O2 := Lib.hid hw
      obtain ⟨-, r1, r2, r3, -⟩ := pk_cells (boxed_kept hk hne B1.out)
      clear hw hk D2
      go_wp2_with fail
      go_region_held3 (fun w' => w'.cell? ⟨w.heap.size, 1, none⟩ = some (.bool p.dup) ∧ w'.cell? ⟨w.heap.size, 2, none⟩ = some (.bool p.ret) ∧ w'.cell? ⟨w.heap.size, 3, none⟩ = some (.int .i64 p.qos))
        (first | exact ⟨r1, r2, r3⟩)
        (first
          | (go_at_call 74
             refine (CF.out _ _ _).mono ?_
             rintro e w' ⟨rfl, rfl⟩))
      all_goals
        go_wp2
        go_ret
        exact ⟨_, rfl, fun h => absurd h (by rw [E1.out]; exact PK.rf_code _ (by decide)), bits_in _ _ _, by rw [E1.out]; exact O2.out, K2.out.to_drew⟩
  · have e3 : (p.kind != 3) = true := by simp [h3]
    have E1 : Hid (PK.flagsO p = (⟨#[]⟩, 0)) := Lib.hid (by unfold PK.flagsO; rw [if_neg (fun h => h3 h.1)])
    have E2 : Hid (PK.flagsN p = PK.fixN p.kind) := Lib.hid (by unfold PK.flagsN PK.fixN; rw [if_neg h3])
    have hx := fixN_le p.kind
    have HX : Hid (I64 (PK.fixN p.kind)) := Lib.hid (by unfold I64; omega)
    clear h hp w0 k0 hb0 h3 C2 CC
    go_enter Tryz.func41, Tryz.ntmps41
    go_wp2_with fail
    refine (CX.out _ _).mono ?_
    rintro e w' ⟨rfl, rfl⟩
    go_wp2
    go_ret
    exact ⟨_, rfl, fun _ => E2.out.symm, HX.out, by rw [E1.out]; exact O0.out, K0.out⟩

/-- Which number a kind is. -/
theorem kind_eq {k n m : Int} {r : Bool} (h : k = n) (hb : (n == m) = r) : (k == m) = r := by rw [h]; exact hb
set_option maxRecDepth 100000 in
set_option maxHeartbeats 4000000 in
theorem wparts_1 (b : Nat) (o : ByteArray × Int) (p : Pk) (vc vp vw vs vf : Value) (w : World) (h : WO b 0 o w) (hp : PkIn b w p vc vp vw vs vf) (hk : p.kind = 1) :
    Calls Tryz.prog 42 #[.pointer (some ⟨b, 0, none⟩), .agg (pkCells p vc vp vw vs vf)] w (WP b 16777000 (PK.conn o p) w) := by
  obtain ⟨w0, k0, hb0⟩ := boxed h p vc vp vw vs vf
  have hne : w.heap.size ≠ b := by have := h.lt; omega
  have hp0 : PkIn b (w.alloc (.cells (pkCells p vc vp vw vs vf) 31)) p vc vp vw vs vf := hp.below k0.1
  have C1 := Lib.hid (wconn_any b 0 o p _ _ _ _ _ _ w0 (by omega) hp0 hk)
  have e1 : (p.kind == 1) = true := kind_eq hk (by decide)
  have e2 : (p.kind == 2) = false := kind_eq hk (by decide)
  have e3 : (p.kind == 3) = false := kind_eq hk (by decide)
  have e8 : (p.kind == 8) = false := kind_eq hk (by decide)
  have e10 : (p.kind == 10) = false := kind_eq hk (by decide)
  have e9 : (p.kind == 9) = false := kind_eq hk (by decide)
  have e11 : (p.kind == 11) = false := kind_eq hk (by decide)
  have e4 : (p.kind == 4) = false := kind_eq hk (by decide)
  have e5 : (p.kind == 5) = false := kind_eq hk (by decide)
  have e6 : (p.kind == 6) = false := kind_eq hk (by decide)
  have e7 : (p.kind == 7) = false := kind_eq hk (by decide)
  have e14 : (p.kind == 14) = false := kind_eq hk (by decide)
  have e15 : (p.kind == 15) = false := kind_eq hk (by decide)
  have K0 := Lib.hid k0
  have B0 := Lib.hid hb0
  have O0 := Lib.hid w0
  obtain ⟨q0, -⟩ := pk_cells hb0
  generalize PK.conn o p = oe at *
  clear h hp hp0 w0 k0 hb0 hk
  go_enter Tryz.func42, Tryz.ntmps42
  go_wp2_with (refine wpl_load_pk (by rfl) (.tmp 3) (by rfl) w.heap.size (by rfl) B0.out ?_)
  refine (C1.out).mono ?_
  rintro e w1 ⟨rfl, hw, hk1⟩
  have K1 : Hid (Kp b w w1) := K0.out.trans hk1
  have O1 := Lib.hid hw
  have B1 := Lib.hid (boxed_kept hk1 hne B0.out)
  clear hw hk1
  go_wp2
  go_end0
  exact ⟨rfl, O1.out.mono (by omega), K1.out⟩
set_option maxRecDepth 100000 in
set_option maxHeartbeats 4000000 in
theorem wparts_3 (b : Nat) (o : ByteArray × Int) (p : Pk) (vc vp vw vs vf : Value) (w : World) (h : WO b 0 o w) (hp : PkIn b w p vc vp vw vs vf) (hk : p.kind = 3) :
    Calls Tryz.prog 42 #[.pointer (some ⟨b, 0, none⟩), .agg (pkCells p vc vp vw vs vf)] w (WP b 16777000 (PK.pub o p) w) := by
  obtain ⟨w0, k0, hb0⟩ := boxed h p vc vp vw vs vf
  have hne : w.heap.size ≠ b := by have := h.lt; omega
  have hp0 : PkIn b (w.alloc (.cells (pkCells p vc vp vw vs vf) 31)) p vc vp vw vs vf := hp.below k0.1
  have C1 := Lib.hid (wpublish_any b 0 o p _ _ _ _ _ _ w0 (by omega) hp0)
  have e1 : (p.kind == 1) = false := kind_eq hk (by decide)
  have e2 : (p.kind == 2) = false := kind_eq hk (by decide)
  have e3 : (p.kind == 3) = true := kind_eq hk (by decide)
  have e8 : (p.kind == 8) = false := kind_eq hk (by decide)
  have e10 : (p.kind == 10) = false := kind_eq hk (by decide)
  have e9 : (p.kind == 9) = false := kind_eq hk (by decide)
  have e11 : (p.kind == 11) = false := kind_eq hk (by decide)
  have e4 : (p.kind == 4) = false := kind_eq hk (by decide)
  have e5 : (p.kind == 5) = false := kind_eq hk (by decide)
  have e6 : (p.kind == 6) = false := kind_eq hk (by decide)
  have e7 : (p.kind == 7) = false := kind_eq hk (by decide)
  have e14 : (p.kind == 14) = false := kind_eq hk (by decide)
  have e15 : (p.kind == 15) = false := kind_eq hk (by decide)
  have K0 := Lib.hid k0
  have B0 := Lib.hid hb0
  have O0 := Lib.hid w0
  obtain ⟨q0, -⟩ := pk_cells hb0
  generalize PK.pub o p = oe at *
  clear h hp hp0 w0 k0 hb0 hk
  go_enter Tryz.func42, Tryz.ntmps42
  go_wp2_with (refine wpl_load_pk (by rfl) (.tmp 3) (by rfl) w.heap.size (by rfl) B0.out ?_)
  refine (C1.out).mono ?_
  rintro e w1 ⟨rfl, hw, hk1⟩
  have K1 : Hid (Kp b w w1) := K0.out.trans hk1
  have O1 := Lib.hid hw
  have B1 := Lib.hid (boxed_kept hk1 hne B0.out)
  clear hw hk1
  go_wp2
  go_end0
  exact ⟨rfl, O1.out.mono (by omega), K1.out⟩
set_option maxRecDepth 100000 in
set_option maxHeartbeats 4000000 in
theorem wparts_14 (b : Nat) (o : ByteArray × Int) (p : Pk) (vc vp vw vs vf : Value) (w : World) (h : WO b 0 o w) (hp : PkIn b w p vc vp vw vs vf) (hk : p.kind = 14) :
    Calls Tryz.prog 42 #[.pointer (some ⟨b, 0, none⟩), .agg (pkCells p vc vp vw vs vf)] w (WP b 16777000 (PK.ending o p) w) := by
  obtain ⟨w0, k0, hb0⟩ := boxed h p vc vp vw vs vf
  have hne : w.heap.size ≠ b := by have := h.lt; omega
  have hp0 : PkIn b (w.alloc (.cells (pkCells p vc vp vw vs vf) 31)) p vc vp vw vs vf := hp.below k0.1
  have C1 := Lib.hid (wending_any b 0 o p _ _ _ _ _ _ w0 (by omega) hp0)
  have e1 : (p.kind == 1) = false := kind_eq hk (by decide)
  have e2 : (p.kind == 2) = false := kind_eq hk (by decide)
  have e3 : (p.kind == 3) = false := kind_eq hk (by decide)
  have e8 : (p.kind == 8) = false := kind_eq hk (by decide)
  have e10 : (p.kind == 10) = false := kind_eq hk (by decide)
  have e9 : (p.kind == 9) = false := kind_eq hk (by decide)
  have e11 : (p.kind == 11) = false := kind_eq hk (by decide)
  have e4 : (p.kind == 4) = false := kind_eq hk (by decide)
  have e5 : (p.kind == 5) = false := kind_eq hk (by decide)
  have e6 : (p.kind == 6) = false := kind_eq hk (by decide)
  have e7 : (p.kind == 7) = false := kind_eq hk (by decide)
  have e14 : (p.kind == 14) = true := kind_eq hk (by decide)
  have e15 : (p.kind == 15) = false := kind_eq hk (by decide)
  have K0 := Lib.hid k0
  have B0 := Lib.hid hb0
  have O0 := Lib.hid w0
  obtain ⟨q0, -⟩ := pk_cells hb0
  generalize PK.ending o p = oe at *
  clear h hp hp0 w0 k0 hb0 hk
  go_enter Tryz.func42, Tryz.ntmps42
  go_wp2_with (refine wpl_load_pk (by rfl) (.tmp 3) (by rfl) w.heap.size (by rfl) B0.out ?_)
  refine (C1.out).mono ?_
  rintro e w1 ⟨rfl, hw, hk1⟩
  have K1 : Hid (Kp b w w1) := K0.out.trans hk1
  have O1 := Lib.hid hw
  have B1 := Lib.hid (boxed_kept hk1 hne B0.out)
  clear hw hk1
  go_wp2
  go_end0
  exact ⟨rfl, O1.out.mono (by omega), K1.out⟩
set_option maxRecDepth 100000 in
set_option maxHeartbeats 4000000 in
theorem wparts_15 (b : Nat) (o : ByteArray × Int) (p : Pk) (vc vp vw vs vf : Value) (w : World) (h : WO b 0 o w) (hp : PkIn b w p vc vp vw vs vf) (hk : p.kind = 15) :
    Calls Tryz.prog 42 #[.pointer (some ⟨b, 0, none⟩), .agg (pkCells p vc vp vw vs vf)] w (WP b 16777000 (PK.ending o p) w) := by
  obtain ⟨w0, k0, hb0⟩ := boxed h p vc vp vw vs vf
  have hne : w.heap.size ≠ b := by have := h.lt; omega
  have hp0 : PkIn b (w.alloc (.cells (pkCells p vc vp vw vs vf) 31)) p vc vp vw vs vf := hp.below k0.1
  have C1 := Lib.hid (wending_any b 0 o p _ _ _ _ _ _ w0 (by omega) hp0)
  have e1 : (p.kind == 1) = false := kind_eq hk (by decide)
  have e2 : (p.kind == 2) = false := kind_eq hk (by decide)
  have e3 : (p.kind == 3) = false := kind_eq hk (by decide)
  have e8 : (p.kind == 8) = false := kind_eq hk (by decide)
  have e10 : (p.kind == 10) = false := kind_eq hk (by decide)
  have e9 : (p.kind == 9) = false := kind_eq hk (by decide)
  have e11 : (p.kind == 11) = false := kind_eq hk (by decide)
  have e4 : (p.kind == 4) = false := kind_eq hk (by decide)
  have e5 : (p.kind == 5) = false := kind_eq hk (by decide)
  have e6 : (p.kind == 6) = false := kind_eq hk (by decide)
  have e7 : (p.kind == 7) = false := kind_eq hk (by decide)
  have e14 : (p.kind == 14) = false := kind_eq hk (by decide)
  have e15 : (p.kind == 15) = true := kind_eq hk (by decide)
  have K0 := Lib.hid k0
  have B0 := Lib.hid hb0
  have O0 := Lib.hid w0
  obtain ⟨q0, -⟩ := pk_cells hb0
  generalize PK.ending o p = oe at *
  clear h hp hp0 w0 k0 hb0 hk
  go_enter Tryz.func42, Tryz.ntmps42
  go_wp2_with (refine wpl_load_pk (by rfl) (.tmp 3) (by rfl) w.heap.size (by rfl) B0.out ?_)
  refine (C1.out).mono ?_
  rintro e w1 ⟨rfl, hw, hk1⟩
  have K1 : Hid (Kp b w w1) := K0.out.trans hk1
  have O1 := Lib.hid hw
  have B1 := Lib.hid (boxed_kept hk1 hne B0.out)
  clear hw hk1
  go_wp2
  go_end0
  exact ⟨rfl, O1.out.mono (by omega), K1.out⟩
set_option maxRecDepth 100000 in
set_option maxHeartbeats 4000000 in
theorem wparts_4 (b : Nat) (o : ByteArray × Int) (p : Pk) (vc vp vw vs vf : Value) (w : World) (h : WO b 0 o w) (hp : PkIn b w p vc vp vw vs vf) (hk : p.kind = 4) :
    Calls Tryz.prog 42 #[.pointer (some ⟨b, 0, none⟩), .agg (pkCells p vc vp vw vs vf)] w (WP b 16777000 (PK.ending (PK.idd o p.id) p) w) := by
  obtain ⟨w0, k0, hb0⟩ := boxed h p vc vp vw vs vf
  have hne : w.heap.size ≠ b := by have := h.lt; omega
  have hp0 : PkIn b (w.alloc (.cells (pkCells p vc vp vw vs vf) 31)) p vc vp vw vs vf := hp.below k0.1
  have C1 := Lib.hid (wid_any b 0 o p.id _ w0 (by omega) hp.fine.id)
  have C2 : Hid (∀ W, Kp b w W → WO b (0 + 1) (PK.idd o p.id) W → Calls Tryz.prog 87 #[.pointer (some ⟨b, 0, none⟩), .agg (pkCells p vc vp vw vs vf)] W (WP b (0 + 1 + 1 + 1) (PK.ending (PK.idd o p.id) p) W)) := fun W hW hO => wending_any b (0 + 1) _ p _ _ _ _ _ W hO (by omega) (hp.below hW.1)
  have e1 : (p.kind == 1) = false := kind_eq hk (by decide)
  have e2 : (p.kind == 2) = false := kind_eq hk (by decide)
  have e3 : (p.kind == 3) = false := kind_eq hk (by decide)
  have e8 : (p.kind == 8) = false := kind_eq hk (by decide)
  have e10 : (p.kind == 10) = false := kind_eq hk (by decide)
  have e9 : (p.kind == 9) = false := kind_eq hk (by decide)
  have e11 : (p.kind == 11) = false := kind_eq hk (by decide)
  have e4 : (p.kind == 4) = true := kind_eq hk (by decide)
  have e5 : (p.kind == 5) = false := kind_eq hk (by decide)
  have e6 : (p.kind == 6) = false := kind_eq hk (by decide)
  have e7 : (p.kind == 7) = false := kind_eq hk (by decide)
  have e14 : (p.kind == 14) = false := kind_eq hk (by decide)
  have e15 : (p.kind == 15) = false := kind_eq hk (by decide)
  have K0 := Lib.hid k0
  have B0 := Lib.hid hb0
  have O0 := Lib.hid w0
  obtain ⟨q0, -⟩ := pk_cells hb0
  generalize PK.ending (PK.idd o p.id) p = oe at *
  generalize PK.idd o p.id = o1 at *
  obtain ⟨-, -, -, -, q4, -⟩ := pk_cells hb0
  clear h hp hp0 w0 k0 hb0 hk
  go_enter Tryz.func42, Tryz.ntmps42
  go_wp2_with fail
  refine (C1.out).mono ?_
  rintro e w1 ⟨rfl, hw, hk1⟩
  have K1 : Hid (Kp b w w1) := K0.out.trans hk1
  have O1 := Lib.hid hw
  have B1 := Lib.hid (boxed_kept hk1 hne B0.out)
  clear hw hk1
  clear q0 q4
  go_wp2_with (refine wpl_load_pk (by rfl) (.tmp 3) (by rfl) w.heap.size (by rfl) B1.out ?_)
  refine (C2.out _ K1.out O1.out).mono ?_
  rintro e w2 ⟨rfl, hw, hk2⟩
  have K2 : Hid (Kp b w w2) := K1.out.trans hk2
  have O2 := Lib.hid hw
  have B2 := Lib.hid (boxed_kept hk2 hne B1.out)
  clear hw hk2
  go_wp2
  go_end0
  exact ⟨rfl, O2.out.mono (by omega), K2.out⟩
set_option maxRecDepth 100000 in
set_option maxHeartbeats 4000000 in
theorem wparts_5 (b : Nat) (o : ByteArray × Int) (p : Pk) (vc vp vw vs vf : Value) (w : World) (h : WO b 0 o w) (hp : PkIn b w p vc vp vw vs vf) (hk : p.kind = 5) :
    Calls Tryz.prog 42 #[.pointer (some ⟨b, 0, none⟩), .agg (pkCells p vc vp vw vs vf)] w (WP b 16777000 (PK.ending (PK.idd o p.id) p) w) := by
  obtain ⟨w0, k0, hb0⟩ := boxed h p vc vp vw vs vf
  have hne : w.heap.size ≠ b := by have := h.lt; omega
  have hp0 : PkIn b (w.alloc (.cells (pkCells p vc vp vw vs vf) 31)) p vc vp vw vs vf := hp.below k0.1
  have C1 := Lib.hid (wid_any b 0 o p.id _ w0 (by omega) hp.fine.id)
  have C2 : Hid (∀ W, Kp b w W → WO b (0 + 1) (PK.idd o p.id) W → Calls Tryz.prog 87 #[.pointer (some ⟨b, 0, none⟩), .agg (pkCells p vc vp vw vs vf)] W (WP b (0 + 1 + 1 + 1) (PK.ending (PK.idd o p.id) p) W)) := fun W hW hO => wending_any b (0 + 1) _ p _ _ _ _ _ W hO (by omega) (hp.below hW.1)
  have e1 : (p.kind == 1) = false := kind_eq hk (by decide)
  have e2 : (p.kind == 2) = false := kind_eq hk (by decide)
  have e3 : (p.kind == 3) = false := kind_eq hk (by decide)
  have e8 : (p.kind == 8) = false := kind_eq hk (by decide)
  have e10 : (p.kind == 10) = false := kind_eq hk (by decide)
  have e9 : (p.kind == 9) = false := kind_eq hk (by decide)
  have e11 : (p.kind == 11) = false := kind_eq hk (by decide)
  have e4 : (p.kind == 4) = false := kind_eq hk (by decide)
  have e5 : (p.kind == 5) = true := kind_eq hk (by decide)
  have e6 : (p.kind == 6) = false := kind_eq hk (by decide)
  have e7 : (p.kind == 7) = false := kind_eq hk (by decide)
  have e14 : (p.kind == 14) = false := kind_eq hk (by decide)
  have e15 : (p.kind == 15) = false := kind_eq hk (by decide)
  have K0 := Lib.hid k0
  have B0 := Lib.hid hb0
  have O0 := Lib.hid w0
  obtain ⟨q0, -⟩ := pk_cells hb0
  generalize PK.ending (PK.idd o p.id) p = oe at *
  generalize PK.idd o p.id = o1 at *
  obtain ⟨-, -, -, -, q4, -⟩ := pk_cells hb0
  clear h hp hp0 w0 k0 hb0 hk
  go_enter Tryz.func42, Tryz.ntmps42
  go_wp2_with fail
  refine (C1.out).mono ?_
  rintro e w1 ⟨rfl, hw, hk1⟩
  have K1 : Hid (Kp b w w1) := K0.out.trans hk1
  have O1 := Lib.hid hw
  have B1 := Lib.hid (boxed_kept hk1 hne B0.out)
  clear hw hk1
  clear q0 q4
  go_wp2_with (refine wpl_load_pk (by rfl) (.tmp 3) (by rfl) w.heap.size (by rfl) B1.out ?_)
  refine (C2.out _ K1.out O1.out).mono ?_
  rintro e w2 ⟨rfl, hw, hk2⟩
  have K2 : Hid (Kp b w w2) := K1.out.trans hk2
  have O2 := Lib.hid hw
  have B2 := Lib.hid (boxed_kept hk2 hne B1.out)
  clear hw hk2
  go_wp2
  go_end0
  exact ⟨rfl, O2.out.mono (by omega), K2.out⟩
set_option maxRecDepth 100000 in
set_option maxHeartbeats 4000000 in
theorem wparts_6 (b : Nat) (o : ByteArray × Int) (p : Pk) (vc vp vw vs vf : Value) (w : World) (h : WO b 0 o w) (hp : PkIn b w p vc vp vw vs vf) (hk : p.kind = 6) :
    Calls Tryz.prog 42 #[.pointer (some ⟨b, 0, none⟩), .agg (pkCells p vc vp vw vs vf)] w (WP b 16777000 (PK.ending (PK.idd o p.id) p) w) := by
  obtain ⟨w0, k0, hb0⟩ := boxed h p vc vp vw vs vf
  have hne : w.heap.size ≠ b := by have := h.lt; omega
  have hp0 : PkIn b (w.alloc (.cells (pkCells p vc vp vw vs vf) 31)) p vc vp vw vs vf := hp.below k0.1
  have C1 := Lib.hid (wid_any b 0 o p.id _ w0 (by omega) hp.fine.id)
  have C2 : Hid (∀ W, Kp b w W → WO b (0 + 1) (PK.idd o p.id) W → Calls Tryz.prog 87 #[.pointer (some ⟨b, 0, none⟩), .agg (pkCells p vc vp vw vs vf)] W (WP b (0 + 1 + 1 + 1) (PK.ending (PK.idd o p.id) p) W)) := fun W hW hO => wending_any b (0 + 1) _ p _ _ _ _ _ W hO (by omega) (hp.below hW.1)
  have e1 : (p.kind == 1) = false := kind_eq hk (by decide)
  have e2 : (p.kind == 2) = false := kind_eq hk (by decide)
  have e3 : (p.kind == 3) = false := kind_eq hk (by decide)
  have e8 : (p.kind == 8) = false := kind_eq hk (by decide)
  have e10 : (p.kind == 10) = false := kind_eq hk (by decide)
  have e9 : (p.kind == 9) = false := kind_eq hk (by decide)
  have e11 : (p.kind == 11) = false := kind_eq hk (by decide)
  have e4 : (p.kind == 4) = false := kind_eq hk (by decide)
  have e5 : (p.kind == 5) = false := kind_eq hk (by decide)
  have e6 : (p.kind == 6) = true := kind_eq hk (by decide)
  have e7 : (p.kind == 7) = false := kind_eq hk (by decide)
  have e14 : (p.kind == 14) = false := kind_eq hk (by decide)
  have e15 : (p.kind == 15) = false := kind_eq hk (by decide)
  have K0 := Lib.hid k0
  have B0 := Lib.hid hb0
  have O0 := Lib.hid w0
  obtain ⟨q0, -⟩ := pk_cells hb0
  generalize PK.ending (PK.idd o p.id) p = oe at *
  generalize PK.idd o p.id = o1 at *
  obtain ⟨-, -, -, -, q4, -⟩ := pk_cells hb0
  clear h hp hp0 w0 k0 hb0 hk
  go_enter Tryz.func42, Tryz.ntmps42
  go_wp2_with fail
  refine (C1.out).mono ?_
  rintro e w1 ⟨rfl, hw, hk1⟩
  have K1 : Hid (Kp b w w1) := K0.out.trans hk1
  have O1 := Lib.hid hw
  have B1 := Lib.hid (boxed_kept hk1 hne B0.out)
  clear hw hk1
  clear q0 q4
  go_wp2_with (refine wpl_load_pk (by rfl) (.tmp 3) (by rfl) w.heap.size (by rfl) B1.out ?_)
  refine (C2.out _ K1.out O1.out).mono ?_
  rintro e w2 ⟨rfl, hw, hk2⟩
  have K2 : Hid (Kp b w w2) := K1.out.trans hk2
  have O2 := Lib.hid hw
  have B2 := Lib.hid (boxed_kept hk2 hne B1.out)
  clear hw hk2
  go_wp2
  go_end0
  exact ⟨rfl, O2.out.mono (by omega), K2.out⟩
set_option maxRecDepth 100000 in
set_option maxHeartbeats 4000000 in
theorem wparts_7 (b : Nat) (o : ByteArray × Int) (p : Pk) (vc vp vw vs vf : Value) (w : World) (h : WO b 0 o w) (hp : PkIn b w p vc vp vw vs vf) (hk : p.kind = 7) :
    Calls Tryz.prog 42 #[.pointer (some ⟨b, 0, none⟩), .agg (pkCells p vc vp vw vs vf)] w (WP b 16777000 (PK.ending (PK.idd o p.id) p) w) := by
  obtain ⟨w0, k0, hb0⟩ := boxed h p vc vp vw vs vf
  have hne : w.heap.size ≠ b := by have := h.lt; omega
  have hp0 : PkIn b (w.alloc (.cells (pkCells p vc vp vw vs vf) 31)) p vc vp vw vs vf := hp.below k0.1
  have C1 := Lib.hid (wid_any b 0 o p.id _ w0 (by omega) hp.fine.id)
  have C2 : Hid (∀ W, Kp b w W → WO b (0 + 1) (PK.idd o p.id) W → Calls Tryz.prog 87 #[.pointer (some ⟨b, 0, none⟩), .agg (pkCells p vc vp vw vs vf)] W (WP b (0 + 1 + 1 + 1) (PK.ending (PK.idd o p.id) p) W)) := fun W hW hO => wending_any b (0 + 1) _ p _ _ _ _ _ W hO (by omega) (hp.below hW.1)
  have e1 : (p.kind == 1) = false := kind_eq hk (by decide)
  have e2 : (p.kind == 2) = false := kind_eq hk (by decide)
  have e3 : (p.kind == 3) = false := kind_eq hk (by decide)
  have e8 : (p.kind == 8) = false := kind_eq hk (by decide)
  have e10 : (p.kind == 10) = false := kind_eq hk (by decide)
  have e9 : (p.kind == 9) = false := kind_eq hk (by decide)
  have e11 : (p.kind == 11) = false := kind_eq hk (by decide)
  have e4 : (p.kind == 4) = false := kind_eq hk (by decide)
  have e5 : (p.kind == 5) = false := kind_eq hk (by decide)
  have e6 : (p.kind == 6) = false := kind_eq hk (by decide)
  have e7 : (p.kind == 7) = true := kind_eq hk (by decide)
  have e14 : (p.kind == 14) = false := kind_eq hk (by decide)
  have e15 : (p.kind == 15) = false := kind_eq hk (by decide)
  have K0 := Lib.hid k0
  have B0 := Lib.hid hb0
  have O0 := Lib.hid w0
  obtain ⟨q0, -⟩ := pk_cells hb0
  generalize PK.ending (PK.idd o p.id) p = oe at *
  generalize PK.idd o p.id = o1 at *
  obtain ⟨-, -, -, -, q4, -⟩ := pk_cells hb0
  clear h hp hp0 w0 k0 hb0 hk
  go_enter Tryz.func42, Tryz.ntmps42
  go_wp2_with fail
  refine (C1.out).mono ?_
  rintro e w1 ⟨rfl, hw, hk1⟩
  have K1 : Hid (Kp b w w1) := K0.out.trans hk1
  have O1 := Lib.hid hw
  have B1 := Lib.hid (boxed_kept hk1 hne B0.out)
  clear hw hk1
  clear q0 q4
  go_wp2_with (refine wpl_load_pk (by rfl) (.tmp 3) (by rfl) w.heap.size (by rfl) B1.out ?_)
  refine (C2.out _ K1.out O1.out).mono ?_
  rintro e w2 ⟨rfl, hw, hk2⟩
  have K2 : Hid (Kp b w w2) := K1.out.trans hk2
  have O2 := Lib.hid hw
  have B2 := Lib.hid (boxed_kept hk2 hne B1.out)
  clear hw hk2
  go_wp2
  go_end0
  exact ⟨rfl, O2.out.mono (by omega), K2.out⟩
set_option maxRecDepth 100000 in
set_option maxHeartbeats 4000000 in
theorem wparts_2 (b : Nat) (o : ByteArray × Int) (p : Pk) (vc vp vw vs vf : Value) (w : World) (h : WO b 0 o w) (hp : PkIn b w p vc vp vw vs vf) (hk : p.kind = 2) :
    Calls Tryz.prog 42 #[.pointer (some ⟨b, 0, none⟩), .agg (pkCells p vc vp vw vs vf)] w (WP b 16777000 (PK.pr (PK.nm (PK.nm o 1 (PK.fl p.session 1)) 1 p.code) p.kind p.props) w) := by
  obtain ⟨w0, k0, hb0⟩ := boxed h p vc vp vw vs vf
  have hne : w.heap.size ≠ b := by have := h.lt; omega
  have hp0 : PkIn b (w.alloc (.cells (pkCells p vc vp vw vs vf) 31)) p vc vp vw vs vf := hp.below k0.1
  obtain ⟨A, cap, rfl, hpr⟩ := hp.props
  have CF := Lib.hid flag_any
  have hfs : I64 (PK.fl p.session 1) := by unfold I64 PK.fl; split <;> decide
  have C1 := Lib.hid (wnumber_any b 0 o 1 (PK.fl p.session 1) _ w0 (by omega) hfs)
  have C2 : Hid (∀ W, WO b (0 + 1) (PK.nm o 1 (PK.fl p.session 1)) W → Calls Tryz.prog 77 #[.pointer (some ⟨b, 0, none⟩), .int .u8 p.code] W (WP b (0 + 1 + 1) (PK.nm (PK.nm o 1 (PK.fl p.session 1)) 1 p.code) W)) := fun W hO => wreason_any b (0 + 1) _ p.code W hO (by omega) hp.fine.code
  have C3 : Hid (∀ O W, Kp b w W → WO b (0 + 1 + 1) O W → Calls Tryz.prog 78 #[.pointer (some ⟨b, 0, none⟩), .int .i64 p.kind, .slice A p.props.length cap] W (WP b (0 + 1 + 1 + 1) (PK.pr O p.kind p.props) W)) := fun O W hW hO => wprops_any b (0 + 1 + 1) O p.kind A cap p.props W hO (by omega) (fun W' hk => hpr W' (hW.1.trans hk.1)) (fun W' hk => hp.tabs W' (hW.1.trans hk.1))
  have e1 : (p.kind == 1) = false := kind_eq hk (by decide)
  have e2 : (p.kind == 2) = true := kind_eq hk (by decide)
  have e3 : (p.kind == 3) = false := kind_eq hk (by decide)
  have e8 : (p.kind == 8) = false := kind_eq hk (by decide)
  have e10 : (p.kind == 10) = false := kind_eq hk (by decide)
  have e9 : (p.kind == 9) = false := kind_eq hk (by decide)
  have e11 : (p.kind == 11) = false := kind_eq hk (by decide)
  have e4 : (p.kind == 4) = false := kind_eq hk (by decide)
  have e5 : (p.kind == 5) = false := kind_eq hk (by decide)
  have e6 : (p.kind == 6) = false := kind_eq hk (by decide)
  have e7 : (p.kind == 7) = false := kind_eq hk (by decide)
  have e14 : (p.kind == 14) = false := kind_eq hk (by decide)
  have e15 : (p.kind == 15) = false := kind_eq hk (by decide)
  have K0 := Lib.hid k0
  have B0 := Lib.hid hb0
  have O0 := Lib.hid w0
  obtain ⟨q0, -⟩ := pk_cells hb0
  have CFS : Hid (∀ W, Calls Tryz.prog 74 #[.bool p.session, .int .i64 1] W fun e w' => e = .returned (.int .i64 (PK.fl p.session 1)) ∧ W = w') := fun W => flag_any p.session 1 W
  clear CF
  generalize PK.fl p.session 1 = fs at *
  generalize PK.nm (PK.nm o 1 fs) 1 p.code = o2 at *
  generalize PK.nm o 1 fs = o1 at *
  obtain ⟨-, -, -, -, -, -, -, -, -, -, -, -, -, -, -, -, -, -, -, -, -, -, -, q23, -⟩ := pk_cells hb0
  clear h hp hp0 w0 k0 hb0 hk hpr
  go_enter Tryz.func42, Tryz.ntmps42
  go_wp2_with fail
  refine (CFS.out _).mono ?_
  rintro e w' ⟨rfl, rfl⟩
  go_wp2_with fail
  refine (C1.out).mono ?_
  rintro e w1 ⟨rfl, hw, hk1⟩
  have K1 : Hid (Kp b w w1) := K0.out.trans hk1
  have O1 := Lib.hid hw
  have B1 := Lib.hid (boxed_kept hk1 hne B0.out)
  clear hw hk1
  clear q0 q23 C1
  obtain ⟨-, -, -, -, -, -, -, r7, -⟩ := pk_cells B1.out
  go_wp2_with fail
  refine (C2.out _ O1.out).mono ?_
  rintro e w2 ⟨rfl, hw, hk2⟩
  have K2 : Hid (Kp b w w2) := K1.out.trans hk2
  have O2 := Lib.hid hw
  have B2 := Lib.hid (boxed_kept hk2 hne B1.out)
  clear hw hk2
  clear r7 C2
  obtain ⟨s0, -, -, -, -, -, -, -, -, s9, -⟩ := pk_cells B2.out
  go_wp2_with fail
  refine (C3.out _ _ K2.out O2.out).mono ?_
  rintro e w3 ⟨rfl, hw, hk3⟩
  have K3 : Hid (Kp b w w3) := K2.out.trans hk3
  have O3 := Lib.hid hw
  have B3 := Lib.hid (boxed_kept hk3 hne B2.out)
  clear hw hk3
  go_wp2
  go_end0
  exact ⟨rfl, O3.out.mono (by omega), K3.out⟩
set_option maxRecDepth 100000 in
set_option maxHeartbeats 4000000 in
theorem wparts_8 (b : Nat) (o : ByteArray × Int) (p : Pk) (vc vp vw vs vf : Value) (w : World) (h : WO b 0 o w) (hp : PkIn b w p vc vp vw vs vf) (hk : p.kind = 8) :
    Calls Tryz.prog 42 #[.pointer (some ⟨b, 0, none⟩), .agg (pkCells p vc vp vw vs vf)] w (WP b 16777000 (PK.eachO (PK.head o p) p.subs PK.sub) w) := by
  obtain ⟨w0, k0, hb0⟩ := boxed h p vc vp vw vs vf
  have hne : w.heap.size ≠ b := by have := h.lt; omega
  have hp0 : PkIn b (w.alloc (.cells (pkCells p vc vp vw vs vf) 31)) p vc vp vw vs vf := hp.below k0.1
  obtain ⟨A, cap, rfl , hrr⟩ := hp.subs
  have hmf : ∀ (fn : Fn) (first cap : Array Value) (w : World), (Instr.makeFunc fn first cap).run Tryz.prog w = .ok (.func fn first cap) w := fun _ _ _ _ => rfl
  have C1 := Lib.hid (whead_any b 0 o p _ _ _ _ _ _ w0 (by omega) hp0)
  have C2 : Hid (∀ W, Kp b w W → WO b (0 + 1 + 1) (PK.head o p) W → Calls Tryz.prog 81 #[.pointer (some ⟨b, 0, none⟩), .slice A p.subs.length cap, .func (.func 82) #[.pointer (some ⟨b, 0, none⟩)] #[]] W (WP b (0 + 1 + 1 + 200) (PK.eachO (PK.head o p) p.subs PK.sub) W)) := fun W hW hO => weachs_any b (0 + 1 + 1) _ A cap p.subs W hO (by omega) (fun W' h' => hrr W' (hW.1.trans h')) hp.fine.subs (fun W' h' => hp.tabs W' (hW.1.trans h'))
  have e1 : (p.kind == 1) = false := kind_eq hk (by decide)
  have e2 : (p.kind == 2) = false := kind_eq hk (by decide)
  have e3 : (p.kind == 3) = false := kind_eq hk (by decide)
  have e8 : (p.kind == 8) = true := kind_eq hk (by decide)
  have e10 : (p.kind == 10) = false := kind_eq hk (by decide)
  have e9 : (p.kind == 9) = false := kind_eq hk (by decide)
  have e11 : (p.kind == 11) = false := kind_eq hk (by decide)
  have e4 : (p.kind == 4) = false := kind_eq hk (by decide)
  have e5 : (p.kind == 5) = false := kind_eq hk (by decide)
  have e6 : (p.kind == 6) = false := kind_eq hk (by decide)
  have e7 : (p.kind == 7) = false := kind_eq hk (by decide)
  have e14 : (p.kind == 14) = false := kind_eq hk (by decide)
  have e15 : (p.kind == 15) = false := kind_eq hk (by decide)
  have K0 := Lib.hid k0
  have B0 := Lib.hid hb0
  have O0 := Lib.hid w0
  obtain ⟨q0, -⟩ := pk_cells hb0
  generalize PK.eachO (PK.head o p) p.subs PK.sub = oe at *
  generalize PK.head o p = o1 at *
  clear h hp hp0 w0 k0 hb0 hk hrr
  go_enter Tryz.func42, Tryz.ntmps42
  go_wp2_with (refine wpl_load_pk (by rfl) (.tmp 3) (by rfl) w.heap.size (by rfl) B0.out ?_)
  refine (C1.out).mono ?_
  rintro e w1 ⟨rfl, hw, hk1⟩
  have K1 : Hid (Kp b w w1) := K0.out.trans hk1
  have O1 := Lib.hid hw
  have B1 := Lib.hid (boxed_kept hk1 hne B0.out)
  clear hw hk1
  clear q0 C1
  obtain ⟨-, -, -, -, -, -, -, -, -, -, -, -, -, -, -, -, -, -, -, -, -, -, -, -, r24, -⟩ := pk_cells B1.out
  go_wp2_with fail
  refine (C2.out _ K1.out O1.out).mono ?_
  rintro e w2 ⟨rfl, hw, hk2⟩
  have K2 : Hid (Kp b w w2) := K1.out.trans hk2
  have O2 := Lib.hid hw
  have B2 := Lib.hid (boxed_kept hk2 hne B1.out)
  clear hw hk2
  go_wp2
  go_end0
  exact ⟨rfl, O2.out.mono (by omega), K2.out⟩
set_option maxRecDepth 100000 in
set_option maxHeartbeats 4000000 in
theorem wparts_10 (b : Nat) (o : ByteArray × Int) (p : Pk) (vc vp vw vs vf : Value) (w : World) (h : WO b 0 o w) (hp : PkIn b w p vc vp vw vs vf) (hk : p.kind = 10) :
    Calls Tryz.prog 42 #[.pointer (some ⟨b, 0, none⟩), .agg (pkCells p vc vp vw vs vf)] w (WP b 16777000 (PK.eachO (PK.head o p) p.filters PK.tx) w) := by
  obtain ⟨w0, k0, hb0⟩ := boxed h p vc vp vw vs vf
  have hne : w.heap.size ≠ b := by have := h.lt; omega
  have hp0 : PkIn b (w.alloc (.cells (pkCells p vc vp vw vs vf) 31)) p vc vp vw vs vf := hp.below k0.1
  obtain ⟨A, cap, rfl , hrr⟩ := hp.filters
  have hmf : ∀ (fn : Fn) (first cap : Array Value) (w : World), (Instr.makeFunc fn first cap).run Tryz.prog w = .ok (.func fn first cap) w := fun _ _ _ _ => rfl
  have C1 := Lib.hid (whead_any b 0 o p _ _ _ _ _ _ w0 (by omega) hp0)
  have C2 : Hid (∀ W, Kp b w W → WO b (0 + 1 + 1) (PK.head o p) W → Calls Tryz.prog 83 #[.pointer (some ⟨b, 0, none⟩), .slice A p.filters.length cap, .func (.func 84) #[.pointer (some ⟨b, 0, none⟩)] #[]] W (WP b (0 + 1 + 1 + 200) (PK.eachO (PK.head o p) p.filters PK.tx) W)) := fun W hW hO => weacht_any b (0 + 1 + 1) _ A cap p.filters W hO (by omega) (fun W' h' => hrr W' (hW.1.trans h')) hp.fine.filters (fun W' h' => hp.tabs W' (hW.1.trans h'))
  have e1 : (p.kind == 1) = false := kind_eq hk (by decide)
  have e2 : (p.kind == 2) = false := kind_eq hk (by decide)
  have e3 : (p.kind == 3) = false := kind_eq hk (by decide)
  have e8 : (p.kind == 8) = false := kind_eq hk (by decide)
  have e10 : (p.kind == 10) = true := kind_eq hk (by decide)
  have e9 : (p.kind == 9) = false := kind_eq hk (by decide)
  have e11 : (p.kind == 11) = false := kind_eq hk (by decide)
  have e4 : (p.kind == 4) = false := kind_eq hk (by decide)
  have e5 : (p.kind == 5) = false := kind_eq hk (by decide)
  have e6 : (p.kind == 6) = false := kind_eq hk (by decide)
  have e7 : (p.kind == 7) = false := kind_eq hk (by decide)
  have e14 : (p.kind == 14) = false := kind_eq hk (by decide)
  have e15 : (p.kind == 15) = false := kind_eq hk (by decide)
  have K0 := Lib.hid k0
  have B0 := Lib.hid hb0
  have O0 := Lib.hid w0
  obtain ⟨q0, -⟩ := pk_cells hb0
  generalize PK.eachO (PK.head o p) p.filters PK.tx = oe at *
  generalize PK.head o p = o1 at *
  clear h hp hp0 w0 k0 hb0 hk hrr
  go_enter Tryz.func42, Tryz.ntmps42
  go_wp2_with (refine wpl_load_pk (by rfl) (.tmp 3) (by rfl) w.heap.size (by rfl) B0.out ?_)
  refine (C1.out).mono ?_
  rintro e w1 ⟨rfl, hw, hk1⟩
  have K1 : Hid (Kp b w w1) := K0.out.trans hk1
  have O1 := Lib.hid hw
  have B1 := Lib.hid (boxed_kept hk1 hne B0.out)
  clear hw hk1
  clear q0 C1
  obtain ⟨-, -, -, -, -, -, -, -, -, -, -, -, -, -, -, -, -, -, -, -, -, -, -, -, -, r25⟩ := pk_cells B1.out
  go_wp2_with fail
  refine (C2.out _ K1.out O1.out).mono ?_
  rintro e w2 ⟨rfl, hw, hk2⟩
  have K2 : Hid (Kp b w w2) := K1.out.trans hk2
  have O2 := Lib.hid hw
  have B2 := Lib.hid (boxed_kept hk2 hne B1.out)
  clear hw hk2
  go_wp2
  go_end0
  exact ⟨rfl, O2.out.mono (by omega), K2.out⟩
set_option maxRecDepth 100000 in
set_option maxHeartbeats 4000000 in
theorem wparts_9 (b : Nat) (o : ByteArray × Int) (p : Pk) (vc vp vw vs vf : Value) (w : World) (h : WO b 0 o w) (hp : PkIn b w p vc vp vw vs vf) (hk : p.kind = 9) :
    Calls Tryz.prog 42 #[.pointer (some ⟨b, 0, none⟩), .agg (pkCells p vc vp vw vs vf)] w (WP b 16777000 (PK.eachO (PK.head o p) p.codes (fun o c => PK.nm o 1 c)) w) := by
  obtain ⟨w0, k0, hb0⟩ := boxed h p vc vp vw vs vf
  have hne : w.heap.size ≠ b := by have := h.lt; omega
  have hp0 : PkIn b (w.alloc (.cells (pkCells p vc vp vw vs vf) 31)) p vc vp vw vs vf := hp.below k0.1
  obtain ⟨A, cap, rfl , hrr⟩ := hp.codes
  have hmf : ∀ (fn : Fn) (first cap : Array Value) (w : World), (Instr.makeFunc fn first cap).run Tryz.prog w = .ok (.func fn first cap) w := fun _ _ _ _ => rfl
  have C1 := Lib.hid (whead_any b 0 o p _ _ _ _ _ _ w0 (by omega) hp0)
  have C2 : Hid (∀ W, Kp b w W → WO b (0 + 1 + 1) (PK.head o p) W → Calls Tryz.prog 85 #[.pointer (some ⟨b, 0, none⟩), .slice A p.codes.length cap, .func (.func 77) #[.pointer (some ⟨b, 0, none⟩)] #[]] W (WP b (0 + 1 + 1 + 200) (PK.eachO (PK.head o p) p.codes (fun o c => PK.nm o 1 c)) W)) := fun W hW hO => weachc_any b (0 + 1 + 1) _ A cap p.codes W hO (by omega) (fun W' h' => hrr W' (hW.1.trans h')) hp.fine.codes
  have e1 : (p.kind == 1) = false := kind_eq hk (by decide)
  have e2 : (p.kind == 2) = false := kind_eq hk (by decide)
  have e3 : (p.kind == 3) = false := kind_eq hk (by decide)
  have e8 : (p.kind == 8) = false := kind_eq hk (by decide)
  have e10 : (p.kind == 10) = false := kind_eq hk (by decide)
  have e9 : (p.kind == 9) = true := kind_eq hk (by decide)
  have e11 : (p.kind == 11) = false := kind_eq hk (by decide)
  have e4 : (p.kind == 4) = false := kind_eq hk (by decide)
  have e5 : (p.kind == 5) = false := kind_eq hk (by decide)
  have e6 : (p.kind == 6) = false := kind_eq hk (by decide)
  have e7 : (p.kind == 7) = false := kind_eq hk (by decide)
  have e14 : (p.kind == 14) = false := kind_eq hk (by decide)
  have e15 : (p.kind == 15) = false := kind_eq hk (by decide)
  have K0 := Lib.hid k0
  have B0 := Lib.hid hb0
  have O0 := Lib.hid w0
  obtain ⟨q0, -⟩ := pk_cells hb0
  generalize PK.eachO (PK.head o p) p.codes (fun o c => PK.nm o 1 c) = oe at *
  generalize PK.head o p = o1 at *
  clear h hp hp0 w0 k0 hb0 hk hrr
  go_enter Tryz.func42, Tryz.ntmps42
  go_wp2_with (refine wpl_load_pk (by rfl) (.tmp 3) (by rfl) w.heap.size (by rfl) B0.out ?_)
  refine (C1.out).mono ?_
  rintro e w1 ⟨rfl, hw, hk1⟩
  have K1 : Hid (Kp b w w1) := K0.out.trans hk1
  have O1 := Lib.hid hw
  have B1 := Lib.hid (boxed_kept hk1 hne B0.out)
  clear hw hk1
  clear q0 C1
  obtain ⟨-, -, -, -, -, -, -, -, r8, -⟩ := pk_cells B1.out
  go_wp2_with fail
  refine (C2.out _ K1.out O1.out).mono ?_
  rintro e w2 ⟨rfl, hw, hk2⟩
  have K2 : Hid (Kp b w w2) := K1.out.trans hk2
  have O2 := Lib.hid hw
  have B2 := Lib.hid (boxed_kept hk2 hne B1.out)
  clear hw hk2
  go_wp2
  go_end0
  exact ⟨rfl, O2.out.mono (by omega), K2.out⟩
set_option maxRecDepth 100000 in
set_option maxHeartbeats 4000000 in
theorem wparts_11 (b : Nat) (o : ByteArray × Int) (p : Pk) (vc vp vw vs vf : Value) (w : World) (h : WO b 0 o w) (hp : PkIn b w p vc vp vw vs vf) (hk : p.kind = 11) :
    Calls Tryz.prog 42 #[.pointer (some ⟨b, 0, none⟩), .agg (pkCells p vc vp vw vs vf)] w (WP b 16777000 (PK.eachO (PK.head o p) p.codes (fun o c => PK.nm o 1 c)) w) := by
  obtain ⟨w0, k0, hb0⟩ := boxed h p vc vp vw vs vf
  have hne : w.heap.size ≠ b := by have := h.lt; omega
  have hp0 : PkIn b (w.alloc (.cells (pkCells p vc vp vw vs vf) 31)) p vc vp vw vs vf := hp.below k0.1
  obtain ⟨A, cap, rfl , hrr⟩ := hp.codes
  have hmf : ∀ (fn : Fn) (first cap : Array Value) (w : World), (Instr.makeFunc fn first cap).run Tryz.prog w = .ok (.func fn first cap) w := fun _ _ _ _ => rfl
  have C1 := Lib.hid (whead_any b 0 o p _ _ _ _ _ _ w0 (by omega) hp0)
  have C2 : Hid (∀ W, Kp b w W → WO b (0 + 1 + 1) (PK.head o p) W → Calls Tryz.prog 85 #[.pointer (some ⟨b, 0, none⟩), .slice A p.codes.length cap, .func (.func 77) #[.pointer (some ⟨b, 0, none⟩)] #[]] W (WP b (0 + 1 + 1 + 200) (PK.eachO (PK.head o p) p.codes (fun o c => PK.nm o 1 c)) W)) := fun W hW hO => weachc_any b (0 + 1 + 1) _ A cap p.codes W hO (by omega) (fun W' h' => hrr W' (hW.1.trans h')) hp.fine.codes
  have e1 : (p.kind == 1) = false := kind_eq hk (by decide)
  have e2 : (p.kind == 2) = false := kind_eq hk (by decide)
  have e3 : (p.kind == 3) = false := kind_eq hk (by decide)
  have e8 : (p.kind == 8) = false := kind_eq hk (by decide)
  have e10 : (p.kind == 10) = false := kind_eq hk (by decide)
  have e9 : (p.kind == 9) = false := kind_eq hk (by decide)
  have e11 : (p.kind == 11) = true := kind_eq hk (by decide)
  have e4 : (p.kind == 4) = false := kind_eq hk (by decide)
  have e5 : (p.kind == 5) = false := kind_eq hk (by decide)
  have e6 : (p.kind == 6) = false := kind_eq hk (by decide)
  have e7 : (p.kind == 7) = false := kind_eq hk (by decide)
  have e14 : (p.kind == 14) = false := kind_eq hk (by decide)
  have e15 : (p.kind == 15) = false := kind_eq hk (by decide)
  have K0 := Lib.hid k0
  have B0 := Lib.hid hb0
  have O0 := Lib.hid w0
  obtain ⟨q0, -⟩ := pk_cells hb0
  generalize PK.eachO (PK.head o p) p.codes (fun o c => PK.nm o 1 c) = oe at *
  generalize PK.head o p = o1 at *
  clear h hp hp0 w0 k0 hb0 hk hrr
  go_enter Tryz.func42, Tryz.ntmps42
  go_wp2_with (refine wpl_load_pk (by rfl) (.tmp 3) (by rfl) w.heap.size (by rfl) B0.out ?_)
  refine (C1.out).mono ?_
  rintro e w1 ⟨rfl, hw, hk1⟩
  have K1 : Hid (Kp b w w1) := K0.out.trans hk1
  have O1 := Lib.hid hw
  have B1 := Lib.hid (boxed_kept hk1 hne B0.out)
  clear hw hk1
  clear q0 C1
  obtain ⟨-, -, -, -, -, -, -, -, r8, -⟩ := pk_cells B1.out
  go_wp2_with fail
  refine (C2.out _ K1.out O1.out).mono ?_
  rintro e w2 ⟨rfl, hw, hk2⟩
  have K2 : Hid (Kp b w w2) := K1.out.trans hk2
  have O2 := Lib.hid hw
  have B2 := Lib.hid (boxed_kept hk2 hne B1.out)
  clear hw hk2
  go_wp2
  go_end0
  exact ⟨rfl, O2.out.mono (by omega), K2.out⟩
set_option maxRecDepth 100000 in
set_option maxHeartbeats 4000000 in
theorem wparts_no (b : Nat) (o : ByteArray × Int) (p : Pk) (vc vp vw vs vf : Value) (w : World) (h : WO b 0 o w) (hk : ∀ m : Int, m = 1 ∨ m = 2 ∨ m = 3 ∨ m = 8 ∨ m = 10 ∨ m = 9 ∨ m = 11 ∨ m = 4 ∨ m = 5 ∨ m = 6 ∨ m = 7 ∨ m = 14 ∨ m = 15 → p.kind ≠ m) :
    Calls Tryz.prog 42 #[.pointer (some ⟨b, 0, none⟩), .agg (pkCells p vc vp vw vs vf)] w (WP b 16777000 o w) := by
  obtain ⟨w0, k0, hb0⟩ := boxed h p vc vp vw vs vf
  have e1 : (p.kind == 1) = false := by rw [beq_eq_false_iff_ne]; exact hk 1 (by decide)
  have e2 : (p.kind == 2) = false := by rw [beq_eq_false_iff_ne]; exact hk 2 (by decide)
  have e3 : (p.kind == 3) = false := by rw [beq_eq_false_iff_ne]; exact hk 3 (by decide)
  have e8 : (p.kind == 8) = false := by rw [beq_eq_false_iff_ne]; exact hk 8 (by decide)
  have e10 : (p.kind == 10) = false := by rw [beq_eq_false_iff_ne]; exact hk 10 (by decide)
  have e9 : (p.kind == 9) = false := by rw [beq_eq_false_iff_ne]; exact hk 9 (by decide)
  have e11 : (p.kind == 11) = false := by rw [beq_eq_false_iff_ne]; exact hk 11 (by decide)
  have e4 : (p.kind == 4) = false := by rw [beq_eq_false_iff_ne]; exact hk 4 (by decide)
  have e5 : (p.kind == 5) = false := by rw [beq_eq_false_iff_ne]; exact hk 5 (by decide)
  have e6 : (p.kind == 6) = false := by rw [beq_eq_false_iff_ne]; exact hk 6 (by decide)
  have e7 : (p.kind == 7) = false := by rw [beq_eq_false_iff_ne]; exact hk 7 (by decide)
  have e14 : (p.kind == 14) = false := by rw [beq_eq_false_iff_ne]; exact hk 14 (by decide)
  have e15 : (p.kind == 15) = false := by rw [beq_eq_false_iff_ne]; exact hk 15 (by decide)
  have K0 := Lib.hid k0
  have B0 := Lib.hid hb0
  have O0 := Lib.hid w0
  obtain ⟨q0, -⟩ := pk_cells hb0
  clear h w0 k0 hb0 hk
  go_enter Tryz.func42, Tryz.ntmps42
  go_wp2
  go_end0
  exact ⟨rfl, O0.out.mono (by omega), K0.out⟩
theorem wparts_any (b : Nat) (o : ByteArray × Int) (p : Pk) (vc vp vw vs vf : Value) (w : World) (h : WO b 0 o w) (hp : PkIn b w p vc vp vw vs vf) :
    Calls Tryz.prog 42 #[.pointer (some ⟨b, 0, none⟩), .agg (pkCells p vc vp vw vs vf)] w (WP b 16777000 (PK.parts o p) w) := by
  unfold PK.parts
  by_cases h1 : p.kind = 1
  · rw [if_pos h1]; exact wparts_1 b o p _ _ _ _ _ w h hp h1
  · rw [if_neg h1]
    by_cases h2 : p.kind = 2
    · rw [if_pos h2]; exact wparts_2 b o p _ _ _ _ _ w h hp h2
    · rw [if_neg h2]
      by_cases h3 : p.kind = 3
      · rw [if_pos h3]; exact wparts_3 b o p _ _ _ _ _ w h hp h3
      · rw [if_neg h3]
        by_cases h8 : p.kind = 8
        · rw [if_pos h8]; exact wparts_8 b o p _ _ _ _ _ w h hp h8
        · rw [if_neg h8]
          by_cases h10 : p.kind = 10
          · rw [if_pos h10]; exact wparts_10 b o p _ _ _ _ _ w h hp h10
          · rw [if_neg h10]
            by_cases h9 : p.kind = 9 ∨ p.kind = 11
            · rw [if_pos h9]
              rcases h9 with h9 | h9
              · exact wparts_9 b o p _ _ _ _ _ w h hp h9
              · exact wparts_11 b o p _ _ _ _ _ w h hp h9
            · rw [if_neg h9]
              by_cases h4 : p.kind = 4 ∨ p.kind = 5 ∨ p.kind = 6 ∨ p.kind = 7
              · rw [if_pos h4]
                rcases h4 with h4 | h4 | h4 | h4
                · exact wparts_4 b o p _ _ _ _ _ w h hp h4
                · exact wparts_5 b o p _ _ _ _ _ w h hp h4
                · exact wparts_6 b o p _ _ _ _ _ w h hp h4
                · exact wparts_7 b o p _ _ _ _ _ w h hp h4
              · rw [if_neg h4]
                by_cases h14 : p.kind = 14 ∨ p.kind = 15
                · rw [if_pos h14]
                  rcases h14 with h14 | h14
                  · exact wparts_14 b o p _ _ _ _ _ w h hp h14
                  · exact wparts_15 b o p _ _ _ _ _ w h hp h14
                · rw [if_neg h14]
                  exact wparts_no b o p _ _ _ _ _ w h (fun m hm he => by omega)
end Go.Proofs.YtjajandjdclifaaGreatDoor
