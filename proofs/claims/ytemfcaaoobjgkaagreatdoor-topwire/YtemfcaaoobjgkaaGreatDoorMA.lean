/- The flags of a packet's first byte; its parts.; The flags of a packet's first byte, told by the writer; its parts. (Written by wip/tools/gen_parts.py.); A packet's bytes: the program's Put.; The reader of a packet: leaving by a panic; its small methods.; Reading within a part of bytes, and properties read one behind the other: told plainly. No function of the program is named here.; The two functions that read a number answer the same number, place and code.; The document's function that reads a number; both, at every place. -/
import Derived.Test.YtemfcaaoobjgkaaGreatDoorPkEach
import Derived.Test.YtemfcaaoobjgkaaGreatDoorVarPut
import Derived.BigQuiet
import Derived.Test.YtemfcaaoobjgkaaGreatDoorVarRead
import Derived.WalkLawsBesides
import Derived.Test.YtemfcaaoobjgkaaGreatDoorPrPut
import Derived.Test.YtemfcaaoobjgkaaGreatDoorVarSize
import Derived.Test.YtemfcaaoobjgkaaGreatDoorVarWithin
namespace Go.Proofs.YtemfcaaoobjgkaaGreatDoor
open Go.RowKit
attribute [local go_sem ↓] Go.wp_at_zero Go.wp_at_succ

namespace PK
def fixN (k : Int) : Int := if k = 6 ∨ k = 8 ∨ k = 10 then 2 else 0
def isK (k : Int) : Bool := decide (1 ≤ k) && decide (k ≤ 15)
end PK
theorem fixed_flags (k : Int) (w : World) : Calls Tryz.prog 43 #[.int .i64 k] w fun e w' => e = .returned (.int .i64 (PK.fixN k)) ∧ w = w' := by
  unfold PK.fixN
  by_cases h6 : k = 6
  · subst h6
    go_enter Tryz.func43, Tryz.ntmps43
    go_wp2
    go_ret
    exact ⟨rfl, rfl⟩
  · by_cases h8 : k = 8
    · subst h8
      go_enter Tryz.func43, Tryz.ntmps43
      go_wp2
      go_ret
      exact ⟨rfl, rfl⟩
    · by_cases h10 : k = 10
      · subst h10
        go_enter Tryz.func43, Tryz.ntmps43
        go_wp2
        go_ret
        exact ⟨rfl, rfl⟩
      · rw [if_neg (by omega)]
        have e6 : (k == 6) = false := by rw [beq_eq_false_iff_ne]; exact h6
        have e8 : (k == 8) = false := by rw [beq_eq_false_iff_ne]; exact h8
        have e10 : (k == 10) = false := by rw [beq_eq_false_iff_ne]; exact h10
        clear h6 h8 h10
        go_enter Tryz.func43, Tryz.ntmps43
        go_wp2
        go_ret
        exact ⟨rfl, rfl⟩
theorem iskind_any (k : Int) (w : World) : Calls Tryz.prog 24 #[.int .i64 k] w fun e w' => e = .returned (.bool (PK.isK k)) ∧ w = w' := by
  have E : Hid (PK.isK k = (decide (1 ≤ k) && decide (k ≤ 15))) := rfl
  generalize PK.isK k = q at *
  by_cases h0 : 1 ≤ k
  · go_enter Tryz.func24, Tryz.ntmps24
    go_wp2
    go_ret
    exact ⟨by rw [E.out]; simp [h0], rfl⟩
  · go_enter Tryz.func24, Tryz.ntmps24
    go_wp2
    go_ret
    exact ⟨by rw [E.out]; simp; omega, rfl⟩
theorem canpub_any (p : Pk) (vc vp vw vs vf : Value) (w : World) : Calls Tryz.prog 44 #[.agg (pkCells p vc vp vw vs vf)] w fun e w' => e = .returned (.bool (PK.canPub p)) ∧ Below w.heap.size w w' := by
  have hb0 : (w.alloc (.cells (pkCells p vc vp vw vs vf) 45)).heap[w.heap.size]? = some (.cells (pkCells p vc vp vw vs vf) 45 (0, 0)) := heap_alloc_new w _
  have hal := Lib.hid ((Below.refl w.heap.size w).alloc (Nat.le_refl _) (.cells (pkCells p vc vp vw vs vf) 45))
  obtain ⟨-, q1, -, q3, -⟩ := pk_cells hb0
  have CQ := Lib.hid isqos_any
  have E : Hid (PK.canPub p = (PK.isQ p.qos && (decide (0 < p.qos) || !p.dup))) := rfl
  generalize PK.canPub p = r at *
  clear hb0
  cases hq : PK.isQ p.qos
  · go_enter Tryz.func44, Tryz.ntmps44
    go_wp2_with fail
    refine (CQ.out _ _).mono ?_
    rintro e w' ⟨rfl, rfl⟩
    rw [hq]
    go_wp2
    go_ret
    exact ⟨by rw [E.out, hq]; rfl, hal.out⟩
  · by_cases h0 : 0 < p.qos
    · have HQ := Lib.hid hq
      clear hq
      go_enter Tryz.func44, Tryz.ntmps44
      go_wp2_with fail
      refine (CQ.out _ _).mono ?_
      rintro e w' ⟨rfl, rfl⟩
      rw [HQ.out]
      go_wp2
      go_ret
      exact ⟨by rw [E.out, HQ.out]; simp [h0], hal.out⟩
    · have HQ := Lib.hid hq
      clear hq
      go_enter Tryz.func44, Tryz.ntmps44
      go_wp2_with fail
      refine (CQ.out _ _).mono ?_
      rintro e w' ⟨rfl, rfl⟩
      rw [HQ.out]
      go_wp2
      go_ret
      exact ⟨by rw [E.out, HQ.out]; simp, hal.out⟩
end Go.Proofs.YtemfcaaoobjgkaaGreatDoor
namespace Go.Proofs.YtemfcaaoobjgkaaGreatDoor
open Go.RowKit
attribute [local go_sem ↓] Go.wp_at_zero Go.wp_at_succ

/-- What the writer's flags answers. -/
def FlP (b : Nat) (p : Pk) (w : World) (e : Ending) (w' : World) : Prop :=
  ∃ v, e = .returned (.int .i64 v) ∧ ((PK.flagsO p).2 = 0 → v = PK.flagsN p) ∧ I64 v ∧ WO b 0 (PK.flagsO p) w' ∧ Kp b w w'
theorem Kp.to_drew {b : Nat} {w w' : World} (h : Kp b w w') : Kp b w w'.drew := ⟨h.1.drew, h.2.drew⟩
theorem pub_or (d r : Bool) {q : Int} (hq : PK.isQ q = true) : bits .or .i64 (bits .or .i64 (PK.fl d 8) (IntKind.i64.wrap (q * 2))) (PK.fl r 1) = PK.fl d 8 + 2 * q + PK.fl r 1 := by
  rcases isQ_cases hq with rfl | rfl | rfl <;> cases d <;> cases r <;> decide +kernel
theorem fixN_le (k : Int) : 0 ≤ PK.fixN k ∧ PK.fixN k ≤ 2 := by unfold PK.fixN; split <;> decide
theorem canpub_q {p : Pk} (h : PK.canPub p = true) : PK.isQ p.qos = true := by unfold PK.canPub at h; simp only [Bool.and_eq_true] at h; exact h.1

set_option maxRecDepth 100000 in
set_option maxHeartbeats 4000000 in
theorem wflags_any (b : Nat) (p : Pk) (vc vp vw vs vf : Value) (w : World) (h : WO b 0 (⟨#[]⟩, 0) w) (hp : PkFine p) :
    Calls Tryz.prog 25 #[.pointer (some ⟨b, 0, none⟩), .agg (pkCells p vc vp vw vs vf)] w (FlP b p w) := by
  obtain ⟨w0, k0, hb0⟩ := boxed h p vc vp vw vs vf
  have hne : w.heap.size ≠ b := by have := h.lt; omega
  have C2 : Hid (∀ W, WO b 0 (⟨#[]⟩, 0) W → Calls Tryz.prog 45 #[.pointer (some ⟨b, 0, none⟩), .int .u8 129] W (WP b 0 (PK.rf (⟨#[]⟩, 0) 129) W)) := fun W hO => wrefuse_any b 0 _ 129 W hO (by omega) (by decide)
  have CF := Lib.hid flag_any
  have CX := Lib.hid fixed_flags
  have CC : Hid (∀ W, Calls Tryz.prog 44 #[.agg (pkCells p vc vp vw vs vf)] W fun e w' => e = .returned (.bool (PK.canPub p)) ∧ Below W.heap.size W w') := fun W => canpub_any p _ _ _ _ _ W
  obtain ⟨q0, -⟩ := pk_cells hb0
  have K0 := Lib.hid k0
  have B0 := Lib.hid hb0
  have O0 := Lib.hid w0
  have hq1 := hp.qos.1; have hq2 := hp.qos.2
  by_cases h3 : p.kind = 3
  · have e3 : (p.kind != 3) = false := by simp [h3]
    by_cases hc : PK.canPub p = true
    · have E1 : Hid (PK.flagsO p = (⟨#[]⟩, 0)) := Lib.hid (by unfold PK.flagsO; rw [if_neg (by simp [hc])])
      have E2 : Hid (PK.flagsN p = bits .or .i64 (bits .or .i64 (PK.fl p.dup 8) (IntKind.i64.wrap (p.qos * 2))) (PK.fl p.ret 1)) := Lib.hid (by unfold PK.flagsN; rw [if_pos h3, pub_or _ _ (canpub_q hc)])
      have HC := Lib.hid hc
      clear h hp w0 k0 hb0 h3 hc C2
      go_enter Tryz.func25, Tryz.ntmps25
      go_wp2_with (refine wpl_load_pk (by rfl) (.tmp 3) (by rfl) w.heap.size (by rfl) B0.out ?_)
      refine (CC.out _).mono ?_
      rintro e w1 ⟨rfl, b1⟩
      have hb1 := (b1.block _ (lt_heap B0.out)).trans B0.out
      have K1 : Hid (Kp b w w1) := K0.out.trans (Kp.of_below (Nat.le_of_lt O0.out.lt) b1)
      have O1 := Lib.hid (O0.out.below b1)
      rw [HC.out]
      obtain ⟨-, r1, r2, r3, -⟩ := pk_cells hb1
      clear b1 hb1 CC
      go_wp2_with fail
      go_region_held3 (fun w' => w'.cell? ⟨w.heap.size, 1, none⟩ = some (.bool p.dup) ∧ w'.cell? ⟨w.heap.size, 2, none⟩ = some (.bool p.ret) ∧ w'.cell? ⟨w.heap.size, 3, none⟩ = some (.int .i64 p.qos))
        (first | exact ⟨r1, r2, r3⟩)
        (first
          | (go_at_call 46
             refine (CF.out _ _ _).mono ?_
             rintro e w' ⟨rfl, rfl⟩))
      all_goals
        go_wp2
        go_ret
        exact ⟨_, rfl, fun _ => E2.out.symm, bits_in _ _ _, by rw [E1.out]; exact O1.out, K1.out.to_drew⟩
    · have hcf : PK.canPub p = false := by simpa using hc
      have E1 : Hid (PK.flagsO p = PK.rf (⟨#[]⟩, 0) 129) := Lib.hid (by unfold PK.flagsO; rw [if_pos ⟨h3, hcf⟩]; rfl)
      have HC := Lib.hid hcf
      clear h hp w0 k0 hb0 h3 hc hcf
      go_enter Tryz.func25, Tryz.ntmps25
      go_wp2_with (refine wpl_load_pk (by rfl) (.tmp 3) (by rfl) w.heap.size (by rfl) B0.out ?_)
      refine (CC.out _).mono ?_
      rintro e w1 ⟨rfl, b1⟩
      have hb1 := (b1.block _ (lt_heap B0.out)).trans B0.out
      have K1 : Hid (Kp b w w1) := K0.out.trans (Kp.of_below (Nat.le_of_lt O0.out.lt) b1)
      have D2 := Lib.hid (C2.out w1 (O0.out.below b1))
      have B1 := Lib.hid hb1
      rw [HC.out]
      clear b1 hb1 CC C2
      go_wp2_with fail
      refine D2.out.mono ?_
      rintro e w2 ⟨rfl, hw, hk⟩
      have K2 : Hid (Kp b w w2) := K1.out.trans hk
      have O2 := Lib.hid hw
      obtain ⟨-, r1, r2, r3, -⟩ := pk_cells (boxed_kept hk hne B1.out)
      clear hw hk D2
      go_wp2_with fail
      go_region_held3 (fun w' => w'.cell? ⟨w.heap.size, 1, none⟩ = some (.bool p.dup) ∧ w'.cell? ⟨w.heap.size, 2, none⟩ = some (.bool p.ret) ∧ w'.cell? ⟨w.heap.size, 3, none⟩ = some (.int .i64 p.qos))
        (first | exact ⟨r1, r2, r3⟩)
        (first
          | (go_at_call 46
             refine (CF.out _ _ _).mono ?_
             rintro e w' ⟨rfl, rfl⟩))
      all_goals
        go_wp2
        go_ret
        exact ⟨_, rfl, fun h => absurd h (by rw [E1.out]; exact PK.rf_code _ (by decide)), bits_in _ _ _, by rw [E1.out]; exact O2.out, K2.out.to_drew⟩
  · have e3 : (p.kind != 3) = true := by simp [h3]
    have E1 : Hid (PK.flagsO p = (⟨#[]⟩, 0)) := Lib.hid (by unfold PK.flagsO; rw [if_neg (fun h => h3 h.1)])
    have E2 : Hid (PK.flagsN p = PK.fixN p.kind) := Lib.hid (by unfold PK.flagsN PK.fixN; rw [if_neg h3])
    have hx := fixN_le p.kind
    have HX : Hid (I64 (PK.fixN p.kind)) := Lib.hid (by unfold I64; omega)
    clear h hp w0 k0 hb0 h3 C2 CC
    go_enter Tryz.func25, Tryz.ntmps25
    go_wp2_with fail
    refine (CX.out _ _).mono ?_
    rintro e w' ⟨rfl, rfl⟩
    go_wp2
    go_ret
    exact ⟨_, rfl, fun _ => E2.out.symm, HX.out, by rw [E1.out]; exact O0.out, K0.out⟩

/-- Which number a kind is. -/
theorem kind_eq {k n m : Int} {r : Bool} (h : k = n) (hb : (n == m) = r) : (k == m) = r := by rw [h]; exact hb
set_option maxRecDepth 100000 in
set_option maxHeartbeats 4000000 in
theorem wparts_1 (b : Nat) (o : ByteArray × Int) (p : Pk) (vc vp vw vs vf : Value) (w : World) (h : WO b 0 o w) (hp : PkIn b w p vc vp vw vs vf) (hk : p.kind = 1) :
    Calls Tryz.prog 26 #[.pointer (some ⟨b, 0, none⟩), .agg (pkCells p vc vp vw vs vf)] w (WP b 16777000 (PK.conn o p) w) := by
  obtain ⟨w0, k0, hb0⟩ := boxed h p vc vp vw vs vf
  have hne : w.heap.size ≠ b := by have := h.lt; omega
  have hp0 : PkIn b (w.alloc (.cells (pkCells p vc vp vw vs vf) 45)) p vc vp vw vs vf := hp.below k0.1
  have C1 := Lib.hid (wconn_any b 0 o p _ _ _ _ _ _ w0 (by omega) hp0 hk)
  have e1 : (p.kind == 1) = true := kind_eq hk (by decide)
  have e2 : (p.kind == 2) = false := kind_eq hk (by decide)
  have e3 : (p.kind == 3) = false := kind_eq hk (by decide)
  have e8 : (p.kind == 8) = false := kind_eq hk (by decide)
  have e10 : (p.kind == 10) = false := kind_eq hk (by decide)
  have e9 : (p.kind == 9) = false := kind_eq hk (by decide)
  have e11 : (p.kind == 11) = false := kind_eq hk (by decide)
  have e4 : (p.kind == 4) = false := kind_eq hk (by decide)
  have e5 : (p.kind == 5) = false := kind_eq hk (by decide)
  have e6 : (p.kind == 6) = false := kind_eq hk (by decide)
  have e7 : (p.kind == 7) = false := kind_eq hk (by decide)
  have e14 : (p.kind == 14) = false := kind_eq hk (by decide)
  have e15 : (p.kind == 15) = false := kind_eq hk (by decide)
  have K0 := Lib.hid k0
  have B0 := Lib.hid hb0
  have O0 := Lib.hid w0
  obtain ⟨q0, -⟩ := pk_cells hb0
  generalize PK.conn o p = oe at *
  clear h hp hp0 w0 k0 hb0 hk
  go_enter Tryz.func26, Tryz.ntmps26
  go_wp2_with (refine wpl_load_pk (by rfl) (.tmp 3) (by rfl) w.heap.size (by rfl) B0.out ?_)
  refine (C1.out).mono ?_
  rintro e w1 ⟨rfl, hw, hk1⟩
  have K1 : Hid (Kp b w w1) := K0.out.trans hk1
  have O1 := Lib.hid hw
  have B1 := Lib.hid (boxed_kept hk1 hne B0.out)
  clear hw hk1
  go_wp2
  go_end0
  exact ⟨rfl, O1.out.mono (by omega), K1.out⟩
set_option maxRecDepth 100000 in
set_option maxHeartbeats 4000000 in
theorem wparts_3 (b : Nat) (o : ByteArray × Int) (p : Pk) (vc vp vw vs vf : Value) (w : World) (h : WO b 0 o w) (hp : PkIn b w p vc vp vw vs vf) (hk : p.kind = 3) :
    Calls Tryz.prog 26 #[.pointer (some ⟨b, 0, none⟩), .agg (pkCells p vc vp vw vs vf)] w (WP b 16777000 (PK.pub o p) w) := by
  obtain ⟨w0, k0, hb0⟩ := boxed h p vc vp vw vs vf
  have hne : w.heap.size ≠ b := by have := h.lt; omega
  have hp0 : PkIn b (w.alloc (.cells (pkCells p vc vp vw vs vf) 45)) p vc vp vw vs vf := hp.below k0.1
  have C1 := Lib.hid (wpublish_any b 0 o p _ _ _ _ _ _ w0 (by omega) hp0)
  have e1 : (p.kind == 1) = false := kind_eq hk (by decide)
  have e2 : (p.kind == 2) = false := kind_eq hk (by decide)
  have e3 : (p.kind == 3) = true := kind_eq hk (by decide)
  have e8 : (p.kind == 8) = false := kind_eq hk (by decide)
  have e10 : (p.kind == 10) = false := kind_eq hk (by decide)
  have e9 : (p.kind == 9) = false := kind_eq hk (by decide)
  have e11 : (p.kind == 11) = false := kind_eq hk (by decide)
  have e4 : (p.kind == 4) = false := kind_eq hk (by decide)
  have e5 : (p.kind == 5) = false := kind_eq hk (by decide)
  have e6 : (p.kind == 6) = false := kind_eq hk (by decide)
  have e7 : (p.kind == 7) = false := kind_eq hk (by decide)
  have e14 : (p.kind == 14) = false := kind_eq hk (by decide)
  have e15 : (p.kind == 15) = false := kind_eq hk (by decide)
  have K0 := Lib.hid k0
  have B0 := Lib.hid hb0
  have O0 := Lib.hid w0
  obtain ⟨q0, -⟩ := pk_cells hb0
  generalize PK.pub o p = oe at *
  clear h hp hp0 w0 k0 hb0 hk
  go_enter Tryz.func26, Tryz.ntmps26
  go_wp2_with (refine wpl_load_pk (by rfl) (.tmp 3) (by rfl) w.heap.size (by rfl) B0.out ?_)
  refine (C1.out).mono ?_
  rintro e w1 ⟨rfl, hw, hk1⟩
  have K1 : Hid (Kp b w w1) := K0.out.trans hk1
  have O1 := Lib.hid hw
  have B1 := Lib.hid (boxed_kept hk1 hne B0.out)
  clear hw hk1
  go_wp2
  go_end0
  exact ⟨rfl, O1.out.mono (by omega), K1.out⟩
set_option maxRecDepth 100000 in
set_option maxHeartbeats 4000000 in
theorem wparts_14 (b : Nat) (o : ByteArray × Int) (p : Pk) (vc vp vw vs vf : Value) (w : World) (h : WO b 0 o w) (hp : PkIn b w p vc vp vw vs vf) (hk : p.kind = 14) :
    Calls Tryz.prog 26 #[.pointer (some ⟨b, 0, none⟩), .agg (pkCells p vc vp vw vs vf)] w (WP b 16777000 (PK.ending o p) w) := by
  obtain ⟨w0, k0, hb0⟩ := boxed h p vc vp vw vs vf
  have hne : w.heap.size ≠ b := by have := h.lt; omega
  have hp0 : PkIn b (w.alloc (.cells (pkCells p vc vp vw vs vf) 45)) p vc vp vw vs vf := hp.below k0.1
  have C1 := Lib.hid (wending_any b 0 o p _ _ _ _ _ _ w0 (by omega) hp0)
  have e1 : (p.kind == 1) = false := kind_eq hk (by decide)
  have e2 : (p.kind == 2) = false := kind_eq hk (by decide)
  have e3 : (p.kind == 3) = false := kind_eq hk (by decide)
  have e8 : (p.kind == 8) = false := kind_eq hk (by decide)
  have e10 : (p.kind == 10) = false := kind_eq hk (by decide)
  have e9 : (p.kind == 9) = false := kind_eq hk (by decide)
  have e11 : (p.kind == 11) = false := kind_eq hk (by decide)
  have e4 : (p.kind == 4) = false := kind_eq hk (by decide)
  have e5 : (p.kind == 5) = false := kind_eq hk (by decide)
  have e6 : (p.kind == 6) = false := kind_eq hk (by decide)
  have e7 : (p.kind == 7) = false := kind_eq hk (by decide)
  have e14 : (p.kind == 14) = true := kind_eq hk (by decide)
  have e15 : (p.kind == 15) = false := kind_eq hk (by decide)
  have K0 := Lib.hid k0
  have B0 := Lib.hid hb0
  have O0 := Lib.hid w0
  obtain ⟨q0, -⟩ := pk_cells hb0
  generalize PK.ending o p = oe at *
  clear h hp hp0 w0 k0 hb0 hk
  go_enter Tryz.func26, Tryz.ntmps26
  go_wp2_with (refine wpl_load_pk (by rfl) (.tmp 3) (by rfl) w.heap.size (by rfl) B0.out ?_)
  refine (C1.out).mono ?_
  rintro e w1 ⟨rfl, hw, hk1⟩
  have K1 : Hid (Kp b w w1) := K0.out.trans hk1
  have O1 := Lib.hid hw
  have B1 := Lib.hid (boxed_kept hk1 hne B0.out)
  clear hw hk1
  go_wp2
  go_end0
  exact ⟨rfl, O1.out.mono (by omega), K1.out⟩
set_option maxRecDepth 100000 in
set_option maxHeartbeats 4000000 in
theorem wparts_15 (b : Nat) (o : ByteArray × Int) (p : Pk) (vc vp vw vs vf : Value) (w : World) (h : WO b 0 o w) (hp : PkIn b w p vc vp vw vs vf) (hk : p.kind = 15) :
    Calls Tryz.prog 26 #[.pointer (some ⟨b, 0, none⟩), .agg (pkCells p vc vp vw vs vf)] w (WP b 16777000 (PK.ending o p) w) := by
  obtain ⟨w0, k0, hb0⟩ := boxed h p vc vp vw vs vf
  have hne : w.heap.size ≠ b := by have := h.lt; omega
  have hp0 : PkIn b (w.alloc (.cells (pkCells p vc vp vw vs vf) 45)) p vc vp vw vs vf := hp.below k0.1
  have C1 := Lib.hid (wending_any b 0 o p _ _ _ _ _ _ w0 (by omega) hp0)
  have e1 : (p.kind == 1) = false := kind_eq hk (by decide)
  have e2 : (p.kind == 2) = false := kind_eq hk (by decide)
  have e3 : (p.kind == 3) = false := kind_eq hk (by decide)
  have e8 : (p.kind == 8) = false := kind_eq hk (by decide)
  have e10 : (p.kind == 10) = false := kind_eq hk (by decide)
  have e9 : (p.kind == 9) = false := kind_eq hk (by decide)
  have e11 : (p.kind == 11) = false := kind_eq hk (by decide)
  have e4 : (p.kind == 4) = false := kind_eq hk (by decide)
  have e5 : (p.kind == 5) = false := kind_eq hk (by decide)
  have e6 : (p.kind == 6) = false := kind_eq hk (by decide)
  have e7 : (p.kind == 7) = false := kind_eq hk (by decide)
  have e14 : (p.kind == 14) = false := kind_eq hk (by decide)
  have e15 : (p.kind == 15) = true := kind_eq hk (by decide)
  have K0 := Lib.hid k0
  have B0 := Lib.hid hb0
  have O0 := Lib.hid w0
  obtain ⟨q0, -⟩ := pk_cells hb0
  generalize PK.ending o p = oe at *
  clear h hp hp0 w0 k0 hb0 hk
  go_enter Tryz.func26, Tryz.ntmps26
  go_wp2_with (refine wpl_load_pk (by rfl) (.tmp 3) (by rfl) w.heap.size (by rfl) B0.out ?_)
  refine (C1.out).mono ?_
  rintro e w1 ⟨rfl, hw, hk1⟩
  have K1 : Hid (Kp b w w1) := K0.out.trans hk1
  have O1 := Lib.hid hw
  have B1 := Lib.hid (boxed_kept hk1 hne B0.out)
  clear hw hk1
  go_wp2
  go_end0
  exact ⟨rfl, O1.out.mono (by omega), K1.out⟩
set_option maxRecDepth 100000 in
set_option maxHeartbeats 4000000 in
theorem wparts_4 (b : Nat) (o : ByteArray × Int) (p : Pk) (vc vp vw vs vf : Value) (w : World) (h : WO b 0 o w) (hp : PkIn b w p vc vp vw vs vf) (hk : p.kind = 4) :
    Calls Tryz.prog 26 #[.pointer (some ⟨b, 0, none⟩), .agg (pkCells p vc vp vw vs vf)] w (WP b 16777000 (PK.ending (PK.idd o p.id) p) w) := by
  obtain ⟨w0, k0, hb0⟩ := boxed h p vc vp vw vs vf
  have hne : w.heap.size ≠ b := by have := h.lt; omega
  have hp0 : PkIn b (w.alloc (.cells (pkCells p vc vp vw vs vf) 45)) p vc vp vw vs vf := hp.below k0.1
  have C1 := Lib.hid (wid_any b 0 o p.id _ w0 (by omega) hp.fine.id)
  have C2 : Hid (∀ W, Kp b w W → WO b (0 + 1) (PK.idd o p.id) W → Calls Tryz.prog 59 #[.pointer (some ⟨b, 0, none⟩), .agg (pkCells p vc vp vw vs vf)] W (WP b (0 + 1 + 1 + 1) (PK.ending (PK.idd o p.id) p) W)) := fun W hW hO => wending_any b (0 + 1) _ p _ _ _ _ _ W hO (by omega) (hp.below hW.1)
  have e1 : (p.kind == 1) = false := kind_eq hk (by decide)
  have e2 : (p.kind == 2) = false := kind_eq hk (by decide)
  have e3 : (p.kind == 3) = false := kind_eq hk (by decide)
  have e8 : (p.kind == 8) = false := kind_eq hk (by decide)
  have e10 : (p.kind == 10) = false := kind_eq hk (by decide)
  have e9 : (p.kind == 9) = false := kind_eq hk (by decide)
  have e11 : (p.kind == 11) = false := kind_eq hk (by decide)
  have e4 : (p.kind == 4) = true := kind_eq hk (by decide)
  have e5 : (p.kind == 5) = false := kind_eq hk (by decide)
  have e6 : (p.kind == 6) = false := kind_eq hk (by decide)
  have e7 : (p.kind == 7) = false := kind_eq hk (by decide)
  have e14 : (p.kind == 14) = false := kind_eq hk (by decide)
  have e15 : (p.kind == 15) = false := kind_eq hk (by decide)
  have K0 := Lib.hid k0
  have B0 := Lib.hid hb0
  have O0 := Lib.hid w0
  obtain ⟨q0, -⟩ := pk_cells hb0
  generalize PK.ending (PK.idd o p.id) p = oe at *
  generalize PK.idd o p.id = o1 at *
  obtain ⟨-, -, -, -, q4, -⟩ := pk_cells hb0
  clear h hp hp0 w0 k0 hb0 hk
  go_enter Tryz.func26, Tryz.ntmps26
  go_wp2_with fail
  refine (C1.out).mono ?_
  rintro e w1 ⟨rfl, hw, hk1⟩
  have K1 : Hid (Kp b w w1) := K0.out.trans hk1
  have O1 := Lib.hid hw
  have B1 := Lib.hid (boxed_kept hk1 hne B0.out)
  clear hw hk1
  clear q0 q4
  go_wp2_with (refine wpl_load_pk (by rfl) (.tmp 3) (by rfl) w.heap.size (by rfl) B1.out ?_)
  refine (C2.out _ K1.out O1.out).mono ?_
  rintro e w2 ⟨rfl, hw, hk2⟩
  have K2 : Hid (Kp b w w2) := K1.out.trans hk2
  have O2 := Lib.hid hw
  have B2 := Lib.hid (boxed_kept hk2 hne B1.out)
  clear hw hk2
  go_wp2
  go_end0
  exact ⟨rfl, O2.out.mono (by omega), K2.out⟩
set_option maxRecDepth 100000 in
set_option maxHeartbeats 4000000 in
theorem wparts_5 (b : Nat) (o : ByteArray × Int) (p : Pk) (vc vp vw vs vf : Value) (w : World) (h : WO b 0 o w) (hp : PkIn b w p vc vp vw vs vf) (hk : p.kind = 5) :
    Calls Tryz.prog 26 #[.pointer (some ⟨b, 0, none⟩), .agg (pkCells p vc vp vw vs vf)] w (WP b 16777000 (PK.ending (PK.idd o p.id) p) w) := by
  obtain ⟨w0, k0, hb0⟩ := boxed h p vc vp vw vs vf
  have hne : w.heap.size ≠ b := by have := h.lt; omega
  have hp0 : PkIn b (w.alloc (.cells (pkCells p vc vp vw vs vf) 45)) p vc vp vw vs vf := hp.below k0.1
  have C1 := Lib.hid (wid_any b 0 o p.id _ w0 (by omega) hp.fine.id)
  have C2 : Hid (∀ W, Kp b w W → WO b (0 + 1) (PK.idd o p.id) W → Calls Tryz.prog 59 #[.pointer (some ⟨b, 0, none⟩), .agg (pkCells p vc vp vw vs vf)] W (WP b (0 + 1 + 1 + 1) (PK.ending (PK.idd o p.id) p) W)) := fun W hW hO => wending_any b (0 + 1) _ p _ _ _ _ _ W hO (by omega) (hp.below hW.1)
  have e1 : (p.kind == 1) = false := kind_eq hk (by decide)
  have e2 : (p.kind == 2) = false := kind_eq hk (by decide)
  have e3 : (p.kind == 3) = false := kind_eq hk (by decide)
  have e8 : (p.kind == 8) = false := kind_eq hk (by decide)
  have e10 : (p.kind == 10) = false := kind_eq hk (by decide)
  have e9 : (p.kind == 9) = false := kind_eq hk (by decide)
  have e11 : (p.kind == 11) = false := kind_eq hk (by decide)
  have e4 : (p.kind == 4) = false := kind_eq hk (by decide)
  have e5 : (p.kind == 5) = true := kind_eq hk (by decide)
  have e6 : (p.kind == 6) = false := kind_eq hk (by decide)
  have e7 : (p.kind == 7) = false := kind_eq hk (by decide)
  have e14 : (p.kind == 14) = false := kind_eq hk (by decide)
  have e15 : (p.kind == 15) = false := kind_eq hk (by decide)
  have K0 := Lib.hid k0
  have B0 := Lib.hid hb0
  have O0 := Lib.hid w0
  obtain ⟨q0, -⟩ := pk_cells hb0
  generalize PK.ending (PK.idd o p.id) p = oe at *
  generalize PK.idd o p.id = o1 at *
  obtain ⟨-, -, -, -, q4, -⟩ := pk_cells hb0
  clear h hp hp0 w0 k0 hb0 hk
  go_enter Tryz.func26, Tryz.ntmps26
  go_wp2_with fail
  refine (C1.out).mono ?_
  rintro e w1 ⟨rfl, hw, hk1⟩
  have K1 : Hid (Kp b w w1) := K0.out.trans hk1
  have O1 := Lib.hid hw
  have B1 := Lib.hid (boxed_kept hk1 hne B0.out)
  clear hw hk1
  clear q0 q4
  go_wp2_with (refine wpl_load_pk (by rfl) (.tmp 3) (by rfl) w.heap.size (by rfl) B1.out ?_)
  refine (C2.out _ K1.out O1.out).mono ?_
  rintro e w2 ⟨rfl, hw, hk2⟩
  have K2 : Hid (Kp b w w2) := K1.out.trans hk2
  have O2 := Lib.hid hw
  have B2 := Lib.hid (boxed_kept hk2 hne B1.out)
  clear hw hk2
  go_wp2
  go_end0
  exact ⟨rfl, O2.out.mono (by omega), K2.out⟩
set_option maxRecDepth 100000 in
set_option maxHeartbeats 4000000 in
theorem wparts_6 (b : Nat) (o : ByteArray × Int) (p : Pk) (vc vp vw vs vf : Value) (w : World) (h : WO b 0 o w) (hp : PkIn b w p vc vp vw vs vf) (hk : p.kind = 6) :
    Calls Tryz.prog 26 #[.pointer (some ⟨b, 0, none⟩), .agg (pkCells p vc vp vw vs vf)] w (WP b 16777000 (PK.ending (PK.idd o p.id) p) w) := by
  obtain ⟨w0, k0, hb0⟩ := boxed h p vc vp vw vs vf
  have hne : w.heap.size ≠ b := by have := h.lt; omega
  have hp0 : PkIn b (w.alloc (.cells (pkCells p vc vp vw vs vf) 45)) p vc vp vw vs vf := hp.below k0.1
  have C1 := Lib.hid (wid_any b 0 o p.id _ w0 (by omega) hp.fine.id)
  have C2 : Hid (∀ W, Kp b w W → WO b (0 + 1) (PK.idd o p.id) W → Calls Tryz.prog 59 #[.pointer (some ⟨b, 0, none⟩), .agg (pkCells p vc vp vw vs vf)] W (WP b (0 + 1 + 1 + 1) (PK.ending (PK.idd o p.id) p) W)) := fun W hW hO => wending_any b (0 + 1) _ p _ _ _ _ _ W hO (by omega) (hp.below hW.1)
  have e1 : (p.kind == 1) = false := kind_eq hk (by decide)
  have e2 : (p.kind == 2) = false := kind_eq hk (by decide)
  have e3 : (p.kind == 3) = false := kind_eq hk (by decide)
  have e8 : (p.kind == 8) = false := kind_eq hk (by decide)
  have e10 : (p.kind == 10) = false := kind_eq hk (by decide)
  have e9 : (p.kind == 9) = false := kind_eq hk (by decide)
  have e11 : (p.kind == 11) = false := kind_eq hk (by decide)
  have e4 : (p.kind == 4) = false := kind_eq hk (by decide)
  have e5 : (p.kind == 5) = false := kind_eq hk (by decide)
  have e6 : (p.kind == 6) = true := kind_eq hk (by decide)
  have e7 : (p.kind == 7) = false := kind_eq hk (by decide)
  have e14 : (p.kind == 14) = false := kind_eq hk (by decide)
  have e15 : (p.kind == 15) = false := kind_eq hk (by decide)
  have K0 := Lib.hid k0
  have B0 := Lib.hid hb0
  have O0 := Lib.hid w0
  obtain ⟨q0, -⟩ := pk_cells hb0
  generalize PK.ending (PK.idd o p.id) p = oe at *
  generalize PK.idd o p.id = o1 at *
  obtain ⟨-, -, -, -, q4, -⟩ := pk_cells hb0
  clear h hp hp0 w0 k0 hb0 hk
  go_enter Tryz.func26, Tryz.ntmps26
  go_wp2_with fail
  refine (C1.out).mono ?_
  rintro e w1 ⟨rfl, hw, hk1⟩
  have K1 : Hid (Kp b w w1) := K0.out.trans hk1
  have O1 := Lib.hid hw
  have B1 := Lib.hid (boxed_kept hk1 hne B0.out)
  clear hw hk1
  clear q0 q4
  go_wp2_with (refine wpl_load_pk (by rfl) (.tmp 3) (by rfl) w.heap.size (by rfl) B1.out ?_)
  refine (C2.out _ K1.out O1.out).mono ?_
  rintro e w2 ⟨rfl, hw, hk2⟩
  have K2 : Hid (Kp b w w2) := K1.out.trans hk2
  have O2 := Lib.hid hw
  have B2 := Lib.hid (boxed_kept hk2 hne B1.out)
  clear hw hk2
  go_wp2
  go_end0
  exact ⟨rfl, O2.out.mono (by omega), K2.out⟩
set_option maxRecDepth 100000 in
set_option maxHeartbeats 4000000 in
theorem wparts_7 (b : Nat) (o : ByteArray × Int) (p : Pk) (vc vp vw vs vf : Value) (w : World) (h : WO b 0 o w) (hp : PkIn b w p vc vp vw vs vf) (hk : p.kind = 7) :
    Calls Tryz.prog 26 #[.pointer (some ⟨b, 0, none⟩), .agg (pkCells p vc vp vw vs vf)] w (WP b 16777000 (PK.ending (PK.idd o p.id) p) w) := by
  obtain ⟨w0, k0, hb0⟩ := boxed h p vc vp vw vs vf
  have hne : w.heap.size ≠ b := by have := h.lt; omega
  have hp0 : PkIn b (w.alloc (.cells (pkCells p vc vp vw vs vf) 45)) p vc vp vw vs vf := hp.below k0.1
  have C1 := Lib.hid (wid_any b 0 o p.id _ w0 (by omega) hp.fine.id)
  have C2 : Hid (∀ W, Kp b w W → WO b (0 + 1) (PK.idd o p.id) W → Calls Tryz.prog 59 #[.pointer (some ⟨b, 0, none⟩), .agg (pkCells p vc vp vw vs vf)] W (WP b (0 + 1 + 1 + 1) (PK.ending (PK.idd o p.id) p) W)) := fun W hW hO => wending_any b (0 + 1) _ p _ _ _ _ _ W hO (by omega) (hp.below hW.1)
  have e1 : (p.kind == 1) = false := kind_eq hk (by decide)
  have e2 : (p.kind == 2) = false := kind_eq hk (by decide)
  have e3 : (p.kind == 3) = false := kind_eq hk (by decide)
  have e8 : (p.kind == 8) = false := kind_eq hk (by decide)
  have e10 : (p.kind == 10) = false := kind_eq hk (by decide)
  have e9 : (p.kind == 9) = false := kind_eq hk (by decide)
  have e11 : (p.kind == 11) = false := kind_eq hk (by decide)
  have e4 : (p.kind == 4) = false := kind_eq hk (by decide)
  have e5 : (p.kind == 5) = false := kind_eq hk (by decide)
  have e6 : (p.kind == 6) = false := kind_eq hk (by decide)
  have e7 : (p.kind == 7) = true := kind_eq hk (by decide)
  have e14 : (p.kind == 14) = false := kind_eq hk (by decide)
  have e15 : (p.kind == 15) = false := kind_eq hk (by decide)
  have K0 := Lib.hid k0
  have B0 := Lib.hid hb0
  have O0 := Lib.hid w0
  obtain ⟨q0, -⟩ := pk_cells hb0
  generalize PK.ending (PK.idd o p.id) p = oe at *
  generalize PK.idd o p.id = o1 at *
  obtain ⟨-, -, -, -, q4, -⟩ := pk_cells hb0
  clear h hp hp0 w0 k0 hb0 hk
  go_enter Tryz.func26, Tryz.ntmps26
  go_wp2_with fail
  refine (C1.out).mono ?_
  rintro e w1 ⟨rfl, hw, hk1⟩
  have K1 : Hid (Kp b w w1) := K0.out.trans hk1
  have O1 := Lib.hid hw
  have B1 := Lib.hid (boxed_kept hk1 hne B0.out)
  clear hw hk1
  clear q0 q4
  go_wp2_with (refine wpl_load_pk (by rfl) (.tmp 3) (by rfl) w.heap.size (by rfl) B1.out ?_)
  refine (C2.out _ K1.out O1.out).mono ?_
  rintro e w2 ⟨rfl, hw, hk2⟩
  have K2 : Hid (Kp b w w2) := K1.out.trans hk2
  have O2 := Lib.hid hw
  have B2 := Lib.hid (boxed_kept hk2 hne B1.out)
  clear hw hk2
  go_wp2
  go_end0
  exact ⟨rfl, O2.out.mono (by omega), K2.out⟩
set_option maxRecDepth 100000 in
set_option maxHeartbeats 4000000 in
theorem wparts_2 (b : Nat) (o : ByteArray × Int) (p : Pk) (vc vp vw vs vf : Value) (w : World) (h : WO b 0 o w) (hp : PkIn b w p vc vp vw vs vf) (hk : p.kind = 2) :
    Calls Tryz.prog 26 #[.pointer (some ⟨b, 0, none⟩), .agg (pkCells p vc vp vw vs vf)] w (WP b 16777000 (PK.pr (PK.nm (PK.nm o 1 (PK.fl p.session 1)) 1 p.code) p.kind p.props) w) := by
  obtain ⟨w0, k0, hb0⟩ := boxed h p vc vp vw vs vf
  have hne : w.heap.size ≠ b := by have := h.lt; omega
  have hp0 : PkIn b (w.alloc (.cells (pkCells p vc vp vw vs vf) 45)) p vc vp vw vs vf := hp.below k0.1
  obtain ⟨A, cap, rfl, hpr⟩ := hp.props
  have CF := Lib.hid flag_any
  have hfs : I64 (PK.fl p.session 1) := by unfold I64 PK.fl; split <;> decide
  have C1 := Lib.hid (wnumber_any b 0 o 1 (PK.fl p.session 1) _ w0 (by omega) hfs)
  have C2 : Hid (∀ W, WO b (0 + 1) (PK.nm o 1 (PK.fl p.session 1)) W → Calls Tryz.prog 49 #[.pointer (some ⟨b, 0, none⟩), .int .u8 p.code] W (WP b (0 + 1 + 1) (PK.nm (PK.nm o 1 (PK.fl p.session 1)) 1 p.code) W)) := fun W hO => wreason_any b (0 + 1) _ p.code W hO (by omega) hp.fine.code
  have C3 : Hid (∀ O W, Kp b w W → WO b (0 + 1 + 1) O W → Calls Tryz.prog 50 #[.pointer (some ⟨b, 0, none⟩), .int .i64 p.kind, .slice A p.props.length cap] W (WP b (0 + 1 + 1 + 1) (PK.pr O p.kind p.props) W)) := fun O W hW hO => wprops_any b (0 + 1 + 1) O p.kind A cap p.props W hO (by omega) (fun W' hk => hpr W' (hW.1.trans hk.1)) (fun W' hk => hp.tabs W' (hW.1.trans hk.1))
  have e1 : (p.kind == 1) = false := kind_eq hk (by decide)
  have e2 : (p.kind == 2) = true := kind_eq hk (by decide)
  have e3 : (p.kind == 3) = false := kind_eq hk (by decide)
  have e8 : (p.kind == 8) = false := kind_eq hk (by decide)
  have e10 : (p.kind == 10) = false := kind_eq hk (by decide)
  have e9 : (p.kind == 9) = false := kind_eq hk (by decide)
  have e11 : (p.kind == 11) = false := kind_eq hk (by decide)
  have e4 : (p.kind == 4) = false := kind_eq hk (by decide)
  have e5 : (p.kind == 5) = false := kind_eq hk (by decide)
  have e6 : (p.kind == 6) = false := kind_eq hk (by decide)
  have e7 : (p.kind == 7) = false := kind_eq hk (by decide)
  have e14 : (p.kind == 14) = false := kind_eq hk (by decide)
  have e15 : (p.kind == 15) = false := kind_eq hk (by decide)
  have K0 := Lib.hid k0
  have B0 := Lib.hid hb0
  have O0 := Lib.hid w0
  obtain ⟨q0, -⟩ := pk_cells hb0
  have CFS : Hid (∀ W, Calls Tryz.prog 46 #[.bool p.session, .int .i64 1] W fun e w' => e = .returned (.int .i64 (PK.fl p.session 1)) ∧ W = w') := fun W => flag_any p.session 1 W
  clear CF
  generalize PK.fl p.session 1 = fs at *
  generalize PK.nm (PK.nm o 1 fs) 1 p.code = o2 at *
  generalize PK.nm o 1 fs = o1 at *
  obtain ⟨-, -, -, -, -, -, -, -, -, -, -, -, -, -, -, -, -, -, -, -, -, -, -, q23, -⟩ := pk_cells hb0
  clear h hp hp0 w0 k0 hb0 hk hpr
  go_enter Tryz.func26, Tryz.ntmps26
  go_wp2_with fail
  refine (CFS.out _).mono ?_
  rintro e w' ⟨rfl, rfl⟩
  go_wp2_with fail
  refine (C1.out).mono ?_
  rintro e w1 ⟨rfl, hw, hk1⟩
  have K1 : Hid (Kp b w w1) := K0.out.trans hk1
  have O1 := Lib.hid hw
  have B1 := Lib.hid (boxed_kept hk1 hne B0.out)
  clear hw hk1
  clear q0 q23 C1
  obtain ⟨-, -, -, -, -, -, -, r7, -⟩ := pk_cells B1.out
  go_wp2_with fail
  refine (C2.out _ O1.out).mono ?_
  rintro e w2 ⟨rfl, hw, hk2⟩
  have K2 : Hid (Kp b w w2) := K1.out.trans hk2
  have O2 := Lib.hid hw
  have B2 := Lib.hid (boxed_kept hk2 hne B1.out)
  clear hw hk2
  clear r7 C2
  obtain ⟨s0, -, -, -, -, -, -, -, -, s9, -⟩ := pk_cells B2.out
  go_wp2_with fail
  refine (C3.out _ _ K2.out O2.out).mono ?_
  rintro e w3 ⟨rfl, hw, hk3⟩
  have K3 : Hid (Kp b w w3) := K2.out.trans hk3
  have O3 := Lib.hid hw
  have B3 := Lib.hid (boxed_kept hk3 hne B2.out)
  clear hw hk3
  go_wp2
  go_end0
  exact ⟨rfl, O3.out.mono (by omega), K3.out⟩
set_option maxRecDepth 100000 in
set_option maxHeartbeats 4000000 in
theorem wparts_8 (b : Nat) (o : ByteArray × Int) (p : Pk) (vc vp vw vs vf : Value) (w : World) (h : WO b 0 o w) (hp : PkIn b w p vc vp vw vs vf) (hk : p.kind = 8) :
    Calls Tryz.prog 26 #[.pointer (some ⟨b, 0, none⟩), .agg (pkCells p vc vp vw vs vf)] w (WP b 16777000 (PK.eachO (PK.head o p) p.subs PK.sub) w) := by
  obtain ⟨w0, k0, hb0⟩ := boxed h p vc vp vw vs vf
  have hne : w.heap.size ≠ b := by have := h.lt; omega
  have hp0 : PkIn b (w.alloc (.cells (pkCells p vc vp vw vs vf) 45)) p vc vp vw vs vf := hp.below k0.1
  obtain ⟨A, cap, rfl , hrr⟩ := hp.subs
  have hmf : ∀ (fn : Fn) (first cap : Array Value) (w : World), (Instr.makeFunc fn first cap).run Tryz.prog w = .ok (.func fn first cap) w := fun _ _ _ _ => rfl
  have C1 := Lib.hid (whead_any b 0 o p _ _ _ _ _ _ w0 (by omega) hp0)
  have C2 : Hid (∀ W, Kp b w W → WO b (0 + 1 + 1) (PK.head o p) W → Calls Tryz.prog 53 #[.pointer (some ⟨b, 0, none⟩), .slice A p.subs.length cap, .func (.func 54) #[.pointer (some ⟨b, 0, none⟩)] #[]] W (WP b (0 + 1 + 1 + 200) (PK.eachO (PK.head o p) p.subs PK.sub) W)) := fun W hW hO => weachs_any b (0 + 1 + 1) _ A cap p.subs W hO (by omega) (fun W' h' => hrr W' (hW.1.trans h')) hp.fine.subs (fun W' h' => hp.tabs W' (hW.1.trans h'))
  have e1 : (p.kind == 1) = false := kind_eq hk (by decide)
  have e2 : (p.kind == 2) = false := kind_eq hk (by decide)
  have e3 : (p.kind == 3) = false := kind_eq hk (by decide)
  have e8 : (p.kind == 8) = true := kind_eq hk (by decide)
  have e10 : (p.kind == 10) = false := kind_eq hk (by decide)
  have e9 : (p.kind == 9) = false := kind_eq hk (by decide)
  have e11 : (p.kind == 11) = false := kind_eq hk (by decide)
  have e4 : (p.kind == 4) = false := kind_eq hk (by decide)
  have e5 : (p.kind == 5) = false := kind_eq hk (by decide)
  have e6 : (p.kind == 6) = false := kind_eq hk (by decide)
  have e7 : (p.kind == 7) = false := kind_eq hk (by decide)
  have e14 : (p.kind == 14) = false := kind_eq hk (by decide)
  have e15 : (p.kind == 15) = false := kind_eq hk (by decide)
  have K0 := Lib.hid k0
  have B0 := Lib.hid hb0
  have O0 := Lib.hid w0
  obtain ⟨q0, -⟩ := pk_cells hb0
  generalize PK.eachO (PK.head o p) p.subs PK.sub = oe at *
  generalize PK.head o p = o1 at *
  clear h hp hp0 w0 k0 hb0 hk hrr
  go_enter Tryz.func26, Tryz.ntmps26
  go_wp2_with (refine wpl_load_pk (by rfl) (.tmp 3) (by rfl) w.heap.size (by rfl) B0.out ?_)
  refine (C1.out).mono ?_
  rintro e w1 ⟨rfl, hw, hk1⟩
  have K1 : Hid (Kp b w w1) := K0.out.trans hk1
  have O1 := Lib.hid hw
  have B1 := Lib.hid (boxed_kept hk1 hne B0.out)
  clear hw hk1
  clear q0 C1
  obtain ⟨-, -, -, -, -, -, -, -, -, -, -, -, -, -, -, -, -, -, -, -, -, -, -, -, r24, -⟩ := pk_cells B1.out
  go_wp2_with fail
  refine (C2.out _ K1.out O1.out).mono ?_
  rintro e w2 ⟨rfl, hw, hk2⟩
  have K2 : Hid (Kp b w w2) := K1.out.trans hk2
  have O2 := Lib.hid hw
  have B2 := Lib.hid (boxed_kept hk2 hne B1.out)
  clear hw hk2
  go_wp2
  go_end0
  exact ⟨rfl, O2.out.mono (by omega), K2.out⟩
set_option maxRecDepth 100000 in
set_option maxHeartbeats 4000000 in
theorem wparts_10 (b : Nat) (o : ByteArray × Int) (p : Pk) (vc vp vw vs vf : Value) (w : World) (h : WO b 0 o w) (hp : PkIn b w p vc vp vw vs vf) (hk : p.kind = 10) :
    Calls Tryz.prog 26 #[.pointer (some ⟨b, 0, none⟩), .agg (pkCells p vc vp vw vs vf)] w (WP b 16777000 (PK.eachO (PK.head o p) p.filters PK.tx) w) := by
  obtain ⟨w0, k0, hb0⟩ := boxed h p vc vp vw vs vf
  have hne : w.heap.size ≠ b := by have := h.lt; omega
  have hp0 : PkIn b (w.alloc (.cells (pkCells p vc vp vw vs vf) 45)) p vc vp vw vs vf := hp.below k0.1
  obtain ⟨A, cap, rfl , hrr⟩ := hp.filters
  have hmf : ∀ (fn : Fn) (first cap : Array Value) (w : World), (Instr.makeFunc fn first cap).run Tryz.prog w = .ok (.func fn first cap) w := fun _ _ _ _ => rfl
  have C1 := Lib.hid (whead_any b 0 o p _ _ _ _ _ _ w0 (by omega) hp0)
  have C2 : Hid (∀ W, Kp b w W → WO b (0 + 1 + 1) (PK.head o p) W → Calls Tryz.prog 55 #[.pointer (some ⟨b, 0, none⟩), .slice A p.filters.length cap, .func (.func 56) #[.pointer (some ⟨b, 0, none⟩)] #[]] W (WP b (0 + 1 + 1 + 200) (PK.eachO (PK.head o p) p.filters PK.tx) W)) := fun W hW hO => weacht_any b (0 + 1 + 1) _ A cap p.filters W hO (by omega) (fun W' h' => hrr W' (hW.1.trans h')) hp.fine.filters (fun W' h' => hp.tabs W' (hW.1.trans h'))
  have e1 : (p.kind == 1) = false := kind_eq hk (by decide)
  have e2 : (p.kind == 2) = false := kind_eq hk (by decide)
  have e3 : (p.kind == 3) = false := kind_eq hk (by decide)
  have e8 : (p.kind == 8) = false := kind_eq hk (by decide)
  have e10 : (p.kind == 10) = true := kind_eq hk (by decide)
  have e9 : (p.kind == 9) = false := kind_eq hk (by decide)
  have e11 : (p.kind == 11) = false := kind_eq hk (by decide)
  have e4 : (p.kind == 4) = false := kind_eq hk (by decide)
  have e5 : (p.kind == 5) = false := kind_eq hk (by decide)
  have e6 : (p.kind == 6) = false := kind_eq hk (by decide)
  have e7 : (p.kind == 7) = false := kind_eq hk (by decide)
  have e14 : (p.kind == 14) = false := kind_eq hk (by decide)
  have e15 : (p.kind == 15) = false := kind_eq hk (by decide)
  have K0 := Lib.hid k0
  have B0 := Lib.hid hb0
  have O0 := Lib.hid w0
  obtain ⟨q0, -⟩ := pk_cells hb0
  generalize PK.eachO (PK.head o p) p.filters PK.tx = oe at *
  generalize PK.head o p = o1 at *
  clear h hp hp0 w0 k0 hb0 hk hrr
  go_enter Tryz.func26, Tryz.ntmps26
  go_wp2_with (refine wpl_load_pk (by rfl) (.tmp 3) (by rfl) w.heap.size (by rfl) B0.out ?_)
  refine (C1.out).mono ?_
  rintro e w1 ⟨rfl, hw, hk1⟩
  have K1 : Hid (Kp b w w1) := K0.out.trans hk1
  have O1 := Lib.hid hw
  have B1 := Lib.hid (boxed_kept hk1 hne B0.out)
  clear hw hk1
  clear q0 C1
  obtain ⟨-, -, -, -, -, -, -, -, -, -, -, -, -, -, -, -, -, -, -, -, -, -, -, -, -, r25⟩ := pk_cells B1.out
  go_wp2_with fail
  refine (C2.out _ K1.out O1.out).mono ?_
  rintro e w2 ⟨rfl, hw, hk2⟩
  have K2 : Hid (Kp b w w2) := K1.out.trans hk2
  have O2 := Lib.hid hw
  have B2 := Lib.hid (boxed_kept hk2 hne B1.out)
  clear hw hk2
  go_wp2
  go_end0
  exact ⟨rfl, O2.out.mono (by omega), K2.out⟩
set_option maxRecDepth 100000 in
set_option maxHeartbeats 4000000 in
theorem wparts_9 (b : Nat) (o : ByteArray × Int) (p : Pk) (vc vp vw vs vf : Value) (w : World) (h : WO b 0 o w) (hp : PkIn b w p vc vp vw vs vf) (hk : p.kind = 9) :
    Calls Tryz.prog 26 #[.pointer (some ⟨b, 0, none⟩), .agg (pkCells p vc vp vw vs vf)] w (WP b 16777000 (PK.eachO (PK.head o p) p.codes (fun o c => PK.nm o 1 c)) w) := by
  obtain ⟨w0, k0, hb0⟩ := boxed h p vc vp vw vs vf
  have hne : w.heap.size ≠ b := by have := h.lt; omega
  have hp0 : PkIn b (w.alloc (.cells (pkCells p vc vp vw vs vf) 45)) p vc vp vw vs vf := hp.below k0.1
  obtain ⟨A, cap, rfl , hrr⟩ := hp.codes
  have hmf : ∀ (fn : Fn) (first cap : Array Value) (w : World), (Instr.makeFunc fn first cap).run Tryz.prog w = .ok (.func fn first cap) w := fun _ _ _ _ => rfl
  have C1 := Lib.hid (whead_any b 0 o p _ _ _ _ _ _ w0 (by omega) hp0)
  have C2 : Hid (∀ W, Kp b w W → WO b (0 + 1 + 1) (PK.head o p) W → Calls Tryz.prog 57 #[.pointer (some ⟨b, 0, none⟩), .slice A p.codes.length cap, .func (.func 49) #[.pointer (some ⟨b, 0, none⟩)] #[]] W (WP b (0 + 1 + 1 + 200) (PK.eachO (PK.head o p) p.codes (fun o c => PK.nm o 1 c)) W)) := fun W hW hO => weachc_any b (0 + 1 + 1) _ A cap p.codes W hO (by omega) (fun W' h' => hrr W' (hW.1.trans h')) hp.fine.codes
  have e1 : (p.kind == 1) = false := kind_eq hk (by decide)
  have e2 : (p.kind == 2) = false := kind_eq hk (by decide)
  have e3 : (p.kind == 3) = false := kind_eq hk (by decide)
  have e8 : (p.kind == 8) = false := kind_eq hk (by decide)
  have e10 : (p.kind == 10) = false := kind_eq hk (by decide)
  have e9 : (p.kind == 9) = true := kind_eq hk (by decide)
  have e11 : (p.kind == 11) = false := kind_eq hk (by decide)
  have e4 : (p.kind == 4) = false := kind_eq hk (by decide)
  have e5 : (p.kind == 5) = false := kind_eq hk (by decide)
  have e6 : (p.kind == 6) = false := kind_eq hk (by decide)
  have e7 : (p.kind == 7) = false := kind_eq hk (by decide)
  have e14 : (p.kind == 14) = false := kind_eq hk (by decide)
  have e15 : (p.kind == 15) = false := kind_eq hk (by decide)
  have K0 := Lib.hid k0
  have B0 := Lib.hid hb0
  have O0 := Lib.hid w0
  obtain ⟨q0, -⟩ := pk_cells hb0
  generalize PK.eachO (PK.head o p) p.codes (fun o c => PK.nm o 1 c) = oe at *
  generalize PK.head o p = o1 at *
  clear h hp hp0 w0 k0 hb0 hk hrr
  go_enter Tryz.func26, Tryz.ntmps26
  go_wp2_with (refine wpl_load_pk (by rfl) (.tmp 3) (by rfl) w.heap.size (by rfl) B0.out ?_)
  refine (C1.out).mono ?_
  rintro e w1 ⟨rfl, hw, hk1⟩
  have K1 : Hid (Kp b w w1) := K0.out.trans hk1
  have O1 := Lib.hid hw
  have B1 := Lib.hid (boxed_kept hk1 hne B0.out)
  clear hw hk1
  clear q0 C1
  obtain ⟨-, -, -, -, -, -, -, -, r8, -⟩ := pk_cells B1.out
  go_wp2_with fail
  refine (C2.out _ K1.out O1.out).mono ?_
  rintro e w2 ⟨rfl, hw, hk2⟩
  have K2 : Hid (Kp b w w2) := K1.out.trans hk2
  have O2 := Lib.hid hw
  have B2 := Lib.hid (boxed_kept hk2 hne B1.out)
  clear hw hk2
  go_wp2
  go_end0
  exact ⟨rfl, O2.out.mono (by omega), K2.out⟩
set_option maxRecDepth 100000 in
set_option maxHeartbeats 4000000 in
theorem wparts_11 (b : Nat) (o : ByteArray × Int) (p : Pk) (vc vp vw vs vf : Value) (w : World) (h : WO b 0 o w) (hp : PkIn b w p vc vp vw vs vf) (hk : p.kind = 11) :
    Calls Tryz.prog 26 #[.pointer (some ⟨b, 0, none⟩), .agg (pkCells p vc vp vw vs vf)] w (WP b 16777000 (PK.eachO (PK.head o p) p.codes (fun o c => PK.nm o 1 c)) w) := by
  obtain ⟨w0, k0, hb0⟩ := boxed h p vc vp vw vs vf
  have hne : w.heap.size ≠ b := by have := h.lt; omega
  have hp0 : PkIn b (w.alloc (.cells (pkCells p vc vp vw vs vf) 45)) p vc vp vw vs vf := hp.below k0.1
  obtain ⟨A, cap, rfl , hrr⟩ := hp.codes
  have hmf : ∀ (fn : Fn) (first cap : Array Value) (w : World), (Instr.makeFunc fn first cap).run Tryz.prog w = .ok (.func fn first cap) w := fun _ _ _ _ => rfl
  have C1 := Lib.hid (whead_any b 0 o p _ _ _ _ _ _ w0 (by omega) hp0)
  have C2 : Hid (∀ W, Kp b w W → WO b (0 + 1 + 1) (PK.head o p) W → Calls Tryz.prog 57 #[.pointer (some ⟨b, 0, none⟩), .slice A p.codes.length cap, .func (.func 49) #[.pointer (some ⟨b, 0, none⟩)] #[]] W (WP b (0 + 1 + 1 + 200) (PK.eachO (PK.head o p) p.codes (fun o c => PK.nm o 1 c)) W)) := fun W hW hO => weachc_any b (0 + 1 + 1) _ A cap p.codes W hO (by omega) (fun W' h' => hrr W' (hW.1.trans h')) hp.fine.codes
  have e1 : (p.kind == 1) = false := kind_eq hk (by decide)
  have e2 : (p.kind == 2) = false := kind_eq hk (by decide)
  have e3 : (p.kind == 3) = false := kind_eq hk (by decide)
  have e8 : (p.kind == 8) = false := kind_eq hk (by decide)
  have e10 : (p.kind == 10) = false := kind_eq hk (by decide)
  have e9 : (p.kind == 9) = false := kind_eq hk (by decide)
  have e11 : (p.kind == 11) = true := kind_eq hk (by decide)
  have e4 : (p.kind == 4) = false := kind_eq hk (by decide)
  have e5 : (p.kind == 5) = false := kind_eq hk (by decide)
  have e6 : (p.kind == 6) = false := kind_eq hk (by decide)
  have e7 : (p.kind == 7) = false := kind_eq hk (by decide)
  have e14 : (p.kind == 14) = false := kind_eq hk (by decide)
  have e15 : (p.kind == 15) = false := kind_eq hk (by decide)
  have K0 := Lib.hid k0
  have B0 := Lib.hid hb0
  have O0 := Lib.hid w0
  obtain ⟨q0, -⟩ := pk_cells hb0
  generalize PK.eachO (PK.head o p) p.codes (fun o c => PK.nm o 1 c) = oe at *
  generalize PK.head o p = o1 at *
  clear h hp hp0 w0 k0 hb0 hk hrr
  go_enter Tryz.func26, Tryz.ntmps26
  go_wp2_with (refine wpl_load_pk (by rfl) (.tmp 3) (by rfl) w.heap.size (by rfl) B0.out ?_)
  refine (C1.out).mono ?_
  rintro e w1 ⟨rfl, hw, hk1⟩
  have K1 : Hid (Kp b w w1) := K0.out.trans hk1
  have O1 := Lib.hid hw
  have B1 := Lib.hid (boxed_kept hk1 hne B0.out)
  clear hw hk1
  clear q0 C1
  obtain ⟨-, -, -, -, -, -, -, -, r8, -⟩ := pk_cells B1.out
  go_wp2_with fail
  refine (C2.out _ K1.out O1.out).mono ?_
  rintro e w2 ⟨rfl, hw, hk2⟩
  have K2 : Hid (Kp b w w2) := K1.out.trans hk2
  have O2 := Lib.hid hw
  have B2 := Lib.hid (boxed_kept hk2 hne B1.out)
  clear hw hk2
  go_wp2
  go_end0
  exact ⟨rfl, O2.out.mono (by omega), K2.out⟩
set_option maxRecDepth 100000 in
set_option maxHeartbeats 4000000 in
theorem wparts_no (b : Nat) (o : ByteArray × Int) (p : Pk) (vc vp vw vs vf : Value) (w : World) (h : WO b 0 o w) (hk : ∀ m : Int, m = 1 ∨ m = 2 ∨ m = 3 ∨ m = 8 ∨ m = 10 ∨ m = 9 ∨ m = 11 ∨ m = 4 ∨ m = 5 ∨ m = 6 ∨ m = 7 ∨ m = 14 ∨ m = 15 → p.kind ≠ m) :
    Calls Tryz.prog 26 #[.pointer (some ⟨b, 0, none⟩), .agg (pkCells p vc vp vw vs vf)] w (WP b 16777000 o w) := by
  obtain ⟨w0, k0, hb0⟩ := boxed h p vc vp vw vs vf
  have e1 : (p.kind == 1) = false := by rw [beq_eq_false_iff_ne]; exact hk 1 (by decide)
  have e2 : (p.kind == 2) = false := by rw [beq_eq_false_iff_ne]; exact hk 2 (by decide)
  have e3 : (p.kind == 3) = false := by rw [beq_eq_false_iff_ne]; exact hk 3 (by decide)
  have e8 : (p.kind == 8) = false := by rw [beq_eq_false_iff_ne]; exact hk 8 (by decide)
  have e10 : (p.kind == 10) = false := by rw [beq_eq_false_iff_ne]; exact hk 10 (by decide)
  have e9 : (p.kind == 9) = false := by rw [beq_eq_false_iff_ne]; exact hk 9 (by decide)
  have e11 : (p.kind == 11) = false := by rw [beq_eq_false_iff_ne]; exact hk 11 (by decide)
  have e4 : (p.kind == 4) = false := by rw [beq_eq_false_iff_ne]; exact hk 4 (by decide)
  have e5 : (p.kind == 5) = false := by rw [beq_eq_false_iff_ne]; exact hk 5 (by decide)
  have e6 : (p.kind == 6) = false := by rw [beq_eq_false_iff_ne]; exact hk 6 (by decide)
  have e7 : (p.kind == 7) = false := by rw [beq_eq_false_iff_ne]; exact hk 7 (by decide)
  have e14 : (p.kind == 14) = false := by rw [beq_eq_false_iff_ne]; exact hk 14 (by decide)
  have e15 : (p.kind == 15) = false := by rw [beq_eq_false_iff_ne]; exact hk 15 (by decide)
  have K0 := Lib.hid k0
  have B0 := Lib.hid hb0
  have O0 := Lib.hid w0
  obtain ⟨q0, -⟩ := pk_cells hb0
  clear h w0 k0 hb0 hk
  go_enter Tryz.func26, Tryz.ntmps26
  go_wp2
  go_end0
  exact ⟨rfl, O0.out.mono (by omega), K0.out⟩
theorem wparts_any (b : Nat) (o : ByteArray × Int) (p : Pk) (vc vp vw vs vf : Value) (w : World) (h : WO b 0 o w) (hp : PkIn b w p vc vp vw vs vf) :
    Calls Tryz.prog 26 #[.pointer (some ⟨b, 0, none⟩), .agg (pkCells p vc vp vw vs vf)] w (WP b 16777000 (PK.parts o p) w) := by
  unfold PK.parts
  by_cases h1 : p.kind = 1
  · rw [if_pos h1]; exact wparts_1 b o p _ _ _ _ _ w h hp h1
  · rw [if_neg h1]
    by_cases h2 : p.kind = 2
    · rw [if_pos h2]; exact wparts_2 b o p _ _ _ _ _ w h hp h2
    · rw [if_neg h2]
      by_cases h3 : p.kind = 3
      · rw [if_pos h3]; exact wparts_3 b o p _ _ _ _ _ w h hp h3
      · rw [if_neg h3]
        by_cases h8 : p.kind = 8
        · rw [if_pos h8]; exact wparts_8 b o p _ _ _ _ _ w h hp h8
        · rw [if_neg h8]
          by_cases h10 : p.kind = 10
          · rw [if_pos h10]; exact wparts_10 b o p _ _ _ _ _ w h hp h10
          · rw [if_neg h10]
            by_cases h9 : p.kind = 9 ∨ p.kind = 11
            · rw [if_pos h9]
              rcases h9 with h9 | h9
              · exact wparts_9 b o p _ _ _ _ _ w h hp h9
              · exact wparts_11 b o p _ _ _ _ _ w h hp h9
            · rw [if_neg h9]
              by_cases h4 : p.kind = 4 ∨ p.kind = 5 ∨ p.kind = 6 ∨ p.kind = 7
              · rw [if_pos h4]
                rcases h4 with h4 | h4 | h4 | h4
                · exact wparts_4 b o p _ _ _ _ _ w h hp h4
                · exact wparts_5 b o p _ _ _ _ _ w h hp h4
                · exact wparts_6 b o p _ _ _ _ _ w h hp h4
                · exact wparts_7 b o p _ _ _ _ _ w h hp h4
              · rw [if_neg h4]
                by_cases h14 : p.kind = 14 ∨ p.kind = 15
                · rw [if_pos h14]
                  rcases h14 with h14 | h14
                  · exact wparts_14 b o p _ _ _ _ _ w h hp h14
                  · exact wparts_15 b o p _ _ _ _ _ w h hp h14
                · rw [if_neg h14]
                  exact wparts_no b o p _ _ _ _ _ w h (fun m hm he => by omega)
end Go.Proofs.YtemfcaaoobjgkaaGreatDoor
namespace Go.Proofs.YtemfcaaoobjgkaaGreatDoor
open Go.RowKit
attribute [local go_sem ↓] Go.wp_at_zero Go.wp_at_succ

theorem PkIn.lift {a b : Nat} {w w' : World} {p : Pk} {vc vp vw vs vf : Value} (h : PkIn a w p vc vp vw vs vf) (hab : a ≤ b) (hb : Below a w w') : PkIn b w' p vc vp vw vs vf where
  fine := h.fine
  tabs := fun W hW => h.tabs W (hb.trans (hW.mono hab))
  props := by obtain ⟨A, c, h1, h2⟩ := h.props; exact ⟨A, c, h1, fun W hW => h2 W (hb.trans (hW.mono hab))⟩
  wprops := by obtain ⟨A, c, h1, h2⟩ := h.wprops; exact ⟨A, c, h1, fun W hW => h2 W (hb.trans (hW.mono hab))⟩
  codes := by obtain ⟨A, c, h1, h2⟩ := h.codes; exact ⟨A, c, h1, fun W hW => h2 W (hb.trans (hW.mono hab))⟩
  subs := by obtain ⟨A, c, h1, h2⟩ := h.subs; exact ⟨A, c, h1, fun W hW => h2 W (hb.trans (hW.mono hab))⟩
  filters := by obtain ⟨A, c, h1, h2⟩ := h.filters; exact ⟨A, c, h1, fun W hW => h2 W (hb.trans (hW.mono hab))⟩
namespace PK
theorem isK_is (k : Int) : isK k = true ↔ ¬ (k < 1 ∨ 15 < k) := by
  unfold isK; simp only [Bool.and_eq_true, decide_eq_true_eq]; omega
section
variable {o : ByteArray × Int} (h : o.2 ≠ 0)
include h
theorem tx_bad (s : ByteArray) : tx o s = o := ad_bad h _ _
theorem dt_bad (s : ByteArray) : dt o s = o := ad_bad h _ _
theorem pr_bad (k : Int) (l : List Pr) : pr o k l = o := by unfold pr; rw [ad_bad h, rf_bad h]; split <;> rfl
theorem idd_bad (n : Int) : idd o n = o := by unfold idd; rw [rf_bad h, ite_self, nm_bad h]
theorem sub_bad (s : Sb) : sub o s = o := by unfold sub; rw [tx_bad h, nm_bad h, rf_bad h]; split <;> rfl
theorem head_bad (p : Pk) : head o p = o := by unfold head; rw [idd_bad h, pr_bad h]
theorem ending_bad (p : Pk) : ending o p = o := by unfold ending; rw [nm_bad h, pr_bad h]; split <;> (try split) <;> rfl
omit h in
theorem fold_bad {α : Type} (f : ByteArray × Int → α → ByteArray × Int) (hf : ∀ x, f o x = o) (l : List α) : l.foldl f o = o := by
  induction l with
  | nil => rfl
  | cons a l ih => rw [List.foldl_cons, hf, ih]
theorem eachO_bad {α : Type} (f : ByteArray × Int → α → ByteArray × Int) (hf : ∀ x, f o x = o) (l : List α) : eachO o l f = o := by
  unfold eachO; rw [rf_bad h, rf_bad h, fold_bad f hf]; split <;> (try split) <;> rfl
theorem cflags_bad (p : Pk) : cflags o p = o := by unfold cflags; rw [rf_bad h, nm_bad h]; split <;> rfl
theorem conn_bad (p : Pk) : conn o p = o := by
  unfold conn conn1
  rw [tx_bad h, nm_bad h, cflags_bad h, nm_bad h, pr_bad h, tx_bad h]
  unfold conn2
  rw [pr_bad h, tx_bad h, dt_bad h, ite_self]
  unfold conn3
  rw [tx_bad h, ite_self]
  unfold conn4
  rw [dt_bad h, ite_self]
theorem pub_bad (p : Pk) : pub o p = o := by
  unfold pub pub1
  rw [tx_bad h, idd_bad h, ite_self, pr_bad h, ad_bad h]
theorem parts_bad (p : Pk) : parts o p = o := by
  unfold parts
  rw [conn_bad h, nm_bad h, nm_bad h, pr_bad h, pub_bad h, head_bad h, eachO_bad h _ (sub_bad h), eachO_bad h _ (tx_bad h), eachO_bad h _ (fun c => nm_bad h 1 c), idd_bad h, ending_bad h]
  repeat' split
  all_goals rfl
end
theorem flagsN_le {p : Pk} (h : (flagsO p).2 = 0) : 0 ≤ flagsN p ∧ flagsN p ≤ 15 := by
  unfold flagsO at h
  unfold flagsN
  by_cases h3 : p.kind = 3
  · rw [if_pos h3]
    have hc : canPub p = true := by
      by_cases hc : canPub p = true
      · exact hc
      · rw [if_pos ⟨h3, by simpa using hc⟩] at h; exact absurd h (by decide)
    unfold canPub isQ at hc
    simp only [Bool.and_eq_true, decide_eq_true_eq] at hc
    have f1 : 0 ≤ fl p.dup 8 ∧ fl p.dup 8 ≤ 8 := by unfold fl; split <;> decide
    have f2 : 0 ≤ fl p.ret 1 ∧ fl p.ret 1 ≤ 1 := by unfold fl; split <;> decide
    omega
  · rw [if_neg h3]; split <;> decide
end PK
theorem first_or {k f : Int} (hk : 0 ≤ k ∧ k ≤ 15) (hf : 0 ≤ f ∧ f ≤ 15) : bits .or .i64 (k * 16) f = 16 * k + f := by
  have h : ∀ a b : Fin 16, bits .or .i64 ((a.val : Int) * 16) (b.val : Int) = 16 * (a.val : Int) + (b.val : Int) := by decide +kernel
  have := h ⟨k.toNat, by omega⟩ ⟨f.toNat, by omega⟩
  simp only at this
  rwa [show ((k.toNat : Nat) : Int) = k by omega, show ((f.toNat : Nat) : Int) = f by omega] at this

set_option maxRecDepth 100000 in
set_option maxHeartbeats 8000000 in
theorem pput_any (p : Pk) (vc vp vw vs vf : Value) (w : World) (hp : PkIn w.heap.size w p vc vp vw vs vf) :
    Calls Tryz.prog 13 #[.agg (pkCells p vc vp vw vs vf)] w fun e w' => e = .returned (.tuple #[.string (PK.putS p), .int .u8 (PK.putC p)]) ∧ Below w.heap.size w w' := by
  have hal := (Below.refl w.heap.size w).alloc (Nat.le_refl _) (.cells (pkCells p vc vp vw vs vf) 45)
  have hb0 : (w.alloc (.cells (pkCells p vc vp vw vs vf) 45)).heap[w.heap.size]? = some (.cells (pkCells p vc vp vw vs vf) 45 (0, 0)) := heap_alloc_new w _
  have hs1 : w.heap.size + 1 = (w.alloc (.cells (pkCells p vc vp vw vs vf) 45)).heap.size := by simp
  obtain ⟨q0, -⟩ := pk_cells hb0
  have CK := Lib.hid iskind_any
  have Hal := Lib.hid hal
  have HE1 : Hid (PK.putC p = if p.kind < 1 ∨ 15 < p.kind then 129 else if (PK.bodyO p).2 ≠ 0 then (PK.bodyO p).2 else if 65536 < (PK.bodyO p).1.size then 149 else 0) := rfl
  have HE2 : Hid (PK.putS p = if PK.putC p ≠ 0 then ⟨#[]⟩ else strOfNums (VP.fixL 1 (16 * p.kind + PK.flagsN p)) ++ strOfNums (VP.putL (PK.bodyO p).1.size) ++ (PK.bodyO p).1) := rfl
  by_cases hk : PK.isK p.kind = true
  · have hk' := (PK.isK_is _).1 hk
    have hk1 : 1 ≤ p.kind := by omega
    have hk2 : p.kind ≤ 15 := by omega
    have E1 : Hid (PK.putC p = if (PK.bodyO p).2 ≠ 0 then (PK.bodyO p).2 else if 65536 < (PK.bodyO p).1.size then 149 else 0) := Lib.hid (by rw [HE1.out, if_neg hk'])
    have HK := Lib.hid hk
    clear HE1 hk hk'
    have hb1 : ((w.alloc (.cells (pkCells p vc vp vw vs vf) 45)).alloc (.cells #[.pointer none, .slice none 0 0, .int .u8 0] 87)).heap[w.heap.size]? = some (.cells (pkCells p vc vp vw vs vf) 45 (0, 0)) := (Below.heap_alloc _ _ _ (by rw [← hs1]; omega)).trans hb0
    have hal2 := (Below.refl (w.heap.size + 1) (w.alloc (.cells (pkCells p vc vp vw vs vf) 45))).alloc (Nat.le_of_eq hs1) (.cells #[.pointer none, .slice none 0 0, .int .u8 0] 87)
    have hwr := Wr.new (w.alloc (.cells (pkCells p vc vp vw vs vf) 45))
    rw [← hs1] at hwr
    have hwo : WO (w.heap.size + 1) 0 (⟨#[]⟩, 0) ((w.alloc (.cells (pkCells p vc vp vw vs vf) 45)).alloc (.cells #[.pointer none, .slice none 0 0, .int .u8 0] 87)) := ⟨[], hwr, Nat.zero_le _, fun _ => rfl, Int.le_refl 0, (by decide : (0 : Int) ≤ 255)⟩
    have hB1 : Below w.heap.size w ((w.alloc (.cells (pkCells p vc vp vw vs vf) 45)).alloc (.cells #[.pointer none, .slice none 0 0, .int .u8 0] 87)) := hal.trans (hal2.mono (Nat.le_succ _))
    have hp1 := hp.lift (Nat.le_succ _) hB1
    have C1 := Lib.hid (wflags_any (w.heap.size + 1) p vc vp vw vs vf _ hwo hp.fine)
    have HB1 := Lib.hid hB1
    have HP1 := Lib.hid hp1
    have HX1 := Lib.hid hb1
    have hne : w.heap.size ≠ w.heap.size + 1 := by omega
    clear hp hal hb0 hs1 hb1 hal2 hwr hwo hB1 hp1
    go_enter Tryz.func13, Tryz.ntmps13
    go_wp2_with fail
    refine (CK.out _ _).mono ?_
    rintro e w' ⟨rfl, rfl⟩
    rw [HK.out]
    go_wp2_with (refine wpl_load_pk (by rfl) (.tmp 1) (by rfl) w.heap.size (by rfl) HX1.out ?_)
    generalize (w.alloc (.cells (pkCells p vc vp vw vs vf) 45)).alloc (.cells #[.pointer none, .slice none 0 0, .int .u8 0] 87) = W1 at *
    refine C1.out.mono ?_
    rintro e w2 ⟨v, rfl, hv, hv64, ho2, hk2_⟩
    have HX2 := Lib.hid (boxed_kept hk2_ hne HX1.out)
    have HB2 : Hid (Below w.heap.size w w2) := HB1.out.trans (hk2_.1.mono (Nat.le_succ _))
    have C2 := Lib.hid (wparts_any (w.heap.size + 1) (PK.flagsO p) p vc vp vw vs vf w2 ho2 (HP1.out.below hk2_.1))
    have HV := Lib.hid hv
    have HV64 := Lib.hid hv64
    have EB : Hid (PK.bodyO p = PK.parts (PK.flagsO p) p) := rfl
    have EF : Hid ((PK.bodyO p).2 = 0 → (PK.flagsO p).2 = 0) := Lib.hid (fun h => by
      by_cases hf : (PK.flagsO p).2 = 0
      · exact hf
      · unfold PK.bodyO at h; rw [PK.parts_bad hf] at h; exact h)
    rw [← EB.out] at C2
    clear hv hv64 ho2 hk2_ C1 CK q0
    go_wp2_with (refine wpl_load_pk (by rfl) (.tmp 1) (by rfl) w.heap.size (by rfl) HX2.out ?_)
    refine C2.out.mono ?_
    rintro e w3 ⟨rfl, ⟨l, hw3, hl3, hl3', hc3⟩, hk3⟩
    have HX3 := Lib.hid (boxed_kept hk3 hne HX2.out)
    have HB3 : Hid (Below w.heap.size w w3) := HB2.out.trans (hk3.1.mono (Nat.le_succ _))
    obtain ⟨q2, -⟩ := code_cell hw3
    have HW3 := Lib.hid hw3
    have HL3 := Lib.hid hl3'
    clear hk3 C2 hw3 hl3' EB
    by_cases hc : (PK.bodyO p).2 = 0
    · have e0 : ((PK.bodyO p).2 != 0) = false := by simp [hc]
      have hvv : v = PK.flagsN p := HV.out (EF.out hc)
      have hfl := PK.flagsN_le (EF.out hc)
      rw [← hvv] at hfl
      have hbd : (⟨l.toArray⟩ : ByteArray) = (PK.bodyO p).1 := HL3.out hc
      have hln : l.length = (PK.bodyO p).1.size := by rw [← hbd]; simp [ByteArray.size]
      have CL := Lib.hid (wlen_any _ _ _ w3 HW3.out)
      have hf0 := hfl.1; have hf1 := hfl.2
      by_cases h65 : 65536 < (PK.bodyO p).1.size
      · have i65 : (65536 : Int) < (l.length : Int) := by omega
        have F1 : Hid (PK.putC p = 149) := Lib.hid (by rw [E1.out, if_neg (by simp [hc]), if_pos h65])
        have F2 : Hid (PK.putS p = ⟨#[]⟩) := Lib.hid (by rw [HE2.out, if_pos (by rw [F1.out]; decide)])
        clear E1 HE2 hc EF HL3 hvv hbd hln h65 HV hfl
        go_wp2_with fail
        refine CL.out.mono ?_
        rintro e w' ⟨rfl, rfl⟩
        go_wp2
        go_ret2
        exact ⟨by rw [F1.out, F2.out]; rfl, HB3.out⟩
      · have i65 : ¬ (65536 : Int) < (l.length : Int) := by omega
        have F1 : Hid (PK.putC p = 0) := Lib.hid (by rw [E1.out, if_neg (by simp [hc]), if_neg h65])
        have F2 : Hid (PK.putS p = strOfNums (VP.fixL 1 (bits .or .i64 (p.kind * 16) v)) ++ strOfNums (VP.putL (l.length : Int)) ++ ⟨l.toArray⟩) := Lib.hid (by rw [HE2.out, if_neg (by simp [F1.out]), hbd, hln, first_or ⟨by omega, hk2⟩ hfl, hvv])
        have hX := first_or (k := p.kind) (f := v) ⟨by omega, hk2⟩ hfl
        have C4 : Hid (Calls Tryz.prog 28 #[.int .i64 1, .int .i64 (bits .or .i64 (p.kind * 16) v)] w3 fun e w' => e = .returned (.tuple #[.string (strOfNums (VP.fixL 1 (bits .or .i64 (p.kind * 16) v))), .int .u8 (VP.fixC 1 (bits .or .i64 (p.kind * 16) v))]) ∧ Below w3.heap.size w3 w') := Lib.hid (fixed_any 1 _ (by rw [hX]; omega) (by rw [hX]; omega) w3)
        have C5 := Lib.hid (put_any (l.length : Int))
        have CS : Hid (∀ W, Below w3.heap.size w3 W → Calls Tryz.prog 15 #[.pointer (some ⟨w.heap.size + 1, 0, none⟩)] W fun e w' => e = .returned (.string ⟨l.toArray⟩) ∧ Below (w.heap.size + 1) W w') := fun W hW => wstring_any _ l _ W (HW3.out.below hW)
        have CL2 : Hid (∀ W, Below w3.heap.size w3 W → Calls Tryz.prog 27 #[.pointer (some ⟨w.heap.size + 1, 0, none⟩)] W fun e w' => e = .returned (.int .i64 l.length) ∧ W = w') := fun W hW => wlen_any _ l _ W (HW3.out.below hW)
        obtain ⟨q30, -⟩ := pk_cells HX3.out
        have zf := fix_size 1 (bits .or .i64 (p.kind * 16) v)
        have zp : (strOfNums (VP.putL (l.length : Int))).size ≤ 4 := by rw [strOfNums_size]; exact PR.putL_len _
        have HX := Lib.hid hX
        have hl65 : l.length ≤ 65536 := by omega
        have hll : (⟨l.toArray⟩ : ByteArray).size = l.length := by simp [ByteArray.size]
        have Hll := Lib.hid hll
        clear E1 HE2 hc EF HL3 hvv hbd hln h65 HV hfl hX hll
        go_wp2_with fail
        refine CL.out.mono ?_
        rintro e w' ⟨rfl, rfl⟩
        go_wp2_with fail
        refine C4.out.mono ?_
        rintro e w4 ⟨rfl, b4⟩
        have D4 := Lib.hid (CL2.out w4 b4)
        have B4 := Lib.hid b4
        clear b4 C4 CL
        go_wp2_with fail
        refine D4.out.mono ?_
        rintro e w' ⟨rfl, rfl⟩
        go_wp2_with fail
        refine (C5.out _).mono ?_
        rintro e w5 ⟨rfl, b5⟩
        have B5 : Hid (Below w3.heap.size w3 w5) := B4.out.trans (b5.mono B4.out.size)
        have D5 := Lib.hid (CS.out w5 B5.out)
        clear b5 C5 CS CL2 D4
        go_wp2_with fail
        refine D5.out.mono ?_
        rintro e w6 ⟨rfl, b6⟩
        have B6 : Hid (Below w.heap.size w w6) := (HB3.out.trans (B5.out.mono HB3.out.size)).trans (b6.mono (Nat.le_succ _))
        clear b6 D5
        go_wp2
        go_ret2
        exact ⟨by rw [F1.out, F2.out]; rfl, B6.out⟩
    · have e0 : ((PK.bodyO p).2 != 0) = true := by rw [bne_iff_ne]; exact hc
      have F1 : Hid (PK.putC p = (PK.bodyO p).2) := Lib.hid (by rw [E1.out, if_pos hc])
      have F2 : Hid (PK.putS p = ⟨#[]⟩) := Lib.hid (by rw [HE2.out, if_pos (by rw [F1.out]; exact hc)])
      clear E1 HE2 hc EF HL3
      go_wp2_with fail
      go_quiet (fail)
      go_wp2
      go_ret2
      exact ⟨by rw [F1.out, F2.out]; rfl, HB3.out.trans (drewN_below _ _ _)⟩
  · have hk' : p.kind < 1 ∨ 15 < p.kind := by
      by_cases h : p.kind < 1 ∨ 15 < p.kind
      · exact h
      · exact absurd ((PK.isK_is _).2 h) hk
    have E1 : Hid (PK.putC p = 129) := Lib.hid (by rw [HE1.out, if_pos hk'])
    have E2 : Hid (PK.putS p = ⟨#[]⟩) := Lib.hid (by rw [HE2.out, if_pos (by rw [E1.out]; decide)])
    have HK : Hid (PK.isK p.kind = false) := Lib.hid (by simpa using hk)
    generalize PK.putS p = S at *
    generalize PK.putC p = c at *
    clear HE1 HE2 hk hk' hp hal hb0 hs1
    go_enter Tryz.func13, Tryz.ntmps13
    go_wp2_with fail
    refine (CK.out _ _).mono ?_
    rintro e w' ⟨rfl, rfl⟩
    rw [HK.out]
    go_wp2
    go_ret2
    exact ⟨by rw [E1.out, E2.out]; rfl, Hal.out⟩
end Go.Proofs.YtemfcaaoobjgkaaGreatDoor
namespace Go.Proofs.YtemfcaaoobjgkaaGreatDoor
open Go.RowKit
attribute [local go_sem ↓] Go.wp_at_zero Go.wp_at_succ

/-- What a reader leaves with. -/
def leftBy (c : Int) : Ending := .panicked [{ v := .iface 136 (.agg #[.int .u8 c]), recovered := false }]
/-- All but the reader's block stands. -/
def Gr (r : Nat) (w w' : World) : Prop := w.grownBy w' (some r)
theorem Gr.refl (r : Nat) (w : World) : Gr r w w := ⟨rfl, rfl, rfl, Nat.le_refl _, fun _ _ _ => rfl⟩
theorem Gr.trans {r : Nat} {w1 w2 w3 : World} (h : Gr r w1 w2) (k : Gr r w2 w3) : Gr r w1 w3 :=
  ⟨k.os.trans h.os, k.tape.trans h.tape, k.output.trans h.output, Nat.le_trans h.size k.size, fun i hi hne => (k.block i (Nat.lt_of_lt_of_le hi h.size) hne).trans (h.block i hi hne)⟩
theorem Gr.of_below {r : Nat} {w w' : World} (h : Below w.heap.size w w') : Gr r w w' := ⟨h.os, h.tape, h.output, h.size, fun i hi _ => h.block i hi⟩
theorem Gr.of_drew {r : Nat} {w w' : World} (h : Gr r w.drew w') : Gr r w w' := ⟨h.os, h.tape, h.output, h.size, h.block⟩
theorem Gr.setCell {r : Nat} {w w' : World} (h : Gr r w w') (j : Nat) (u : Value) : Gr r w (w'.setCell ⟨r, j, none⟩ u) :=
  h.trans ⟨rfl, rfl, rfl, by simp [World.setCell], fun i _ hi => Below.heap_setCell _ _ _ _ (fun e => hi (by simp [e]))⟩
/-- The reader in block r stands at a place of s. -/
def RdAt (r : Nat) (s : ByteArray) (a : Int) (w : World) : Prop := w.heap[r]? = some (.cells #[.string s, .int .i64 a] 102 (0, 0))
theorem RdAt.below {r : Nat} {s : ByteArray} {a : Int} {w w' : World} (h : RdAt r s a w) (hb : Below w.heap.size w w') : RdAt r s a w' := (hb.block r (lt_heap h)).trans h
/-- What a method of the reader answers: a value, and the place behind; or it leaves with a code. -/
def RdP (r : Nat) (s : ByteArray) (w : World) (x : Value) (a c : Int) (e : Ending) (w' : World) : Prop :=
  (c = 0 → e = .returned x ∧ RdAt r s a w' ∧ Gr r w w') ∧ (c ≠ 0 → e = leftBy c ∧ Gr r w w')
/-- What isn't whole never will be. -/
def cm (c : Int) : Int := if c = 242 then 129 else c

theorem leave_any (c : Int) (w : World) : Calls Tryz.prog 67 #[.int .u8 c] w fun e w' => e = leftBy c ∧ w = w' := by
  unfold leftBy
  go_enter Tryz.func67, Tryz.ntmps67
  go_wp2
  exact ⟨rfl, rfl, rfl⟩
theorem ended_any (r : Nat) (s : ByteArray) (a : Int) (w : World) (h : RdAt r s a w) :
    Calls Tryz.prog 66 #[.pointer (some ⟨r, 0, none⟩)] w fun e w' => e = .returned (.bool (a == (s.size : Int))) ∧ Below w.heap.size w w' := by
  have q0 : w.cell? ⟨r, 0, none⟩ = some (.string s) := by rw [cell_heap h]; rfl
  have q1 : w.cell? ⟨r, 1, none⟩ = some (.int .i64 a) := by rw [cell_heap h]; rfl
  clear h
  go_enter Tryz.func66, Tryz.ntmps66
  go_wp2_with fail
  go_quiet (fail)
  go_wp2
  go_ret
  exact ⟨rfl, drewN_below _ _ _⟩
theorem move_any (r : Nat) (s : ByteArray) (a a' c : Int) (w : World) (h : RdAt r s a w) :
    Calls Tryz.prog 116 #[.pointer (some ⟨r, 0, none⟩), .int .i64 a', .int .u8 c] w (RdP r s w (.tuple #[]) a' (cm c)) := by
  have q1 : w.cell? ⟨r, 1, none⟩ = some (.int .i64 a) := by rw [cell_heap h]; rfl
  have f1 : w.frozen? ⟨r, 1, none⟩ = false := frozen_heap h
  have CL := Lib.hid leave_any
  by_cases h0 : c = 0
  · subst h0
    have H1 : Hid (RdAt r s a' (w.setCell ⟨r, 1, none⟩ (.int .i64 a'))) := Lib.hid (set_block h rfl)
    have H2 : Hid (Gr r w (w.setCell ⟨r, 1, none⟩ (.int .i64 a'))) := Lib.hid ((Gr.refl r w).setCell 1 _)
    clear h
    go_enter Tryz.func116, Tryz.ntmps116
    go_wp2
    go_end0
    exact ⟨fun _ => ⟨rfl, H1.out, H2.out⟩, fun h => absurd rfl h⟩
  · have e0 : (c == 0) = false := by rw [beq_eq_false_iff_ne]; exact h0
    by_cases h242 : c = 242
    · subst h242
      clear h q1 f1 h0
      go_enter Tryz.func116, Tryz.ntmps116
      go_wp2_with fail
      refine (CL.out _ _).mono ?_
      rintro e w' ⟨rfl, rfl⟩
      exact ⟨rfl, fun h => absurd h (by decide), fun _ => ⟨rfl, Gr.refl _ _⟩⟩
    · have e2 : (c == 242) = false := by rw [beq_eq_false_iff_ne]; exact h242
      have E : Hid (cm c = c) := Lib.hid (by unfold cm; rw [if_neg h242])
      have H0 := Lib.hid h0
      clear h q1 f1 h0 h242
      go_enter Tryz.func116, Tryz.ntmps116
      go_wp2_with fail
      refine (CL.out _ _).mono ?_
      rintro e w' ⟨rfl, rfl⟩
      exact ⟨rfl, fun h => absurd (E.out.symm.trans h) H0.out, fun _ => ⟨by rw [E.out]; rfl, Gr.refl _ _⟩⟩

set_option maxRecDepth 100000 in
set_option maxHeartbeats 2000000 in
theorem rnumber_any (r : Nat) (s : ByteArray) (a : Int) (wd : Int) (w : World) (h : RdAt r s a w) (hs : s.size ≤ 140737488351232) :
    Calls Tryz.prog 112 #[.pointer (some ⟨r, 0, none⟩), .int .i64 wd] w (RdP r s w (.int .i64 (VP.rd s a wd).1) (VP.rd s a wd).2.1 (cm (VP.rd s a wd).2.2)) := by
  have q0 : w.cell? ⟨r, 0, none⟩ = some (.string s) := by rw [cell_heap h]; rfl
  have q1 : w.cell? ⟨r, 1, none⟩ = some (.int .i64 a) := by rw [cell_heap h]; rfl
  have C1 := Lib.hid (fun W => (read_any s a wd (by unfold maxLen; omega) W).mono (fun e w' (h : _ ∧ W = w') => (⟨h.1, h.2 ▸ Below.refl _ _⟩ : _ ∧ Below W.heap.size W w')))
  have CM : Hid (∀ W a' c, RdAt r s a W → Calls Tryz.prog 116 #[.pointer (some ⟨r, 0, none⟩), .int .i64 a', .int .u8 c] W (RdP r s W (.tuple #[]) a' (cm c))) := fun W a' c hW => move_any r s a a' c W hW
  have HR := Lib.hid h
  have hlt := lt_heap h
  generalize VP.rd s a wd = X at *
  obtain ⟨x, a2, c⟩ := X
  simp only at C1 ⊢
  clear h
  by_cases hc : cm c = 0
  · have HC := Lib.hid hc
    clear hc
    go_enter Tryz.func112, Tryz.ntmps112
    go_wp2_with fail
    go_region_held3 (fun w' => w'.cell? ⟨r, 0, none⟩ = some (.string s) ∧ w'.cell? ⟨r, 1, none⟩ = some (.int .i64 a))
      (first | exact ⟨q0, q1⟩ | exact ⟨p0, p1⟩)
      (first
        | (go_at_call 131
           refine (C1.out _).mono ?_
           rintro e w1 ⟨rfl, b1⟩
           have hr1 : RdAt r s a w1 := (show RdAt r s a w.drew from HR.out).below b1
           have p0 : w1.cell? ⟨r, 0, none⟩ = some (.string s) := by rw [cell_heap hr1]; rfl
           have p1 : w1.cell? ⟨r, 1, none⟩ = some (.int .i64 a) := by rw [cell_heap hr1]; rfl))
    all_goals
      have D := Lib.hid (CM.out w1 a2 c hr1)
      have G1 : Hid (Gr r w w1) := Lib.hid (Gr.of_drew (Gr.of_below b1))
      clear b1 hr1 p0 p1 CM C1
      go_wp2_with fail
      refine D.out.mono ?_
      rintro e w2 hR
      obtain ⟨rfl, h2, g2⟩ := hR.1 HC.out
      have H2 := Lib.hid h2
      have G2 : Hid (Gr r w w2) := Lib.hid (G1.out.trans g2)
      clear hR h2 g2 D
      go_wp2
      go_ret
      exact ⟨fun _ => ⟨rfl, H2.out, G2.out⟩, fun h => absurd HC.out h⟩
  · have HC := Lib.hid hc
    clear hc
    go_enter Tryz.func112, Tryz.ntmps112
    go_wp2_with fail
    go_region_held3 (fun w' => w'.cell? ⟨r, 0, none⟩ = some (.string s) ∧ w'.cell? ⟨r, 1, none⟩ = some (.int .i64 a))
      (first | exact ⟨q0, q1⟩ | exact ⟨p0, p1⟩)
      (first
        | (go_at_call 131
           refine (C1.out _).mono ?_
           rintro e w1 ⟨rfl, b1⟩
           have hr1 : RdAt r s a w1 := (show RdAt r s a w.drew from HR.out).below b1
           have p0 : w1.cell? ⟨r, 0, none⟩ = some (.string s) := by rw [cell_heap hr1]; rfl
           have p1 : w1.cell? ⟨r, 1, none⟩ = some (.int .i64 a) := by rw [cell_heap hr1]; rfl))
    all_goals
      have D := Lib.hid (CM.out w1 a2 c hr1)
      have G1 : Hid (Gr r w w1) := Lib.hid (Gr.of_drew (Gr.of_below b1))
      clear b1 hr1 p0 p1 CM C1
      go_wp2_with fail
      refine D.out.mono ?_
      rintro e w2 hR
      obtain ⟨rfl, g2⟩ := hR.2 HC.out
      exact ⟨rfl, fun h => absurd h HC.out, fun _ => ⟨rfl, G1.out.trans g2⟩⟩

set_option maxRecDepth 100000 in
set_option maxHeartbeats 2000000 in
theorem rtext_any (r : Nat) (s : ByteArray) (a : Int) (w : World) (h : RdAt r s a w) (hs : s.size ≤ 140737488351232) (hT : Tabs w) :
    Calls Tryz.prog 95 #[.pointer (some ⟨r, 0, none⟩)] w (RdP r s w (.string (TX.getT s a).1) (TX.getT s a).2.1 (cm (TX.getT s a).2.2)) := by
  have q0 : w.cell? ⟨r, 0, none⟩ = some (.string s) := by rw [cell_heap h]; rfl
  have q1 : w.cell? ⟨r, 1, none⟩ = some (.int .i64 a) := by rw [cell_heap h]; rfl
  have C1 := Lib.hid (fun W (hW : Tabs W) => tget_any s a hs W hW)
  have CM : Hid (∀ W a' c, RdAt r s a W → Calls Tryz.prog 116 #[.pointer (some ⟨r, 0, none⟩), .int .i64 a', .int .u8 c] W (RdP r s W (.tuple #[]) a' (cm c))) := fun W a' c hW => move_any r s a a' c W hW
  have HR := Lib.hid h
  have HT := Lib.hid hT
  have hlt := lt_heap h
  generalize TX.getT s a = X at *
  obtain ⟨x, a2, c⟩ := X
  simp only at C1 ⊢
  clear h hT
  by_cases hc : cm c = 0
  · have HC := Lib.hid hc
    clear hc
    go_enter Tryz.func95, Tryz.ntmps95
    go_wp2_with fail
    go_region_held3 (fun w' => w'.cell? ⟨r, 0, none⟩ = some (.string s) ∧ w'.cell? ⟨r, 1, none⟩ = some (.int .i64 a))
      (first | exact ⟨q0, q1⟩ | exact ⟨p0, p1⟩)
      (first
        | (go_at_call 117
           refine (C1.out _ (show Tabs w.drew from HT.out)).mono ?_
           rintro e w1 ⟨rfl, b1⟩
           have hr1 : RdAt r s a w1 := (show RdAt r s a w.drew from HR.out).below b1
           have p0 : w1.cell? ⟨r, 0, none⟩ = some (.string s) := by rw [cell_heap hr1]; rfl
           have p1 : w1.cell? ⟨r, 1, none⟩ = some (.int .i64 a) := by rw [cell_heap hr1]; rfl))
    all_goals
      have D := Lib.hid (CM.out w1 a2 c hr1)
      have G1 : Hid (Gr r w w1) := Lib.hid (Gr.of_drew (Gr.of_below b1))
      clear b1 hr1 p0 p1 CM C1
      go_wp2_with fail
      refine D.out.mono ?_
      rintro e w2 hR
      obtain ⟨rfl, h2, g2⟩ := hR.1 HC.out
      have H2 := Lib.hid h2
      have G2 : Hid (Gr r w w2) := Lib.hid (G1.out.trans g2)
      clear hR h2 g2 D
      go_wp2
      go_ret
      exact ⟨fun _ => ⟨rfl, H2.out, G2.out⟩, fun h => absurd HC.out h⟩
  · have HC := Lib.hid hc
    clear hc
    go_enter Tryz.func95, Tryz.ntmps95
    go_wp2_with fail
    go_region_held3 (fun w' => w'.cell? ⟨r, 0, none⟩ = some (.string s) ∧ w'.cell? ⟨r, 1, none⟩ = some (.int .i64 a))
      (first | exact ⟨q0, q1⟩ | exact ⟨p0, p1⟩)
      (first
        | (go_at_call 117
           refine (C1.out _ (show Tabs w.drew from HT.out)).mono ?_
           rintro e w1 ⟨rfl, b1⟩
           have hr1 : RdAt r s a w1 := (show RdAt r s a w.drew from HR.out).below b1
           have p0 : w1.cell? ⟨r, 0, none⟩ = some (.string s) := by rw [cell_heap hr1]; rfl
           have p1 : w1.cell? ⟨r, 1, none⟩ = some (.int .i64 a) := by rw [cell_heap hr1]; rfl))
    all_goals
      have D := Lib.hid (CM.out w1 a2 c hr1)
      have G1 : Hid (Gr r w w1) := Lib.hid (Gr.of_drew (Gr.of_below b1))
      clear b1 hr1 p0 p1 CM C1
      go_wp2_with fail
      refine D.out.mono ?_
      rintro e w2 hR
      obtain ⟨rfl, g2⟩ := hR.2 HC.out
      exact ⟨rfl, fun h => absurd h HC.out, fun _ => ⟨rfl, G1.out.trans g2⟩⟩

set_option maxRecDepth 100000 in
set_option maxHeartbeats 2000000 in
theorem rdata_any (r : Nat) (s : ByteArray) (a : Int) (w : World) (h : RdAt r s a w) (hs : s.size ≤ 140737488351232) :
    Calls Tryz.prog 114 #[.pointer (some ⟨r, 0, none⟩)] w (RdP r s w (.string (VP.dat s a).1) (VP.dat s a).2.1 (cm (VP.dat s a).2.2)) := by
  have q0 : w.cell? ⟨r, 0, none⟩ = some (.string s) := by rw [cell_heap h]; rfl
  have q1 : w.cell? ⟨r, 1, none⟩ = some (.int .i64 a) := by rw [cell_heap h]; rfl
  have C1 := Lib.hid (fun W => getdata_any s a (by unfold maxLen; omega) W)
  have CM : Hid (∀ W a' c, RdAt r s a W → Calls Tryz.prog 116 #[.pointer (some ⟨r, 0, none⟩), .int .i64 a', .int .u8 c] W (RdP r s W (.tuple #[]) a' (cm c))) := fun W a' c hW => move_any r s a a' c W hW
  have HR := Lib.hid h
  have hlt := lt_heap h
  generalize VP.dat s a = X at *
  obtain ⟨x, a2, c⟩ := X
  simp only at C1 ⊢
  clear h
  by_cases hc : cm c = 0
  · have HC := Lib.hid hc
    clear hc
    go_enter Tryz.func114, Tryz.ntmps114
    go_wp2_with fail
    go_region_held3 (fun w' => w'.cell? ⟨r, 0, none⟩ = some (.string s) ∧ w'.cell? ⟨r, 1, none⟩ = some (.int .i64 a))
      (first | exact ⟨q0, q1⟩ | exact ⟨p0, p1⟩)
      (first
        | (go_at_call 132
           refine (C1.out _).mono ?_
           rintro e w1 ⟨rfl, b1⟩
           have hr1 : RdAt r s a w1 := (show RdAt r s a w.drew from HR.out).below b1
           have p0 : w1.cell? ⟨r, 0, none⟩ = some (.string s) := by rw [cell_heap hr1]; rfl
           have p1 : w1.cell? ⟨r, 1, none⟩ = some (.int .i64 a) := by rw [cell_heap hr1]; rfl))
    all_goals
      have D := Lib.hid (CM.out w1 a2 c hr1)
      have G1 : Hid (Gr r w w1) := Lib.hid (Gr.of_drew (Gr.of_below b1))
      clear b1 hr1 p0 p1 CM C1
      go_wp2_with fail
      refine D.out.mono ?_
      rintro e w2 hR
      obtain ⟨rfl, h2, g2⟩ := hR.1 HC.out
      have H2 := Lib.hid h2
      have G2 : Hid (Gr r w w2) := Lib.hid (G1.out.trans g2)
      clear hR h2 g2 D
      go_wp2
      go_ret
      exact ⟨fun _ => ⟨rfl, H2.out, G2.out⟩, fun h => absurd HC.out h⟩
  · have HC := Lib.hid hc
    clear hc
    go_enter Tryz.func114, Tryz.ntmps114
    go_wp2_with fail
    go_region_held3 (fun w' => w'.cell? ⟨r, 0, none⟩ = some (.string s) ∧ w'.cell? ⟨r, 1, none⟩ = some (.int .i64 a))
      (first | exact ⟨q0, q1⟩ | exact ⟨p0, p1⟩)
      (first
        | (go_at_call 132
           refine (C1.out _).mono ?_
           rintro e w1 ⟨rfl, b1⟩
           have hr1 : RdAt r s a w1 := (show RdAt r s a w.drew from HR.out).below b1
           have p0 : w1.cell? ⟨r, 0, none⟩ = some (.string s) := by rw [cell_heap hr1]; rfl
           have p1 : w1.cell? ⟨r, 1, none⟩ = some (.int .i64 a) := by rw [cell_heap hr1]; rfl))
    all_goals
      have D := Lib.hid (CM.out w1 a2 c hr1)
      have G1 : Hid (Gr r w w1) := Lib.hid (Gr.of_drew (Gr.of_below b1))
      clear b1 hr1 p0 p1 CM C1
      go_wp2_with fail
      refine D.out.mono ?_
      rintro e w2 hR
      obtain ⟨rfl, g2⟩ := hR.2 HC.out
      exact ⟨rfl, fun h => absurd h HC.out, fun _ => ⟨rfl, G1.out.trans g2⟩⟩
end Go.Proofs.YtemfcaaoobjgkaaGreatDoor
namespace Go.Proofs.YtemfcaaoobjgkaaGreatDoor
namespace PR

/-- A place moved by f, where one was found. -/
def sh (f : Int) (x : Int × Int × Int) : Int × Int × Int := (x.1, if x.2.2 = 0 then f + x.2.1 else x.2.1, x.2.2)
def shS (f : Int) (x : ByteArray × Int × Int) : ByteArray × Int × Int := (x.1, if x.2.2 = 0 then f + x.2.1 else x.2.1, x.2.2)

section
variable {s : ByteArray} {f e : Nat}
theorem size_upto (he : e ≤ s.size) : (s.extract 0 e).size = e := by rw [ByteArray.size_extract]; omega
theorem size_part (he : e ≤ s.size) : (s.extract f e).size = e - f := by rw [ByteArray.size_extract]; omega
theorem byte_part (_he : e ≤ s.size) (j : Nat) (h1 : f + j < (s.extract 0 e).size) (h2 : j < (s.extract f e).size) : (s.extract 0 e)[f + j]'h1 = (s.extract f e)[j]'h2 := by
  rw [ByteArray.getElem_extract, ByteArray.getElem_extract]
  congr 1
  omega

theorem getG_part (hf : f ≤ e) (he : e ≤ s.size) (p : Nat) : ∀ (u i : Nat) (n : Int), VP.getG (s.extract 0 e) (f + p) u i n = sh f (VP.getG (s.extract f e) p u i n)
  | 0, i, n => rfl
  | u + 1, i, n => by
    have z1 := size_upto (s := s) he
    have z2 := size_part (f := f) (s := s) he
    unfold VP.getG
    by_cases h : p + i < (s.extract f e).size
    · have h' : f + p + i < (s.extract 0 e).size := by omega
      have hb : (s.extract 0 e)[f + p + i]'h' = (s.extract f e)[p + i]'h := by
        have := byte_part (f := f) he (p + i) (by omega) h
        rw [← this]
        congr 1
        omega
      rw [dif_pos h, dif_pos h', hb]
      by_cases hlt : (((s.extract f e)[p + i]'h).toNat : Int) < 128
      · rw [if_pos hlt, if_pos hlt]
        by_cases hz : VP.sz (n + ((s.extract f e)[p + i]'h).toNat * 128 ^ i) = i + 1
        · rw [if_pos hz, if_pos hz]
          simp only [sh, if_true]
          refine Prod.ext rfl (Prod.ext ?_ rfl)
          simp only
          omega
        · rw [if_neg hz, if_neg hz]; rfl
      · rw [if_neg hlt, if_neg hlt]; exact getG_part hf he p u (i + 1) _
    · rw [dif_neg h, dif_neg (by omega)]; rfl
theorem get_part (hf : f ≤ e) (he : e ≤ s.size) (p : Nat) (hp : p ≤ e - f) : VP.get (s.extract 0 e) ((f + p : Nat) : Int) = sh f (VP.get (s.extract f e) (p : Int)) := by
  rw [VP.get_in _ _ (by rw [size_upto he]; omega), VP.get_in _ _ (by rw [size_part he]; omega)]
  exact getG_part hf he p 4 0 0
theorem rd_part (hf : f ≤ e) (he : e ≤ s.size) (p : Nat) (hp : p ≤ e - f) (w : Int) : VP.rd (s.extract 0 e) ((f + p : Nat) : Int) w = sh f (VP.rd (s.extract f e) (p : Int) w) := by
  have z1 := size_upto (s := s) he
  have z2 := size_part (f := f) (s := s) he
  by_cases hw : VP.isW w
  · rcases hw with rfl | rfl | rfl
    · by_cases h : p < (s.extract f e).size
      · rw [VP.rd_1 _ p h, VP.rd_1 _ (f + p) (by omega), byte_part he p (by omega) h]
        simp only [sh, if_true]
        refine Prod.ext rfl (Prod.ext ?_ rfl)
        simp only; omega
      · rw [VP.rd_1few _ p (by omega) h, VP.rd_1few _ (f + p) (by omega) (by omega)]; rfl
    · by_cases h : p + 1 < (s.extract f e).size
      · rw [VP.rd_2 _ p h, VP.rd_2 _ (f + p) (by omega)]
        have b0 := byte_part (f := f) he p (by omega) (by omega)
        have b1 := byte_part (f := f) he (p + 1) (by omega) (by omega)
        simp only [← Nat.add_assoc] at b1
        rw [b0, b1]
        simp only [sh, if_true]
        refine Prod.ext rfl (Prod.ext ?_ rfl)
        simp only; omega
      · rw [VP.rd_2few _ p (by omega) h, VP.rd_2few _ (f + p) (by omega) (by omega)]; rfl
    · by_cases h : p + 3 < (s.extract f e).size
      · rw [VP.rd_4 _ p h, VP.rd_4 _ (f + p) (by omega)]
        have b0 := byte_part (f := f) he p (by omega) (by omega)
        have b1 := byte_part (f := f) he (p + 1) (by omega) (by omega)
        have b2 := byte_part (f := f) he (p + 2) (by omega) (by omega)
        have b3 := byte_part (f := f) he (p + 3) (by omega) (by omega)
        simp only [← Nat.add_assoc] at b1 b2 b3
        rw [b0, b1, b2, b3]
        simp only [sh, if_true]
        refine Prod.ext rfl (Prod.ext ?_ rfl)
        simp only; omega
      · rw [VP.rd_4few _ p (by omega) h, VP.rd_4few _ (f + p) (by omega) (by omega)]; rfl
  · rw [VP.rd_no _ _ _ hw, VP.rd_no _ _ _ hw]; rfl
theorem dat_part (hf : f ≤ e) (he : e ≤ s.size) (p : Nat) (hp : p ≤ e - f) : VP.dat (s.extract 0 e) ((f + p : Nat) : Int) = shS f (VP.dat (s.extract f e) (p : Int)) := by
  have z1 := size_upto (s := s) he
  have z2 := size_part (f := f) (s := s) he
  have h := rd_part hf he p hp 2
  by_cases hc : (VP.rd (s.extract f e) (p : Int) 2).2.2 = 0
  · obtain ⟨k, L, hk, hk2, hL, hr⟩ := VP.rd2_ok _ _ hc
    have hkp : k = p := by omega
    subst hkp
    rw [hr] at h
    have h' : VP.rd (s.extract 0 e) ((f + k : Nat) : Int) 2 = ((L : Int), ((f + k : Nat) : Int) + 2, 0) := by
      rw [h]; simp only [sh, if_true]
      refine Prod.ext rfl (Prod.ext ?_ rfl)
      simp only; omega
    by_cases hl : ((s.extract f e).size : Int) - (k + 2) < L
    · rw [VP.dat_few _ k L hr hl, VP.dat_few _ (f + k) L h' (by omega)]; rfl
    · rw [VP.dat_ok _ k L hr hl, VP.dat_ok _ (f + k) L h' (by omega)]
      simp only [shS, if_true]
      refine Prod.ext ?_ (Prod.ext ?_ rfl)
      · simp only
        rw [ByteArray.extract_extract, ByteArray.extract_extract]
        congr 1 <;> omega
      · simp only; omega
  · have hc' : ¬ (VP.rd (s.extract 0 e) ((f + p : Nat) : Int) 2).2.2 = 0 := by rw [h]; exact hc
    rw [VP.dat_bad _ _ hc, VP.dat_bad _ _ hc', h]
    simp only [shS, sh, if_neg hc]
theorem getT_part (hf : f ≤ e) (he : e ≤ s.size) (p : Nat) (hp : p ≤ e - f) : TX.getT (s.extract 0 e) ((f + p : Nat) : Int) = shS f (TX.getT (s.extract f e) (p : Int)) := by
  have h := dat_part hf he p hp
  unfold TX.getT
  generalize VP.dat (s.extract 0 e) ((f + p : Nat) : Int) = d1 at *
  generalize VP.dat (s.extract f e) (p : Int) = d at *
  subst h
  obtain ⟨x, tp, c⟩ := d
  by_cases hc : c = 0
  · subst hc
    by_cases hb : TX.bad x = true <;> simp [shS, hb]
  · simp [shS, hc]
end

/-! What was found lies within. -/
theorem getG_ok (U : ByteArray) (p : Nat) : ∀ (u i : Nat) (n : Int), (VP.getG U p u i n).2.2 = 0 → ∃ q : Nat, (VP.getG U p u i n).2.1 = q ∧ p < q ∧ q ≤ U.size
  | 0, i, n, h => by rw [VP.getG_0] at h; exact absurd h (by decide)
  | u + 1, i, n, h => by
    unfold VP.getG at h ⊢
    by_cases hs : p + i < U.size
    · rw [dif_pos hs] at h ⊢
      by_cases hlt : ((U[p + i]'hs).toNat : Int) < 128
      · rw [if_pos hlt] at h ⊢
        by_cases hz : VP.sz (n + (U[p + i]'hs).toNat * 128 ^ i) = i + 1
        · rw [if_pos hz] at h ⊢
          exact ⟨p + i + 1, by simp only; omega, by omega, by omega⟩
        · rw [if_neg hz] at h; exact absurd h (by decide)
      · rw [if_neg hlt] at h ⊢
        exact getG_ok U p u (i + 1) _ h
    · rw [dif_neg hs] at h; exact absurd h (by decide)
theorem get_ok (U : ByteArray) (p : Nat) (h : (VP.get U p).2.2 = 0) : ∃ q : Nat, (VP.get U p).2.1 = q ∧ p < q ∧ q ≤ U.size := by
  by_cases hp : p ≤ U.size
  · rw [VP.get_in _ _ hp] at h ⊢; exact getG_ok U p 4 0 0 h
  · rw [VP.get_out _ _ (.inr (by omega))] at h; exact absurd h (by decide)
theorem rd_ok (U : ByteArray) (p : Nat) (w : Int) (h : (VP.rd U p w).2.2 = 0) : ∃ q : Nat, (VP.rd U p w).2.1 = q ∧ p ≤ q ∧ q ≤ U.size := by
  by_cases hp : p ≤ U.size
  · by_cases hw : VP.isW w
    · rcases hw with rfl | rfl | rfl
      · by_cases hs : p < U.size
        · rw [VP.rd_1 _ p hs]; exact ⟨p + 1, by simp, by omega, by omega⟩
        · rw [VP.rd_1few _ p hp hs] at h; exact absurd h (by decide)
      · by_cases hs : p + 1 < U.size
        · rw [VP.rd_2 _ p hs]; exact ⟨p + 2, by simp, by omega, by omega⟩
        · rw [VP.rd_2few _ p hp hs] at h; exact absurd h (by decide)
      · by_cases hs : p + 3 < U.size
        · rw [VP.rd_4 _ p hs]; exact ⟨p + 4, by simp, by omega, by omega⟩
        · rw [VP.rd_4few _ p hp hs] at h; exact absurd h (by decide)
    · rw [VP.rd_no _ _ _ hw] at h; exact absurd h (by decide)
  · rw [VP.rd_out _ _ _ (.inr (by omega))] at h; exact absurd h (by decide)
theorem dat_ok (U : ByteArray) (p : Nat) (h : (VP.dat U p).2.2 = 0) : ∃ q : Nat, (VP.dat U p).2.1 = q ∧ p ≤ q ∧ q ≤ U.size := by
  by_cases hc : (VP.rd U p 2).2.2 = 0
  · obtain ⟨k, L, hk, hk2, hL, hr⟩ := VP.rd2_ok _ _ hc
    have hkp : k = p := by omega
    subst hkp
    by_cases hl : (U.size : Int) - (k + 2) < L
    · rw [VP.dat_few _ k L hr hl] at h; exact absurd h (by decide)
    · rw [VP.dat_ok _ k L hr hl]; exact ⟨k + 2 + L, by simp, by omega, by omega⟩
  · rw [VP.dat_bad _ _ hc] at h; exact absurd h hc
theorem getT_ok (U : ByteArray) (p : Nat) (h : (TX.getT U p).2.2 = 0) : ∃ q : Nat, (TX.getT U p).2.1 = q ∧ p ≤ q ∧ q ≤ U.size := by
  have h1 := dat_ok U p
  unfold TX.getT at h ⊢
  by_cases hc : (VP.dat U p).2.2 = 0
  · rw [if_neg (by simp [hc])] at h ⊢
    by_cases hb : TX.bad (VP.dat U p).1 = true
    · rw [if_pos hb] at h; exact absurd h (by decide)
    · rw [if_neg hb]; exact h1 hc
  · rw [if_pos hc] at h; exact absurd h hc

/-! A property's value, a property, all of them. -/
def zp : Pr := ⟨0, 0, ⟨#[]⟩, ⟨#[]⟩⟩
def rdv (T : ByteArray) (p : Int) (id : Int) : Pr × Int × Int :=
  if kd id = 4 then (⟨id, (VP.get T p).1, ⟨#[]⟩, ⟨#[]⟩⟩, (VP.get T p).2.1, (VP.get T p).2.2)
  else if kd id = 5 then (⟨id, 0, (VP.dat T p).1, ⟨#[]⟩⟩, (VP.dat T p).2.1, (VP.dat T p).2.2)
  else if kd id = 6 then (⟨id, 0, (TX.getT T p).1, ⟨#[]⟩⟩, (TX.getT T p).2.1, (TX.getT T p).2.2)
  else if kd id = 7 then (if (TX.getT T p).2.2 ≠ 0 then (⟨id, 0, ⟨#[]⟩, ⟨#[]⟩⟩, 0, (TX.getT T p).2.2) else (⟨id, 0, (TX.getT T p).1, (TX.getT T (TX.getT T p).2.1).1⟩, (TX.getT T (TX.getT T p).2.1).2.1, (TX.getT T (TX.getT T p).2.1).2.2))
  else (⟨id, (VP.rd T p (wd (kd id))).1, ⟨#[]⟩, ⟨#[]⟩⟩, (VP.rd T p (wd (kd id))).2.1, (VP.rd T p (wd (kd id))).2.2)
def g1 (T : ByteArray) (p : Int) (out : List Pr) : Pr × Int × Int :=
  if 64 ≤ out.length then (zp, 0, 149) else if (VP.get T p).2.2 ≠ 0 then (zp, 0, 129) else if idC out (VP.get T p).1 ≠ 0 then (zp, 0, idC out (VP.get T p).1)
  else if (rdv T (VP.get T p).2.1 (VP.get T p).1).2.2 ≠ 0 then (zp, 0, 129) else rdv T (VP.get T p).2.1 (VP.get T p).1
def gl (U : ByteArray) : Nat → Int → List Pr → List Pr × Int
  | 0, _, _ => ([], 149)
  | u + 1, p, out => if ¬ p < (U.size : Int) then (out, 0) else if (g1 U p out).2.2 ≠ 0 then ([], (g1 U p out).2.2) else gl U u (g1 U p out).2.1 (out ++ [(g1 U p out).1])
/-- What Get answers: the properties, the place behind, the code. -/
def getL (s : ByteArray) (at_ : Int) : List Pr × Int × Int :=
  if (VP.get s at_).2.2 ≠ 0 then ([], 0, (VP.get s at_).2.2) else if (s.size : Int) - (VP.get s at_).2.1 < (VP.get s at_).1 then ([], 0, 242)
  else if (gl (s.extract (VP.get s at_).2.1.toNat ((VP.get s at_).2.1 + (VP.get s at_).1).toNat) 66 0 []).2 ≠ 0 then ([], 0, (gl (s.extract (VP.get s at_).2.1.toNat ((VP.get s at_).2.1 + (VP.get s at_).1).toNat) 66 0 []).2)
  else ((gl (s.extract (VP.get s at_).2.1.toNat ((VP.get s at_).2.1 + (VP.get s at_).1).toNat) 66 0 []).1, (VP.get s at_).2.1 + (VP.get s at_).1, 0)

def shP (f : Int) (x : Pr × Int × Int) : Pr × Int × Int := (x.1, if x.2.2 = 0 then f + x.2.1 else x.2.1, x.2.2)
theorem rdv_ok (U : ByteArray) (p : Nat) (id : Int) (h : (rdv U p id).2.2 = 0) : ∃ q : Nat, (rdv U p id).2.1 = q ∧ p ≤ q ∧ q ≤ U.size := by
  unfold rdv at h ⊢
  split
  · rename_i hk
    rw [if_pos hk] at h
    obtain ⟨q, h1, h2, h3⟩ := get_ok U p h
    exact ⟨q, h1, by omega, h3⟩
  · rename_i hk
    rw [if_neg hk] at h
    split
    · rename_i hk2
      rw [if_pos hk2] at h
      exact dat_ok U p h
    · rename_i hk2
      rw [if_neg hk2] at h
      split
      · rename_i hk3
        rw [if_pos hk3] at h
        exact getT_ok U p h
      · rename_i hk3
        rw [if_neg hk3] at h
        split
        · rename_i hk4
          rw [if_pos hk4] at h
          split
          · rename_i hc
            rw [if_pos hc] at h
            exact absurd h hc
          · rename_i hc
            rw [if_neg hc] at h
            obtain ⟨q, h1, h2, h3⟩ := getT_ok U p (by simpa using hc)
            rw [h1] at h ⊢
            obtain ⟨q', h1', h2', h3'⟩ := getT_ok U q h
            exact ⟨q', h1', by omega, h3'⟩
        · rename_i hk4
          rw [if_neg hk4] at h
          exact rd_ok U p _ h
theorem g1_ok (U : ByteArray) (p : Nat) (out : List Pr) (h : (g1 U p out).2.2 = 0) : ∃ q : Nat, (g1 U p out).2.1 = q ∧ p < q ∧ q ≤ U.size ∧ out.length < 64 := by
  unfold g1 at h ⊢
  split
  · rename_i h1; rw [if_pos h1] at h; exact absurd h (by decide)
  · rename_i h1
    rw [if_neg h1] at h
    split
    · rename_i h2; rw [if_pos h2] at h; exact absurd h (by decide)
    · rename_i h2
      rw [if_neg h2] at h
      split
      · rename_i h3; rw [if_pos h3] at h; exact absurd h h3
      · rename_i h3
        rw [if_neg h3] at h
        split
        · rename_i h4; rw [if_pos h4] at h; exact absurd h (by decide)
        · rename_i h4
          rw [if_neg h4] at h
          obtain ⟨q, g1, g2, g3⟩ := get_ok U p (by simpa using h2)
          rw [g1] at h ⊢
          obtain ⟨q', r1, r2, r3⟩ := rdv_ok U q _ h
          exact ⟨q', r1, by omega, r3, by omega⟩

section
variable {s : ByteArray} {f e : Nat}
theorem rdv_part (hf : f ≤ e) (he : e ≤ s.size) (p : Nat) (hp : p ≤ e - f) (id : Int) : rdv (s.extract 0 e) ((f + p : Nat) : Int) id = shP f (rdv (s.extract f e) (p : Int) id) := by
  have z2 := size_part (f := f) (s := s) he
  have a1 := get_part hf he p hp
  have a2 := dat_part hf he p hp
  have a3 := getT_part hf he p hp
  have a4 := fun w => rd_part hf he p hp w
  unfold rdv
  rw [a1, a2, a3, a4]
  by_cases k4 : kd id = 4
  · simp only [k4, if_true]; rfl
  · by_cases k5 : kd id = 5
    · simp only [k5, show ((5 : Int) = 4) = False by decide, if_true, if_false]; rfl
    · by_cases k6 : kd id = 6
      · simp only [k6, show ((6 : Int) = 4) = False by decide, show ((6 : Int) = 5) = False by decide, if_true, if_false]; rfl
      · by_cases k7 : kd id = 7
        · simp only [k7, show ((7 : Int) = 4) = False by decide, show ((7 : Int) = 5) = False by decide, show ((7 : Int) = 6) = False by decide, if_true, if_false]
          by_cases hc : (TX.getT (s.extract f e) (p : Int)).2.2 = 0
          · obtain ⟨q, h1, h2, h3⟩ := getT_ok _ p hc
            have a5 := getT_part hf he q (by omega)
            have e1 : (shS (f : Int) (TX.getT (s.extract f e) (p : Int))).2.1 = ((f + q : Nat) : Int) := by simp only [shS, if_pos hc, h1]; omega
            have e2 : (shS (f : Int) (TX.getT (s.extract f e) (p : Int))).2.2 = 0 := hc
            rw [e1, e2, h1, a5, hc]
            simp only [ne_eq, not_true_eq_false, if_false]
            rfl
          · have e2 : (shS (f : Int) (TX.getT (s.extract f e) (p : Int))).2.2 = (TX.getT (s.extract f e) (p : Int)).2.2 := rfl
            rw [e2]
            simp only [ne_eq, hc, not_false_eq_true, if_true, shP, if_false]
        · simp only [k4, k5, k6, k7, if_false]; rfl
theorem g1_part (hf : f ≤ e) (he : e ≤ s.size) (p : Nat) (hp : p ≤ e - f) (out : List Pr) : g1 (s.extract 0 e) ((f + p : Nat) : Int) out = shP f (g1 (s.extract f e) (p : Int) out) := by
  have z2 := size_part (f := f) (s := s) he
  have a1 := get_part hf he p hp
  unfold g1
  rw [a1]
  by_cases h1 : 64 ≤ out.length
  · rw [if_pos h1, if_pos h1]; rfl
  · rw [if_neg h1, if_neg h1]
    by_cases h2 : (VP.get (s.extract f e) (p : Int)).2.2 = 0
    · obtain ⟨q, g1, g2, g3⟩ := get_ok _ p h2
      have e1 : (sh (f : Int) (VP.get (s.extract f e) (p : Int))).2.1 = ((f + q : Nat) : Int) := by simp only [sh, if_pos h2, g1]; omega
      have e2 : (sh (f : Int) (VP.get (s.extract f e) (p : Int))).2.2 = 0 := h2
      have e3 : (sh (f : Int) (VP.get (s.extract f e) (p : Int))).1 = (VP.get (s.extract f e) (p : Int)).1 := rfl
      have a5 := rdv_part hf he q (by omega) (VP.get (s.extract f e) (p : Int)).1
      rw [e1, e2, e3, g1, h2, a5]
      generalize rdv (s.extract f e) (q : Int) (VP.get (s.extract f e) (p : Int)).1 = D
      generalize (VP.get (s.extract f e) (p : Int)).1 = id'
      obtain ⟨dp, dt, dc⟩ := D
      by_cases h3 : idC out id' = 0
      · by_cases h4 : dc = 0 <;> simp [shP, h3, h4]
      · simp [shP, h3]
    · have e2 : (sh (f : Int) (VP.get (s.extract f e) (p : Int))).2.2 = (VP.get (s.extract f e) (p : Int)).2.2 := rfl
      rw [e2, if_pos h2, if_pos h2]; rfl
end
end PR
end Go.Proofs.YtemfcaaoobjgkaaGreatDoor
namespace Go.Proofs.YtemfcaaoobjgkaaGreatDoor
open Go.RowKit

theorem or_join (i : Nat) (n x y : Int) (hx : x % 128 * 2 ^ i = y) (hn0 : 0 ≤ n) (hn : n < 2 ^ i) (hi : y < 2 ^ 62) (hy : n < 2 ^ 62) (h0 : 0 ≤ y) : bits .or .i64 n y = n + y := by
  refine i64_or i y n h0 ?_ hi hn0 hn hy
  rw [← hx]
  exact Int.mul_emod_left _ _

set_option maxRecDepth 100000 in
set_option maxHeartbeats 2000000 in
theorem get_in_any (s : ByteArray) (k : Nat) (hs : s.size ≤ maxLen) (hk : k ≤ s.size) (w : World) :
    Calls Tryz.prog 33 #[.string s, .int .i64 k] w fun e w' => e = .returned (.tuple #[.int .i64 (VP.get s k).1, .int .i64 (VP.get s k).2.1, .int .u8 (VP.get s k).2.2]) ∧ w = w' := by
  have hg := Lib.hid (VP.get_in s k hk)
  have hs' := hs
  unfold maxLen at hs'
  have h127 := i64_and127
  go_enter Tryz.func33, Tryz.ntmps33
  go_wp2_with fail
  refine (within_yes s k hs hk _).mono ?_
  rintro e w' ⟨rfl, rfl⟩
  go_wp2
  all_goals
    go_loop [8, 21] (fun n_ i_ => ∃ (i : Nat) (j n : Int), VP.Idx i j ∧ k + i ≤ s.size ∧ 0 ≤ n ∧ n < 128 ^ i ∧ VP.get s k = VP.getG s k (4 - i) i n ∧ i_ = .int .i64 j ∧ n_ = .int .i64 n) (fun _ i => 4 - (intOf i).toNat)
    case atStart => exact ⟨0, 0, 0, .inl ⟨rfl, rfl⟩, by omega, by omega, by omega, hg.out, rfl, rfl⟩
    case round =>
      obtain ⟨i, j, n, hij, hki, hn0, hn1, hG, rfl, rfl⟩ := hrel
      have HG := Lib.hid hG
      clear hG
      rcases hij with ⟨rfl, rfl⟩ | ⟨rfl, rfl⟩ | ⟨rfl, rfl⟩ | ⟨rfl, rfl⟩ | ⟨rfl, rfl⟩
      · have hn2 : n < 1 := by simpa using hn1
        clear hn1
        by_cases hlt : k < s.size
        · have hb := byte_lt s (k) hlt
          have hor0 : bits .or .i64 n (((s[k]'hlt).toNat : Int) % 128) = n + ((s[k]'hlt).toNat : Int) % 128 := or_join 0 n ((s[k]'hlt).toNat : Int) _ (by simp) hn0 (by simpa using hn2) (by omega) (by omega) (by omega)
          by_cases hb2 : ((s[k]'hlt).toNat : Int) < 128
          · have hor : bits .or .i64 n (((s[k]'hlt).toNat : Int) % 128) = n + ((s[k]'hlt).toNat : Int) := by rw [hor0]; omega
            clear hor0
            have ht : (bits .and .i64 ((s[k]'hlt).toNat : Int) 128 != 0) = false := by rw [i64_and128 _ (by omega) hb, if_pos hb2]; rfl
            by_cases hz : VP.sz (n + ((s[k]'hlt).toNat : Int)) = 1
            · have Hz := Lib.hid hz
              have hz2 : (VP.sz (n + ((s[k]'hlt).toNat : Int)) != 1) = false := by rw [hz]; rfl
              clear hz
              go_wp2_with fail
              refine (size_any _ _).mono ?_
              rintro e w' ⟨rfl, rfl⟩
              go_wp2
              go_ret3
              exact ⟨ret_three (by rw [HG.out, VP.last0 s k n hlt hb2 Hz.out]), rfl⟩
            · have hz2 : (VP.sz (n + ((s[k]'hlt).toNat : Int)) != 1) = true := by simpa using hz
              go_wp2_with fail
              refine (size_any _ _).mono ?_
              rintro e w' ⟨rfl, rfl⟩
              go_wp2
              go_ret3
              exact ⟨ret_three (by rw [HG.out, VP.bad0 s k n hlt hb2 hz]), rfl⟩
          · have hor : bits .or .i64 n (((s[k]'hlt).toNat : Int) % 128) = n + (((s[k]'hlt).toNat : Int) - 128) := by rw [hor0]; omega
            clear hor0
            have ht : (bits .and .i64 ((s[k]'hlt).toNat : Int) 128 != 0) = true := by rw [i64_and128 _ (by omega) hb, if_neg hb2]; rfl
            go_wp2
            go_round
            case rel => exact ⟨1, 1, _, .inr (.inl ⟨rfl, rfl⟩), by omega, by omega, by simp; omega, by rw [HG.out, VP.more0 s k n hlt (by omega)], rfl, rfl⟩
            case measure => simp [intOf]
        · first
          | (exfalso; omega)
          | (go_wp2
             go_ret3
             exact ⟨ret_three (by rw [HG.out, VP.ends0 s k n (by omega)]), rfl⟩)
      · have hn2 : n < 128 := by simpa using hn1
        clear hn1
        by_cases hlt : k + 1 < s.size
        · have hb := byte_lt s (k + 1) hlt
          have hor0 : bits .or .i64 n (((s[k + 1]'hlt).toNat : Int) % 128 * 128) = n + ((s[k + 1]'hlt).toNat : Int) % 128 * 128 := or_join 7 n ((s[k + 1]'hlt).toNat : Int) _ (by simp) hn0 (by simpa using hn2) (by omega) (by omega) (by omega)
          by_cases hb2 : ((s[k + 1]'hlt).toNat : Int) < 128
          · have hor : bits .or .i64 n (((s[k + 1]'hlt).toNat : Int) % 128 * 128) = n + ((s[k + 1]'hlt).toNat : Int) * 128 := by rw [hor0]; omega
            clear hor0
            have ht : (bits .and .i64 ((s[k + 1]'hlt).toNat : Int) 128 != 0) = false := by rw [i64_and128 _ (by omega) hb, if_pos hb2]; rfl
            by_cases hz : VP.sz (n + ((s[k + 1]'hlt).toNat : Int) * 128) = 2
            · have Hz := Lib.hid hz
              have hz2 : (VP.sz (n + ((s[k + 1]'hlt).toNat : Int) * 128) != 2) = false := by rw [hz]; rfl
              clear hz
              go_wp2_with fail
              refine (size_any _ _).mono ?_
              rintro e w' ⟨rfl, rfl⟩
              go_wp2
              go_ret3
              exact ⟨ret_three (by rw [HG.out, VP.last1 s k n hlt hb2 Hz.out]), rfl⟩
            · have hz2 : (VP.sz (n + ((s[k + 1]'hlt).toNat : Int) * 128) != 2) = true := by simpa using hz
              go_wp2_with fail
              refine (size_any _ _).mono ?_
              rintro e w' ⟨rfl, rfl⟩
              go_wp2
              go_ret3
              exact ⟨ret_three (by rw [HG.out, VP.bad1 s k n hlt hb2 hz]), rfl⟩
          · have hor : bits .or .i64 n (((s[k + 1]'hlt).toNat : Int) % 128 * 128) = n + (((s[k + 1]'hlt).toNat : Int) - 128) * 128 := by rw [hor0]; omega
            clear hor0
            have ht : (bits .and .i64 ((s[k + 1]'hlt).toNat : Int) 128 != 0) = true := by rw [i64_and128 _ (by omega) hb, if_neg hb2]; rfl
            go_wp2
            go_round
            case rel => exact ⟨2, 2, _, .inr (.inr (.inl ⟨rfl, rfl⟩)), by omega, by omega, by simp; omega, by rw [HG.out, VP.more1 s k n hlt (by omega)], rfl, rfl⟩
            case measure => simp [intOf]
        · first
          | (exfalso; omega)
          | (go_wp2
             go_ret3
             exact ⟨ret_three (by rw [HG.out, VP.ends1 s k n (by omega)]), rfl⟩)
      · have hn2 : n < 16384 := by simpa using hn1
        clear hn1
        by_cases hlt : k + 2 < s.size
        · have hb := byte_lt s (k + 2) hlt
          have hor0 : bits .or .i64 n (((s[k + 2]'hlt).toNat : Int) % 128 * 16384) = n + ((s[k + 2]'hlt).toNat : Int) % 128 * 16384 := or_join 14 n ((s[k + 2]'hlt).toNat : Int) _ (by simp) hn0 (by simpa using hn2) (by omega) (by omega) (by omega)
          by_cases hb2 : ((s[k + 2]'hlt).toNat : Int) < 128
          · have hor : bits .or .i64 n (((s[k + 2]'hlt).toNat : Int) % 128 * 16384) = n + ((s[k + 2]'hlt).toNat : Int) * 16384 := by rw [hor0]; omega
            clear hor0
            have ht : (bits .and .i64 ((s[k + 2]'hlt).toNat : Int) 128 != 0) = false := by rw [i64_and128 _ (by omega) hb, if_pos hb2]; rfl
            by_cases hz : VP.sz (n + ((s[k + 2]'hlt).toNat : Int) * 16384) = 3
            · have Hz := Lib.hid hz
              have hz2 : (VP.sz (n + ((s[k + 2]'hlt).toNat : Int) * 16384) != 3) = false := by rw [hz]; rfl
              clear hz
              go_wp2_with fail
              refine (size_any _ _).mono ?_
              rintro e w' ⟨rfl, rfl⟩
              go_wp2
              go_ret3
              exact ⟨ret_three (by rw [HG.out, VP.last2 s k n hlt hb2 Hz.out]), rfl⟩
            · have hz2 : (VP.sz (n + ((s[k + 2]'hlt).toNat : Int) * 16384) != 3) = true := by simpa using hz
              go_wp2_with fail
              refine (size_any _ _).mono ?_
              rintro e w' ⟨rfl, rfl⟩
              go_wp2
              go_ret3
              exact ⟨ret_three (by rw [HG.out, VP.bad2 s k n hlt hb2 hz]), rfl⟩
          · have hor : bits .or .i64 n (((s[k + 2]'hlt).toNat : Int) % 128 * 16384) = n + (((s[k + 2]'hlt).toNat : Int) - 128) * 16384 := by rw [hor0]; omega
            clear hor0
            have ht : (bits .and .i64 ((s[k + 2]'hlt).toNat : Int) 128 != 0) = true := by rw [i64_and128 _ (by omega) hb, if_neg hb2]; rfl
            go_wp2
            go_round
            case rel => exact ⟨3, 3, _, .inr (.inr (.inr (.inl ⟨rfl, rfl⟩))), by omega, by omega, by simp; omega, by rw [HG.out, VP.more2 s k n hlt (by omega)], rfl, rfl⟩
            case measure => simp [intOf]
        · first
          | (exfalso; omega)
          | (go_wp2
             go_ret3
             exact ⟨ret_three (by rw [HG.out, VP.ends2 s k n (by omega)]), rfl⟩)
      · have hn2 : n < 2097152 := by simpa using hn1
        clear hn1
        by_cases hlt : k + 3 < s.size
        · have hb := byte_lt s (k + 3) hlt
          have hor0 : bits .or .i64 n (((s[k + 3]'hlt).toNat : Int) % 128 * 2097152) = n + ((s[k + 3]'hlt).toNat : Int) % 128 * 2097152 := or_join 21 n ((s[k + 3]'hlt).toNat : Int) _ (by simp) hn0 (by simpa using hn2) (by omega) (by omega) (by omega)
          by_cases hb2 : ((s[k + 3]'hlt).toNat : Int) < 128
          · have hor : bits .or .i64 n (((s[k + 3]'hlt).toNat : Int) % 128 * 2097152) = n + ((s[k + 3]'hlt).toNat : Int) * 2097152 := by rw [hor0]; omega
            clear hor0
            have ht : (bits .and .i64 ((s[k + 3]'hlt).toNat : Int) 128 != 0) = false := by rw [i64_and128 _ (by omega) hb, if_pos hb2]; rfl
            by_cases hz : VP.sz (n + ((s[k + 3]'hlt).toNat : Int) * 2097152) = 4
            · have Hz := Lib.hid hz
              have hz2 : (VP.sz (n + ((s[k + 3]'hlt).toNat : Int) * 2097152) != 4) = false := by rw [hz]; rfl
              clear hz
              go_wp2_with fail
              refine (size_any _ _).mono ?_
              rintro e w' ⟨rfl, rfl⟩
              go_wp2
              go_ret3
              exact ⟨ret_three (by rw [HG.out, VP.last3 s k n hlt hb2 Hz.out]), rfl⟩
            · have hz2 : (VP.sz (n + ((s[k + 3]'hlt).toNat : Int) * 2097152) != 4) = true := by simpa using hz
              go_wp2_with fail
              refine (size_any _ _).mono ?_
              rintro e w' ⟨rfl, rfl⟩
              go_wp2
              go_ret3
              exact ⟨ret_three (by rw [HG.out, VP.bad3 s k n hlt hb2 hz]), rfl⟩
          · have hor : bits .or .i64 n (((s[k + 3]'hlt).toNat : Int) % 128 * 2097152) = n + (((s[k + 3]'hlt).toNat : Int) - 128) * 2097152 := by rw [hor0]; omega
            clear hor0
            have ht : (bits .and .i64 ((s[k + 3]'hlt).toNat : Int) 128 != 0) = true := by rw [i64_and128 _ (by omega) hb, if_neg hb2]; rfl
            go_wp2
            go_round
            case rel => exact ⟨4, 4, _, .inr (.inr (.inr (.inr ⟨rfl, rfl⟩))), by omega, by omega, by simp; omega, by rw [HG.out, VP.more3 s k n hlt (by omega)], rfl, rfl⟩
            case measure => simp [intOf]
        · first
          | (exfalso; omega)
          | (go_wp2
             go_ret3
             exact ⟨ret_three (by rw [HG.out, VP.ends3 s k n (by omega)]), rfl⟩)
      · clear hn1
        go_wp2
        go_ret3
        exact ⟨ret_three (by rw [HG.out]; rfl), rfl⟩

end Go.Proofs.YtemfcaaoobjgkaaGreatDoor
namespace Go.Proofs.YtemfcaaoobjgkaaGreatDoor
open Go.RowKit

set_option maxRecDepth 100000 in
set_option maxHeartbeats 2000000 in
theorem refget_in_any (s : ByteArray) (k : Nat) (hs : s.size ≤ maxLen) (hk : k ≤ s.size) (w : World) :
    Calls Tryz.prog 38 #[.string s, .int .i64 k] w fun e w' => e = .returned (.tuple #[.int .i64 (VP.get s k).1, .int .i64 (VP.get s k).2.1, .int .i64 (VP.get s k).2.2]) ∧ w = w' := by
  have hg := Lib.hid (VP.get_in s k hk)
  unfold maxLen at hs
  have hd : decide (s.size < k) = false := by simp; omega
  have hd2 : decide ((k : Int) < 0) = false := by simp
  go_enter Tryz.func38, Tryz.ntmps38
  go_wp2
  go_loop [7, 8, 9] (fun n_ p_ i_ => ∃ (i : Nat) (j p n : Int), VP.IdxP i j p ∧ k + i ≤ s.size ∧ 0 ≤ n ∧ n < 128 ^ i ∧ VP.get s k = VP.getG s k (4 - i) i n ∧ i_ = .int .i64 j ∧ p_ = .int .i64 p ∧ n_ = .int .i64 n) (fun _ _ i => 4 - (intOf i).toNat)
  case atStart => exact ⟨0, 0, 1, 0, .inl ⟨rfl, rfl, rfl⟩, by omega, by omega, by omega, hg.out, rfl, rfl, rfl⟩
  case round =>
    obtain ⟨i, j, p, n, hij, hki, hn0, hn1, hG, rfl, rfl, rfl⟩ := hrel
    have HG := Lib.hid hG
    clear hG
    rcases hij with ⟨rfl, rfl, rfl⟩ | ⟨rfl, rfl, rfl⟩ | ⟨rfl, rfl, rfl⟩ | ⟨rfl, rfl, rfl⟩ | ⟨rfl, rfl, rfl⟩
    · have hn2 : n < 1 := by simpa using hn1
      clear hn1
      by_cases hlt : k < s.size
      · have hb := byte_lt s (k) hlt
        by_cases hb2 : ((s[k]'hlt).toNat : Int) < 128
        · have hor : n + ((s[k]'hlt).toNat : Int) % 128 = n + ((s[k]'hlt).toNat : Int) := by omega
          by_cases hz : VP.sz (n + ((s[k]'hlt).toNat : Int)) = 1
          · have Hz := Lib.hid hz
            have hz2 : ¬ VP.sz (n + ((s[k]'hlt).toNat : Int)) < 1 := by omega
            clear hz
            go_wp2_with fail
            refine (refsize_any _ _).mono ?_
            rintro e w' ⟨rfl, rfl⟩
            go_wp2
            go_ret3
            exact ⟨ret_three (by rw [HG.out, VP.last0 s k n hlt hb2 Hz.out]), rfl⟩
          · have hz2 : VP.sz (n + ((s[k]'hlt).toNat : Int)) < 1 := VP.sz_lt1 (by omega) (by omega) hz
            go_wp2_with fail
            refine (refsize_any _ _).mono ?_
            rintro e w' ⟨rfl, rfl⟩
            go_wp2
            go_ret3
            exact ⟨ret_three (by rw [HG.out, VP.bad0 s k n hlt hb2 (by omega)]), rfl⟩
        · have hor := Lib.hid (show n + ((s[k]'hlt).toNat : Int) % 128 = n + (((s[k]'hlt).toNat : Int) - 128) from by omega)
          go_wp2
          go_round
          case rel => exact ⟨1, 1, 128, _, .inr (.inl ⟨rfl, rfl, rfl⟩), by omega, by omega, by simp; omega, by rw [HG.out, VP.more0 s k n hlt (by omega), hor.out], rfl, rfl, rfl⟩
          case measure => simp [intOf]
      · go_wp2
        go_ret3
        exact ⟨ret_three (by rw [HG.out, VP.ends0 s k n (by omega)]), rfl⟩
    · have hn2 : n < 128 := by simpa using hn1
      clear hn1
      by_cases hlt : k + 1 < s.size
      · have hb := byte_lt s (k + 1) hlt
        by_cases hb2 : ((s[k + 1]'hlt).toNat : Int) < 128
        · have hor : n + ((s[k + 1]'hlt).toNat : Int) % 128 * 128 = n + ((s[k + 1]'hlt).toNat : Int) * 128 := by omega
          by_cases hz : VP.sz (n + ((s[k + 1]'hlt).toNat : Int) * 128) = 2
          · have Hz := Lib.hid hz
            have hz2 : ¬ VP.sz (n + ((s[k + 1]'hlt).toNat : Int) * 128) < 2 := by omega
            clear hz
            go_wp2_with fail
            refine (refsize_any _ _).mono ?_
            rintro e w' ⟨rfl, rfl⟩
            go_wp2
            go_ret3
            exact ⟨ret_three (by rw [HG.out, VP.last1 s k n hlt hb2 Hz.out]), rfl⟩
          · have hz2 : VP.sz (n + ((s[k + 1]'hlt).toNat : Int) * 128) < 2 := VP.sz_lt2 (by omega) (by omega) hz
            go_wp2_with fail
            refine (refsize_any _ _).mono ?_
            rintro e w' ⟨rfl, rfl⟩
            go_wp2
            go_ret3
            exact ⟨ret_three (by rw [HG.out, VP.bad1 s k n hlt hb2 (by omega)]), rfl⟩
        · have hor := Lib.hid (show n + ((s[k + 1]'hlt).toNat : Int) % 128 * 128 = n + (((s[k + 1]'hlt).toNat : Int) - 128) * 128 from by omega)
          go_wp2
          go_round
          case rel => exact ⟨2, 2, 16384, _, .inr (.inr (.inl ⟨rfl, rfl, rfl⟩)), by omega, by omega, by simp; omega, by rw [HG.out, VP.more1 s k n hlt (by omega), hor.out], rfl, rfl, rfl⟩
          case measure => simp [intOf]
      · go_wp2
        go_ret3
        exact ⟨ret_three (by rw [HG.out, VP.ends1 s k n (by omega)]), rfl⟩
    · have hn2 : n < 16384 := by simpa using hn1
      clear hn1
      by_cases hlt : k + 2 < s.size
      · have hb := byte_lt s (k + 2) hlt
        by_cases hb2 : ((s[k + 2]'hlt).toNat : Int) < 128
        · have hor : n + ((s[k + 2]'hlt).toNat : Int) % 128 * 16384 = n + ((s[k + 2]'hlt).toNat : Int) * 16384 := by omega
          by_cases hz : VP.sz (n + ((s[k + 2]'hlt).toNat : Int) * 16384) = 3
          · have Hz := Lib.hid hz
            have hz2 : ¬ VP.sz (n + ((s[k + 2]'hlt).toNat : Int) * 16384) < 3 := by omega
            clear hz
            go_wp2_with fail
            refine (refsize_any _ _).mono ?_
            rintro e w' ⟨rfl, rfl⟩
            go_wp2
            go_ret3
            exact ⟨ret_three (by rw [HG.out, VP.last2 s k n hlt hb2 Hz.out]), rfl⟩
          · have hz2 : VP.sz (n + ((s[k + 2]'hlt).toNat : Int) * 16384) < 3 := VP.sz_lt3 (by omega) (by omega) hz
            go_wp2_with fail
            refine (refsize_any _ _).mono ?_
            rintro e w' ⟨rfl, rfl⟩
            go_wp2
            go_ret3
            exact ⟨ret_three (by rw [HG.out, VP.bad2 s k n hlt hb2 (by omega)]), rfl⟩
        · have hor := Lib.hid (show n + ((s[k + 2]'hlt).toNat : Int) % 128 * 16384 = n + (((s[k + 2]'hlt).toNat : Int) - 128) * 16384 from by omega)
          go_wp2
          go_round
          case rel => exact ⟨3, 3, 2097152, _, .inr (.inr (.inr (.inl ⟨rfl, rfl, rfl⟩))), by omega, by omega, by simp; omega, by rw [HG.out, VP.more2 s k n hlt (by omega), hor.out], rfl, rfl, rfl⟩
          case measure => simp [intOf]
      · go_wp2
        go_ret3
        exact ⟨ret_three (by rw [HG.out, VP.ends2 s k n (by omega)]), rfl⟩
    · have hn2 : n < 2097152 := by simpa using hn1
      clear hn1
      by_cases hlt : k + 3 < s.size
      · have hb := byte_lt s (k + 3) hlt
        by_cases hb2 : ((s[k + 3]'hlt).toNat : Int) < 128
        · have hor : n + ((s[k + 3]'hlt).toNat : Int) % 128 * 2097152 = n + ((s[k + 3]'hlt).toNat : Int) * 2097152 := by omega
          by_cases hz : VP.sz (n + ((s[k + 3]'hlt).toNat : Int) * 2097152) = 4
          · have Hz := Lib.hid hz
            have hz2 : ¬ VP.sz (n + ((s[k + 3]'hlt).toNat : Int) * 2097152) < 4 := by omega
            clear hz
            go_wp2_with fail
            refine (refsize_any _ _).mono ?_
            rintro e w' ⟨rfl, rfl⟩
            go_wp2
            go_ret3
            exact ⟨ret_three (by rw [HG.out, VP.last3 s k n hlt hb2 Hz.out]), rfl⟩
          · have hz2 : VP.sz (n + ((s[k + 3]'hlt).toNat : Int) * 2097152) < 4 := VP.sz_lt4 (by omega) (by omega) hz
            go_wp2_with fail
            refine (refsize_any _ _).mono ?_
            rintro e w' ⟨rfl, rfl⟩
            go_wp2
            go_ret3
            exact ⟨ret_three (by rw [HG.out, VP.bad3 s k n hlt hb2 (by omega)]), rfl⟩
        · have hor := Lib.hid (show n + ((s[k + 3]'hlt).toNat : Int) % 128 * 2097152 = n + (((s[k + 3]'hlt).toNat : Int) - 128) * 2097152 from by omega)
          go_wp2
          go_round
          case rel => exact ⟨4, 4, 268435456, _, .inr (.inr (.inr (.inr ⟨rfl, rfl, rfl⟩))), by omega, by omega, by simp; omega, by rw [HG.out, VP.more3 s k n hlt (by omega), hor.out], rfl, rfl, rfl⟩
          case measure => simp [intOf]
      · go_wp2
        go_ret3
        exact ⟨ret_three (by rw [HG.out, VP.ends3 s k n (by omega)]), rfl⟩
    · clear hn1
      go_wp2
      go_ret3
      exact ⟨ret_three (by rw [HG.out]; rfl), rfl⟩

theorem get_any (s : ByteArray) (at_ : Int) (hs : s.size ≤ maxLen) (w : World) :
    Calls Tryz.prog 33 #[.string s, .int .i64 at_] w fun e w' => e = .returned (.tuple #[.int .i64 (VP.get s at_).1, .int .i64 (VP.get s at_).2.1, .int .u8 (VP.get s at_).2.2]) ∧ w = w' := by
  by_cases h : at_ < 0 ∨ (s.size : Int) < at_
  · rw [VP.get_out s at_ h]
    have H := Lib.hid h
    clear h
    go_enter Tryz.func33, Tryz.ntmps33
    go_wp2_with fail
    refine (within_no s at_ hs H.out _).mono ?_
    rintro e w' ⟨rfl, rfl⟩
    go_wp2
    go_ret3
    exact ⟨rfl, rfl⟩
  · obtain ⟨k, rfl⟩ := Int.eq_ofNat_of_zero_le (show 0 ≤ at_ by omega)
    exact get_in_any s k hs (by omega) w

theorem refget_any (s : ByteArray) (at_ : Int) (hs : s.size ≤ maxLen) (w : World) :
    Calls Tryz.prog 38 #[.string s, .int .i64 at_] w fun e w' => e = .returned (.tuple #[.int .i64 (VP.get s at_).1, .int .i64 (VP.get s at_).2.1, .int .i64 (VP.get s at_).2.2]) ∧ w = w' := by
  by_cases h : at_ < 0
  · rw [VP.get_out s at_ (.inl h)]
    go_enter Tryz.func38, Tryz.ntmps38
    go_wp2
    go_ret3
    exact ⟨rfl, rfl⟩
  · by_cases h2 : (s.size : Int) < at_
    · rw [VP.get_out s at_ (.inr h2)]
      unfold maxLen at hs
      go_enter Tryz.func38, Tryz.ntmps38
      go_wp2
      go_ret3
      exact ⟨rfl, rfl⟩
    · obtain ⟨k, rfl⟩ := Int.eq_ofNat_of_zero_le (show 0 ≤ at_ by omega)
      exact refget_in_any s k hs (by omega) w

end Go.Proofs.YtemfcaaoobjgkaaGreatDoor
