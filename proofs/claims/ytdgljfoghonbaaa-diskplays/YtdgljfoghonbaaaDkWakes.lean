/- The laws' wakes; the law of a nil disk. -/
import Derived.Test.YtdgljfoghonbaaaDkFace
namespace Go.Proofs.Ytdgljfoghonbaaa
open Go.RowKit DK

def wk1 : Dv := (newD 100).app 0 [97, 98]
def wk2 : Dv := wk1.sync 0
def wk3 : Dv := wk2.app 0 [99, 100, 101]
def wk4 : Dv := wk3.crash 2 0
theorem wk_codes : (newD 100).appC 0 [97, 98] = 0 ∧ wk1.syncC 0 = 0 ∧ wk2.appC 0 [99, 100, 101] = 0 ∧ wk4.ref 0 = 0 ∧ wk4.rd 0 = [97, 98, 99, 100] ∧ wk4.last 0 = 4 ∧ wk4.off = false := by
  refine ⟨?_, ?_, ?_, ?_, ?_, ?_, ?_⟩ <;> decide +kernel
theorem wk_ok : (newD 100).Ok ∧ wk1.Ok ∧ wk2.Ok ∧ wk3.Ok := ⟨newD_ok _, (newD_ok _).appOk _ _, ((newD_ok _).appOk _ _).syncOk _, (((newD_ok _).appOk _ _).syncOk _).appOk _ _⟩

set_option maxRecDepth 100000 in
set_option maxHeartbeats 1000000 in
theorem wakes_any (w : World) : Calls Try.prog 9 #[] w fun e w' => e = .returned (.bool true) ∧ Below w.heap.size w w' := by
  obtain ⟨e1, e2, e3, e4, e5, e6, e7⟩ := wk_codes
  have CN := Lib.hid (new_any 100 w)
  have C1 := Lib.hid (fun W h => append_any w.heap.size (newD 100) 0 ⟨#[97, 98]⟩ W h wk_ok.1)
  have C2 := Lib.hid (fun W h => sync_any w.heap.size wk1 0 W h wk_ok.2.1)
  have C3 := Lib.hid (fun W h => append_any w.heap.size wk2 0 ⟨#[99, 100, 101]⟩ W h wk_ok.2.2.1)
  have C4 := Lib.hid (fun W A H h => crash_any w.heap.size wk3 A [2] 1 W (by simp [maxLen]) H h wk_ok.2.2.2)
  have C5 := Lib.hid (fun W h => read_any w.heap.size wk4 0 W h)
  have C6 := Lib.hid (fun W h => lasts_any w.heap.size wk4 0 W h)
  have C7 := Lib.hid (fun W h => off_any w.heap.size wk4 W h)
  rw [show (⟨#[97, 98]⟩ : ByteArray).data.toList = [97, 98] from rfl, e1] at C1
  rw [e2] at C2
  rw [show (⟨#[99, 100, 101]⟩ : ByteArray).data.toList = [99, 100, 101] from rfl, e3] at C3
  rw [e4, e5] at C5
  rw [e6] at C6
  rw [e7] at C7
  clear e1 e2 e3 e4 e5 e6 e7
  go_enter Try.func9, Try.ntmps9
  go_wp2_with fail
  refine CN.out.mono ?_
  rintro e w1 ⟨rfl, h1, b1⟩
  have X := Lib.hid (C1.out w1 h1)
  have B1 := Lib.hid b1
  clear h1 b1 C1 CN
  go_wp2_with fail
  refine X.out.mono ?_
  rintro e w2 ⟨rfl, h2, k2⟩
  have X2 := Lib.hid (C2.out w2 h2)
  have B2 := Lib.hid (B1.out.trans k2.1)
  clear h2 k2 C2 X B1
  go_wp2_with fail
  refine X2.out.mono ?_
  rintro e w3 ⟨rfl, h3, k3⟩
  have X3 := Lib.hid (C3.out w3 h3)
  have B3 := Lib.hid (B2.out.trans k3.1)
  clear h3 k3 C3 X2 B2
  go_wp2_with fail
  refine X3.out.mono ?_
  rintro e w4 ⟨rfl, h4, k4⟩
  have hlt := h4.lt
  have X4 : Hid (Calls Try.prog 14 #[.pointer (some ⟨w.heap.size, 0, none⟩), .slice (some ⟨w4.heap.size, 0, none⟩) 1 1] (w4.alloc (.cells #[.int .i64 2] 3)) (LostP w.heap.size wk4 (w4.alloc (.cells #[.int .i64 2] 3)))) := Lib.hid (C4.out (w4.alloc (.cells #[.int .i64 2] 3)) (some ⟨w4.heap.size, 0, none⟩) (fun w' hk i z hz => by
    have hb := hk.block (heap_alloc_new w4 _) (by omega) (by decide)
    match i, hz with
    | 0, hz =>
      cases hz
      exact ⟨by simp [I64], w4.heap.size, 0, rfl, lt_heap hb, by rw [cell_heap hb]; rfl⟩) (h4.below ((Below.refl _ _).alloc (Nat.le_refl _) _)))
  have B4 := Lib.hid ((B3.out.trans k4.1).trans (((Below.refl _ w4).alloc (Nat.le_refl _) (.cells #[.int .i64 2] 3)).mono (Nat.le_of_lt hlt)))
  clear h4 k4 C4 X3 B3 hlt
  go_wp2_with fail
  refine X4.out.mono ?_
  rintro e w5 ⟨rfl, h5, k5⟩
  have X5 := Lib.hid (C5.out w5 h5)
  have X6 := Lib.hid (C6.out w5 h5)
  have X7 := Lib.hid (C7.out w5 h5)
  have B5 := Lib.hid (B4.out.trans k5.1)
  clear h5 k5 C5 C6 C7 X4 B4
  go_wp2_with fail
  refine X5.out.mono ?_
  rintro e w' ⟨rfl, rfl⟩
  clear X5
  go_wp2_with fail
  refine X6.out.mono ?_
  rintro e w' ⟨rfl, rfl⟩
  clear X6
  go_wp2_with fail
  refine X7.out.mono ?_
  rintro e w' ⟨rfl, rfl⟩
  clear X7
  go_wp2_with fail
  go_ret
  exact ⟨rfl, B5.out⟩

set_option maxRecDepth 100000 in
set_option maxHeartbeats 1000000 in
theorem diskNil_walk0 (w : World) (x0 x1 x2 : Int) (s : ByteArray) (A : Option Addr) (n cap : Nat) :
    Calls Try.prog 6 #[.agg #[.int .i64 x0, .int .i64 x1, .int .i64 x2, .string s, .slice A n cap]] w fun e w' => e = .returned (.bool true) ∧ Below w.heap.size w w' := by
  have C1 := Lib.hid (read_nil x1)
  have C2 := Lib.hid (cut_nil x2 A n cap)
  have C3 := Lib.hid (break_nil x2)
  have C4 := Lib.hid (crash_nil A n cap)
  have C5 := Lib.hid on_nil
  have C6 := Lib.hid wakes_any
  have C7 := Lib.hid (append_nil x1 s)
  have C8 := Lib.hid (sync_nil x1)
  have C9 := Lib.hid (clear_nil x1)
  have C10 := Lib.hid (lasts_nil x1)
  have C11 := Lib.hid off_nil
  obtain ⟨W, hW⟩ : ∃ W, W = w.alloc (.cells #[.int .i64 x0, .int .i64 x1, .int .i64 x2, .string s, .slice A n cap] 31) := ⟨_, rfl⟩
  have hb := heap_alloc_new w (.cells #[.int .i64 x0, .int .i64 x1, .int .i64 x2, .string s, .slice A n cap] 31)
  have b0 : Below w.heap.size w W := by rw [hW]; exact (Below.refl _ _).alloc (Nat.le_refl _) _
  rw [← hW] at hb
  have HB := Lib.hid hb
  have B0 := Lib.hid b0
  have HW := Lib.hid hW
  clear hb b0 hW
  go_enter Try.func6, Try.ntmps6
  go_wp2_with fail
  refine (C1.out _).mono ?_
  rintro e w' ⟨rfl, rfl⟩
  clear C1
  go_wp2_with fail
  refine (C2.out _).mono ?_
  rintro e w' ⟨rfl, rfl⟩
  go_wp2_with fail
  refine (C3.out _).mono ?_
  rintro e w' ⟨rfl, rfl⟩
  go_wp2_with fail
  refine (C4.out _).mono ?_
  rintro e w' ⟨rfl, rfl⟩
  go_wp2_with fail
  refine (C5.out _).mono ?_
  rintro e w' ⟨rfl, rfl⟩
  clear C2 C3 C4 C5
  go_wp2_with fail
  rw [← HW.out]
  refine (C6.out _).mono ?_
  rintro e w1 ⟨rfl, b1⟩
  have hb1 := (b1.block _ (lt_heap HB.out)).trans HB.out
  have q1 : w1.cell? ⟨w.heap.size, 1, none⟩ = some (.int .i64 x1) := by rw [cell_heap hb1]; rfl
  have q3 : w1.cell? ⟨w.heap.size, 3, none⟩ = some (.string s) := by rw [cell_heap hb1]; rfl
  have B1 := Lib.hid (B0.out.trans (b1.mono B0.out.size))
  have HB1 := Lib.hid hb1
  clear hb1 b1 B0 C6 HB HW
  go_wp2_with fail
  refine (C7.out _).mono ?_
  rintro e w2 ⟨rfl, b2⟩
  have hb2 := (b2.block _ (lt_heap HB1.out)).trans HB1.out
  have q1 : w2.cell? ⟨w.heap.size, 1, none⟩ = some (.int .i64 x1) := by rw [cell_heap hb2]; rfl
  have B2 := Lib.hid (B1.out.trans (b2.mono B1.out.size))
  clear hb2 b2 B1 C7 HB1
  go_wp2_with fail
  refine (C8.out _).mono ?_
  rintro e w' ⟨rfl, rfl⟩
  go_wp2_with fail
  refine (C9.out _).mono ?_
  rintro e w' ⟨rfl, rfl⟩
  go_wp2_with fail
  refine (C10.out _).mono ?_
  rintro e w' ⟨rfl, rfl⟩
  go_wp2_with fail
  refine (C11.out _).mono ?_
  rintro e w' ⟨rfl, rfl⟩
  clear C8 C9 C10 C11
  go_wp2_with fail
  go_ret
  exact ⟨rfl, B2.out⟩
end Go.Proofs.Ytdgljfoghonbaaa
