/- The disk's smaller functions. -/
import Derived.Test.YtdgljfoghonbaaaDkRep
namespace Go.Proofs.Ytdgljfoghonbaaa
open Go.RowKit DK

set_option maxRecDepth 100000 in
theorem isFile_any (f : Int) (w : World) : Calls Try.prog 31 #[.int .i64 f] w fun e w' => e = .returned (.bool (fileB f)) ∧ w = w' := by
  by_cases h0 : 0 ≤ f
  · by_cases h1 : f < 2
    · have hf : fileB f = true := by unfold fileB; simp; omega
      rw [hf]
      clear hf
      go_enter Try.func31, Try.ntmps31
      go_wp2
      go_ret
      exact ⟨rfl, rfl⟩
    · have hf : fileB f = false := by unfold fileB; simp; omega
      rw [hf]
      clear hf
      go_enter Try.func31, Try.ntmps31
      go_wp2
      go_ret
      exact ⟨rfl, rfl⟩
  · have hf : fileB f = false := by unfold fileB; simp; omega
    have hd : decide (0 ≤ f) = false := by simpa using h0
    rw [hf]
    clear hf
    go_enter Try.func31, Try.ntmps31
    go_wp2
    go_ret
    exact ⟨rfl, rfl⟩

set_option maxRecDepth 100000 in
theorem refused_nil (f : Int) (w : World) : Calls Try.prog 30 #[.pointer none, .int .i64 f] w fun e w' => e = .returned (.int .u8 128) ∧ w = w' := by
  go_enter Try.func30, Try.ntmps30
  go_wp2
  go_ret
  exact ⟨rfl, rfl⟩
set_option maxRecDepth 100000 in
theorem refused_any (d : Nat) (D : Dv) (f : Int) (w : World) (h : Dk d D w) : Calls Try.prog 30 #[.pointer (some ⟨d, 0, none⟩), .int .i64 f] w fun e w' => e = .returned (.int .u8 (D.ref f)) ∧ w = w' := by
  obtain ⟨va, vb, h⟩ := h
  obtain ⟨-, -, -, -, -, c5, -, -, -, -⟩ := h.cells
  have C := Lib.hid (isFile_any f)
  clear h
  by_cases ho : D.off = true
  · have hr : D.ref f = 240 := by unfold Dv.ref; rw [if_pos ho]
    rw [hr]
    rw [ho] at c5
    clear hr ho
    go_enter Try.func30, Try.ntmps30
    go_wp2
    go_ret
    exact ⟨rfl, rfl⟩
  · have ho' : D.off = false := by simpa using ho
    rw [ho'] at c5
    by_cases hf : fileB f = true
    · have hr : D.ref f = 0 := by unfold Dv.ref; rw [if_neg ho, if_pos hf]
      rw [hf] at C
      rw [hr]
      clear hr ho ho' hf
      go_enter Try.func30, Try.ntmps30
      go_wp2_with fail
      refine (C.out _).mono ?_
      rintro e w' ⟨rfl, rfl⟩
      go_wp2
      go_ret
      exact ⟨rfl, rfl⟩
    · have hr : D.ref f = 242 := by unfold Dv.ref; rw [if_neg ho, if_neg hf]
      have hf' : fileB f = false := by simpa using hf
      rw [hf'] at C
      rw [hr]
      clear hr ho ho' hf hf'
      go_enter Try.func30, Try.ntmps30
      go_wp2_with fail
      refine (C.out _).mono ?_
      rintro e w' ⟨rfl, rfl⟩
      go_wp2
      go_ret
      exact ⟨rfl, rfl⟩

set_option maxRecDepth 100000 in
theorem kept_any (k : Int) (n : Nat) (w : World) (hk : I64 k) (hn : n ≤ 16777216) : Calls Try.prog 45 #[.int .i64 k, .int .i64 n] w fun e w' => e = .returned (.int .i64 (kp k n)) ∧ w = w' := by
  obtain ⟨hk1, hk2⟩ := hk
  unfold kp
  by_cases h0 : 0 ≤ k
  · rw [if_pos h0]
    go_enter Try.func45, Try.ntmps45
    go_wp2
    go_ret
    exact ⟨rfl, rfl⟩
  · rw [if_neg h0]
    have hk0 : k < 0 := by omega
    have hd : decide (0 ≤ k) = false := by simpa using h0
    have hm := Int.emod_lt_of_pos (-(k + 1)) (b := (n : Int) + 1) (by omega)
    have hm0 := Int.emod_nonneg (-(k + 1)) (b := (n : Int) + 1) (by omega)
    have ht : (k + 1).tmod ((n : Int) + 1) = -(-(k + 1) % ((n : Int) + 1)) := by
      rw [← Int.tmod_eq_emod_of_nonneg (by omega), Int.neg_tmod, Int.neg_neg]
    have HT := Lib.hid ht
    clear h0 ht
    go_enter Try.func45, Try.ntmps45
    go_wp2
    go_ret
    refine ⟨ret_int ?_, rfl⟩
    rw [HT.out]
    generalize -(k + 1) % ((n : Int) + 1) = m at *
    unfold wrap64
    omega

/-- One int in a cell, counted down. -/
theorem due_run (a : Addr) (n : Int) (w : World) (hn : I64 n) (c : w.cell? a = some (.int .i64 n)) (fz : w.frozen? a = false) :
    Calls Try.prog 43 #[.pointer (some a)] w fun e w' => e = .returned (.bool (decide (n = 1))) ∧ (if 1 < n then w.setCell a (.int .i64 (n - 1)) else w) = w' := by
  obtain ⟨hn1, hn2⟩ := hn
  by_cases h1 : 1 < n
  · rw [if_pos h1, decide_eq_false (by omega : ¬ n = 1)]
    go_enter Try.func43, Try.ntmps43
    go_wp2
    go_ret
    exact ⟨rfl, rfl⟩
  · rw [if_neg h1]
    go_enter Try.func43, Try.ntmps43
    go_wp2
    go_ret
    exact ⟨ret_bool (by rfl), rfl⟩
end Go.Proofs.Ytdgljfoghonbaaa
