/- The law on data returns true. -/
import Derived.Test.YtlhpglkbipbckaaVarData
namespace Go.Proofs.Ytlhpglkbipbckaa
open Go.RowKit

theorem datax : strOfNums [((⟨#[120]⟩ : ByteArray).size : Int) / 256, ((⟨#[120]⟩ : ByteArray).size : Int) % 256] ++ (⟨#[120]⟩ : ByteArray) = ⟨#[0, 1, 120]⟩ := by decide

set_option maxHeartbeats 1000000 in
theorem varintData_walk (s t : ByteArray) (at_ : Int) (hs : s.size ≤ maxLen) (ht : t.size ≤ maxLen) (_hw : (Lit.int .i64 at_).wf = true) (w : World) :
    Calls Try.prog 8 #[.string s, .string t, .int .i64 at_] w fun e w' => e = .returned (.bool true) ∧ Below w.heap.size w w' := by
  have hx := Lib.hid datax
  have hc : 0 ≤ (if s.size ≤ 65535 then (0 : Int) else 149) ∧ (if s.size ≤ 65535 then (0 : Int) else 149) ≤ 149 := by split <;> omega
  have HC := Lib.hid hc
  clear hc
  go_enter Try.func8, Try.ntmps8
  go_wp2_with fail
  refine (data_any s hs _).mono ?_
  rintro e w1 ⟨rfl, b1⟩
  obtain ⟨D, hD⟩ : ∃ D, D = (if s.size ≤ 65535 then strOfNums [(s.size : Int) / 256, (s.size : Int) % 256] ++ s else ⟨#[]⟩) := ⟨_, rfl⟩
  obtain ⟨C, hC⟩ : ∃ C, C = (if s.size ≤ 65535 then (0 : Int) else 149) := ⟨_, rfl⟩
  rw [← hD, ← hC]
  have HD := Lib.hid hD
  have HCe := Lib.hid hC
  clear hD hC
  go_wp2_with fail
  refine (refdata_any s hs _).mono ?_
  rintro e w2 ⟨rfl, b2⟩
  rw [← HD.out, ← HCe.out]
  go_wp2_with fail
  refine (getdata_any t at_ ht _).mono ?_
  rintro e w3 ⟨rfl, b3⟩
  go_wp2_with fail
  refine (refgetdata_any t at_ ht _).mono ?_
  rintro e w4 ⟨rfl, b4⟩
  go_wp2_with fail
  refine (data_any ⟨#[120]⟩ (by decide) _).mono ?_
  rintro e w5 ⟨rfl, b5⟩
  rw [if_pos (by decide), if_pos (by decide), hx.out]
  have B2 := b1.trans (b2.mono b1.size)
  have B3 := B2.trans (b3.mono B2.size)
  have B4 := B3.trans (b4.mono B3.size)
  have B := B4.trans (b5.mono B4.size)
  clear b1 b2 b3 b4 b5 B2 B3 B4
  have hc := HC.out
  rw [← HCe.out] at hc
  obtain ⟨hc0, hc1⟩ := hc
  obtain ⟨hd0, hd1⟩ := VP.dat_code t at_
  generalize VP.dat t at_ = u at hd0 hd1
  obtain ⟨a, b, c⟩ := u
  clear HC HCe HD
  go_wp2
  go_ret
  exact ⟨rfl, B⟩

end Go.Proofs.Ytlhpglkbipbckaa
