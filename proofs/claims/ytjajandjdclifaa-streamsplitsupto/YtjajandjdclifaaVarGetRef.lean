/- The document's function that reads a number; both, at every place. -/
import Derived.Test.YtjajandjdclifaaVarGet
namespace Go.Proofs.Ytjajandjdclifaa
open Go.RowKit

set_option maxRecDepth 100000 in
set_option maxHeartbeats 2000000 in
theorem refget_in_any (s : ByteArray) (k : Nat) (hs : s.size ≤ maxLen) (hk : k ≤ s.size) (w : World) :
    Calls Try.prog 9 #[.string s, .int .i64 k] w fun e w' => e = .returned (.tuple #[.int .i64 (VP.get s k).1, .int .i64 (VP.get s k).2.1, .int .i64 (VP.get s k).2.2]) ∧ w = w' := by
  have hg := Lib.hid (VP.get_in s k hk)
  unfold maxLen at hs
  have hd : decide (s.size < k) = false := by simp; omega
  have hd2 : decide ((k : Int) < 0) = false := by simp
  go_enter Try.func9, Try.ntmps9
  go_wp2
  go_loop [7, 8, 9] (fun n_ p_ i_ => ∃ (i : Nat) (j p n : Int), VP.IdxP i j p ∧ k + i ≤ s.size ∧ 0 ≤ n ∧ n < 128 ^ i ∧ VP.get s k = VP.getG s k (4 - i) i n ∧ i_ = .int .i64 j ∧ p_ = .int .i64 p ∧ n_ = .int .i64 n) (fun _ _ i => 4 - (intOf i).toNat)
  case atStart => exact ⟨0, 0, 1, 0, .inl ⟨rfl, rfl, rfl⟩, by omega, by omega, by omega, hg.out, rfl, rfl, rfl⟩
  case round =>
    obtain ⟨i, j, p, n, hij, hki, hn0, hn1, hG, rfl, rfl, rfl⟩ := hrel
    have HG := Lib.hid hG
    clear hG
    rcases hij with ⟨rfl, rfl, rfl⟩ | ⟨rfl, rfl, rfl⟩ | ⟨rfl, rfl, rfl⟩ | ⟨rfl, rfl, rfl⟩ | ⟨rfl, rfl, rfl⟩
    · have hn2 : n < 1 := by simpa using hn1
      clear hn1
      by_cases hlt : k < s.size
      · have hb := byte_lt s (k) hlt
        by_cases hb2 : ((s[k]'hlt).toNat : Int) < 128
        · have hor : n + ((s[k]'hlt).toNat : Int) % 128 = n + ((s[k]'hlt).toNat : Int) := by omega
          by_cases hz : VP.sz (n + ((s[k]'hlt).toNat : Int)) = 1
          · have Hz := Lib.hid hz
            have hz2 : ¬ VP.sz (n + ((s[k]'hlt).toNat : Int)) < 1 := by omega
            clear hz
            go_wp2_with fail
            refine (refsize_any _ _).mono ?_
            rintro e w' ⟨rfl, rfl⟩
            go_wp2
            go_ret3
            exact ⟨ret_three (by rw [HG.out, VP.last0 s k n hlt hb2 Hz.out]), rfl⟩
          · have hz2 : VP.sz (n + ((s[k]'hlt).toNat : Int)) < 1 := VP.sz_lt1 (by omega) (by omega) hz
            go_wp2_with fail
            refine (refsize_any _ _).mono ?_
            rintro e w' ⟨rfl, rfl⟩
            go_wp2
            go_ret3
            exact ⟨ret_three (by rw [HG.out, VP.bad0 s k n hlt hb2 (by omega)]), rfl⟩
        · have hor := Lib.hid (show n + ((s[k]'hlt).toNat : Int) % 128 = n + (((s[k]'hlt).toNat : Int) - 128) from by omega)
          go_wp2
          go_round
          case rel => exact ⟨1, 1, 128, _, .inr (.inl ⟨rfl, rfl, rfl⟩), by omega, by omega, by simp; omega, by rw [HG.out, VP.more0 s k n hlt (by omega), hor.out], rfl, rfl, rfl⟩
          case measure => simp [intOf]
      · go_wp2
        go_ret3
        exact ⟨ret_three (by rw [HG.out, VP.ends0 s k n (by omega)]), rfl⟩
    · have hn2 : n < 128 := by simpa using hn1
      clear hn1
      by_cases hlt : k + 1 < s.size
      · have hb := byte_lt s (k + 1) hlt
        by_cases hb2 : ((s[k + 1]'hlt).toNat : Int) < 128
        · have hor : n + ((s[k + 1]'hlt).toNat : Int) % 128 * 128 = n + ((s[k + 1]'hlt).toNat : Int) * 128 := by omega
          by_cases hz : VP.sz (n + ((s[k + 1]'hlt).toNat : Int) * 128) = 2
          · have Hz := Lib.hid hz
            have hz2 : ¬ VP.sz (n + ((s[k + 1]'hlt).toNat : Int) * 128) < 2 := by omega
            clear hz
            go_wp2_with fail
            refine (refsize_any _ _).mono ?_
            rintro e w' ⟨rfl, rfl⟩
            go_wp2
            go_ret3
            exact ⟨ret_three (by rw [HG.out, VP.last1 s k n hlt hb2 Hz.out]), rfl⟩
          · have hz2 : VP.sz (n + ((s[k + 1]'hlt).toNat : Int) * 128) < 2 := VP.sz_lt2 (by omega) (by omega) hz
            go_wp2_with fail
            refine (refsize_any _ _).mono ?_
            rintro e w' ⟨rfl, rfl⟩
            go_wp2
            go_ret3
            exact ⟨ret_three (by rw [HG.out, VP.bad1 s k n hlt hb2 (by omega)]), rfl⟩
        · have hor := Lib.hid (show n + ((s[k + 1]'hlt).toNat : Int) % 128 * 128 = n + (((s[k + 1]'hlt).toNat : Int) - 128) * 128 from by omega)
          go_wp2
          go_round
          case rel => exact ⟨2, 2, 16384, _, .inr (.inr (.inl ⟨rfl, rfl, rfl⟩)), by omega, by omega, by simp; omega, by rw [HG.out, VP.more1 s k n hlt (by omega), hor.out], rfl, rfl, rfl⟩
          case measure => simp [intOf]
      · go_wp2
        go_ret3
        exact ⟨ret_three (by rw [HG.out, VP.ends1 s k n (by omega)]), rfl⟩
    · have hn2 : n < 16384 := by simpa using hn1
      clear hn1
      by_cases hlt : k + 2 < s.size
      · have hb := byte_lt s (k + 2) hlt
        by_cases hb2 : ((s[k + 2]'hlt).toNat : Int) < 128
        · have hor : n + ((s[k + 2]'hlt).toNat : Int) % 128 * 16384 = n + ((s[k + 2]'hlt).toNat : Int) * 16384 := by omega
          by_cases hz : VP.sz (n + ((s[k + 2]'hlt).toNat : Int) * 16384) = 3
          · have Hz := Lib.hid hz
            have hz2 : ¬ VP.sz (n + ((s[k + 2]'hlt).toNat : Int) * 16384) < 3 := by omega
            clear hz
            go_wp2_with fail
            refine (refsize_any _ _).mono ?_
            rintro e w' ⟨rfl, rfl⟩
            go_wp2
            go_ret3
            exact ⟨ret_three (by rw [HG.out, VP.last2 s k n hlt hb2 Hz.out]), rfl⟩
          · have hz2 : VP.sz (n + ((s[k + 2]'hlt).toNat : Int) * 16384) < 3 := VP.sz_lt3 (by omega) (by omega) hz
            go_wp2_with fail
            refine (refsize_any _ _).mono ?_
            rintro e w' ⟨rfl, rfl⟩
            go_wp2
            go_ret3
            exact ⟨ret_three (by rw [HG.out, VP.bad2 s k n hlt hb2 (by omega)]), rfl⟩
        · have hor := Lib.hid (show n + ((s[k + 2]'hlt).toNat : Int) % 128 * 16384 = n + (((s[k + 2]'hlt).toNat : Int) - 128) * 16384 from by omega)
          go_wp2
          go_round
          case rel => exact ⟨3, 3, 2097152, _, .inr (.inr (.inr (.inl ⟨rfl, rfl, rfl⟩))), by omega, by omega, by simp; omega, by rw [HG.out, VP.more2 s k n hlt (by omega), hor.out], rfl, rfl, rfl⟩
          case measure => simp [intOf]
      · go_wp2
        go_ret3
        exact ⟨ret_three (by rw [HG.out, VP.ends2 s k n (by omega)]), rfl⟩
    · have hn2 : n < 2097152 := by simpa using hn1
      clear hn1
      by_cases hlt : k + 3 < s.size
      · have hb := byte_lt s (k + 3) hlt
        by_cases hb2 : ((s[k + 3]'hlt).toNat : Int) < 128
        · have hor : n + ((s[k + 3]'hlt).toNat : Int) % 128 * 2097152 = n + ((s[k + 3]'hlt).toNat : Int) * 2097152 := by omega
          by_cases hz : VP.sz (n + ((s[k + 3]'hlt).toNat : Int) * 2097152) = 4
          · have Hz := Lib.hid hz
            have hz2 : ¬ VP.sz (n + ((s[k + 3]'hlt).toNat : Int) * 2097152) < 4 := by omega
            clear hz
            go_wp2_with fail
            refine (refsize_any _ _).mono ?_
            rintro e w' ⟨rfl, rfl⟩
            go_wp2
            go_ret3
            exact ⟨ret_three (by rw [HG.out, VP.last3 s k n hlt hb2 Hz.out]), rfl⟩
          · have hz2 : VP.sz (n + ((s[k + 3]'hlt).toNat : Int) * 2097152) < 4 := VP.sz_lt4 (by omega) (by omega) hz
            go_wp2_with fail
            refine (refsize_any _ _).mono ?_
            rintro e w' ⟨rfl, rfl⟩
            go_wp2
            go_ret3
            exact ⟨ret_three (by rw [HG.out, VP.bad3 s k n hlt hb2 (by omega)]), rfl⟩
        · have hor := Lib.hid (show n + ((s[k + 3]'hlt).toNat : Int) % 128 * 2097152 = n + (((s[k + 3]'hlt).toNat : Int) - 128) * 2097152 from by omega)
          go_wp2
          go_round
          case rel => exact ⟨4, 4, 268435456, _, .inr (.inr (.inr (.inr ⟨rfl, rfl, rfl⟩))), by omega, by omega, by simp; omega, by rw [HG.out, VP.more3 s k n hlt (by omega), hor.out], rfl, rfl, rfl⟩
          case measure => simp [intOf]
      · go_wp2
        go_ret3
        exact ⟨ret_three (by rw [HG.out, VP.ends3 s k n (by omega)]), rfl⟩
    · clear hn1
      go_wp2
      go_ret3
      exact ⟨ret_three (by rw [HG.out]; rfl), rfl⟩

theorem get_any (s : ByteArray) (at_ : Int) (hs : s.size ≤ maxLen) (w : World) :
    Calls Try.prog 13 #[.string s, .int .i64 at_] w fun e w' => e = .returned (.tuple #[.int .i64 (VP.get s at_).1, .int .i64 (VP.get s at_).2.1, .int .u8 (VP.get s at_).2.2]) ∧ w = w' := by
  by_cases h : at_ < 0 ∨ (s.size : Int) < at_
  · rw [VP.get_out s at_ h]
    have H := Lib.hid h
    clear h
    go_enter Try.func13, Try.ntmps13
    go_wp2_with fail
    refine (within_no s at_ hs H.out _).mono ?_
    rintro e w' ⟨rfl, rfl⟩
    go_wp2
    go_ret3
    exact ⟨rfl, rfl⟩
  · obtain ⟨k, rfl⟩ := Int.eq_ofNat_of_zero_le (show 0 ≤ at_ by omega)
    exact get_in_any s k hs (by omega) w

theorem refget_any (s : ByteArray) (at_ : Int) (hs : s.size ≤ maxLen) (w : World) :
    Calls Try.prog 9 #[.string s, .int .i64 at_] w fun e w' => e = .returned (.tuple #[.int .i64 (VP.get s at_).1, .int .i64 (VP.get s at_).2.1, .int .i64 (VP.get s at_).2.2]) ∧ w = w' := by
  by_cases h : at_ < 0
  · rw [VP.get_out s at_ (.inl h)]
    go_enter Try.func9, Try.ntmps9
    go_wp2
    go_ret3
    exact ⟨rfl, rfl⟩
  · by_cases h2 : (s.size : Int) < at_
    · rw [VP.get_out s at_ (.inr h2)]
      unfold maxLen at hs
      go_enter Try.func9, Try.ntmps9
      go_wp2
      go_ret3
      exact ⟨rfl, rfl⟩
    · obtain ⟨k, rfl⟩ := Int.eq_ofNat_of_zero_le (show 0 ≤ at_ by omega)
      exact refget_in_any s k hs (by omega) w

end Go.Proofs.Ytjajandjdclifaa
