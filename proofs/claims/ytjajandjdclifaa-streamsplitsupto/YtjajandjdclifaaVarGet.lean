/- The two functions that read a number answer the same number, place and code. -/
import Derived.Test.YtjajandjdclifaaVarSize
import Derived.Test.YtjajandjdclifaaVarWithin
namespace Go.Proofs.Ytjajandjdclifaa
open Go.RowKit

theorem or_join (i : Nat) (n x y : Int) (hx : x % 128 * 2 ^ i = y) (hn0 : 0 ≤ n) (hn : n < 2 ^ i) (hi : y < 2 ^ 62) (hy : n < 2 ^ 62) (h0 : 0 ≤ y) : bits .or .i64 n y = n + y := by
  refine i64_or i y n h0 ?_ hi hn0 hn hy
  rw [← hx]
  exact Int.mul_emod_left _ _

set_option maxRecDepth 100000 in
set_option maxHeartbeats 2000000 in
theorem get_in_any (s : ByteArray) (k : Nat) (hs : s.size ≤ maxLen) (hk : k ≤ s.size) (w : World) :
    Calls Try.prog 13 #[.string s, .int .i64 k] w fun e w' => e = .returned (.tuple #[.int .i64 (VP.get s k).1, .int .i64 (VP.get s k).2.1, .int .u8 (VP.get s k).2.2]) ∧ w = w' := by
  have hg := Lib.hid (VP.get_in s k hk)
  have hs' := hs
  unfold maxLen at hs'
  have h127 := i64_and127
  go_enter Try.func13, Try.ntmps13
  go_wp2_with fail
  refine (within_yes s k hs hk _).mono ?_
  rintro e w' ⟨rfl, rfl⟩
  go_wp2
  all_goals
    go_loop [8, 21] (fun n_ i_ => ∃ (i : Nat) (j n : Int), VP.Idx i j ∧ k + i ≤ s.size ∧ 0 ≤ n ∧ n < 128 ^ i ∧ VP.get s k = VP.getG s k (4 - i) i n ∧ i_ = .int .i64 j ∧ n_ = .int .i64 n) (fun _ i => 4 - (intOf i).toNat)
    case atStart => exact ⟨0, 0, 0, .inl ⟨rfl, rfl⟩, by omega, by omega, by omega, hg.out, rfl, rfl⟩
    case round =>
      obtain ⟨i, j, n, hij, hki, hn0, hn1, hG, rfl, rfl⟩ := hrel
      have HG := Lib.hid hG
      clear hG
      rcases hij with ⟨rfl, rfl⟩ | ⟨rfl, rfl⟩ | ⟨rfl, rfl⟩ | ⟨rfl, rfl⟩ | ⟨rfl, rfl⟩
      · have hn2 : n < 1 := by simpa using hn1
        clear hn1
        by_cases hlt : k < s.size
        · have hb := byte_lt s (k) hlt
          have hor0 : bits .or .i64 n (((s[k]'hlt).toNat : Int) % 128) = n + ((s[k]'hlt).toNat : Int) % 128 := or_join 0 n ((s[k]'hlt).toNat : Int) _ (by simp) hn0 (by simpa using hn2) (by omega) (by omega) (by omega)
          by_cases hb2 : ((s[k]'hlt).toNat : Int) < 128
          · have hor : bits .or .i64 n (((s[k]'hlt).toNat : Int) % 128) = n + ((s[k]'hlt).toNat : Int) := by rw [hor0]; omega
            clear hor0
            have ht : (bits .and .i64 ((s[k]'hlt).toNat : Int) 128 != 0) = false := by rw [i64_and128 _ (by omega) hb, if_pos hb2]; rfl
            by_cases hz : VP.sz (n + ((s[k]'hlt).toNat : Int)) = 1
            · have Hz := Lib.hid hz
              have hz2 : (VP.sz (n + ((s[k]'hlt).toNat : Int)) != 1) = false := by rw [hz]; rfl
              clear hz
              go_wp2_with fail
              refine (size_any _ _).mono ?_
              rintro e w' ⟨rfl, rfl⟩
              go_wp2
              go_ret3
              exact ⟨ret_three (by rw [HG.out, VP.last0 s k n hlt hb2 Hz.out]), rfl⟩
            · have hz2 : (VP.sz (n + ((s[k]'hlt).toNat : Int)) != 1) = true := by simpa using hz
              go_wp2_with fail
              refine (size_any _ _).mono ?_
              rintro e w' ⟨rfl, rfl⟩
              go_wp2
              go_ret3
              exact ⟨ret_three (by rw [HG.out, VP.bad0 s k n hlt hb2 hz]), rfl⟩
          · have hor : bits .or .i64 n (((s[k]'hlt).toNat : Int) % 128) = n + (((s[k]'hlt).toNat : Int) - 128) := by rw [hor0]; omega
            clear hor0
            have ht : (bits .and .i64 ((s[k]'hlt).toNat : Int) 128 != 0) = true := by rw [i64_and128 _ (by omega) hb, if_neg hb2]; rfl
            go_wp2
            go_round
            case rel => exact ⟨1, 1, _, .inr (.inl ⟨rfl, rfl⟩), by omega, by omega, by simp; omega, by rw [HG.out, VP.more0 s k n hlt (by omega)], rfl, rfl⟩
            case measure => simp [intOf]
        · first
          | (exfalso; omega)
          | (go_wp2
             go_ret3
             exact ⟨ret_three (by rw [HG.out, VP.ends0 s k n (by omega)]), rfl⟩)
      · have hn2 : n < 128 := by simpa using hn1
        clear hn1
        by_cases hlt : k + 1 < s.size
        · have hb := byte_lt s (k + 1) hlt
          have hor0 : bits .or .i64 n (((s[k + 1]'hlt).toNat : Int) % 128 * 128) = n + ((s[k + 1]'hlt).toNat : Int) % 128 * 128 := or_join 7 n ((s[k + 1]'hlt).toNat : Int) _ (by simp) hn0 (by simpa using hn2) (by omega) (by omega) (by omega)
          by_cases hb2 : ((s[k + 1]'hlt).toNat : Int) < 128
          · have hor : bits .or .i64 n (((s[k + 1]'hlt).toNat : Int) % 128 * 128) = n + ((s[k + 1]'hlt).toNat : Int) * 128 := by rw [hor0]; omega
            clear hor0
            have ht : (bits .and .i64 ((s[k + 1]'hlt).toNat : Int) 128 != 0) = false := by rw [i64_and128 _ (by omega) hb, if_pos hb2]; rfl
            by_cases hz : VP.sz (n + ((s[k + 1]'hlt).toNat : Int) * 128) = 2
            · have Hz := Lib.hid hz
              have hz2 : (VP.sz (n + ((s[k + 1]'hlt).toNat : Int) * 128) != 2) = false := by rw [hz]; rfl
              clear hz
              go_wp2_with fail
              refine (size_any _ _).mono ?_
              rintro e w' ⟨rfl, rfl⟩
              go_wp2
              go_ret3
              exact ⟨ret_three (by rw [HG.out, VP.last1 s k n hlt hb2 Hz.out]), rfl⟩
            · have hz2 : (VP.sz (n + ((s[k + 1]'hlt).toNat : Int) * 128) != 2) = true := by simpa using hz
              go_wp2_with fail
              refine (size_any _ _).mono ?_
              rintro e w' ⟨rfl, rfl⟩
              go_wp2
              go_ret3
              exact ⟨ret_three (by rw [HG.out, VP.bad1 s k n hlt hb2 hz]), rfl⟩
          · have hor : bits .or .i64 n (((s[k + 1]'hlt).toNat : Int) % 128 * 128) = n + (((s[k + 1]'hlt).toNat : Int) - 128) * 128 := by rw [hor0]; omega
            clear hor0
            have ht : (bits .and .i64 ((s[k + 1]'hlt).toNat : Int) 128 != 0) = true := by rw [i64_and128 _ (by omega) hb, if_neg hb2]; rfl
            go_wp2
            go_round
            case rel => exact ⟨2, 2, _, .inr (.inr (.inl ⟨rfl, rfl⟩)), by omega, by omega, by simp; omega, by rw [HG.out, VP.more1 s k n hlt (by omega)], rfl, rfl⟩
            case measure => simp [intOf]
        · first
          | (exfalso; omega)
          | (go_wp2
             go_ret3
             exact ⟨ret_three (by rw [HG.out, VP.ends1 s k n (by omega)]), rfl⟩)
      · have hn2 : n < 16384 := by simpa using hn1
        clear hn1
        by_cases hlt : k + 2 < s.size
        · have hb := byte_lt s (k + 2) hlt
          have hor0 : bits .or .i64 n (((s[k + 2]'hlt).toNat : Int) % 128 * 16384) = n + ((s[k + 2]'hlt).toNat : Int) % 128 * 16384 := or_join 14 n ((s[k + 2]'hlt).toNat : Int) _ (by simp) hn0 (by simpa using hn2) (by omega) (by omega) (by omega)
          by_cases hb2 : ((s[k + 2]'hlt).toNat : Int) < 128
          · have hor : bits .or .i64 n (((s[k + 2]'hlt).toNat : Int) % 128 * 16384) = n + ((s[k + 2]'hlt).toNat : Int) * 16384 := by rw [hor0]; omega
            clear hor0
            have ht : (bits .and .i64 ((s[k + 2]'hlt).toNat : Int) 128 != 0) = false := by rw [i64_and128 _ (by omega) hb, if_pos hb2]; rfl
            by_cases hz : VP.sz (n + ((s[k + 2]'hlt).toNat : Int) * 16384) = 3
            · have Hz := Lib.hid hz
              have hz2 : (VP.sz (n + ((s[k + 2]'hlt).toNat : Int) * 16384) != 3) = false := by rw [hz]; rfl
              clear hz
              go_wp2_with fail
              refine (size_any _ _).mono ?_
              rintro e w' ⟨rfl, rfl⟩
              go_wp2
              go_ret3
              exact ⟨ret_three (by rw [HG.out, VP.last2 s k n hlt hb2 Hz.out]), rfl⟩
            · have hz2 : (VP.sz (n + ((s[k + 2]'hlt).toNat : Int) * 16384) != 3) = true := by simpa using hz
              go_wp2_with fail
              refine (size_any _ _).mono ?_
              rintro e w' ⟨rfl, rfl⟩
              go_wp2
              go_ret3
              exact ⟨ret_three (by rw [HG.out, VP.bad2 s k n hlt hb2 hz]), rfl⟩
          · have hor : bits .or .i64 n (((s[k + 2]'hlt).toNat : Int) % 128 * 16384) = n + (((s[k + 2]'hlt).toNat : Int) - 128) * 16384 := by rw [hor0]; omega
            clear hor0
            have ht : (bits .and .i64 ((s[k + 2]'hlt).toNat : Int) 128 != 0) = true := by rw [i64_and128 _ (by omega) hb, if_neg hb2]; rfl
            go_wp2
            go_round
            case rel => exact ⟨3, 3, _, .inr (.inr (.inr (.inl ⟨rfl, rfl⟩))), by omega, by omega, by simp; omega, by rw [HG.out, VP.more2 s k n hlt (by omega)], rfl, rfl⟩
            case measure => simp [intOf]
        · first
          | (exfalso; omega)
          | (go_wp2
             go_ret3
             exact ⟨ret_three (by rw [HG.out, VP.ends2 s k n (by omega)]), rfl⟩)
      · have hn2 : n < 2097152 := by simpa using hn1
        clear hn1
        by_cases hlt : k + 3 < s.size
        · have hb := byte_lt s (k + 3) hlt
          have hor0 : bits .or .i64 n (((s[k + 3]'hlt).toNat : Int) % 128 * 2097152) = n + ((s[k + 3]'hlt).toNat : Int) % 128 * 2097152 := or_join 21 n ((s[k + 3]'hlt).toNat : Int) _ (by simp) hn0 (by simpa using hn2) (by omega) (by omega) (by omega)
          by_cases hb2 : ((s[k + 3]'hlt).toNat : Int) < 128
          · have hor : bits .or .i64 n (((s[k + 3]'hlt).toNat : Int) % 128 * 2097152) = n + ((s[k + 3]'hlt).toNat : Int) * 2097152 := by rw [hor0]; omega
            clear hor0
            have ht : (bits .and .i64 ((s[k + 3]'hlt).toNat : Int) 128 != 0) = false := by rw [i64_and128 _ (by omega) hb, if_pos hb2]; rfl
            by_cases hz : VP.sz (n + ((s[k + 3]'hlt).toNat : Int) * 2097152) = 4
            · have Hz := Lib.hid hz
              have hz2 : (VP.sz (n + ((s[k + 3]'hlt).toNat : Int) * 2097152) != 4) = false := by rw [hz]; rfl
              clear hz
              go_wp2_with fail
              refine (size_any _ _).mono ?_
              rintro e w' ⟨rfl, rfl⟩
              go_wp2
              go_ret3
              exact ⟨ret_three (by rw [HG.out, VP.last3 s k n hlt hb2 Hz.out]), rfl⟩
            · have hz2 : (VP.sz (n + ((s[k + 3]'hlt).toNat : Int) * 2097152) != 4) = true := by simpa using hz
              go_wp2_with fail
              refine (size_any _ _).mono ?_
              rintro e w' ⟨rfl, rfl⟩
              go_wp2
              go_ret3
              exact ⟨ret_three (by rw [HG.out, VP.bad3 s k n hlt hb2 hz]), rfl⟩
          · have hor : bits .or .i64 n (((s[k + 3]'hlt).toNat : Int) % 128 * 2097152) = n + (((s[k + 3]'hlt).toNat : Int) - 128) * 2097152 := by rw [hor0]; omega
            clear hor0
            have ht : (bits .and .i64 ((s[k + 3]'hlt).toNat : Int) 128 != 0) = true := by rw [i64_and128 _ (by omega) hb, if_neg hb2]; rfl
            go_wp2
            go_round
            case rel => exact ⟨4, 4, _, .inr (.inr (.inr (.inr ⟨rfl, rfl⟩))), by omega, by omega, by simp; omega, by rw [HG.out, VP.more3 s k n hlt (by omega)], rfl, rfl⟩
            case measure => simp [intOf]
        · first
          | (exfalso; omega)
          | (go_wp2
             go_ret3
             exact ⟨ret_three (by rw [HG.out, VP.ends3 s k n (by omega)]), rfl⟩)
      · clear hn1
        go_wp2
        go_ret3
        exact ⟨ret_three (by rw [HG.out]; rfl), rfl⟩

end Go.Proofs.Ytjajandjdclifaa
