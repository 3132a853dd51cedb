/- Plain numbers and lists behind fixed numbers and data. No program is named here. -/
namespace Go.Proofs.YtemfcaaoobjgkaaGreatDoor
namespace VP

/-- Is it a width of fixed numbers? -/
def isW (w : Int) : Prop := w = 1 ∨ w = 2 ∨ w = 4

/-- The bytes of a number in w bytes, the highest first. -/
def fixL (w n : Int) : List Int :=
  if w = 1 then (if n < 0 ∨ 255 < n then [] else [n])
  else if w = 2 then (if n < 0 ∨ 65535 < n then [] else [n / 256, n % 256])
  else if w = 4 then (if n < 0 ∨ 4294967295 < n then [] else [n / 16777216, n / 65536 % 256, n / 256 % 256, n % 256])
  else []

/-- The code beside them. -/
def fixC (w n : Int) : Int :=
  if w = 1 then (if n < 0 ∨ 255 < n then 129 else 0)
  else if w = 2 then (if n < 0 ∨ 65535 < n then 129 else 0)
  else if w = 4 then (if n < 0 ∨ 4294967295 < n then 129 else 0)
  else 128

theorem fix_1out {n : Int} (h : n < 0 ∨ 255 < n) : fixL 1 n = [] ∧ fixC 1 n = 129 := by
  refine ⟨?_, ?_⟩
  · unfold fixL; rw [if_pos rfl, if_pos h]
  · unfold fixC; rw [if_pos rfl, if_pos h]
theorem fix_1 {n : Int} (h0 : 0 ≤ n) (h1 : n ≤ 255) : fixL 1 n = [n] ∧ fixC 1 n = 0 := by
  refine ⟨?_, ?_⟩
  · unfold fixL; rw [if_pos rfl, if_neg (by omega)]
  · unfold fixC; rw [if_pos rfl, if_neg (by omega)]
theorem fix_2out {n : Int} (h : n < 0 ∨ 65535 < n) : fixL 2 n = [] ∧ fixC 2 n = 129 := by
  refine ⟨?_, ?_⟩
  · unfold fixL; rw [if_neg (by decide), if_pos rfl, if_pos h]
  · unfold fixC; rw [if_neg (by decide), if_pos rfl, if_pos h]
theorem fix_2 {n : Int} (h0 : 0 ≤ n) (h1 : n ≤ 65535) : fixL 2 n = [n / 256, n % 256] ∧ fixC 2 n = 0 := by
  refine ⟨?_, ?_⟩
  · unfold fixL; rw [if_neg (by decide), if_pos rfl, if_neg (by omega)]
  · unfold fixC; rw [if_neg (by decide), if_pos rfl, if_neg (by omega)]
theorem fix_4out {n : Int} (h : n < 0 ∨ 4294967295 < n) : fixL 4 n = [] ∧ fixC 4 n = 129 := by
  refine ⟨?_, ?_⟩
  · unfold fixL; rw [if_neg (by decide), if_neg (by decide), if_pos rfl, if_pos h]
  · unfold fixC; rw [if_neg (by decide), if_neg (by decide), if_pos rfl, if_pos h]
theorem fix_4 {n : Int} (h0 : 0 ≤ n) (h1 : n ≤ 4294967295) : fixL 4 n = [n / 16777216, n / 65536 % 256, n / 256 % 256, n % 256] ∧ fixC 4 n = 0 := by
  refine ⟨?_, ?_⟩
  · unfold fixL; rw [if_neg (by decide), if_neg (by decide), if_pos rfl, if_neg (by omega)]
  · unfold fixC; rw [if_neg (by decide), if_neg (by decide), if_pos rfl, if_neg (by omega)]
theorem fix_no {w n : Int} (h : ¬ isW w) : fixL w n = [] ∧ fixC w n = 128 := by
  unfold isW at h
  refine ⟨?_, ?_⟩
  · unfold fixL; rw [if_neg (by omega), if_neg (by omega), if_neg (by omega)]
  · unfold fixC; rw [if_neg (by omega), if_neg (by omega), if_neg (by omega)]
theorem fixC_le (w n : Int) : 0 ≤ fixC w n ∧ fixC w n ≤ 129 := by
  unfold fixC; repeat' split
  all_goals decide

/-- The number in w bytes at a place of s, the place behind it, the code. -/
def rd (s : ByteArray) (at_ w : Int) : Int × Int × Int :=
  if at_ < 0 ∨ (s.size : Int) < at_ then (0, 0, 128)
  else if w = 1 then (if h : at_.toNat < s.size then (((s[at_.toNat]'h).toNat : Int), at_ + 1, 0) else (0, 0, 242))
  else if w = 2 then (if h : at_.toNat + 1 < s.size then (((s[at_.toNat]'(by omega)).toNat : Int) * 256 + (s[at_.toNat + 1]'h).toNat, at_ + 2, 0) else (0, 0, 242))
  else if w = 4 then (if h : at_.toNat + 3 < s.size then
    (((((s[at_.toNat]'(by omega)).toNat : Int) * 256 + (s[at_.toNat + 1]'(by omega)).toNat) * 256 + (s[at_.toNat + 2]'(by omega)).toNat) * 256 + (s[at_.toNat + 3]'h).toNat, at_ + 4, 0) else (0, 0, 242))
  else (0, 0, 128)

theorem rd_out (s : ByteArray) (at_ w : Int) (h : at_ < 0 ∨ (s.size : Int) < at_) : rd s at_ w = (0, 0, 128) := by unfold rd; rw [if_pos h]
theorem rd_no (s : ByteArray) (at_ w : Int) (h : ¬ isW w) : rd s at_ w = (0, 0, 128) := by
  unfold isW at h
  unfold rd
  split
  · rfl
  · rw [if_neg (by omega), if_neg (by omega), if_neg (by omega)]
theorem rd_1 (s : ByteArray) (k : Nat) (h : k < s.size) : rd s k 1 = (((s[k]'h).toNat : Int), (k : Int) + 1, 0) := by
  unfold rd; rw [if_neg (by omega), if_pos rfl, dif_pos (by simpa using h)]; simp
theorem rd_1few (s : ByteArray) (k : Nat) (hk : k ≤ s.size) (h : ¬ k < s.size) : rd s k 1 = (0, 0, 242) := by
  unfold rd; rw [if_neg (by omega), if_pos rfl, dif_neg (by simpa using h)]
theorem rd_2 (s : ByteArray) (k : Nat) (h : k + 1 < s.size) : rd s k 2 = (((s[k]'(by omega)).toNat : Int) * 256 + (s[k + 1]'h).toNat, (k : Int) + 2, 0) := by
  unfold rd; rw [if_neg (by omega), if_neg (by decide), if_pos rfl, dif_pos (by simpa using h)]; simp
theorem rd_2few (s : ByteArray) (k : Nat) (hk : k ≤ s.size) (h : ¬ k + 1 < s.size) : rd s k 2 = (0, 0, 242) := by
  unfold rd; rw [if_neg (by omega), if_neg (by decide), if_pos rfl, dif_neg (by simpa using h)]
theorem rd_4 (s : ByteArray) (k : Nat) (h : k + 3 < s.size) :
    rd s k 4 = (((((s[k]'(by omega)).toNat : Int) * 256 + (s[k + 1]'(by omega)).toNat) * 256 + (s[k + 2]'(by omega)).toNat) * 256 + (s[k + 3]'h).toNat, (k : Int) + 4, 0) := by
  unfold rd; rw [if_neg (by omega), if_neg (by decide), if_neg (by decide), if_pos rfl, dif_pos (by simpa using h)]; simp
theorem rd_4few (s : ByteArray) (k : Nat) (hk : k ≤ s.size) (h : ¬ k + 3 < s.size) : rd s k 4 = (0, 0, 242) := by
  unfold rd; rw [if_neg (by omega), if_neg (by decide), if_neg (by decide), if_pos rfl, dif_neg (by simpa using h)]
theorem rd_code (s : ByteArray) (at_ w : Int) : 0 ≤ (rd s at_ w).2.2 ∧ (rd s at_ w).2.2 ≤ 242 := by
  unfold rd; repeat' split
  all_goals (constructor <;> simp)

/-- The data at a place of s, the place behind it, the code. -/
def dat (s : ByteArray) (at_ : Int) : ByteArray × Int × Int :=
  if (rd s at_ 2).2.2 = 0 then
    (if (s.size : Int) - (rd s at_ 2).2.1 < (rd s at_ 2).1 then (⟨#[]⟩, 0, 242)
     else (s.extract (rd s at_ 2).2.1.toNat ((rd s at_ 2).2.1 + (rd s at_ 2).1).toNat, (rd s at_ 2).2.1 + (rd s at_ 2).1, 0))
  else (⟨#[]⟩, 0, (rd s at_ 2).2.2)

theorem rd2_ok (s : ByteArray) (at_ : Int) (h : (rd s at_ 2).2.2 = 0) : ∃ k L : Nat, at_ = k ∧ k + 2 ≤ s.size ∧ L < 65536 ∧ rd s at_ 2 = ((L : Int), (k : Int) + 2, 0) := by
  by_cases ho : at_ < 0 ∨ (s.size : Int) < at_
  · rw [rd_out s at_ 2 ho] at h; exact absurd h (by decide)
  · obtain ⟨k, rfl⟩ := Int.eq_ofNat_of_zero_le (show 0 ≤ at_ by omega)
    by_cases hk : k + 1 < s.size
    · refine ⟨k, (s[k]'(by omega)).toNat * 256 + (s[k + 1]'hk).toNat, rfl, by omega, ?_, ?_⟩
      · have h0 := (s[k]'(by omega)).toNat_lt
        have h1 := (s[k + 1]'hk).toNat_lt
        omega
      · rw [rd_2 s k hk]; simp
    · rw [rd_2few s k (by omega) hk] at h; exact absurd h (by decide)
theorem dat_bad (s : ByteArray) (at_ : Int) (h : ¬ (rd s at_ 2).2.2 = 0) : dat s at_ = (⟨#[]⟩, 0, (rd s at_ 2).2.2) := by unfold dat; rw [if_neg h]
theorem dat_few (s : ByteArray) (k L : Nat) (h : rd s k 2 = ((L : Int), (k : Int) + 2, 0)) (hl : (s.size : Int) - (k + 2) < L) : dat s k = (⟨#[]⟩, 0, 242) := by
  unfold dat; rw [h, if_pos rfl, if_pos hl]
theorem dat_ok (s : ByteArray) (k L : Nat) (h : rd s k 2 = ((L : Int), (k : Int) + 2, 0)) (hl : ¬ (s.size : Int) - (k + 2) < L) : dat s k = (s.extract (k + 2) (k + 2 + L), (k : Int) + 2 + L, 0) := by
  unfold dat; rw [h, if_pos rfl, if_neg hl]
  have e1 : ((k : Int) + 2).toNat = k + 2 := by omega
  have e2 : ((k : Int) + 2 + L).toNat = k + 2 + L := by omega
  simp only [e1, e2]
theorem dat_code (s : ByteArray) (at_ : Int) : 0 ≤ (dat s at_).2.2 ∧ (dat s at_).2.2 ≤ 242 := by
  have := rd_code s at_ 2
  unfold dat
  split
  · split
    · exact ⟨by decide, by decide⟩
    · exact ⟨Int.le_refl 0, (by decide : (0 : Int) ≤ 242)⟩
  · exact this

end VP
end Go.Proofs.YtemfcaaoobjgkaaGreatDoor
