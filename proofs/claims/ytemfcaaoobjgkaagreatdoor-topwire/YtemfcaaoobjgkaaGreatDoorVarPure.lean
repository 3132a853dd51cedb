/- Plain numbers and lists behind the layer of numbers and data: how many bytes a number takes, its bytes. No program is named here. -/
namespace Go.Proofs.YtemfcaaoobjgkaaGreatDoor
namespace VP

/-- How many bytes a number takes (0: none). -/
def sz (n : Int) : Int :=
  if n < 0 ∨ 268435455 < n then 0 else if n < 128 then 1 else if n < 16384 then 2 else if n < 2097152 then 3 else 4

theorem sz_out {n : Int} (h : n < 0 ∨ 268435455 < n) : sz n = 0 := by unfold sz; rw [if_pos h]
theorem sz_1 {n : Int} (h0 : 0 ≤ n) (h1 : n < 128) : sz n = 1 := by unfold sz; rw [if_neg (by omega), if_pos (by omega)]
theorem sz_2 {n : Int} (h0 : 128 ≤ n) (h1 : n < 16384) : sz n = 2 := by unfold sz; rw [if_neg (by omega), if_neg (by omega), if_pos (by omega)]
theorem sz_3 {n : Int} (h0 : 16384 ≤ n) (h1 : n < 2097152) : sz n = 3 := by unfold sz; rw [if_neg (by omega), if_neg (by omega), if_neg (by omega), if_pos (by omega)]
theorem sz_4 {n : Int} (h0 : 2097152 ≤ n) (h1 : n ≤ 268435455) : sz n = 4 := by unfold sz; rw [if_neg (by omega), if_neg (by omega), if_neg (by omega), if_neg (by omega)]

theorem sz_div {m : Int} (h0 : 127 < m) (h1 : m ≤ 268435455) : sz (m / 128) + 1 = sz m := by
  rcases (show (m < 16384) ∨ (16384 ≤ m ∧ m < 2097152) ∨ (2097152 ≤ m) from by omega) with h | ⟨h, h'⟩ | h
  · rw [sz_1 (by omega) (by omega), sz_2 (by omega) h]; rfl
  · rw [sz_2 (by omega) (by omega), sz_3 h h']; rfl
  · rw [sz_3 (by omega) (by omega), sz_4 h h1]; rfl

/-- A number's bytes. -/
def putL (n : Int) : List Int :=
  if n < 0 ∨ 268435455 < n then [] else if n < 128 then [n] else if n < 16384 then [n % 128 + 128, n / 128]
  else if n < 2097152 then [n % 128 + 128, n / 128 % 128 + 128, n / 16384] else [n % 128 + 128, n / 128 % 128 + 128, n / 16384 % 128 + 128, n / 2097152]

/-- The code beside them. -/
def putC (n : Int) : Int := if n < 0 ∨ 268435455 < n then 129 else 0

theorem putL_out {n : Int} (h : n < 0 ∨ 268435455 < n) : putL n = [] := by unfold putL; rw [if_pos h]
theorem putL_1 {n : Int} (h0 : 0 ≤ n) (h1 : n < 128) : putL n = [n] := by unfold putL; rw [if_neg (by omega), if_pos (by omega)]
theorem putL_2 {n : Int} (h0 : 128 ≤ n) (h1 : n < 16384) : putL n = [n % 128 + 128, n / 128] := by unfold putL; rw [if_neg (by omega), if_neg (by omega), if_pos (by omega)]
theorem putL_3 {n : Int} (h0 : 16384 ≤ n) (h1 : n < 2097152) : putL n = [n % 128 + 128, n / 128 % 128 + 128, n / 16384] := by unfold putL; rw [if_neg (by omega), if_neg (by omega), if_neg (by omega), if_pos (by omega)]
theorem putL_4 {n : Int} (h0 : 2097152 ≤ n) (h1 : n ≤ 268435455) : putL n = [n % 128 + 128, n / 128 % 128 + 128, n / 16384 % 128 + 128, n / 2097152] := by unfold putL; rw [if_neg (by omega), if_neg (by omega), if_neg (by omega), if_neg (by omega)]
theorem putC_out {n : Int} (h : n < 0 ∨ 268435455 < n) : putC n = 129 := by unfold putC; rw [if_pos h]
theorem putC_le (n : Int) : 0 ≤ putC n ∧ putC n ≤ 129 := by unfold putC; split <;> omega
theorem putC_in {n : Int} (h0 : 0 ≤ n) (h1 : n ≤ 268435455) : putC n = 0 := by unfold putC; rw [if_neg (by omega)]

theorem sz_in {m : Int} (h0 : 0 ≤ m) (h1 : m ≤ 268435455) : 1 ≤ sz m ∧ sz m ≤ 4 := by
  unfold sz; rw [if_neg (by omega)]; repeat' split
  all_goals omega

/-- The number at the places from k + i on, n gathered already; at most f bytes more: the number, the place behind it, the code. -/
def getG (s : ByteArray) (k : Nat) : Nat → Nat → Int → Int × Int × Int
  | 0, _, _ => (0, 0, 129)
  | f + 1, i, n =>
    if h : k + i < s.size then
      if ((s[k + i]'h).toNat : Int) < 128 then
        if sz (n + (s[k + i]'h).toNat * 128 ^ i) = i + 1 then (n + (s[k + i]'h).toNat * 128 ^ i, (k : Int) + i + 1, 0) else (0, 0, 129)
      else getG s k f (i + 1) (n + (((s[k + i]'h).toNat : Int) - 128) * 128 ^ i)
    else (0, 0, 242)

/-- The number at a place of s, the place behind it, the code. -/
def get (s : ByteArray) (at_ : Int) : Int × Int × Int := if at_ < 0 ∨ (s.size : Int) < at_ then (0, 0, 128) else getG s at_.toNat 4 0 0

/-- A count from 0 to 4, as both kinds of number. -/
def Idx (i : Nat) (j : Int) : Prop := (i = 0 ∧ j = 0) ∨ (i = 1 ∧ j = 1) ∨ (i = 2 ∧ j = 2) ∨ (i = 3 ∧ j = 3) ∨ (i = 4 ∧ j = 4)

/-- The same with 128 to its power. -/
def IdxP (i : Nat) (j p : Int) : Prop := (i = 0 ∧ j = 0 ∧ p = 1) ∨ (i = 1 ∧ j = 1 ∧ p = 128) ∨ (i = 2 ∧ j = 2 ∧ p = 16384) ∨ (i = 3 ∧ j = 3 ∧ p = 2097152) ∨ (i = 4 ∧ j = 4 ∧ p = 268435456)

theorem sz_lt1 {m : Int} (h0 : 0 ≤ m) (h1 : m < 128) (h : ¬ sz m = 1) : sz m < 1 := by rw [sz_1 h0 h1] at *; omega
theorem sz_lt2 {m : Int} (h0 : 0 ≤ m) (h1 : m < 16384) (h : ¬ sz m = 2) : sz m < 2 := by
  by_cases g : m < 128
  · rw [sz_1 h0 g]; omega
  · rw [sz_2 (by omega) h1] at *; omega
theorem sz_lt3 {m : Int} (h0 : 0 ≤ m) (h1 : m < 2097152) (h : ¬ sz m = 3) : sz m < 3 := by
  by_cases g : m < 16384
  · by_cases g' : m < 128
    · rw [sz_1 h0 g']; omega
    · rw [sz_2 (by omega) g]; omega
  · rw [sz_3 (by omega) h1] at *; omega
theorem sz_lt4 {m : Int} (h0 : 0 ≤ m) (h1 : m < 268435456) (h : ¬ sz m = 4) : sz m < 4 := by
  have := sz_in h0 (by omega)
  omega

theorem getG_0 (s : ByteArray) (k i : Nat) (n : Int) : getG s k 0 i n = (0, 0, 129) := rfl
theorem getG_end (s : ByteArray) (k f i : Nat) (n : Int) (h : ¬ k + i < s.size) : getG s k (f + 1) i n = (0, 0, 242) := by rw [getG, dif_neg h]
theorem getG_last (s : ByteArray) (k f i : Nat) (n : Int) (h : k + i < s.size) (hb : ((s[k + i]'h).toNat : Int) < 128) (hz : sz (n + (s[k + i]'h).toNat * 128 ^ i) = i + 1) :
    getG s k (f + 1) i n = (n + (s[k + i]'h).toNat * 128 ^ i, (k : Int) + i + 1, 0) := by rw [getG, dif_pos h, if_pos hb, if_pos hz]
theorem getG_bad (s : ByteArray) (k f i : Nat) (n : Int) (h : k + i < s.size) (hb : ((s[k + i]'h).toNat : Int) < 128) (hz : ¬ sz (n + (s[k + i]'h).toNat * 128 ^ i) = i + 1) :
    getG s k (f + 1) i n = (0, 0, 129) := by rw [getG, dif_pos h, if_pos hb, if_neg hz]
theorem getG_more (s : ByteArray) (k f i : Nat) (n : Int) (h : k + i < s.size) (hb : ¬ ((s[k + i]'h).toNat : Int) < 128) :
    getG s k (f + 1) i n = getG s k f (i + 1) (n + (((s[k + i]'h).toNat : Int) - 128) * 128 ^ i) := by rw [getG, dif_pos h, if_neg hb]

theorem last0 (s : ByteArray) (k : Nat) (n : Int) (h : k < s.size) (hb : ((s[k]'h).toNat : Int) < 128) (hz : sz (n + ((s[k]'h).toNat : Int)) = 1) : getG s k 4 0 n = (n + ((s[k]'h).toNat : Int), (k : Int) + 1, 0) := by
  have e := getG_last s k 3 0 n h hb (by simpa using hz)
  rw [e]
  simp
  try omega
theorem bad0 (s : ByteArray) (k : Nat) (n : Int) (h : k < s.size) (hb : ((s[k]'h).toNat : Int) < 128) (hz : ¬ sz (n + ((s[k]'h).toNat : Int)) = 1) : getG s k 4 0 n = (0, 0, 129) :=
  getG_bad s k 3 0 n h hb (by simpa using hz)
theorem more0 (s : ByteArray) (k : Nat) (n : Int) (h : k < s.size) (hb : ¬ ((s[k]'h).toNat : Int) < 128) : getG s k 4 0 n = getG s k 3 1 (n + (((s[k]'h).toNat : Int) - 128)) := by
  have e := getG_more s k 3 0 n h hb
  rw [e]
  simp
theorem ends0 (s : ByteArray) (k : Nat) (n : Int) (h : ¬ k < s.size) : getG s k 4 0 n = (0, 0, 242) := getG_end s k 3 0 n h
theorem last1 (s : ByteArray) (k : Nat) (n : Int) (h : k + 1 < s.size) (hb : ((s[k + 1]'h).toNat : Int) < 128) (hz : sz (n + ((s[k + 1]'h).toNat : Int) * 128) = 2) : getG s k 3 1 n = (n + ((s[k + 1]'h).toNat : Int) * 128, (k : Int) + 1 + 1, 0) := by
  have e := getG_last s k 2 1 n h hb (by simpa using hz)
  rw [e]
  simp
  try omega
theorem bad1 (s : ByteArray) (k : Nat) (n : Int) (h : k + 1 < s.size) (hb : ((s[k + 1]'h).toNat : Int) < 128) (hz : ¬ sz (n + ((s[k + 1]'h).toNat : Int) * 128) = 2) : getG s k 3 1 n = (0, 0, 129) :=
  getG_bad s k 2 1 n h hb (by simpa using hz)
theorem more1 (s : ByteArray) (k : Nat) (n : Int) (h : k + 1 < s.size) (hb : ¬ ((s[k + 1]'h).toNat : Int) < 128) : getG s k 3 1 n = getG s k 2 2 (n + (((s[k + 1]'h).toNat : Int) - 128) * 128) := by
  have e := getG_more s k 2 1 n h hb
  rw [e]
  simp
theorem ends1 (s : ByteArray) (k : Nat) (n : Int) (h : ¬ k + 1 < s.size) : getG s k 3 1 n = (0, 0, 242) := getG_end s k 2 1 n h
theorem last2 (s : ByteArray) (k : Nat) (n : Int) (h : k + 2 < s.size) (hb : ((s[k + 2]'h).toNat : Int) < 128) (hz : sz (n + ((s[k + 2]'h).toNat : Int) * 16384) = 3) : getG s k 2 2 n = (n + ((s[k + 2]'h).toNat : Int) * 16384, (k : Int) + 2 + 1, 0) := by
  have e := getG_last s k 1 2 n h hb (by simpa using hz)
  rw [e]
  simp
  try omega
theorem bad2 (s : ByteArray) (k : Nat) (n : Int) (h : k + 2 < s.size) (hb : ((s[k + 2]'h).toNat : Int) < 128) (hz : ¬ sz (n + ((s[k + 2]'h).toNat : Int) * 16384) = 3) : getG s k 2 2 n = (0, 0, 129) :=
  getG_bad s k 1 2 n h hb (by simpa using hz)
theorem more2 (s : ByteArray) (k : Nat) (n : Int) (h : k + 2 < s.size) (hb : ¬ ((s[k + 2]'h).toNat : Int) < 128) : getG s k 2 2 n = getG s k 1 3 (n + (((s[k + 2]'h).toNat : Int) - 128) * 16384) := by
  have e := getG_more s k 1 2 n h hb
  rw [e]
  simp
theorem ends2 (s : ByteArray) (k : Nat) (n : Int) (h : ¬ k + 2 < s.size) : getG s k 2 2 n = (0, 0, 242) := getG_end s k 1 2 n h
theorem last3 (s : ByteArray) (k : Nat) (n : Int) (h : k + 3 < s.size) (hb : ((s[k + 3]'h).toNat : Int) < 128) (hz : sz (n + ((s[k + 3]'h).toNat : Int) * 2097152) = 4) : getG s k 1 3 n = (n + ((s[k + 3]'h).toNat : Int) * 2097152, (k : Int) + 3 + 1, 0) := by
  have e := getG_last s k 0 3 n h hb (by simpa using hz)
  rw [e]
  simp
  try omega
theorem bad3 (s : ByteArray) (k : Nat) (n : Int) (h : k + 3 < s.size) (hb : ((s[k + 3]'h).toNat : Int) < 128) (hz : ¬ sz (n + ((s[k + 3]'h).toNat : Int) * 2097152) = 4) : getG s k 1 3 n = (0, 0, 129) :=
  getG_bad s k 0 3 n h hb (by simpa using hz)
theorem more3 (s : ByteArray) (k : Nat) (n : Int) (h : k + 3 < s.size) (hb : ¬ ((s[k + 3]'h).toNat : Int) < 128) : getG s k 1 3 n = getG s k 0 4 (n + (((s[k + 3]'h).toNat : Int) - 128) * 2097152) := by
  have e := getG_more s k 0 3 n h hb
  rw [e]
  simp
theorem ends3 (s : ByteArray) (k : Nat) (n : Int) (h : ¬ k + 3 < s.size) : getG s k 1 3 n = (0, 0, 242) := getG_end s k 0 3 n h

theorem get_out (s : ByteArray) (at_ : Int) (h : at_ < 0 ∨ (s.size : Int) < at_) : get s at_ = (0, 0, 128) := by unfold get; rw [if_pos h]
theorem get_in (s : ByteArray) (k : Nat) (h : k ≤ s.size) : get s (k : Int) = getG s k 4 0 0 := by unfold get; rw [if_neg (by omega)]; simp

end VP
end Go.Proofs.YtemfcaaoobjgkaaGreatDoor
