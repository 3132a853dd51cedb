/- Plain numbers behind characters: how many bytes a character takes, where the characters of bytes end, how many there are. No program is named here. -/
import Derived.Lib.DecodeN
namespace Go.Proofs.YtemfcaaoobjgkaaGreatDoor
namespace TX

/-- How many bytes the character takes that n bytes begin with, by the first four of them (0: there is none). -/
def cl (n b0 b1 b2 b3 : Nat) : Nat :=
  if 1 ≤ b0 ∧ b0 ≤ 127 then 1
  else if (194 ≤ b0 ∧ b0 ≤ 223) ∧ (1 < n ∧ 128 ≤ b1 ∧ b1 ≤ 191) then 2
  else if (224 ≤ b0 ∧ b0 ≤ 239) ∧ (1 < n ∧ 128 ≤ b1 ∧ b1 ≤ 191) ∧ (2 < n ∧ 128 ≤ b2 ∧ b2 ≤ 191) then
    (if (b0 = 224 ∧ b1 < 160) ∨ (b0 = 237 ∧ 159 < b1) then 0 else 3)
  else if (240 ≤ b0 ∧ b0 ≤ 244) ∧ (1 < n ∧ 128 ≤ b1 ∧ b1 ≤ 191) ∧ (2 < n ∧ 128 ≤ b2 ∧ b2 ≤ 191) ∧ (3 < n ∧ 128 ≤ b3 ∧ b3 ≤ 191) then
    (if (b0 = 240 ∧ b1 < 144) ∨ (b0 = 244 ∧ 143 < b1) then 0 else 4)
  else 0

theorem cl_le (n b0 b1 b2 b3 : Nat) (hn : 1 ≤ n) : cl n b0 b1 b2 b3 ≤ n ∧ cl n b0 b1 b2 b3 ≤ 4 := by
  unfold cl
  repeat' split
  all_goals omega

/-- Only bytes that stand there are looked at. -/
theorem cl_congr (n b0 b1 b2 b3 c1 c2 c3 : Nat) (h1 : 1 < n → b1 = c1) (h2 : 2 < n → b2 = c2) (h3 : 3 < n → b3 = c3) : cl n b0 b1 b2 b3 = cl n b0 c1 c2 c3 := by
  unfold cl
  by_cases g1 : 1 < n
  · rw [h1 g1]
    by_cases g2 : 2 < n
    · rw [h2 g2]
      by_cases g3 : 3 < n
      · rw [h3 g3]
      · simp [g3]
    · have g3 : ¬ 3 < n := by omega
      simp [g2]
  · have g2 : ¬ 2 < n := by omega
    simp [g1]

/-- Of fewer bytes: the same character, if it stands there whole, else none. -/
theorem cl_cut (n m b0 b1 b2 b3 : Nat) (hn : 1 ≤ n) (h : n ≤ m) : cl n b0 b1 b2 b3 = if cl m b0 b1 b2 b3 ≤ n then cl m b0 b1 b2 b3 else 0 := by
  unfold cl
  repeat' split
  all_goals omega

set_option maxRecDepth 100000 in
set_option maxHeartbeats 4000000 in
/-- It is what the decoder tells. -/
theorem cl_dec (n b0 b1 b2 b3 : Nat) (h0 : b0 < 256) (h1 : b1 < 256) (h2 : b2 < 256) (h3 : b3 < 256) :
    (cl n b0 b1 b2 b3 = 0 ∧ ((Lib.decodeN n b0 b1 b2 b3).1 = 0 ∨ ((Lib.decodeN n b0 b1 b2 b3).1 = 65533 ∧ (Lib.decodeN n b0 b1 b2 b3).2 = 1))) ∨
    (cl n b0 b1 b2 b3 ≠ 0 ∧ (Lib.decodeN n b0 b1 b2 b3).2 = cl n b0 b1 b2 b3 ∧ 0 < (Lib.decodeN n b0 b1 b2 b3).1 ∧ (Lib.decodeN n b0 b1 b2 b3).1 ≤ 1114111 ∧ ((Lib.decodeN n b0 b1 b2 b3).1 = 65533 → 1 < cl n b0 b1 b2 b3)) := by
  unfold Lib.decodeN
  by_cases g1 : b0 < 128
  · simp only [g1, if_true, cl]
    by_cases g2 : 1 ≤ b0
    · rw [if_pos (by omega)]; right; omega
    · left
      rw [if_neg (by omega), if_neg (by omega), if_neg (by omega), if_neg (by omega)]
      omega
  · rw [if_neg g1]
    by_cases g2 : b0 / 32 = 6 ∧ (1 < n ∧ b1 / 64 = 2)
    · rw [if_pos g2]
      by_cases g3 : b0 % 32 * 64 + b1 % 64 ≥ 128
      · rw [if_pos g3]
        have e : cl n b0 b1 b2 b3 = 2 := by unfold cl; rw [if_neg (by omega), if_pos (by omega)]
        rw [e]; right; refine ⟨by omega, rfl, ?_, ?_, fun _ => by omega⟩ <;> simp only <;> omega
      · rw [if_neg g3]
        have e : cl n b0 b1 b2 b3 = 0 := by unfold cl; rw [if_neg (by omega), if_neg (by omega), if_neg (by omega), if_neg (by omega)]
        rw [e]; left; simp
    · rw [if_neg g2]
      by_cases g4 : b0 / 16 = 14 ∧ (1 < n ∧ b1 / 64 = 2) ∧ (2 < n ∧ b2 / 64 = 2)
      · rw [if_pos g4]
        have e : cl n b0 b1 b2 b3 = if (b0 = 224 ∧ b1 < 160) ∨ (b0 = 237 ∧ 159 < b1) then 0 else 3 := by unfold cl; rw [if_neg (by omega), if_neg (by omega), if_pos (by omega)]
        rw [e]
        split
        · rename_i g5
          rw [if_neg (by omega)]; left; simp
        · rename_i g5
          rw [if_pos (by omega)]; right; refine ⟨by omega, rfl, ?_, ?_, fun _ => by omega⟩ <;> simp only <;> omega
      · rw [if_neg g4]
        by_cases g6 : b0 / 8 = 30 ∧ (1 < n ∧ b1 / 64 = 2) ∧ (2 < n ∧ b2 / 64 = 2) ∧ (3 < n ∧ b3 / 64 = 2)
        · rw [if_pos g6]
          by_cases g8 : b0 ≤ 244
          · have e : cl n b0 b1 b2 b3 = if (b0 = 240 ∧ b1 < 144) ∨ (b0 = 244 ∧ 143 < b1) then 0 else 4 := by unfold cl; rw [if_neg (by omega), if_neg (by omega), if_neg (by omega), if_pos (by omega)]
            rw [e]
            split
            · rename_i g5
              rw [if_neg (by omega)]; left; simp
            · rename_i g5
              rw [if_pos (by omega)]; right; refine ⟨by omega, rfl, ?_, ?_, fun _ => by omega⟩ <;> simp only <;> omega
          · have e : cl n b0 b1 b2 b3 = 0 := by unfold cl; rw [if_neg (by omega), if_neg (by omega), if_neg (by omega), if_neg (by omega)]
            rw [e, if_neg (by omega)]; left; simp
        · rw [if_neg g6]
          have e : cl n b0 b1 b2 b3 = 0 := by unfold cl; rw [if_neg (by omega), if_neg (by omega), if_neg (by omega), if_neg (by omega)]
          rw [e]; left; simp

/-- The byte at a place (0 beyond the end). -/
def by_ (s : ByteArray) (i : Nat) : Nat := (s.get! i).toNat

theorem by_lt (s : ByteArray) (i : Nat) : by_ s i < 256 := (s.get! i).toNat_lt

theorem by_get (s : ByteArray) (i : Nat) (h : i < s.size) : by_ s i = (s[i]'h).toNat := by
  unfold by_
  cases s with
  | mk d => rw [show (ByteArray.mk d).get! i = d[i]'h from getElem!_pos d i h]; rfl

theorem by_out (s : ByteArray) (i : Nat) (h : ¬ i < s.size) : by_ s i = 0 := by
  unfold by_
  cases s with
  | mk d => rw [show (ByteArray.mk d).get! i = default from getElem!_neg d i h]; rfl

/-- How many bytes the character at a place takes (0: there is none). -/
def chr (s : ByteArray) (i : Nat) : Nat := if i < s.size then cl (s.size - i) (by_ s i) (by_ s (i + 1)) (by_ s (i + 2)) (by_ s (i + 3)) else 0

theorem chr_lt {s : ByteArray} {i : Nat} (h : chr s i ≠ 0) : i < s.size := by
  unfold chr at h
  split at h
  · assumption
  · exact absurd rfl h

theorem chr_le (s : ByteArray) (i : Nat) (h : i ≤ s.size) : i + chr s i ≤ s.size := by
  unfold chr
  split
  · have := cl_le (s.size - i) (by_ s i) (by_ s (i + 1)) (by_ s (i + 2)) (by_ s (i + 3)) (by omega)
    omega
  · omega

theorem chr_four (s : ByteArray) (i : Nat) : chr s i ≤ 4 := by
  unfold chr
  split
  · exact (cl_le (s.size - i) (by_ s i) (by_ s (i + 1)) (by_ s (i + 2)) (by_ s (i + 3)) (by omega)).2
  · omega

theorem chr_end (s : ByteArray) (i : Nat) (h : s.size ≤ i) : chr s i = 0 := by
  unfold chr
  rw [if_neg (by omega)]

/-- Where the characters from a place on end. -/
def fin (s : ByteArray) (i : Nat) : Nat := if _h : chr s i = 0 then i else fin s (i + chr s i)
termination_by s.size - i
decreasing_by have := chr_lt _h; omega

/-- How many they are. -/
def cnt (s : ByteArray) (i : Nat) : Nat := if _h : chr s i = 0 then 0 else 1 + cnt s (i + chr s i)
termination_by s.size - i
decreasing_by have := chr_lt _h; omega

theorem fin_no {s : ByteArray} {i : Nat} (h : chr s i = 0) : fin s i = i := by rw [fin, dif_pos h]
theorem fin_yes {s : ByteArray} {i : Nat} (h : chr s i ≠ 0) : fin s i = fin s (i + chr s i) := by rw [fin, dif_neg h]
theorem cnt_no {s : ByteArray} {i : Nat} (h : chr s i = 0) : cnt s i = 0 := by rw [cnt, dif_pos h]
theorem cnt_yes {s : ByteArray} {i : Nat} (h : chr s i ≠ 0) : cnt s i = 1 + cnt s (i + chr s i) := by rw [cnt, dif_neg h]

theorem fin_le (s : ByteArray) (i : Nat) (h : i ≤ s.size) : i ≤ fin s i ∧ fin s i ≤ s.size := by
  fun_induction fin s i with
  | case1 i hc => omega
  | case2 i hc ih =>
    have := ih (chr_le s i h)
    omega

theorem cnt_le (s : ByteArray) (i : Nat) (h : i ≤ s.size) : i + cnt s i ≤ s.size := by
  fun_induction cnt s i with
  | case1 i hc => omega
  | case2 i hc ih =>
    have := ih (chr_le s i h)
    omega

theorem fin_end {s : ByteArray} {i : Nat} (h : s.size ≤ i) : fin s i = i := fin_no (chr_end s i h)

/-! ### parts of bytes -/

theorem by_extract (s : ByteArray) (a b j : Nat) (hb : b ≤ s.size) (h : a + j < b) : by_ (s.extract a b) j = by_ s (a + j) := by
  rw [by_get _ _ (by rw [ByteArray.size_extract]; omega), by_get _ _ (by omega)]
  rw [ByteArray.getElem_extract]

/-- The characters of a part: those that stand in it whole. -/
theorem chr_extract (s : ByteArray) (a b j : Nat) (hb : b ≤ s.size) (h : a + j ≤ b) : chr (s.extract a b) j = if a + j + chr s (a + j) ≤ b then chr s (a + j) else 0 := by
  have hz : (s.extract a b).size = b - a := by rw [ByteArray.size_extract]; omega
  by_cases hlt : a + j < b
  · have e1 : chr (s.extract a b) j = cl (b - a - j) (by_ (s.extract a b) j) (by_ (s.extract a b) (j + 1)) (by_ (s.extract a b) (j + 2)) (by_ (s.extract a b) (j + 3)) := by
      unfold chr; rw [if_pos (by omega), hz]
    have e2 : chr s (a + j) = cl (s.size - (a + j)) (by_ s (a + j)) (by_ s (a + j + 1)) (by_ s (a + j + 2)) (by_ s (a + j + 3)) := by
      unfold chr; rw [if_pos (by omega)]
    rw [e1, by_extract s a b j hb hlt, cl_congr (b - a - j) _ _ _ _ (by_ s (a + j + 1)) (by_ s (a + j + 2)) (by_ s (a + j + 3))
      (fun g => by rw [by_extract s a b (j + 1) hb (by omega)]; rfl) (fun g => by rw [by_extract s a b (j + 2) hb (by omega)]; rfl) (fun g => by rw [by_extract s a b (j + 3) hb (by omega)]; rfl),
      cl_cut (b - a - j) (s.size - (a + j)) _ _ _ _ (by omega) (by omega), ← e2]
    by_cases g : a + j + chr s (a + j) ≤ b
    · rw [if_pos g, if_pos (by omega)]
    · rw [if_neg g, if_neg (by omega)]
  · rw [chr_end _ _ (by omega)]
    split <;> omega

theorem chr_drop (s : ByteArray) (a : Nat) (h : a ≤ s.size) : chr (s.extract a s.size) 0 = chr s a := by
  rw [chr_extract s a s.size 0 (Nat.le_refl _) (by omega), if_pos]
  · rfl
  · exact chr_le s a h

/-- In the first m bytes the characters go on to the last place up to which they stand there whole. -/
theorem chr_take (s : ByteArray) (m i : Nat) (hm : m ≤ s.size) (h : i ≤ m) : chr (s.extract 0 m) i = if i + chr s i ≤ m then chr s i else 0 := by
  rw [chr_extract s 0 m i hm (by omega)]
  simp only [Nat.zero_add]

end TX
end Go.Proofs.YtemfcaaoobjgkaaGreatDoor
