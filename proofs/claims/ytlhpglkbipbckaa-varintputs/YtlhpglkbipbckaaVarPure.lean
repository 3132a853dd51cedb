/- Plain numbers and lists behind the layer of numbers and data: how many bytes a number takes, its bytes. No program is named here. -/
namespace Go.Proofs.Ytlhpglkbipbckaa
namespace VP

/-- How many bytes a number takes (0: none). -/
def sz (n : Int) : Int :=
  if n < 0 ∨ 268435455 < n then 0 else if n < 128 then 1 else if n < 16384 then 2 else if n < 2097152 then 3 else 4

theorem sz_out {n : Int} (h : n < 0 ∨ 268435455 < n) : sz n = 0 := by unfold sz; rw [if_pos h]
theorem sz_1 {n : Int} (h0 : 0 ≤ n) (h1 : n < 128) : sz n = 1 := by unfold sz; rw [if_neg (by omega), if_pos (by omega)]
theorem sz_2 {n : Int} (h0 : 128 ≤ n) (h1 : n < 16384) : sz n = 2 := by unfold sz; rw [if_neg (by omega), if_neg (by omega), if_pos (by omega)]
theorem sz_3 {n : Int} (h0 : 16384 ≤ n) (h1 : n < 2097152) : sz n = 3 := by unfold sz; rw [if_neg (by omega), if_neg (by omega), if_neg (by omega), if_pos (by omega)]
theorem sz_4 {n : Int} (h0 : 2097152 ≤ n) (h1 : n ≤ 268435455) : sz n = 4 := by unfold sz; rw [if_neg (by omega), if_neg (by omega), if_neg (by omega), if_neg (by omega)]

theorem sz_div {m : Int} (h0 : 127 < m) (h1 : m ≤ 268435455) : sz (m / 128) + 1 = sz m := by
  rcases (show (m < 16384) ∨ (16384 ≤ m ∧ m < 2097152) ∨ (2097152 ≤ m) from by omega) with h | ⟨h, h'⟩ | h
  · rw [sz_1 (by omega) (by omega), sz_2 (by omega) h]; rfl
  · rw [sz_2 (by omega) (by omega), sz_3 h h']; rfl
  · rw [sz_3 (by omega) (by omega), sz_4 h h1]; rfl

/-- A number's bytes. -/
def putL (n : Int) : List Int :=
  if n < 0 ∨ 268435455 < n then [] else if n < 128 then [n] else if n < 16384 then [n % 128 + 128, n / 128]
  else if n < 2097152 then [n % 128 + 128, n / 128 % 128 + 128, n / 16384] else [n % 128 + 128, n / 128 % 128 + 128, n / 16384 % 128 + 128, n / 2097152]

/-- The code beside them. -/
def putC (n : Int) : Int := if n < 0 ∨ 268435455 < n then 129 else 0

theorem putL_out {n : Int} (h : n < 0 ∨ 268435455 < n) : putL n = [] := by unfold putL; rw [if_pos h]
theorem putL_1 {n : Int} (h0 : 0 ≤ n) (h1 : n < 128) : putL n = [n] := by unfold putL; rw [if_neg (by omega), if_pos (by omega)]
theorem putL_2 {n : Int} (h0 : 128 ≤ n) (h1 : n < 16384) : putL n = [n % 128 + 128, n / 128] := by unfold putL; rw [if_neg (by omega), if_neg (by omega), if_pos (by omega)]
theorem putL_3 {n : Int} (h0 : 16384 ≤ n) (h1 : n < 2097152) : putL n = [n % 128 + 128, n / 128 % 128 + 128, n / 16384] := by unfold putL; rw [if_neg (by omega), if_neg (by omega), if_neg (by omega), if_pos (by omega)]
theorem putL_4 {n : Int} (h0 : 2097152 ≤ n) (h1 : n ≤ 268435455) : putL n = [n % 128 + 128, n / 128 % 128 + 128, n / 16384 % 128 + 128, n / 2097152] := by unfold putL; rw [if_neg (by omega), if_neg (by omega), if_neg (by omega), if_neg (by omega)]
theorem putC_out {n : Int} (h : n < 0 ∨ 268435455 < n) : putC n = 129 := by unfold putC; rw [if_pos h]
theorem putC_le (n : Int) : 0 ≤ putC n ∧ putC n ≤ 129 := by unfold putC; split <;> omega
theorem putC_in {n : Int} (h0 : 0 ≤ n) (h1 : n ≤ 268435455) : putC n = 0 := by unfold putC; rw [if_neg (by omega)]

theorem sz_in {m : Int} (h0 : 0 ≤ m) (h1 : m ≤ 268435455) : 1 ≤ sz m ∧ sz m ≤ 4 := by
  unfold sz; rw [if_neg (by omega)]; repeat' split
  all_goals omega

end VP
end Go.Proofs.Ytlhpglkbipbckaa
