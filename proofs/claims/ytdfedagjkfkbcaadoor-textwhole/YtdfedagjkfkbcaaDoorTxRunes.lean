/- The characters of a text as numbers: the conversion to them and back leaves the text as it is. No function of the program is named here. -/
import Derived.Test.YtdfedagjkfkbcaaDoorTxFn
import Derived.Laws.IdiomStrings
import Derived.Laws.Cover4
namespace Go.Proofs.YtdfedagjkfkbcaaDoor
namespace TX

/-- The character at a place, as a number. -/
def rn (s : ByteArray) (i : Nat) : Nat := (Utf8.decode s i).1

/-- The characters from a place on. -/
def rl (s : ByteArray) (i : Nat) : List Int := if _h : chr s i = 0 then [] else (rn s i : Int) :: rl s (i + chr s i)
termination_by s.size - i
decreasing_by have := chr_lt _h; omega

theorem rl_no {s : ByteArray} {i : Nat} (h : chr s i = 0) : rl s i = [] := by rw [rl, dif_pos h]
theorem rl_yes {s : ByteArray} {i : Nat} (h : chr s i ≠ 0) : rl s i = (rn s i : Int) :: rl s (i + chr s i) := by rw [rl, dif_neg h]

theorem dec_at (s : ByteArray) (i : Nat) (h : chr s i ≠ 0) : (Utf8.decode s i).2 = chr s i ∧ 0 < rn s i ∧ rn s i ≤ 1114111 := by
  have hz := chr_lt h
  have e : chr s i = cl (s.size - i) (by_ s i) (by_ s (i + 1)) (by_ s (i + 2)) (by_ s (i + 3)) := by unfold chr; rw [if_pos hz]
  have d : Utf8.decode s i = Lib.decodeN (s.size - i) (by_ s i) (by_ s (i + 1)) (by_ s (i + 2)) (by_ s (i + 3)) := Lib.decode_at s i
  unfold rn
  rw [d]
  rcases cl_dec (s.size - i) (by_ s i) (by_ s (i + 1)) (by_ s (i + 2)) (by_ s (i + 3)) (by_lt _ _) (by_lt _ _) (by_lt _ _) (by_lt _ _) with ⟨h1, _⟩ | ⟨_, h1, h2, h3, _⟩
  · exact absurd (e.trans h1) h
  · exact ⟨h1.trans e.symm, h2, h3⟩

theorem rl_length (s : ByteArray) (i : Nat) : (rl s i).length = cnt s i := by
  fun_induction rl s i with
  | case1 i hc => rw [cnt_no hc]; rfl
  | case2 i hc ih => rw [cnt_yes hc, List.length_cons, ih]; omega

theorem rl_pos (s : ByteArray) (i : Nat) : ∀ x ∈ rl s i, 0 < x ∧ x ≤ 1114111 := by
  fun_induction rl s i with
  | case1 i hc => intro x hx; cases hx
  | case2 i hc ih =>
    intro x hx
    rcases List.mem_cons.1 hx with rfl | hx
    · have := dec_at s i hc
      omega
    · exact ih x hx

theorem chr_of_fin {s : ByteArray} {i : Nat} (h : fin s i = s.size) (hi : i < s.size) : chr s i ≠ 0 := by
  intro g
  rw [fin_no g] at h
  omega

theorem runesFrom_eq (s : ByteArray) : ∀ (bound i : Nat) (acc : Array Value), fin s i = s.size → i ≤ s.size → s.size - i ≤ bound →
    Conv.runesFrom s bound i acc = acc ++ ((rl s i).map (Value.int .i32)).toArray
  | 0, i, acc, _, _, hb => by
    rw [rl_no (chr_end s i (by omega))]
    simp [Conv.runesFrom]
  | bound + 1, i, acc, hf, hi, hb => by
    unfold Conv.runesFrom
    by_cases hlt : i < s.size
    · have hc := chr_of_fin hf hlt
      have d := dec_at s i hc
      rw [if_pos hlt]
      simp only
      rw [d.1, runesFrom_eq s bound (i + chr s i) _ ((fin_yes hc).symm.trans hf) (chr_le s i hi) (by omega), rl_yes hc]
      show acc.push (Value.int .i32 (rn s i : Int)) ++ _ = _
      simp
    · rw [if_neg hlt, rl_no (chr_end s i (by omega))]
      simp

/-! ### back to bytes -/
theorem ext_one (s : ByteArray) (i : Nat) (h : i + 1 ≤ s.size) : s.extract i (i + 1) = ⟨#[UInt8.ofNat (by_ s i)]⟩ := by
  apply ByteArray.ext_getElem
  · rw [ByteArray.size_extract]; show _ = 1; omega
  · intro k hk hk'
    have : k < 1 := hk'
    obtain rfl : k = 0 := by omega
    rw [ByteArray.getElem_extract]
    show _ = UInt8.ofNat (by_ s i)
    rw [by_get s i (by omega)]
    simp
theorem ext_two (s : ByteArray) (i : Nat) (h : i + 2 ≤ s.size) : s.extract i (i + 2) = ⟨#[UInt8.ofNat (by_ s i), UInt8.ofNat (by_ s (i + 1))]⟩ := by
  rw [ByteArray.extract_eq_extract_append_extract (i + 1) (by omega) (by omega), ext_one s i (by omega), ext_one s (i + 1) (by omega)]
  rfl
theorem ext_three (s : ByteArray) (i : Nat) (h : i + 3 ≤ s.size) : s.extract i (i + 3) = ⟨#[UInt8.ofNat (by_ s i), UInt8.ofNat (by_ s (i + 1)), UInt8.ofNat (by_ s (i + 2))]⟩ := by
  rw [ByteArray.extract_eq_extract_append_extract (i + 2) (by omega) (by omega), ext_two s i (by omega), ext_one s (i + 2) (by omega)]
  rfl
theorem ext_four (s : ByteArray) (i : Nat) (h : i + 4 ≤ s.size) : s.extract i (i + 4) = ⟨#[UInt8.ofNat (by_ s i), UInt8.ofNat (by_ s (i + 1)), UInt8.ofNat (by_ s (i + 2)), UInt8.ofNat (by_ s (i + 3))]⟩ := by
  rw [ByteArray.extract_eq_extract_append_extract (i + 3) (by omega) (by omega), ext_three s i (by omega), ext_one s (i + 3) (by omega)]
  rfl

theorem enc_of (c : Nat) (hv : c < 55296 ∨ (57344 ≤ c ∧ c ≤ 1114111)) : Utf8.encode (c : Int) =
    (if c < 128 then ⟨#[UInt8.ofNat c]⟩ else if c < 2048 then ⟨#[UInt8.ofNat (192 + c / 64), UInt8.ofNat (128 + c % 64)]⟩
     else if c < 65536 then ⟨#[UInt8.ofNat (224 + c / 4096), UInt8.ofNat (128 + c / 64 % 64), UInt8.ofNat (128 + c % 64)]⟩
     else ⟨#[UInt8.ofNat (240 + c / 262144), UInt8.ofNat (128 + c / 4096 % 64), UInt8.ofNat (128 + c / 64 % 64), UInt8.ofNat (128 + c % 64)]⟩) := by
  have h : Utf8.valid (c : Int) = true := by
    unfold Utf8.valid
    simp
    omega
  unfold Utf8.encode
  simp only [h, if_true, Int.toNat_natCast]

set_option maxRecDepth 100000 in
set_option maxHeartbeats 1000000 in
/-- A character's bytes are those that it was read from. -/
theorem enc_at (s : ByteArray) (i : Nat) (h : chr s i ≠ 0) : Utf8.encode (rn s i : Int) = s.extract i (i + chr s i) := by
  have hz := chr_lt h
  have hle := chr_le s i (by omega)
  have e : chr s i = cl (s.size - i) (by_ s i) (by_ s (i + 1)) (by_ s (i + 2)) (by_ s (i + 3)) := by unfold chr; rw [if_pos hz]
  have d : rn s i = (Lib.decodeN (s.size - i) (by_ s i) (by_ s (i + 1)) (by_ s (i + 2)) (by_ s (i + 3))).1 := by unfold rn; rw [Lib.decode_at s i]; rfl
  have l0 := by_lt s i
  have l1 := by_lt s (i + 1)
  have l2 := by_lt s (i + 2)
  have l3 := by_lt s (i + 3)
  have x1 := ext_one s i
  have x2 := ext_two s i
  have x3 := ext_three s i
  have x4 := ext_four s i
  rw [d]
  clear d
  generalize by_ s i = b0 at *
  generalize by_ s (i + 1) = b1 at *
  generalize by_ s (i + 2) = b2 at *
  generalize by_ s (i + 3) = b3 at *
  generalize hn : s.size - i = n at *
  unfold cl at e
  unfold Lib.decodeN
  split at e
  · rename_i g
    rw [e] at hle ⊢
    rw [x1 hle, if_pos (by omega), enc_of b0 (by omega), if_pos (by omega)]
  · split at e
    · rename_i g0 g
      rw [e] at hle ⊢
      rw [x2 hle, if_neg (by omega), if_pos (by omega), if_pos (by omega)]
      simp only
      rw [enc_of _ (by omega), if_neg (by omega), if_pos (by omega), show 192 + (b0 % 32 * 64 + b1 % 64) / 64 = b0 by omega, show 128 + (b0 % 32 * 64 + b1 % 64) % 64 = b1 by omega]
    · split at e
      · rename_i g0 g1 g
        split at e
        · exact absurd e h
        · rename_i g2
          rw [e] at hle ⊢
          rw [x3 hle, if_neg (by omega), if_neg (by omega), if_pos (by omega), if_pos (by omega)]
          simp only
          rw [enc_of _ (by omega), if_neg (by omega), if_neg (by omega), if_pos (by omega), show 224 + (b0 % 16 * 4096 + b1 % 64 * 64 + b2 % 64) / 4096 = b0 by omega,
            show 128 + (b0 % 16 * 4096 + b1 % 64 * 64 + b2 % 64) / 64 % 64 = b1 by omega, show 128 + (b0 % 16 * 4096 + b1 % 64 * 64 + b2 % 64) % 64 = b2 by omega]
      · split at e
        · rename_i g0 g1 g3 g
          split at e
          · exact absurd e h
          · rename_i g2
            rw [e] at hle ⊢
            rw [x4 hle, if_neg (by omega), if_neg (by omega), if_neg (by omega), if_pos (by omega), if_pos (by omega)]
            simp only
            rw [enc_of _ (by omega), if_neg (by omega), if_neg (by omega), if_neg (by omega), show 240 + (b0 % 8 * 262144 + b1 % 64 * 4096 + b2 % 64 * 64 + b3 % 64) / 262144 = b0 by omega,
              show 128 + (b0 % 8 * 262144 + b1 % 64 * 4096 + b2 % 64 * 64 + b3 % 64) / 4096 % 64 = b1 by omega, show 128 + (b0 % 8 * 262144 + b1 % 64 * 4096 + b2 % 64 * 64 + b3 % 64) / 64 % 64 = b2 by omega,
              show 128 + (b0 % 8 * 262144 + b1 % 64 * 4096 + b2 % 64 * 64 + b3 % 64) % 64 = b3 by omega]
        · exact absurd e h

theorem back_from (s : ByteArray) (i : Nat) (hi : i ≤ s.size) (hf : fin s i = s.size) : ∀ acc : ByteArray, (rl s i).foldl (fun r n => r ++ Utf8.encode n) acc = acc ++ s.extract i s.size := by
  fun_induction rl s i with
  | case1 i hc =>
    intro acc
    rw [fin_no hc] at hf
    subst hf
    have : s.extract s.size s.size = ByteArray.empty := by
      apply ByteArray.ext_getElem
      · rw [ByteArray.size_extract]; show _ = 0; omega
      · intro k hk hk'; exact absurd hk' (Nat.not_lt_zero _)
    rw [this, ByteArray.append_empty]
    rfl
  | case2 i hc ih =>
    intro acc
    rw [List.foldl_cons, ih (chr_le s i hi) ((fin_yes hc).symm.trans hf), enc_at s i hc, ByteArray.append_assoc,
      ← ByteArray.extract_eq_extract_append_extract (i + chr s i) (by omega) (chr_le s i hi)]

theorem back (s : ByteArray) (hf : fin s 0 = s.size) : runesBytes (rl s 0) = s := by
  unfold runesBytes
  rw [back_from s 0 (by omega) hf, ByteArray.empty_append, ByteArray.extract_zero_size]

end TX
end Go.Proofs.YtdfedagjkfkbcaaDoor
