/- Plain facts on texts: what Cut leaves is one, the longest; two are one; a text is read back from its bytes. No function of the program is named here. -/
import Derived.Test.YtdfedagjkfkbcaaDoorTxPut
namespace Go.Proofs.YtdfedagjkfkbcaaDoor
namespace TX

/-- The beginning up to where the characters end is a text. -/
theorem fin_take (s : ByteArray) (i : Nat) (h : i ≤ s.size) : fin (s.extract 0 (fin s i)) i = fin s i := by
  fun_induction fin s i with
  | case1 i hc => exact fin_end (by rw [size_take s i h]; omega)
  | case2 i hc ih =>
    have h1 := chr_le s i h
    have h2 := fin_le s _ h1
    have e : chr (s.extract 0 (fin s (i + chr s i))) i = chr s i := by
      rw [chr_take s _ i h2.2 (by omega), if_pos h2.1]
    rw [fin_yes (by rw [e]; exact hc), e]
    exact ih h1

/-- What Cut leaves is a text. -/
theorem cut_text (s : ByteArray) (most : Int) : fin (s.extract 0 (cutM s most)) 0 = cutM s most := by
  have h := fin_take (s.extract 0 (clamp most s.size)) 0 (by omega)
  have hl := cutM_le s most
  have e : (s.extract 0 (clamp most s.size)).extract 0 (cutM s most) = s.extract 0 (cutM s most) := by
    rw [ByteArray.extract_extract, Nat.zero_add, Nat.zero_add, Nat.min_eq_left hl]
  change fin ((s.extract 0 (clamp most s.size)).extract 0 (cutM s most)) 0 = cutM s most at h
  rw [e] at h
  exact h

/-- A text among the first m bytes is no longer than up to where their characters end. -/
theorem take_le (s : ByteArray) (k m i : Nat) (hm : m ≤ s.size) (hk : k ≤ m) (hi : i ≤ k) (h : fin (s.extract 0 k) i = k) : k ≤ fin (s.extract 0 m) i := by
  have hzm := size_take s m hm
  fun_induction fin (s.extract 0 k) i with
  | case1 i hc =>
    subst h
    exact (fin_le _ _ (by omega)).1
  | case2 i hc ih =>
    have e := chr_take s k i (by omega) hi
    by_cases g : i + chr s i ≤ k
    · rw [if_pos g] at e
      have e2 := chr_take s m i hm (by omega)
      rw [if_pos (by omega)] at e2
      rw [e] at ih hc
      rw [fin_yes (by rw [e2]; exact hc), e2]
      exact ih g (by rw [e] at h; exact h)
    · rw [if_neg g] at e
      exact absurd e hc

theorem cut_longest (s : ByteArray) (most : Int) (n : Nat) (h1 : 1 ≤ n) (h2 : cutM s most + n ≤ s.size) (h3 : (n : Int) ≤ most - cutM s most) : bad (s.extract 0 (cutM s most + n)) = true := by
  apply bad_yes
  rw [size_take s _ h2]
  intro h
  have hc : cutM s most + n ≤ clamp most s.size := by unfold clamp; omega
  have := take_le s _ _ 0 (clamp_le most s.size) hc (by omega) h
  change cutM s most + n ≤ cutM s most at this
  omega

/-! ### two texts are one -/
theorem chr_app_right (a b : ByteArray) (j : Nat) : chr (a ++ b) (a.size + j) = chr b j := by
  by_cases hj : j ≤ b.size
  · have h := chr_extract (a ++ b) a.size (a ++ b).size j (Nat.le_refl _) (by rw [ByteArray.size_append]; omega)
    rw [ByteArray.extract_append_eq_right rfl ByteArray.size_append, if_pos (chr_le _ _ (by rw [ByteArray.size_append]; omega))] at h
    exact h.symm
  · rw [chr_end _ _ (by rw [ByteArray.size_append]; omega), chr_end _ _ (by omega)]

theorem chr_app_left (a b : ByteArray) (i : Nat) (hi : i ≤ a.size) (h : chr a i ≠ 0) : chr (a ++ b) i = chr a i := by
  have e := chr_take (a ++ b) a.size i (by rw [ByteArray.size_append]; omega) hi
  rw [ByteArray.extract_append_eq_left rfl] at e
  split at e
  · exact e.symm
  · exact absurd e h

theorem fin_right (a b : ByteArray) (j : Nat) : fin (a ++ b) (a.size + j) = a.size + fin b j ∧ cnt (a ++ b) (a.size + j) = cnt b j := by
  fun_induction fin b j with
  | case1 j hc => exact ⟨fin_no (by rw [chr_app_right]; exact hc), by rw [cnt_no hc, cnt_no (by rw [chr_app_right]; exact hc)]⟩
  | case2 j hc ih =>
    have e := chr_app_right a b j
    rw [fin_yes (by rw [e]; exact hc), cnt_yes (by rw [e]; exact hc), cnt_yes hc, e, Nat.add_assoc]
    exact ⟨ih.1, by rw [ih.2]⟩

theorem fin_left (a b : ByteArray) (i : Nat) (hi : i ≤ a.size) (h : fin a i = a.size) : fin (a ++ b) i = a.size + fin b 0 ∧ cnt (a ++ b) i = cnt a i + cnt b 0 := by
  fun_induction fin a i with
  | case1 i hc =>
    subst h
    have := fin_right a b 0
    rw [Nat.add_zero] at this
    rw [cnt_no hc, this.1, this.2, Nat.zero_add]
    exact ⟨rfl, rfl⟩
  | case2 i hc ih =>
    have e := chr_app_left a b i hi hc
    rw [fin_yes (by rw [e]; exact hc), cnt_yes (by rw [e]; exact hc), cnt_yes hc, e]
    have := ih (chr_le a i hi) h
    exact ⟨this.1, by rw [this.2]; omega⟩

theorem join_text (a b : ByteArray) (ha : fin a 0 = a.size) (hb : fin b 0 = b.size) : fin (a ++ b) 0 = (a ++ b).size ∧ cnt (a ++ b) 0 = cnt a 0 + cnt b 0 := by
  have := fin_left a b 0 (by omega) ha
  rw [hb, ← ByteArray.size_append] at this
  exact this

/-! ### a text is read back from its bytes -/
theorem dat_back (x : ByteArray) (h : x.size ≤ 65535) : VP.dat (strOfNums [(x.size : Int) / 256, (x.size : Int) % 256] ++ x) 0 = (x, 2 + (x.size : Int), 0) := by
  have hz : (strOfNums [(x.size : Int) / 256, (x.size : Int) % 256]).size = 2 := strOfNums_size _
  generalize hp : strOfNums [(x.size : Int) / 256, (x.size : Int) % 256] = p at hz
  have hpx : (p ++ x).size = 2 + x.size := by rw [ByteArray.size_append, hz]
  have r := VP.rd_2 (p ++ x) 0 (by omega)
  have b0 : ((p ++ x)[0]'(by omega)).toNat = x.size / 256 := by
    rw [ByteArray.getElem_append_left (by omega)]
    subst hp
    show (UInt8.ofNat ((x.size : Int) / 256).toNat).toNat = _
    rw [UInt8.toNat_ofNat']
    omega
  have b1 : ((p ++ x)[0 + 1]'(by omega)).toNat = x.size % 256 := by
    rw [ByteArray.getElem_append_left (by omega)]
    subst hp
    show (UInt8.ofNat ((x.size : Int) % 256).toNat).toNat = _
    rw [UInt8.toNat_ofNat']
    omega
  rw [b0, b1] at r
  have r' : VP.rd (p ++ x) ((0 : Nat) : Int) 2 = ((x.size : Int), ((0 : Nat) : Int) + 2, 0) := by
    rw [r]
    simp only [Prod.mk.injEq, and_true]
    omega
  have d := VP.dat_ok (p ++ x) 0 x.size r' (by omega)
  rw [ByteArray.extract_append_eq_right (by omega) (by omega)] at d
  exact d

theorem get_back (x : ByteArray) (h : fin x 0 = x.size) (hz : x.size ≤ 65535) :
    putC x = 0 ∧ (getT (putS x) 0).1 = x ∧ (getT (putS x) 0).2.1 = ((putS x).size : Int) ∧ (getT (putS x) 0).2.2 = 0 := by
  have hb := bad_no h
  have e : putS x = strOfNums [(x.size : Int) / 256, (x.size : Int) % 256] ++ x := by
    unfold putS dataS
    rw [hb, if_neg (by decide), if_pos hz]
  have hs : ((putS x).size : Int) = 2 + (x.size : Int) := by
    rw [e, ByteArray.size_append, strOfNums_size]
    simp
  rw [hs]
  unfold getT
  rw [e, dat_back x hz]
  simp only [hb]
  unfold putC dataC
  rw [hb, if_neg (by decide), if_pos hz]
  simp
end TX
end Go.Proofs.YtdfedagjkfkbcaaDoor
