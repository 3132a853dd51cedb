/- No number's bytes begin another one's. No program is named here. -/
import Derived.Test.YtlhpglkbipbckaaVarPureBack
namespace Go.Proofs.Ytlhpglkbipbckaa
namespace VP

theorem four {n : Int} (h : 0 ≤ n) (h' : n ≤ 268435455) :
    (n < 128 ∧ putL n = [n]) ∨ (128 ≤ n ∧ n < 16384 ∧ putL n = [n % 128 + 128, n / 128]) ∨ (16384 ≤ n ∧ n < 2097152 ∧ putL n = [n % 128 + 128, n / 128 % 128 + 128, n / 16384]) ∨
    (2097152 ≤ n ∧ putL n = [n % 128 + 128, n / 128 % 128 + 128, n / 16384 % 128 + 128, n / 2097152]) := by
  rcases (show (n < 128) ∨ (128 ≤ n ∧ n < 16384) ∨ (16384 ≤ n ∧ n < 2097152) ∨ (2097152 ≤ n) from by omega) with g | ⟨g, g'⟩ | ⟨g, g'⟩ | g
  · exact .inl ⟨g, putL_1 h g⟩
  · exact .inr (.inl ⟨g, g', putL_2 g g'⟩)
  · exact .inr (.inr (.inl ⟨g, g', putL_3 g g'⟩))
  · exact .inr (.inr (.inr ⟨g, putL_4 g h'⟩))

theorem putL_bytes {n : Int} (h : 0 ≤ n) (h' : n ≤ 268435455) : ∀ x ∈ putL n, 0 ≤ x ∧ x < 256 := by
  rcases four h h' with ⟨g, e⟩ | ⟨g, g', e⟩ | ⟨g, g', e⟩ | ⟨g, e⟩
  all_goals
    rw [e]
    intro x hx
    simp at hx
    omega

theorem begins {a b : Int} (h0 : 0 ≤ a) (h1 : a < b) (h2 : b ≤ 268435455) : ¬ (putL b).take (putL a).length = putL a := by
  rcases four h0 (by omega) with ⟨g, e⟩ | ⟨g, g', e⟩ | ⟨g, g', e⟩ | ⟨g, e⟩ <;>
    rcases four (show 0 ≤ b by omega) h2 with ⟨k, f⟩ | ⟨k, k', f⟩ | ⟨k, k', f⟩ | ⟨k, f⟩
  all_goals
    rw [e, f]
    intro hc
    simp at hc
    try omega

theorem ext_inj (xs ys : List Int) (hx : ∀ x ∈ xs, 0 ≤ x ∧ x < 256) (hy : ∀ y ∈ ys, 0 ≤ y ∧ y < 256) (h : (strOfNums ys).extract 0 xs.length = strOfNums xs) : ys.take xs.length = xs := by
  have e : (ys.take xs.length).map (fun n => UInt8.ofNat n.toNat) = xs.map (fun n => UInt8.ofNat n.toNat) := by
    have := congrArg (fun t : ByteArray => t.data.toList) h
    simpa [strOfNums, ByteArray.data_extract, List.map_take] using this
  have g := congrArg (List.map fun u : UInt8 => (u.toNat : Int)) e
  have idx : ∀ l : List Int, (∀ x ∈ l, 0 ≤ x ∧ x < 256) → (l.map (fun n => UInt8.ofNat n.toNat)).map (fun u : UInt8 => (u.toNat : Int)) = l := by
    intro l hl
    rw [List.map_map]
    conv => rhs; rw [← List.map_id l]
    apply List.map_congr_left
    intro x hxl
    have := hl x hxl
    simp only [Function.comp, UInt8.toNat_ofNat', id]
    omega
  rw [idx _ (fun x hm => hy x (List.mem_of_mem_take hm)), idx _ hx] at g
  exact g

theorem not_begin {a b : Int} (h0 : 0 ≤ a) (h1 : a < b) (h2 : b ≤ 268435455) : ¬ (strOfNums (putL b)).extract 0 (putL a).length = strOfNums (putL a) := fun h =>
  begins h0 h1 h2 (ext_inj _ _ (putL_bytes h0 (by omega)) (putL_bytes (by omega) h2) h)

theorem sz_mono {a b : Int} (h0 : 0 ≤ a) (h1 : a ≤ b) (h2 : b ≤ 268435455) : sz a ≤ sz b := by
  unfold sz
  repeat' split
  all_goals omega

theorem len_mono {a b : Int} (h0 : 0 ≤ a) (h1 : a ≤ b) (h2 : b ≤ 268435455) : (putL a).length ≤ (putL b).length := by
  have := putL_len h0 (by omega : a ≤ 268435455)
  have := putL_len (by omega : 0 ≤ b) h2
  have := sz_mono h0 h1 h2
  omega

end VP
end Go.Proofs.Ytlhpglkbipbckaa
