/- A beginning of properties' bytes is none; properties with their last once more behind. Told plainly: no function of the program is named here. -/
import Derived.Test.YtmommbhhffhdgaaDoorPrGetAll
import Derived.Test.YtmommbhhffhdgaaDoorVarPureBack
namespace Go.Proofs.YtmommbhhffhdgaaDoor
namespace PR

/-- X stands at the beginning of Y. -/
def Begins (X Y : ByteArray) : Prop := X.size ≤ Y.size ∧ ∀ (j : Nat) (h : j < X.size) (h' : j < Y.size), X[j]'h = Y[j]'h'
theorem begins_app (a b : ByteArray) : Begins a (a ++ b) := by
  refine ⟨by rw [ByteArray.size_append]; omega, fun j h h' => ?_⟩
  rw [ByteArray.getElem_append_left h]
theorem begins_cut (s : ByteArray) (k : Nat) : Begins (s.extract 0 k) s := by
  refine ⟨by rw [ByteArray.size_extract]; omega, fun j h h' => ?_⟩
  rw [ByteArray.getElem_extract]
  simp
theorem begins_both {X Y s : ByteArray} (hx : Begins X s) (hy : Begins Y s) (h : X.size ≤ Y.size) : Begins X Y := ⟨h, fun j h1 h2 => by
  have h3 : j < s.size := by have := hx.1; omega
  rw [hx.2 j h1 h3, hy.2 j h2 h3]⟩
theorem getG_more {X Y : ByteArray} (hb : Begins X Y) (k : Nat) : ∀ (u i : Nat) (n : Int), (VP.getG X k u i n).2.2 = 0 → VP.getG Y k u i n = VP.getG X k u i n
  | 0, i, n, h => by rw [VP.getG_0, VP.getG_0]
  | u + 1, i, n, h => by
    by_cases hx : k + i < X.size
    · have hy : k + i < Y.size := by have := hb.1; omega
      have he := hb.2 (k + i) hx hy
      unfold VP.getG at h ⊢
      rw [dif_pos hx] at h
      rw [dif_pos hx, dif_pos hy, ← he]
      by_cases hl : ((X[k + i]'hx).toNat : Int) < 128
      · rw [if_pos hl, if_pos hl]
      · rw [if_neg hl] at h
        rw [if_neg hl, if_neg hl]
        exact getG_more hb k u (i + 1) _ h
    · rw [VP.getG_end X k u i n hx] at h
      exact absurd h (by decide)
theorem getG_less {X Y : ByteArray} (hb : Begins X Y) (k : Nat) : ∀ (u i : Nat) (n : Int), (VP.getG Y k u i n).2.2 = 0 → (X.size : Int) < (VP.getG Y k u i n).2.1 → (VP.getG X k u i n).2.2 = 242
  | 0, i, n, h, _ => by rw [VP.getG_0] at h; exact absurd h (by decide)
  | u + 1, i, n, h, he => by
    by_cases hx : k + i < X.size
    · have hy : k + i < Y.size := by have := hb.1; omega
      have hxy := hb.2 (k + i) hx hy
      unfold VP.getG at h he ⊢
      rw [dif_pos hy] at h he
      rw [dif_pos hx, hxy]
      by_cases hl : ((Y[k + i]'hy).toNat : Int) < 128
      · rw [if_pos hl] at h he
        exfalso
        split at he
        · simp only at he; omega
        · rename_i hz
          rw [if_neg hz] at h
          exact absurd h (by decide)
      · rw [if_neg hl] at h he
        rw [if_neg hl]
        exact getG_less hb k u (i + 1) _ h he
    · rw [VP.getG_end X k u i n hx]
theorem get_0 (s : ByteArray) : VP.get s 0 = VP.getG s 0 4 0 0 := by
  unfold VP.get
  rw [if_neg (by omega)]
  rfl
theorem get_more {X Y : ByteArray} (hb : Begins X Y) (h : (VP.get X 0).2.2 = 0) : VP.get Y 0 = VP.get X 0 := by
  rw [get_0] at h
  rw [get_0, get_0]
  exact getG_more hb 0 4 0 0 h
theorem get_less {X Y : ByteArray} (hb : Begins X Y) (h : (VP.get Y 0).2.2 = 0) (he : (X.size : Int) < (VP.get Y 0).2.1) : (VP.get X 0).2.2 = 242 := by
  rw [get_0] at h he ⊢
  exact getG_less hb 0 4 0 0 h he

theorem putS_is {l : List Pr} (h : putC l = 0) : l.length ≤ 64 ∧ restC l 0 l = 0 ∧ putS l = strOfNums (VP.putL (allS l).size) ++ allS l := by
  unfold putC at h
  by_cases h1 : 64 < l.length
  · rw [if_pos h1] at h; exact absurd h (by decide)
  · rw [if_neg h1] at h
    by_cases h2 : restC l 0 l = 0
    · refine ⟨by omega, h2, ?_⟩
      unfold putS
      rw [if_neg h1, if_neg (by simp [h2])]
    · rw [if_pos h2] at h; exact absurd h h2
/-- A beginning of Put's bytes has the code Nothing. -/
theorem get_cut {l : List Pr} (h : putC l = 0) (k : Nat) (hk : k < (putS l).size) : (getL ((putS l).extract 0 k) 0).2.2 = 242 := by
  obtain ⟨hl, _, he⟩ := putS_is h
  have hz := allS_size l
  have hn : ((allS l).size : Int) ≤ 268435455 := by omega
  have hg := VP.get_put (n := ((allS l).size : Int)) (by omega) hn
  have hX := begins_cut (putS l) k
  have hH : Begins (strOfNums (VP.putL (allS l).size)) (putS l) := by rw [he]; exact begins_app _ _
  have hsz : (putS l).size = (VP.putL (allS l).size).length + (allS l).size := by rw [he, ByteArray.size_append, strOfNums_size]
  have hks : ((putS l).extract 0 k).size = k := by rw [ByteArray.size_extract]; omega
  by_cases hm : k < (VP.putL (allS l).size).length
  · have hb := begins_both hX hH (by rw [hks, strOfNums_size]; omega)
    have hc := get_less hb (by rw [hg]) (by rw [hg, hks]; simp only; omega)
    rw [getL_bad _ _ (by rw [hc]; decide)]
    exact hc
  · have hb := begins_both hH hX (by rw [hks, strOfNums_size]; omega)
    have hc := get_more hb (by rw [hg])
    rw [hg] at hc
    rw [getL_few _ 0 (allS l).size (VP.putL (allS l).size).length hc (by rw [hks]; omega)]

theorem rest_zero {l : List Pr} : ∀ (r : List Pr) (k : Nat), restC l k r = 0 → ∀ (j : Nat) (p : Pr), r[j]? = some p → oneC (l.take (k + j)) p = 0
  | [], k, _, j, p, hp => by simp at hp
  | q :: r, k, h, j, p, hp => by
    unfold restC at h
    by_cases h1 : oneC (l.take k) q = 0
    · rw [if_neg (by simp [h1])] at h
      match j, hp with
      | 0, hp => simp at hp; subst hp; exact h1
      | j + 1, hp =>
        have := rest_zero r (k + 1) h j p (by simpa using hp)
        rwa [show k + (j + 1) = k + 1 + j by omega]
    · rw [if_pos h1] at h; exact absurd h h1
theorem rest_all {L : List Pr} : ∀ (r s : List Pr) (k : Nat), (∀ (j : Nat) (p : Pr), r[j]? = some p → oneC (L.take (k + j)) p = 0) → restC L k (r ++ s) = restC L (k + r.length) s
  | [], s, k, _ => rfl
  | q :: r, s, k, h => by
    rw [List.cons_append, restC, if_neg (by simp [show oneC (L.take k) q = 0 from h 0 q rfl])]
    rw [rest_all r s (k + 1) (fun j p hp => by
      have := h (j + 1) p (by simpa using hp)
      rwa [show k + (j + 1) = k + 1 + j by omega] at this)]
    rw [List.length_cons, show k + 1 + r.length = k + (r.length + 1) by omega]
theorem ix_mem {id : Int} : ∀ (l : List Pr) (k : Nat), (∃ p ∈ l, p.id = id) → 0 ≤ ix id k l
  | [], k, h => by obtain ⟨p, hp, _⟩ := h; simp at hp
  | q :: l, k, h => by
    unfold ix
    by_cases hq : q.id = id
    · rw [if_pos (by simp [hq])]; omega
    · rw [if_neg (by simp [hq])]
      obtain ⟨p, hp, he⟩ := h
      rcases List.mem_cons.1 hp with rfl | hp
      · exact absurd he hq
      · exact ix_mem l (k + 1) ⟨p, hp, he⟩
/-- Put's code where the last property stands once more behind. -/
theorem put_again {l : List Pr} {q : Pr} (h : putC l = 0) (h64 : l.length < 64) (hq : l[l.length - 1]? = some q) : putC (l ++ [q]) = if q.id = 38 then 0 else 130 := by
  obtain ⟨_, hr, _⟩ := putS_is h
  have hz := rest_zero l 0 hr
  have h1 : restC (l ++ [q]) 0 (l ++ [q]) = oneC l q := by
    rw [rest_all l [q] 0 (fun j p hp => by
      have h2 := hz j p hp
      have hj : j < l.length := (List.getElem?_eq_some_iff.1 hp).1
      rwa [Nat.zero_add, List.take_append_of_le_length (by omega), ← Nat.zero_add j])]
    rw [Nat.zero_add, restC, restC, List.take_append_of_le_length (Nat.le_refl _), List.take_length]
    split
    · rfl
    · rename_i h3; have : oneC l q = 0 := by simpa using h3
      rw [this]
  have ho := hz _ q hq
  rw [Nat.zero_add] at ho
  have hid : idC (l.take (l.length - 1)) q.id = 0 := by
    unfold oneC at ho
    by_cases hi : idC (l.take (l.length - 1)) q.id = 0
    · exact hi
    · rw [if_pos hi] at ho; exact absurd ho hi
  have hv : valC q = 0 := by unfold oneC at ho; rwa [if_neg (by simp [hid])] at ho
  have hk : kd q.id ≠ 0 := by
    intro hk
    unfold idC at hid
    rw [if_pos hk] at hid
    exact absurd hid (by decide)
  unfold putC
  rw [if_neg (by rw [List.length_append, List.length_singleton]; omega), h1]
  by_cases h38 : q.id = 38
  · have hd : dup l q.id = false := by unfold dup; simp [h38]
    have : oneC l q = 0 := by unfold oneC idC; rw [if_neg hk, hd]; simp [hv]
    rw [this, if_pos h38]; simp
  · have hd : dup l q.id = true := by
      unfold dup
      have := ix_mem (id := q.id) l 0 ⟨q, List.mem_of_getElem? hq, rfl⟩
      simp [h38, this]
    have : oneC l q = 130 := by unfold oneC idC; rw [if_neg hk, hd]; simp
    rw [this, if_neg h38]; simp
end PR
end Go.Proofs.YtmommbhhffhdgaaDoor
