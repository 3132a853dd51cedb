/- A beginning of properties' bytes is none; properties with their last once more behind. Told plainly: no function of the program is named here.; Parts of packets read back from their bytes, and bytes that are read are just theirs: numbers, data, texts, properties. Told plainly: no function of the program is named here.; Read back: what a reader's part tells is what a writer's part puts.; Read back: identifiers, filters, lists, the flags of a Connect.; Read back: what follows the length.; Read back: a packet that was read, put, and read again.; Read back: packets that may end early; all kinds.; What was put is read: part by part.; What was put is read: lists, a Connect, all kinds.; What was put is read: a Connect; endings; the first byte.; What was put is read, and put again the same.; In whatever pieces bytes come, the packets are the same: the plain side, over whatever reads a packet.; A packet's bytes, cut off, with a byte more, with other flags: the plain side. -/
import Derived.Test.YtemfcaaoobjgkaaGreatDoorMB
import Derived.Test.YtemfcaaoobjgkaaGreatDoorMD
namespace Go.Proofs.YtemfcaaoobjgkaaGreatDoor
namespace PR

/-- X stands at the beginning of Y. -/
def Begins (X Y : ByteArray) : Prop := X.size ≤ Y.size ∧ ∀ (j : Nat) (h : j < X.size) (h' : j < Y.size), X[j]'h = Y[j]'h'
theorem begins_app (a b : ByteArray) : Begins a (a ++ b) := by
  refine ⟨by rw [ByteArray.size_append]; omega, fun j h h' => ?_⟩
  rw [ByteArray.getElem_append_left h]
theorem begins_cut (s : ByteArray) (k : Nat) : Begins (s.extract 0 k) s := by
  refine ⟨by rw [ByteArray.size_extract]; omega, fun j h h' => ?_⟩
  rw [ByteArray.getElem_extract]
  simp
theorem begins_both {X Y s : ByteArray} (hx : Begins X s) (hy : Begins Y s) (h : X.size ≤ Y.size) : Begins X Y := ⟨h, fun j h1 h2 => by
  have h3 : j < s.size := by have := hx.1; omega
  rw [hx.2 j h1 h3, hy.2 j h2 h3]⟩
theorem getG_more {X Y : ByteArray} (hb : Begins X Y) (k : Nat) : ∀ (u i : Nat) (n : Int), (VP.getG X k u i n).2.2 = 0 → VP.getG Y k u i n = VP.getG X k u i n
  | 0, i, n, h => by rw [VP.getG_0, VP.getG_0]
  | u + 1, i, n, h => by
    by_cases hx : k + i < X.size
    · have hy : k + i < Y.size := by have := hb.1; omega
      have he := hb.2 (k + i) hx hy
      unfold VP.getG at h ⊢
      rw [dif_pos hx] at h
      rw [dif_pos hx, dif_pos hy, ← he]
      by_cases hl : ((X[k + i]'hx).toNat : Int) < 128
      · rw [if_pos hl, if_pos hl]
      · rw [if_neg hl] at h
        rw [if_neg hl, if_neg hl]
        exact getG_more hb k u (i + 1) _ h
    · rw [VP.getG_end X k u i n hx] at h
      exact absurd h (by decide)
theorem getG_less {X Y : ByteArray} (hb : Begins X Y) (k : Nat) : ∀ (u i : Nat) (n : Int), (VP.getG Y k u i n).2.2 = 0 → (X.size : Int) < (VP.getG Y k u i n).2.1 → (VP.getG X k u i n).2.2 = 242
  | 0, i, n, h, _ => by rw [VP.getG_0] at h; exact absurd h (by decide)
  | u + 1, i, n, h, he => by
    by_cases hx : k + i < X.size
    · have hy : k + i < Y.size := by have := hb.1; omega
      have hxy := hb.2 (k + i) hx hy
      unfold VP.getG at h he ⊢
      rw [dif_pos hy] at h he
      rw [dif_pos hx, hxy]
      by_cases hl : ((Y[k + i]'hy).toNat : Int) < 128
      · rw [if_pos hl] at h he
        exfalso
        split at he
        · simp only at he; omega
        · rename_i hz
          rw [if_neg hz] at h
          exact absurd h (by decide)
      · rw [if_neg hl] at h he
        rw [if_neg hl]
        exact getG_less hb k u (i + 1) _ h he
    · rw [VP.getG_end X k u i n hx]
theorem get_0 (s : ByteArray) : VP.get s 0 = VP.getG s 0 4 0 0 := by
  unfold VP.get
  rw [if_neg (by omega)]
  rfl
theorem get_more {X Y : ByteArray} (hb : Begins X Y) (h : (VP.get X 0).2.2 = 0) : VP.get Y 0 = VP.get X 0 := by
  rw [get_0] at h
  rw [get_0, get_0]
  exact getG_more hb 0 4 0 0 h
theorem get_less {X Y : ByteArray} (hb : Begins X Y) (h : (VP.get Y 0).2.2 = 0) (he : (X.size : Int) < (VP.get Y 0).2.1) : (VP.get X 0).2.2 = 242 := by
  rw [get_0] at h he ⊢
  exact getG_less hb 0 4 0 0 h he

theorem putS_is {l : List Pr} (h : putC l = 0) : l.length ≤ 64 ∧ restC l 0 l = 0 ∧ putS l = strOfNums (VP.putL (allS l).size) ++ allS l := by
  unfold putC at h
  by_cases h1 : 64 < l.length
  · rw [if_pos h1] at h; exact absurd h (by decide)
  · rw [if_neg h1] at h
    by_cases h2 : restC l 0 l = 0
    · refine ⟨by omega, h2, ?_⟩
      unfold putS
      rw [if_neg h1, if_neg (by simp [h2])]
    · rw [if_pos h2] at h; exact absurd h h2
/-- A beginning of Put's bytes has the code Nothing. -/
theorem get_cut {l : List Pr} (h : putC l = 0) (k : Nat) (hk : k < (putS l).size) : (getL ((putS l).extract 0 k) 0).2.2 = 242 := by
  obtain ⟨hl, _, he⟩ := putS_is h
  have hz := allS_size l
  have hn : ((allS l).size : Int) ≤ 268435455 := by omega
  have hg := VP.get_put (n := ((allS l).size : Int)) (by omega) hn
  have hX := begins_cut (putS l) k
  have hH : Begins (strOfNums (VP.putL (allS l).size)) (putS l) := by rw [he]; exact begins_app _ _
  have hsz : (putS l).size = (VP.putL (allS l).size).length + (allS l).size := by rw [he, ByteArray.size_append, strOfNums_size]
  have hks : ((putS l).extract 0 k).size = k := by rw [ByteArray.size_extract]; omega
  by_cases hm : k < (VP.putL (allS l).size).length
  · have hb := begins_both hX hH (by rw [hks, strOfNums_size]; omega)
    have hc := get_less hb (by rw [hg]) (by rw [hg, hks]; simp only; omega)
    rw [getL_bad _ _ (by rw [hc]; decide)]
    exact hc
  · have hb := begins_both hH hX (by rw [hks, strOfNums_size]; omega)
    have hc := get_more hb (by rw [hg])
    rw [hg] at hc
    rw [getL_few _ 0 (allS l).size (VP.putL (allS l).size).length hc (by rw [hks]; omega)]

theorem rest_zero {l : List Pr} : ∀ (r : List Pr) (k : Nat), restC l k r = 0 → ∀ (j : Nat) (p : Pr), r[j]? = some p → oneC (l.take (k + j)) p = 0
  | [], k, _, j, p, hp => by simp at hp
  | q :: r, k, h, j, p, hp => by
    unfold restC at h
    by_cases h1 : oneC (l.take k) q = 0
    · rw [if_neg (by simp [h1])] at h
      match j, hp with
      | 0, hp => simp at hp; subst hp; exact h1
      | j + 1, hp =>
        have := rest_zero r (k + 1) h j p (by simpa using hp)
        rwa [show k + (j + 1) = k + 1 + j by omega]
    · rw [if_pos h1] at h; exact absurd h h1
theorem rest_all {L : List Pr} : ∀ (r s : List Pr) (k : Nat), (∀ (j : Nat) (p : Pr), r[j]? = some p → oneC (L.take (k + j)) p = 0) → restC L k (r ++ s) = restC L (k + r.length) s
  | [], s, k, _ => rfl
  | q :: r, s, k, h => by
    rw [List.cons_append, restC, if_neg (by simp [show oneC (L.take k) q = 0 from h 0 q rfl])]
    rw [rest_all r s (k + 1) (fun j p hp => by
      have := h (j + 1) p (by simpa using hp)
      rwa [show k + (j + 1) = k + 1 + j by omega] at this)]
    rw [List.length_cons, show k + 1 + r.length = k + (r.length + 1) by omega]
theorem ix_mem {id : Int} : ∀ (l : List Pr) (k : Nat), (∃ p ∈ l, p.id = id) → 0 ≤ ix id k l
  | [], k, h => by obtain ⟨p, hp, _⟩ := h; simp at hp
  | q :: l, k, h => by
    unfold ix
    by_cases hq : q.id = id
    · rw [if_pos (by simp [hq])]; omega
    · rw [if_neg (by simp [hq])]
      obtain ⟨p, hp, he⟩ := h
      rcases List.mem_cons.1 hp with rfl | hp
      · exact absurd he hq
      · exact ix_mem l (k + 1) ⟨p, hp, he⟩
/-- Put's code where the last property stands once more behind. -/
theorem put_again {l : List Pr} {q : Pr} (h : putC l = 0) (h64 : l.length < 64) (hq : l[l.length - 1]? = some q) : putC (l ++ [q]) = if q.id = 38 then 0 else 130 := by
  obtain ⟨_, hr, _⟩ := putS_is h
  have hz := rest_zero l 0 hr
  have h1 : restC (l ++ [q]) 0 (l ++ [q]) = oneC l q := by
    rw [rest_all l [q] 0 (fun j p hp => by
      have h2 := hz j p hp
      have hj : j < l.length := (List.getElem?_eq_some_iff.1 hp).1
      rwa [Nat.zero_add, List.take_append_of_le_length (by omega), ← Nat.zero_add j])]
    rw [Nat.zero_add, restC, restC, List.take_append_of_le_length (Nat.le_refl _), List.take_length]
    split
    · rfl
    · rename_i h3; have : oneC l q = 0 := by simpa using h3
      rw [this]
  have ho := hz _ q hq
  rw [Nat.zero_add] at ho
  have hid : idC (l.take (l.length - 1)) q.id = 0 := by
    unfold oneC at ho
    by_cases hi : idC (l.take (l.length - 1)) q.id = 0
    · exact hi
    · rw [if_pos hi] at ho; exact absurd ho hi
  have hv : valC q = 0 := by unfold oneC at ho; rwa [if_neg (by simp [hid])] at ho
  have hk : kd q.id ≠ 0 := by
    intro hk
    unfold idC at hid
    rw [if_pos hk] at hid
    exact absurd hid (by decide)
  unfold putC
  rw [if_neg (by rw [List.length_append, List.length_singleton]; omega), h1]
  by_cases h38 : q.id = 38
  · have hd : dup l q.id = false := by unfold dup; simp [h38]
    have : oneC l q = 0 := by unfold oneC idC; rw [if_neg hk, hd]; simp [hv]
    rw [this, if_pos h38]; simp
  · have hd : dup l q.id = true := by
      unfold dup
      have := ix_mem (id := q.id) l 0 ⟨q, List.mem_of_getElem? hq, rfl⟩
      simp [h38, this]
    have : oneC l q = 130 := by unfold oneC idC; rw [if_neg hk, hd]; simp
    rw [this, if_neg h38]; simp
end PR
end Go.Proofs.YtemfcaaoobjgkaaGreatDoor
namespace Go.Proofs.YtemfcaaoobjgkaaGreatDoor
namespace PR

/-- The bytes B stand in U from P on. -/
def Has (U : ByteArray) (P : Nat) (B : ByteArray) : Prop := P + B.size ≤ U.size ∧ ∀ (i : Nat) (hi : i < B.size) (hu : P + i < U.size), U[P + i]'hu = B[i]'hi

theorem ba_ext {A B : ByteArray} (hs : A.size = B.size) (h : ∀ (i : Nat) (h1 : i < A.size) (h2 : i < B.size), A[i]'h1 = B[i]'h2) : A = B := by
  apply ByteArray.ext
  apply Array.ext
  · exact hs
  · intro i h1 h2
    exact h i h1 h2

section
variable {U A B : ByteArray} {P : Nat}
theorem has_ext (h : Has U P B) : U.extract P (P + B.size) = B :=
  ba_ext (by have := h.1; rw [ByteArray.size_extract]; omega) (fun i h1 h2 => by rw [ByteArray.getElem_extract]; exact h.2 i h2 _)
theorem has_mk {q : Nat} (hpq : P ≤ q) (hq : q ≤ U.size) : Has U P (U.extract P q) :=
  ⟨by rw [ByteArray.size_extract]; omega, fun i hi hu => by rw [ByteArray.getElem_extract]⟩
theorem has_left (h : Has U P (A ++ B)) : Has U P A :=
  ⟨by have := h.1; rw [ByteArray.size_append] at this; omega, fun i hi hu => by rw [h.2 i (by rw [ByteArray.size_append]; omega) hu, ByteArray.getElem_append_left hi]⟩
theorem has_right (h : Has U P (A ++ B)) : Has U (P + A.size) B := by
  have h0 := h.1
  rw [ByteArray.size_append] at h0
  refine ⟨by omega, fun i hi hu => ?_⟩
  have h1 := h.2 (A.size + i) (by rw [ByteArray.size_append]; omega) (by omega)
  rw [ByteArray.getElem_append_right (by omega)] at h1
  simp only [Nat.add_sub_cancel_left, ← Nat.add_assoc] at h1
  exact h1
theorem has_both (ha : Has U P A) (hb : Has U (P + A.size) B) : Has U P (A ++ B) := by
  have h1 := ha.1; have h2 := hb.1
  refine ⟨by rw [ByteArray.size_append]; omega, fun i hi hu => ?_⟩
  rw [ByteArray.size_append] at hi
  by_cases h : i < A.size
  · rw [ByteArray.getElem_append_left h]; exact ha.2 i h hu
  · rw [ByteArray.getElem_append_right (by omega)]
    have h3 := hb.2 (i - A.size) (by omega) (by omega)
    have e : P + A.size + (i - A.size) = P + i := by omega
    simp only [e] at h3
    exact h3
theorem has_self (B : ByteArray) : Has B 0 B := ⟨by omega, fun i hi hu => by simp only [Nat.zero_add]⟩
theorem has_front (A B : ByteArray) : Has (A ++ B) 0 A := has_left (has_self _)
theorem has_back (A B : ByteArray) : Has (A ++ B) A.size B := by simpa using has_right (has_self (A ++ B))
theorem has_nil (h : P ≤ U.size) : Has U P ⟨#[]⟩ := ⟨h, fun i hi _ => absurd hi (Nat.not_lt_zero i)⟩
theorem has_num {xs : List Int} (h : Has U P (strOfNums xs)) (i : Nat) (hi : i < xs.length) (h0 : 0 ≤ xs[i]) (h1 : xs[i] < 256) (hu : P + i < U.size) : ((U[P + i]'hu).toNat : Int) = xs[i] := by
  rw [h.2 i (by rw [strOfNums_size]; exact hi) hu]
  exact VP.str_at xs i _ hi h0 h1
theorem num_has {xs : List Int} (hl : P + xs.length ≤ U.size) (h : ∀ (i : Nat) (hi : i < xs.length) (hu : P + i < U.size), ((U[P + i]'hu).toNat : Int) = xs[i]) : Has U P (strOfNums xs) := by
  refine ⟨by rw [strOfNums_size]; exact hl, fun i hi hu => ?_⟩
  have hi' : i < xs.length := by rw [strOfNums_size] at hi; exact hi
  have e1 := h i hi' hu
  have h2 := (U[P + i]'hu).toNat_lt
  have e2 := VP.str_at xs i hi hi' (by omega) (by omega)
  apply UInt8.toNat_inj.1
  omega

theorem get_has {n : Int} (h0 : 0 ≤ n) (h1 : n ≤ 268435455) (h : Has U P (strOfNums (VP.putL n))) : VP.get U P = (n, ((P + (strOfNums (VP.putL n)).size : Nat) : Int), 0) := by
  have hz := h.1
  have e : U.extract 0 U.size = U := by simp
  have hp := get_part (s := U) (f := P) (e := U.size) (by omega) (Nat.le_refl _) 0 (by omega)
  rw [e, Nat.add_zero] at hp
  have hb : Begins (strOfNums (VP.putL n)) (U.extract P U.size) := ⟨by rw [ByteArray.size_extract]; omega, fun j h2 h3 => by rw [ByteArray.getElem_extract]; exact (h.2 j h2 _).symm⟩
  have hg := VP.get_put h0 h1
  have hm := get_more hb (by rw [hg])
  rw [hg] at hm
  rw [show ((0 : Nat) : Int) = 0 from rfl, hm] at hp
  rw [hp, strOfNums_size]
  simp only [sh, if_true]
  refine Prod.ext rfl (Prod.ext ?_ rfl)
  simp only
  omega
theorem get_inv (hP : P ≤ U.size) (hc : (VP.get U P).2.2 = 0) : ∃ n, 0 ≤ n ∧ n ≤ 268435455 ∧ VP.get U P = (n, ((P + (strOfNums (VP.putL n)).size : Nat) : Int), 0) ∧ Has U P (strOfNums (VP.putL n)) ∧ 0 < (strOfNums (VP.putL n)).size := by
  obtain ⟨x, m, h1, h2, h3, h4, h5, h6, h7⟩ := VP.get_inv U P hP hc
  refine ⟨x, h3, h4, ?_, num_has (by omega) (fun i hi hu => h7 i hu hi), by rw [strOfNums_size]; omega⟩
  rw [h6, strOfNums_size, h5]
  refine Prod.ext rfl (Prod.ext ?_ rfl)
  simp only
  omega
theorem rd_has {w n : Int} (hc : VP.fixC w n = 0) (h : Has U P (strOfNums (VP.fixL w n))) : VP.rd U P w = (n, ((P + (strOfNums (VP.fixL w n)).size : Nat) : Int), 0) := by
  by_cases hw : VP.isW w
  · rcases hw with rfl | rfl | rfl
    · by_cases hn : n < 0 ∨ 255 < n
      · rw [(VP.fix_1out hn).2] at hc; exact absurd hc (by decide)
      · rw [(VP.fix_1 (n := n) (by omega) (by omega)).1] at h ⊢
        have hz := h.1
        rw [strOfNums_size] at hz ⊢
        simp only [List.length_cons, List.length_nil] at hz ⊢
        have b0 := has_num h 0 (by simp) (by simp; omega) (by simp; omega) (by omega)
        simp only [Nat.add_zero, List.getElem_cons_zero] at b0
        rw [VP.rd_1 U P (by omega), b0]
        refine Prod.ext rfl (Prod.ext ?_ rfl)
        simp only
        omega
    · by_cases hn : n < 0 ∨ 65535 < n
      · rw [(VP.fix_2out hn).2] at hc; exact absurd hc (by decide)
      · rw [(VP.fix_2 (n := n) (by omega) (by omega)).1] at h ⊢
        have hz := h.1
        rw [strOfNums_size] at hz ⊢
        simp only [List.length_cons, List.length_nil] at hz ⊢
        have b0 := has_num h 0 (by simp) (by simp; omega) (by simp; omega) (by omega)
        have b1 := has_num h 1 (by simp) (by simp; omega) (by simp; omega) (by omega)
        simp only [Nat.add_zero, List.getElem_cons_zero, List.getElem_cons_succ] at b0 b1
        rw [VP.rd_2 U P (by omega), b0, b1]
        refine Prod.ext ?_ (Prod.ext ?_ rfl)
        · simp only; omega
        · simp only; omega
    · by_cases hn : n < 0 ∨ 4294967295 < n
      · rw [(VP.fix_4out hn).2] at hc; exact absurd hc (by decide)
      · rw [(VP.fix_4 (n := n) (by omega) (by omega)).1] at h ⊢
        have hz := h.1
        rw [strOfNums_size] at hz ⊢
        simp only [List.length_cons, List.length_nil] at hz ⊢
        have b0 := has_num h 0 (by simp) (by simp; omega) (by simp; omega) (by omega)
        have b1 := has_num h 1 (by simp) (by simp; omega) (by simp; omega) (by omega)
        have b2 := has_num h 2 (by simp) (by simp; omega) (by simp; omega) (by omega)
        have b3 := has_num h 3 (by simp) (by simp; omega) (by simp; omega) (by omega)
        simp only [Nat.add_zero, List.getElem_cons_zero, List.getElem_cons_succ] at b0 b1 b2 b3
        rw [VP.rd_4 U P (by omega), b0, b1, b2, b3]
        refine Prod.ext ?_ (Prod.ext ?_ rfl)
        · simp only; omega
        · simp only; omega
  · rw [(VP.fix_no hw).2] at hc; exact absurd hc (by decide)
theorem rd_inv {w : Int} (hc : (VP.rd U P w).2.2 = 0) : ∃ n, VP.fixC w n = 0 ∧ VP.rd U P w = (n, ((P + (strOfNums (VP.fixL w n)).size : Nat) : Int), 0) ∧ Has U P (strOfNums (VP.fixL w n)) := by
  suffices h : VP.fixC w (VP.rd U P w).1 = 0 ∧ Has U P (strOfNums (VP.fixL w (VP.rd U P w).1)) from ⟨_, h.1, rd_has h.1 h.2, h.2⟩
  by_cases hP : P ≤ U.size
  · by_cases hw : VP.isW w
    · rcases hw with rfl | rfl | rfl
      · by_cases hs : P < U.size
        · rw [VP.rd_1 U P hs]
          have h0 := (U[P]'hs).toNat_lt
          obtain ⟨f1, f2⟩ := VP.fix_1 (n := ((U[P]'hs).toNat : Int)) (by omega) (by omega)
          simp only
          rw [f1, f2]
          refine ⟨rfl, num_has (by simp; omega) (fun i hi hu => ?_)⟩
          match i, hi with
          | 0, _ => simp
        · rw [VP.rd_1few U P hP hs] at hc; exact absurd hc (by decide)
      · by_cases hs : P + 1 < U.size
        · rw [VP.rd_2 U P hs]
          have h0 := (U[P]'(by omega)).toNat_lt
          have h1 := (U[P + 1]'hs).toNat_lt
          obtain ⟨f1, f2⟩ := VP.fix_2 (n := ((U[P]'(by omega)).toNat : Int) * 256 + (U[P + 1]'hs).toNat) (by omega) (by omega)
          simp only
          rw [f1, f2]
          refine ⟨rfl, num_has (by simp; omega) (fun i hi hu => ?_)⟩
          match i, hi with
          | 0, _ => simp only [Nat.add_zero, List.getElem_cons_zero]; omega
          | 1, _ => simp only [List.getElem_cons_succ, List.getElem_cons_zero]; omega
        · rw [VP.rd_2few U P hP hs] at hc; exact absurd hc (by decide)
      · by_cases hs : P + 3 < U.size
        · rw [VP.rd_4 U P hs]
          have h0 := (U[P]'(by omega)).toNat_lt
          have h1 := (U[P + 1]'(by omega)).toNat_lt
          have h2 := (U[P + 2]'(by omega)).toNat_lt
          have h3 := (U[P + 3]'hs).toNat_lt
          obtain ⟨f1, f2⟩ := VP.fix_4 (n := ((((U[P]'(by omega)).toNat : Int) * 256 + (U[P + 1]'(by omega)).toNat) * 256 + (U[P + 2]'(by omega)).toNat) * 256 + (U[P + 3]'hs).toNat) (by omega) (by omega)
          simp only
          rw [f1, f2]
          refine ⟨rfl, num_has (by simp; omega) (fun i hi hu => ?_)⟩
          match i, hi with
          | 0, _ => simp only [Nat.add_zero, List.getElem_cons_zero]; omega
          | 1, _ => simp only [List.getElem_cons_succ, List.getElem_cons_zero]; omega
          | 2, _ => simp only [List.getElem_cons_succ, List.getElem_cons_zero]; omega
          | 3, _ => simp only [List.getElem_cons_succ, List.getElem_cons_zero]; omega
        · rw [VP.rd_4few U P hP hs] at hc; exact absurd hc (by decide)
    · rw [VP.rd_no _ _ _ hw] at hc; exact absurd hc (by decide)
  · rw [VP.rd_out _ _ _ (.inr (by omega))] at hc; exact absurd hc (by decide)

theorem dataS_is {s : ByteArray} (hs : s.size ≤ 65535) : TX.dataS s = strOfNums (VP.fixL 2 s.size) ++ s := by
  unfold TX.dataS
  rw [if_pos hs, (VP.fix_2 (n := (s.size : Int)) (by omega) (by omega)).1]
theorem fix2_size {n : Int} (h0 : 0 ≤ n) (h1 : n ≤ 65535) : (strOfNums (VP.fixL 2 n)).size = 2 := by
  rw [(VP.fix_2 h0 h1).1, strOfNums_size]; rfl
theorem dat_has {s : ByteArray} (hs : s.size ≤ 65535) (h : Has U P (TX.dataS s)) : VP.dat U P = (s, ((P + (TX.dataS s).size : Nat) : Int), 0) := by
  rw [dataS_is hs] at h ⊢
  have hz := h.1
  have f2 := fix2_size (n := (s.size : Int)) (by omega) (by omega)
  rw [ByteArray.size_append, f2] at hz ⊢
  have hr := rd_has (VP.fix_2 (n := (s.size : Int)) (by omega) (by omega)).2 (has_left h)
  have hb := has_right h
  rw [f2] at hr hb
  have hr' : VP.rd U P 2 = ((s.size : Int), (P : Int) + 2, 0) := by rw [hr]; refine Prod.ext rfl (Prod.ext ?_ rfl); simp only; omega
  rw [VP.dat_ok U P s.size hr' (by omega), has_ext hb]
  refine Prod.ext rfl (Prod.ext ?_ rfl)
  simp only
  omega
theorem dat_inv (hc : (VP.dat U P).2.2 = 0) : ∃ s : ByteArray, s.size ≤ 65535 ∧ VP.dat U P = (s, ((P + (TX.dataS s).size : Nat) : Int), 0) ∧ Has U P (TX.dataS s) := by
  suffices h : (VP.dat U P).1.size ≤ 65535 ∧ Has U P (TX.dataS (VP.dat U P).1) from ⟨_, h.1, dat_has h.1 h.2, h.2⟩
  by_cases h2 : (VP.rd U P 2).2.2 = 0
  · obtain ⟨k, L, hk, hk2, hL, hr⟩ := VP.rd2_ok _ _ h2
    have hkp : k = P := by omega
    subst hkp
    by_cases hl : (U.size : Int) - (k + 2) < L
    · rw [VP.dat_few U k L hr hl] at hc; exact absurd hc (by decide)
    · rw [VP.dat_ok U k L hr hl]
      simp only
      have hz : (U.extract (k + 2) (k + 2 + L)).size = L := by rw [ByteArray.size_extract]; omega
      refine ⟨by omega, ?_⟩
      rw [dataS_is (by omega), hz]
      obtain ⟨n, n1, n2, n3⟩ := rd_inv h2
      have hn : n = (L : Int) := by rw [hr] at n2; injection n2 with n2; exact n2.symm
      subst hn
      refine has_both n3 ?_
      rw [fix2_size (by omega) (by omega)]
      exact has_mk (by omega) (by omega)
  · rw [VP.dat_bad _ _ h2] at hc; exact absurd hc h2
theorem getT_has {s : ByteArray} (hc : TX.putC s = 0) (h : Has U P (TX.putS s)) : TX.getT U P = (s, ((P + (TX.putS s).size : Nat) : Int), 0) := by
  unfold TX.putC at hc
  unfold TX.putS at h ⊢
  by_cases hb : TX.bad s = true
  · rw [if_pos hb] at hc; exact absurd hc (by decide)
  · rw [if_neg hb] at hc h ⊢
    have hs : s.size ≤ 65535 := by
      unfold TX.dataC at hc
      by_cases hs : s.size ≤ 65535
      · exact hs
      · rw [if_neg hs] at hc; exact absurd hc (by decide)
    have hd := dat_has hs h
    unfold TX.getT
    rw [hd]
    simp only [ne_eq, not_true_eq_false, if_false]
    rw [if_neg hb]
theorem getT_inv (hc : (TX.getT U P).2.2 = 0) : ∃ s : ByteArray, TX.putC s = 0 ∧ TX.getT U P = (s, ((P + (TX.putS s).size : Nat) : Int), 0) ∧ Has U P (TX.putS s) := by
  suffices h : TX.putC (TX.getT U P).1 = 0 ∧ Has U P (TX.putS (TX.getT U P).1) from ⟨_, h.1, getT_has h.1 h.2, h.2⟩
  unfold TX.getT at hc ⊢
  by_cases h1 : (VP.dat U P).2.2 = 0
  · rw [if_neg (by simp [h1])] at hc ⊢
    by_cases hb : TX.bad (VP.dat U P).1 = true
    · rw [if_pos hb] at hc; exact absurd hc (by decide)
    · rw [if_neg hb]
      obtain ⟨s, s1, s2, s3⟩ := dat_inv h1
      rw [s2] at hb ⊢
      simp only at hb ⊢
      unfold TX.putC TX.putS TX.dataC
      rw [if_neg hb, if_neg hb, if_pos s1]
      exact ⟨rfl, s3⟩
  · rw [if_pos h1] at hc; exact absurd hc h1
end

/-- A property with what its kind asks for alone. -/
def nrm (p : Pr) : Pr := if kd p.id = 4 then ⟨p.id, p.n, ⟨#[]⟩, ⟨#[]⟩⟩ else if kd p.id = 5 then ⟨p.id, 0, p.s, ⟨#[]⟩⟩ else if kd p.id = 6 then ⟨p.id, 0, p.s, ⟨#[]⟩⟩ else if kd p.id = 7 then ⟨p.id, 0, p.s, p.t⟩ else ⟨p.id, p.n, ⟨#[]⟩, ⟨#[]⟩⟩
theorem nrm_id (p : Pr) : (nrm p).id = p.id := by unfold nrm; repeat' split
                                                  all_goals rfl
theorem pairC_zero {s t : ByteArray} (h : pairC s t = 0) : TX.putC s = 0 ∧ TX.putC t = 0 := by
  unfold pairC at h
  by_cases h1 : TX.putC s = 0
  · rw [if_neg (by simp [h1])] at h; exact ⟨h1, h⟩
  · rw [if_pos h1] at h; exact absurd h h1
theorem pairC_both {s t : ByteArray} (h1 : TX.putC s = 0) (h2 : TX.putC t = 0) : pairC s t = 0 ∧ pairS s t = TX.putS s ++ TX.putS t := by
  unfold pairC pairS
  rw [if_neg (by simp [h1]), if_neg (by simp [h1]), if_neg (by simp [h2])]
  exact ⟨h2, rfl⟩
theorem putC_inv {n : Int} (h : VP.putC n = 0) : 0 ≤ n ∧ n ≤ 268435455 := by
  unfold VP.putC at h
  split at h
  · exact absurd h (by decide)
  · omega

section
variable {U : ByteArray} {P : Nat}
theorem rdv_has {p : Pr} (hc : valC p = 0) (h : Has U P (valS p)) : rdv U P p.id = (nrm p, ((P + (valS p).size : Nat) : Int), 0) := by
  unfold valC at hc
  unfold valS at h ⊢
  unfold rdv nrm
  by_cases k4 : kd p.id = 4
  · simp only [k4, if_true] at hc h ⊢
    obtain ⟨h0, h1⟩ := putC_inv hc
    rw [get_has h0 h1 h]
  · by_cases k5 : kd p.id = 5
    · simp only [k5, show ((5 : Int) = 4) = False by decide, if_true, if_false] at hc h ⊢
      have hs : p.s.size ≤ 65535 := by
        unfold TX.dataC at hc
        by_cases hs : p.s.size ≤ 65535
        · exact hs
        · rw [if_neg hs] at hc; exact absurd hc (by decide)
      rw [dat_has hs h]
    · by_cases k6 : kd p.id = 6
      · simp only [k6, show ((6 : Int) = 4) = False by decide, show ((6 : Int) = 5) = False by decide, if_true, if_false] at hc h ⊢
        rw [getT_has hc h]
      · by_cases k7 : kd p.id = 7
        · simp only [k7, show ((7 : Int) = 4) = False by decide, show ((7 : Int) = 5) = False by decide, show ((7 : Int) = 6) = False by decide, if_true, if_false] at hc h ⊢
          obtain ⟨c1, c2⟩ := pairC_zero hc
          rw [(pairC_both c1 c2).2] at h ⊢
          have g1 := getT_has c1 (has_left h)
          have g2 := getT_has c2 (has_right h)
          rw [g1]
          simp only [ne_eq, not_true_eq_false, if_false]
          rw [g2, ByteArray.size_append, Nat.add_assoc]
        · simp only [k4, k5, k6, k7, if_false] at hc h ⊢
          rw [rd_has hc h]
theorem rdv_inv {id : Int} (hP : P ≤ U.size) (hc : (rdv U P id).2.2 = 0) : ∃ p : Pr, p.id = id ∧ nrm p = p ∧ valC p = 0 ∧ rdv U P id = (p, ((P + (valS p).size : Nat) : Int), 0) ∧ Has U P (valS p) := by
  suffices h : ∃ p : Pr, p.id = id ∧ nrm p = p ∧ valC p = 0 ∧ Has U P (valS p) by
    obtain ⟨p, rfl, h1, h2, h3⟩ := h
    exact ⟨p, rfl, h1, h2, by rw [rdv_has h2 h3, h1], h3⟩
  unfold rdv at hc
  by_cases k4 : kd id = 4
  · simp only [k4, if_true] at hc
    obtain ⟨n, n0, n1, n2, n3, _⟩ := get_inv hP hc
    refine ⟨⟨id, n, ⟨#[]⟩, ⟨#[]⟩⟩, rfl, ?_, ?_, ?_⟩
    · unfold nrm; simp only [k4, if_true]
    · unfold valC; simp only [k4, if_true]; exact VP.putC_in n0 n1
    · unfold valS; simp only [k4, if_true]; exact n3
  · by_cases k5 : kd id = 5
    · simp only [k5, show ((5 : Int) = 4) = False by decide, if_true, if_false] at hc
      obtain ⟨s, s1, s2, s3⟩ := dat_inv hc
      refine ⟨⟨id, 0, s, ⟨#[]⟩⟩, rfl, ?_, ?_, ?_⟩
      · unfold nrm; simp only [k5, show ((5 : Int) = 4) = False by decide, if_true, if_false]
      · unfold valC; simp only [k5, show ((5 : Int) = 4) = False by decide, if_true, if_false]; unfold TX.dataC; rw [if_pos s1]
      · unfold valS; simp only [k5, show ((5 : Int) = 4) = False by decide, if_true, if_false]; exact s3
    · by_cases k6 : kd id = 6
      · simp only [k6, show ((6 : Int) = 4) = False by decide, show ((6 : Int) = 5) = False by decide, if_true, if_false] at hc
        obtain ⟨s, s1, s2, s3⟩ := getT_inv hc
        refine ⟨⟨id, 0, s, ⟨#[]⟩⟩, rfl, ?_, ?_, ?_⟩
        · unfold nrm; simp only [k6, show ((6 : Int) = 4) = False by decide, show ((6 : Int) = 5) = False by decide, if_true, if_false]
        · unfold valC; simp only [k6, show ((6 : Int) = 4) = False by decide, show ((6 : Int) = 5) = False by decide, if_true, if_false]; exact s1
        · unfold valS; simp only [k6, show ((6 : Int) = 4) = False by decide, show ((6 : Int) = 5) = False by decide, if_true, if_false]; exact s3
      · by_cases k7 : kd id = 7
        · simp only [k7, show ((7 : Int) = 4) = False by decide, show ((7 : Int) = 5) = False by decide, show ((7 : Int) = 6) = False by decide, if_true, if_false] at hc
          by_cases h1 : (TX.getT U P).2.2 = 0
          · rw [if_neg (by simp [h1])] at hc
            obtain ⟨s, s1, s2, s3⟩ := getT_inv h1
            rw [s2] at hc
            simp only at hc
            obtain ⟨t, t1, t2, t3⟩ := getT_inv hc
            obtain ⟨b1, b2⟩ := pairC_both s1 t1
            refine ⟨⟨id, 0, s, t⟩, rfl, ?_, ?_, ?_⟩
            · unfold nrm; simp only [k7, show ((7 : Int) = 4) = False by decide, show ((7 : Int) = 5) = False by decide, show ((7 : Int) = 6) = False by decide, if_true, if_false]
            · unfold valC; simp only [k7, show ((7 : Int) = 4) = False by decide, show ((7 : Int) = 5) = False by decide, show ((7 : Int) = 6) = False by decide, if_true, if_false]; exact b1
            · unfold valS; simp only [k7, show ((7 : Int) = 4) = False by decide, show ((7 : Int) = 5) = False by decide, show ((7 : Int) = 6) = False by decide, if_true, if_false]; rw [b2]; exact has_both s3 t3
          · rw [if_pos h1] at hc; exact absurd hc h1
        · simp only [k4, k5, k6, k7, if_false] at hc
          obtain ⟨n, n1, n2, n3⟩ := rd_inv hc
          refine ⟨⟨id, n, ⟨#[]⟩, ⟨#[]⟩⟩, rfl, ?_, ?_, ?_⟩
          · unfold nrm; simp only [k4, k5, k6, k7, if_false]
          · unfold valC; simp only [k4, k5, k6, k7, if_false]; exact n1
          · unfold valS; simp only [k4, k5, k6, k7, if_false]; exact n3

theorem one_zero {out : List Pr} {p : Pr} (h : oneC out p = 0) : idC out p.id = 0 ∧ valC p = 0 := by
  unfold oneC at h
  by_cases hi : idC out p.id = 0
  · rw [if_neg (by simp [hi])] at h; exact ⟨hi, h⟩
  · rw [if_pos hi] at h; exact absurd h hi
theorem one_mk {out : List Pr} {p : Pr} (h1 : idC out p.id = 0) (h2 : valC p = 0) : oneC out p = 0 := by
  unfold oneC; rw [if_neg (by simp [h1])]; exact h2
theorem idC_kd {out : List Pr} {id : Int} (h : idC out id = 0) : 0 ≤ id ∧ id ≤ 42 := by
  by_cases hr : id < 0 ∨ 42 < id
  · unfold idC at h; rw [if_pos (kd_none hr)] at h; exact absurd h (by decide)
  · omega
theorem oneS_pos {out : List Pr} {p : Pr} (h : oneC out p = 0) : 0 < (oneS p).size := by
  obtain ⟨h0, h1⟩ := idC_kd (one_zero h).1
  unfold oneS
  rw [ByteArray.size_append, strOfNums_size, VP.putL_1 h0 (by omega)]
  simp; omega
theorem g1_has {out : List Pr} {p : Pr} (hl : out.length < 64) (ho : oneC out p = 0) (h : Has U P (oneS p)) : g1 U P out = (nrm p, ((P + (oneS p).size : Nat) : Int), 0) := by
  obtain ⟨hi, hv⟩ := one_zero ho
  obtain ⟨h0, h1⟩ := idC_kd hi
  unfold oneS at h ⊢
  have hg := get_has h0 (by omega) (has_left h)
  have hr := rdv_has hv (has_right h)
  unfold g1
  rw [if_neg (by omega), hg]
  simp only [ne_eq, not_true_eq_false, if_false]
  rw [hi, hr]
  simp only [not_true_eq_false, if_false]
  rw [ByteArray.size_append, Nat.add_assoc]
theorem g1_inv {out : List Pr} (hP : P ≤ U.size) (hc : (g1 U P out).2.2 = 0) : ∃ p : Pr, nrm p = p ∧ oneC out p = 0 ∧ out.length < 64 ∧ g1 U P out = (p, ((P + (oneS p).size : Nat) : Int), 0) ∧ Has U P (oneS p) := by
  suffices h : ∃ p : Pr, nrm p = p ∧ oneC out p = 0 ∧ out.length < 64 ∧ Has U P (oneS p) by
    obtain ⟨p, h1, h2, h3, h4⟩ := h
    exact ⟨p, h1, h2, h3, by rw [g1_has h3 h2 h4, h1], h4⟩
  unfold g1 at hc
  by_cases a1 : 64 ≤ out.length
  · rw [if_pos a1] at hc; exact absurd hc (by decide)
  · rw [if_neg a1] at hc
    by_cases a2 : (VP.get U P).2.2 = 0
    · rw [if_neg (by simp [a2])] at hc
      obtain ⟨id, i0, i1, i2, i3, _⟩ := get_inv hP a2
      rw [i2] at hc
      simp only at hc
      by_cases a3 : idC out id = 0
      · rw [if_neg (by simp [a3])] at hc
        by_cases a4 : (rdv U ((P + (strOfNums (VP.putL id)).size : Nat) : Int) id).2.2 = 0
        · obtain ⟨p, rfl, p1, p2, p3, p4⟩ := rdv_inv (by have := i3.1; omega) a4
          exact ⟨p, p1, one_mk a3 p2, by omega, has_both i3 p4⟩
        · rw [if_pos a4] at hc; exact absurd hc (by decide)
      · rw [if_pos a3] at hc; exact absurd hc a3
    · rw [if_pos a2] at hc; exact absurd hc (by decide)
end

theorem ix_nrm (id : Int) : ∀ (l : List Pr) (k : Nat), ix id k (l.map nrm) = ix id k l
  | [], k => rfl
  | p :: l, k => by rw [List.map_cons, ix, ix, nrm_id, ix_nrm id l]
theorem oneC_nrm (l : List Pr) (p : Pr) : oneC (l.map nrm) p = oneC l p := by
  unfold oneC idC dup
  rw [ix_nrm]
theorem gl_has {U : ByteArray} : ∀ (r out : List Pr) (u P : Nat), Has U P (allS r) → P + (allS r).size = U.size → r.length < u → out.length + r.length ≤ 64 → (∀ (j : Nat) (p : Pr), r[j]? = some p → oneC (out ++ r.take j) p = 0) → gl U u P (out.map nrm) = ((out ++ r).map nrm, 0)
  | r, out, 0, P, _, _, h, _, _ => absurd h (Nat.not_lt_zero _)
  | [], out, u + 1, P, _, hz, _, _, _ => by
    unfold gl
    have hz' : P = U.size := hz
    rw [if_pos (by omega), List.append_nil]
  | p :: r, out, u + 1, P, h, hz, hu, hl, ho => by
    have h0 := ho 0 p rfl
    rw [List.take_zero, List.append_nil] at h0
    rw [allS] at h hz
    rw [ByteArray.size_append] at hz
    simp only [List.length_cons] at hu hl
    have hp := oneS_pos h0
    have hg := g1_has (out := out.map nrm) (by rw [List.length_map]; omega) (by rw [oneC_nrm]; exact h0) (has_left h)
    unfold gl
    rw [if_neg (by omega), hg]
    simp only [ne_eq, not_true_eq_false, if_false]
    have e : out.map nrm ++ [nrm p] = (out ++ [p]).map nrm := by simp
    rw [e]
    have ih := gl_has r (out ++ [p]) u (P + (oneS p).size) (has_right h) (by omega) (by omega) (by rw [List.length_append, List.length_singleton]; omega) (fun j q hq => by
      have := ho (j + 1) q (by simpa using hq)
      rw [List.append_assoc]
      simpa using this)
    rw [ih, List.append_assoc, List.singleton_append]
theorem gl_inv {U : ByteArray} : ∀ (u : Nat) (P : Nat) (out : List Pr), P ≤ U.size → (gl U u P out).2 = 0 → out.length ≤ 64 → out.map nrm = out → Has U 0 (allS out) → (allS out).size = P → (∀ (j : Nat) (p : Pr), out[j]? = some p → oneC (out.take j) p = 0) →
    Has U 0 (allS (gl U u P out).1) ∧ (allS (gl U u P out).1).size = U.size ∧ (gl U u P out).1.length ≤ 64 ∧ (gl U u P out).1.map nrm = (gl U u P out).1 ∧ ∀ (j : Nat) (p : Pr), (gl U u P out).1[j]? = some p → oneC ((gl U u P out).1.take j) p = 0
  | 0, P, out, _, hc, _, _, _, _, _ => absurd hc (by unfold gl; decide)
  | u + 1, P, out, hP, hc, hl, hn, hh, hz, ho => by
    unfold gl at hc ⊢
    by_cases h1 : (P : Int) < (U.size : Int)
    · rw [if_neg (by simp [h1])] at hc ⊢
      by_cases h2 : (g1 U P out).2.2 = 0
      · rw [if_neg (by simp [h2])] at hc ⊢
        obtain ⟨p, p1, p2, p3, p4, p5⟩ := g1_inv hP h2
        rw [p4] at hc ⊢
        simp only at hc ⊢
        have hs : allS (out ++ [p]) = allS out ++ oneS p := all_snoc out p
        refine gl_inv u (P + (oneS p).size) (out ++ [p]) p5.1 hc (by rw [List.length_append, List.length_singleton]; omega) (by rw [List.map_append, hn]; simp [p1]) ?_ ?_ ?_
        · rw [hs]; refine has_both hh ?_; rw [hz, Nat.zero_add]; exact p5
        · rw [hs, ByteArray.size_append, hz]
        · intro j q hq
          by_cases hj : j < out.length
          · rw [List.getElem?_append_left hj] at hq
            rw [List.take_append_of_le_length (by omega)]
            exact ho j q hq
          · rw [List.getElem?_append_right (by omega)] at hq
            have hj2 : j = out.length := by
              have := (List.getElem?_eq_some_iff.1 hq).1
              simp at this; omega
            subst hj2
            simp at hq
            subst hq
            rw [List.take_append_of_le_length (Nat.le_refl _), List.take_length]
            exact p2
      · rw [if_pos h2] at hc; exact absurd hc h2
    · rw [if_pos h1]
      exact ⟨hh, by show (allS out).size = U.size; omega, hl, hn, ho⟩

/-- Properties are read back from their bytes, with what their kinds ask for alone. -/
theorem getL_back {l : List Pr} (h : putC l = 0) : getL (putS l) 0 = (l.map nrm, ((putS l).size : Int), 0) := by
  obtain ⟨hl, hr, he⟩ := putS_is h
  have hz := allS_size l
  have ha : Has (putS l) 0 (strOfNums (VP.putL (allS l).size)) := by rw [he]; exact has_front _ _
  have hb : Has (putS l) (strOfNums (VP.putL (allS l).size)).size (allS l) := by rw [he]; exact has_back _ _
  have hg := get_has (n := ((allS l).size : Int)) (by omega) (by omega) ha
  rw [Nat.zero_add] at hg
  have hs : (putS l).size = (strOfNums (VP.putL (allS l).size)).size + (allS l).size := by rw [he, ByteArray.size_append]
  have hgl := gl_has (U := allS l) l [] 66 0 (has_self _) (by omega) (by omega) (by simpa using hl) (fun j p hp => by
    have := rest_zero l 0 hr j p hp
    simpa using this)
  rw [List.nil_append, List.map_nil] at hgl
  unfold getL
  rw [show ((0 : Nat) : Int) = 0 from rfl] at hg hgl
  rw [hg]
  simp only [ne_eq, not_true_eq_false, if_false]
  have e1 : (((strOfNums (VP.putL (allS l).size)).size : Nat) : Int).toNat = (strOfNums (VP.putL (allS l).size)).size := by omega
  have e2 : ((((strOfNums (VP.putL (allS l).size)).size : Nat) : Int) + ((allS l).size : Int)).toNat = (strOfNums (VP.putL (allS l).size)).size + (allS l).size := by omega
  rw [if_neg (by omega), e1, e2, has_ext hb, hgl]
  simp only [not_true_eq_false, if_false]
  refine Prod.ext rfl (Prod.ext ?_ rfl)
  simp only
  omega
/-- Bytes that are read are just what Put gives. -/
theorem getL_inv {s : ByteArray} (hc : (getL s 0).2.2 = 0) : ∃ n : Nat, n ≤ s.size ∧ (getL s 0).2.1 = (n : Int) ∧ putC (getL s 0).1 = 0 ∧ putS (getL s 0).1 = s.extract 0 n ∧ (getL s 0).1.map nrm = (getL s 0).1 := by
  unfold getL at hc ⊢
  by_cases h1 : (VP.get s 0).2.2 = 0
  · rw [if_neg (by simp [h1])] at hc ⊢
    obtain ⟨n, n0, n1, n2, n3, _⟩ := get_inv (U := s) (P := 0) (Nat.zero_le _) h1
    rw [show ((0 : Nat) : Int) = 0 from rfl, Nat.zero_add] at n2
    rw [n2] at hc ⊢
    simp only at hc ⊢
    obtain ⟨m, rfl⟩ := Int.eq_ofNat_of_zero_le n0
    by_cases h2 : (s.size : Int) - ((strOfNums (VP.putL (m : Int))).size : Nat) < (m : Int)
    · rw [if_pos h2] at hc; exact absurd hc (by decide)
    · rw [if_neg h2] at hc ⊢
      have e1 : (((strOfNums (VP.putL (m : Int))).size : Nat) : Int).toNat = (strOfNums (VP.putL (m : Int))).size := by omega
      have e2 : ((((strOfNums (VP.putL (m : Int))).size : Nat) : Int) + (m : Int)).toNat = (strOfNums (VP.putL (m : Int))).size + m := by omega
      rw [e1, e2] at hc ⊢
      generalize hU : s.extract (strOfNums (VP.putL (m : Int))).size ((strOfNums (VP.putL (m : Int))).size + m) = U at hc ⊢
      have hUz : U.size = m := by rw [← hU, ByteArray.size_extract]; omega
      by_cases h3 : (gl U 66 0 []).2 = 0
      · rw [if_neg (by simp [h3])]
        obtain ⟨g1, g2, g3, g4, g5⟩ := gl_inv (U := U) 66 0 [] (Nat.zero_le _) h3 (by simp) rfl (has_nil (Nat.zero_le _)) rfl (fun j p hp => by simp at hp)
        rw [show ((0 : Nat) : Int) = 0 from rfl] at g1 g2 g3 g4 g5
        have hall : allS (gl U 66 0 []).1 = U := by
          have := has_ext g1
          rw [g2, Nat.zero_add] at this
          rw [← this]
          simp
        have hrest : restC (gl U 66 0 []).1 0 (gl U 66 0 []).1 = 0 := by
          have := rest_all (L := (gl U 66 0 []).1) (gl U 66 0 []).1 [] 0 (fun j p hp => by rw [Nat.zero_add]; exact g5 j p hp)
          rw [List.append_nil] at this
          rw [this]; rfl
        refine ⟨(strOfNums (VP.putL (m : Int))).size + m, by omega, by simp only; omega, ?_, ?_, g4⟩
        · unfold putC; simp only; rw [if_neg (by omega), if_neg (by simp [hrest])]
        · unfold putS; simp only; rw [if_neg (by omega), if_neg (by simp [hrest]), hall, hUz]
          have hb : Has s 0 (strOfNums (VP.putL (m : Int)) ++ U) := by
            refine has_both n3 ?_
            rw [Nat.zero_add, ← hU]
            exact has_mk (by omega) (by omega)
          have := has_ext hb
          rw [ByteArray.size_append, hUz, Nat.zero_add] at this
          exact this.symm
      · rw [if_pos h3] at hc; exact absurd hc h3
  · rw [if_pos h1] at hc; exact absurd hc h1
end PR
end Go.Proofs.YtemfcaaoobjgkaaGreatDoor
namespace Go.Proofs.YtemfcaaoobjgkaaGreatDoor
namespace PK
open PR (Has has_both has_ext has_nil has_mk)

/-- What the writer has put so far stands in U from p on, and the reader is behind it. -/
def At (U : ByteArray) (p : Nat) (o : ByteArray × Int) (a : Int) : Prop := o.2 = 0 ∧ Has U p o.1 ∧ a = ((p + o.1.size : Nat) : Int)
theorem cm0 {c : Int} (h : cm c = 0) : c = 0 := by
  unfold cm at h
  split at h
  · exact absurd h (by decide)
  · exact h
theorem thn0 {c d : Int} (h : thn c d = 0) : c = 0 ∧ d = 0 := by
  unfold thn at h
  split at h
  · rename_i hc; exact absurd h hc
  · rename_i hc; exact ⟨Classical.not_not.1 hc, h⟩
theorem ad_at {U : ByteArray} {p : Nat} {o : ByteArray × Int} {B : ByteArray} {c : Int} (ho : o.2 = 0) (hU : Has U p o.1) (hc : c = 0) (hB : Has U (p + o.1.size) B) : At U p (ad o B c) ((p + o.1.size + B.size : Nat) : Int) := by
  subst hc
  rw [ad_ok ho B]
  exact ⟨rfl, has_both hU hB, by simp only; rw [ByteArray.size_append]; congr 1; omega⟩
theorem rdT_inv {U : ByteArray} {p : Nat} {o : ByteArray × Int} {a : Int} (h : At U p o a) (hc : (rdT U a).2.2 = 0) : ∃ t a', rdT U a = (t, a', 0) ∧ At U p (tx o t) a' := by
  obtain ⟨ho, hU, rfl⟩ := h
  obtain ⟨t, h1, h2, h3⟩ := PR.getT_inv (cm0 hc)
  refine ⟨t, _, ?_, ad_at ho hU h1 h3⟩
  unfold rdT
  rw [h2]; rfl
theorem rdN_inv {U : ByteArray} {p : Nat} {o : ByteArray × Int} {a : Int} (wd : Int) (h : At U p o a) (hc : (rdN U a wd).2.2 = 0) : ∃ n a', rdN U a wd = (n, a', 0) ∧ At U p (nm o wd n) a' ∧ VP.fixC wd n = 0 := by
  obtain ⟨ho, hU, rfl⟩ := h
  obtain ⟨n, h1, h2, h3⟩ := PR.rd_inv (w := wd) (cm0 hc)
  refine ⟨n, _, ?_, ad_at ho hU h1 h3, h1⟩
  unfold rdN
  rw [h2]; rfl
theorem rdD_inv {U : ByteArray} {p : Nat} {o : ByteArray × Int} {a : Int} (h : At U p o a) (hc : (rdD U a).2.2 = 0) : ∃ d a', rdD U a = (d, a', 0) ∧ At U p (dt o d) a' := by
  obtain ⟨ho, hU, rfl⟩ := h
  obtain ⟨d, h1, h2, h3⟩ := PR.dat_inv (cm0 hc)
  refine ⟨d, _, ?_, ad_at ho hU (by unfold TX.dataC; rw [if_pos (by omega)]) h3⟩
  unfold rdD
  rw [h2]; rfl
theorem getL_part (s : ByteArray) (f : Nat) (hf : f ≤ s.size) (h : (PR.getL s f).2.2 = 0) : (PR.getL (s.extract f s.size) 0).2.2 = 0 ∧ (PR.getL s f).1 = (PR.getL (s.extract f s.size) 0).1 ∧ (PR.getL s f).2.1 = (f : Int) + (PR.getL (s.extract f s.size) 0).2.1 := by
  have e0 : s.extract 0 s.size = s := by simp
  have hg := PR.get_part (s := s) (f := f) (e := s.size) hf (Nat.le_refl _) 0 (Nat.zero_le _)
  rw [e0, Nat.add_zero] at hg
  rw [show ((0 : Nat) : Int) = 0 from rfl] at hg
  have hz : (s.extract f s.size).size = s.size - f := by rw [ByteArray.size_extract]; omega
  by_cases hc : (VP.get s (f : Int)).2.2 = 0
  · obtain ⟨m, q, h1, h2⟩ := PR.get_at s f hc
    have hc' : (VP.get (s.extract f s.size) 0).2.2 = 0 := by rw [hg] at hc; unfold PR.sh at hc; split at hc <;> simp_all
    obtain ⟨m', q', h1', h2'⟩ := PR.get_at (s.extract f s.size) 0 hc'
    have hsh : PR.sh f ((m' : Int), (q' : Int), 0) = ((m' : Int), ((f + q' : Nat) : Int), 0) := by unfold PR.sh; simp
    rw [h1', hsh, h1] at hg
    simp only [Prod.mk.injEq] at hg
    obtain ⟨g1, g2, _⟩ := hg
    have g1' : m = m' := by omega
    have g2' : q = f + q' := by omega
    subst g1' g2'
    by_cases hl : (s.size : Int) - ((f + q' : Nat) : Int) < (m : Int)
    · rw [PR.getL_few s f m (f + q') h1 hl] at h; exact absurd h (by simp)
    · have hl' : ¬ ((s.extract f s.size).size : Int) - (q' : Int) < (m : Int) := by rw [hz]; omega
      have ex : (s.extract f s.size).extract q' (q' + m) = s.extract (f + q') (f + q' + m) := by
        rw [ByteArray.extract_extract]; congr 1; omega
      have e1 := PR.getL_in s f m (f + q') h1 hl rfl
      have e2 := PR.getL_in (s.extract f s.size) 0 m q' h1' hl' rfl
      rw [ex] at e2
      rw [e1] at h ⊢
      rw [e2]
      generalize PR.gl (s.extract (f + q') (f + q' + m)) 66 0 [] = Y at *
      by_cases hy : Y.2 ≠ 0
      · rw [if_pos hy] at h; exact absurd h hy
      · rw [if_neg hy, if_neg hy]
        exact ⟨rfl, rfl, by simp only; omega⟩
  · rw [PR.getL_bad s f hc] at h; exact absurd h hc
theorem rdPr_inv {U : ByteArray} {p : Nat} {o : ByteArray × Int} {a : Int} (k : Int) (h : At U p o a) (hc : (rdPr U a k).2.2 = 0) : ∃ l a', rdPr U a k = (l, a', 0) ∧ At U p (pr o k l) a' := by
  obtain ⟨ho, hU, rfl⟩ := h
  obtain ⟨c1, c2⟩ := thn0 hc
  have hle : p + o.1.size ≤ U.size := hU.1
  obtain ⟨g1, g2, g3⟩ := getL_part U (p + o.1.size) hle (cm0 c1)
  obtain ⟨n, n1, n2, n3, n4, _⟩ := PR.getL_inv g1
  have hal : alAll k (PR.getL U ((p + o.1.size : Nat) : Int)).1 = true := by
    split at c2
    · assumption
    · exact absurd c2 (by decide)
  rw [← g2] at n3 n4
  have hz : (U.extract (p + o.1.size) U.size).size = U.size - (p + o.1.size) := by rw [ByteArray.size_extract]; omega
  have hput : PR.putS (PR.getL U ((p + o.1.size : Nat) : Int)).1 = U.extract (p + o.1.size) (p + o.1.size + n) := by
    rw [n4, ByteArray.extract_extract]; congr 1; omega
  have hps : (PR.putS (PR.getL U ((p + o.1.size : Nat) : Int)).1).size = n := by rw [hput, ByteArray.size_extract]; omega
  have hB : Has U (p + o.1.size) (PR.putS (PR.getL U ((p + o.1.size : Nat) : Int)).1) := by rw [hput]; exact has_mk (by omega) (by omega)
  refine ⟨(PR.getL U ((p + o.1.size : Nat) : Int)).1, ((p + o.1.size + (PR.putS (PR.getL U ((p + o.1.size : Nat) : Int)).1).size : Nat) : Int), ?_, ?_⟩
  · unfold rdPr
    rw [cm0 c1, hal, if_pos rfl, g3, n2]
    refine Prod.ext rfl (Prod.ext ?_ rfl)
    simp only
    rw [hps]; omega
  · unfold pr
    rw [if_pos hal]
    exact ad_at ho hU n3 hB
end PK
end Go.Proofs.YtemfcaaoobjgkaaGreatDoor
namespace Go.Proofs.YtemfcaaoobjgkaaGreatDoor
namespace PK
open PR (Has has_both has_ext has_nil has_mk)

theorem bnd_inv {α : Type} {P : Pk} {x : α × Int × Int} {f : α → Int → Pk × Int × Int} (h : (bnd P x f).2.2 = 0) : x.2.2 = 0 ∧ bnd P x f = f x.1 x.2.1 := by
  unfold bnd at h ⊢
  split at h
  · rename_i hc; exact absurd h hc
  · rename_i hc; exact ⟨Classical.not_not.1 hc, by rw [if_neg hc]⟩
theorem rdC_inv {U : ByteArray} {p : Nat} {o : ByteArray × Int} {a : Int} (h : At U p o a) (hc : (rdC U a).2.2 = 0) : ∃ n a', rdC U a = (n, a', 0) ∧ At U p (nm o 1 n) a' := by
  obtain ⟨n, a', h1, h2, _⟩ := rdN_inv 1 h hc
  exact ⟨n, a', h1, h2⟩
theorem fix2_le {n : Int} (h : VP.fixC 2 n = 0) : n ≤ 65535 := by
  unfold VP.fixC at h
  repeat' split at h
  all_goals first | omega | exact absurd h (by decide)
theorem rdId_inv {U : ByteArray} {p : Nat} {o : ByteArray × Int} {a : Int} (h : At U p o a) (hc : (rdId U a).2.2 = 0) : ∃ n a', rdId U a = (n, a', 0) ∧ At U p (idd o n) a' := by
  obtain ⟨c1, c2⟩ := thn0 hc
  obtain ⟨n, a', h1, h2, h3⟩ := rdN_inv 2 h c1
  have e1 : (VP.rd U a 2).1 = n := congrArg Prod.fst h1
  have e2 : (VP.rd U a 2).2.1 = a' := congrArg (fun x => x.2.1) h1
  have hn : n ≠ 0 := by
    rw [e1] at c2
    split at c2
    · exact absurd c2 (by decide)
    · assumption
  have hnn := (rd_nn U a 2).1
  rw [e1] at hnn
  have hle := fix2_le h3
  refine ⟨n, a', ?_, ?_⟩
  · unfold rdId
    rw [c1, e1, e2, if_neg hn]; rfl
  · unfold idd
    rw [if_neg (by omega)]
    exact h2
theorem rdSes_inv {U : ByteArray} {p : Nat} {o : ByteArray × Int} {a : Int} (h : At U p o a) (hc : (rdSes U a).2.2 = 0) : ∃ b a', rdSes U a = (b, a', 0) ∧ At U p (nm o 1 (fl b 1)) a' := by
  obtain ⟨c1, c2⟩ := thn0 hc
  obtain ⟨n, a', h1, h2, _⟩ := rdN_inv 1 h c1
  have e1 : (VP.rd U a 1).1 = n := congrArg Prod.fst h1
  have e2 : (VP.rd U a 1).2.1 = a' := congrArg (fun x => x.2.1) h1
  have hn : n ≤ 1 := by
    rw [e1] at c2
    split at c2
    · exact absurd c2 (by decide)
    · omega
  have hnn := (rd_nn U a 1).1
  rw [e1] at hnn
  refine ⟨n == 1, a', ?_, ?_⟩
  · unfold rdSes
    rw [c1, e1, e2, if_neg (by omega)]; rfl
  · have : fl (n == 1) 1 = n := by
      rcases (show n = 0 ∨ n = 1 by omega) with rfl | rfl <;> rfl
    rw [this]
    exact h2
theorem sub_bits (n : Int) (h0 : 0 ≤ n) (h1 : n ≤ 255) (h : subC n = 0) : (isQ (bits .and .i64 n 3) && isQ (bits .and .i64 (n / 16) 3)) = true ∧ bits .and .i64 n 3 + fl (bits .and .i64 n 4 != 0) 4 + fl (bits .and .i64 n 8 != 0) 8 + 16 * bits .and .i64 (n / 16) 3 = n := by
  obtain ⟨k, rfl⟩ := Int.eq_ofNat_of_zero_le h0
  have hd : ∀ k : Fin 256, subC ((k.val : Nat) : Int) = 0 → (isQ (bits .and .i64 ((k.val : Nat) : Int) 3) && isQ (bits .and .i64 (((k.val : Nat) : Int) / 16) 3)) = true ∧ bits .and .i64 ((k.val : Nat) : Int) 3 + fl (bits .and .i64 ((k.val : Nat) : Int) 4 != 0) 4 + fl (bits .and .i64 ((k.val : Nat) : Int) 8 != 0) 8 + 16 * bits .and .i64 (((k.val : Nat) : Int) / 16) 3 = ((k.val : Nat) : Int) := by decide +kernel
  exact hd ⟨k, by omega⟩ h
theorem rdSub_inv {U : ByteArray} {p : Nat} {o : ByteArray × Int} {a : Int} (h : At U p o a) (hc : (rdSub U a).2.2 = 0) : ∃ s a', rdSub U a = (s, a', 0) ∧ At U p (sub o s) a' := by
  obtain ⟨c1, c23⟩ := thn0 hc
  obtain ⟨c2, c3⟩ := thn0 c23
  obtain ⟨t, a1, h1, hA1⟩ := rdT_inv h c1
  have e1 : (TX.getT U a).1 = t := congrArg Prod.fst h1
  have e2 : (TX.getT U a).2.1 = a1 := congrArg (fun x => x.2.1) h1
  rw [e2] at c2 c3
  obtain ⟨n, a2, h2, hA2, _⟩ := rdN_inv 1 hA1 c2
  have e3 : (VP.rd U a1 1).1 = n := congrArg Prod.fst h2
  have e4 : (VP.rd U a1 1).2.1 = a2 := congrArg (fun x => x.2.1) h2
  have hn0 := (rd_nn U a1 1).1
  have hn1 := rd_1le U a1
  rw [e3] at hn0 hn1 c3
  obtain ⟨b1, b2⟩ := sub_bits n hn0 hn1 c3
  refine ⟨subOf t n, a2, ?_, ?_⟩
  · unfold rdSub
    rw [c1, e1, e2, c2, e3, e4, c3]; rfl
  · unfold sub
    rw [if_pos (by exact b1)]
    have : subN (subOf t n) = n := b2
    rw [this]
    exact hA2
theorem lst_inv {α : Type} {U : ByteArray} {p : Nat} {rd : Int → α × Int × Int} {f : ByteArray × Int → α → ByteArray × Int} (hstep : ∀ o a, At U p o a → (rd a).2.2 = 0 → ∃ x a', rd a = (x, a', 0) ∧ At U p (f o x) a') (o0 : ByteArray × Int) :
    ∀ (u : Nat) (a : Int) (out : List α), At U p (out.foldl f o0) a → out.length ≤ 64 → (lst rd U.size u a out).2.2 = 0 → ∃ l, lst rd U.size u a out = (l, (U.size : Int), 0) ∧ At U p (l.foldl f o0) (U.size : Int) ∧ l.length ≠ 0 ∧ ¬ 64 < l.length
  | 0, a, out, _, _, h => by rw [lst] at h; exact absurd h (by simp)
  | u + 1, a, out, hA, hl, h => by
    rw [lst] at h ⊢
    by_cases h1 : a = (U.size : Int)
    · rw [if_pos h1] at h ⊢
      by_cases h2 : out = []
      · rw [if_pos h2] at h; exact absurd h (by simp)
      · rw [if_neg h2]
        exact ⟨out, by rw [h1], by rw [← h1]; exact hA, by intro e; exact h2 (List.eq_nil_of_length_eq_zero e), by omega⟩
    · rw [if_neg h1] at h ⊢
      by_cases h2 : out.length = 64
      · rw [if_pos h2] at h; exact absurd h (by simp)
      · rw [if_neg h2] at h ⊢
        by_cases h3 : (rd a).2.2 ≠ 0
        · rw [if_pos h3] at h; exact absurd h h3
        · rw [if_neg h3] at h ⊢
          obtain ⟨x, a', hx, hA'⟩ := hstep _ _ hA (Classical.not_not.1 h3)
          rw [hx] at h ⊢
          exact lst_inv hstep o0 u a' (out ++ [x]) (by rw [List.foldl_append]; exact hA') (by simp; omega) h
theorem rdHd_inv {U : ByteArray} {p : Nat} {o : ByteArray × Int} {a : Int} (k : Int) (h : At U p o a) (hc : (rdHd U a k).2.2 = 0) : ∃ i l a', rdHd U a k = ((i, l), a', 0) ∧ At U p (pr (idd o i) k l) a' := by
  obtain ⟨c1, c2⟩ := thn0 hc
  obtain ⟨i, a1, h1, hA1⟩ := rdId_inv h c1
  rw [h1] at c2
  obtain ⟨l, a2, h2, hA2⟩ := rdPr_inv k hA1 c2
  refine ⟨i, l, a2, ?_, hA2⟩
  unfold rdHd
  rw [h1]
  simp only
  rw [h2]; rfl
theorem cfl_bits (n : Int) (h0 : 0 ≤ n) (h1 : n ≤ 255) (h : cflC n = 0) : ((bits .and .i64 n 4 != 0) && !isQ (bits .and .i64 (n / 8) 3)) = false ∧
    fl (bits .and .i64 n 2 != 0) 2 + fl (bits .and .i64 n 64 != 0) 64 + fl (bits .and .i64 n 128 != 0) 128 + (if (bits .and .i64 n 4 != 0) = true then 4 + 8 * bits .and .i64 (n / 8) 3 + fl (bits .and .i64 n 32 != 0) 32 else 0) = n := by
  obtain ⟨k, rfl⟩ := Int.eq_ofNat_of_zero_le h0
  have hd : ∀ k : Fin 256, cflC ((k.val : Nat) : Int) = 0 → ((bits .and .i64 ((k.val : Nat) : Int) 4 != 0) && !isQ (bits .and .i64 (((k.val : Nat) : Int) / 8) 3)) = false ∧
    fl (bits .and .i64 ((k.val : Nat) : Int) 2 != 0) 2 + fl (bits .and .i64 ((k.val : Nat) : Int) 64 != 0) 64 + fl (bits .and .i64 ((k.val : Nat) : Int) 128 != 0) 128 + (if (bits .and .i64 ((k.val : Nat) : Int) 4 != 0) = true then 4 + 8 * bits .and .i64 (((k.val : Nat) : Int) / 8) 3 + fl (bits .and .i64 ((k.val : Nat) : Int) 32 != 0) 32 else 0) = ((k.val : Nat) : Int) := by decide +kernel
  exact hd ⟨k, by omega⟩ h
theorem rdFl_inv {U : ByteArray} {p : Nat} {o : ByteArray × Int} {a : Int} (P : Pk) (h : At U p o a) (hc : (rdFl U a).2.2 = 0) : ∃ n a', rdFl U a = (n, a', 0) ∧ At U p (cflags o (cflPk P n)) a' := by
  obtain ⟨c1, c2⟩ := thn0 hc
  obtain ⟨n, a1, h1, hA1, _⟩ := rdN_inv 1 h c1
  have e1 : (VP.rd U a 1).1 = n := congrArg Prod.fst h1
  have e2 : (VP.rd U a 1).2.1 = a1 := congrArg (fun x => x.2.1) h1
  have hn0 := (rd_nn U a 1).1
  have hn1 := rd_1le U a
  rw [e1] at hn0 hn1 c2
  obtain ⟨b1, b2⟩ := cfl_bits n hn0 hn1 c2
  refine ⟨n, a1, ?_, ?_⟩
  · unfold rdFl
    rw [c1, e1, e2, c2]; rfl
  · have e : cflagsN (cflPk P n) = n := b2
    unfold cflags
    rw [if_neg (by rw [show ((cflPk P n).hasWill && !isQ (cflPk P n).wqos) = false from b1]; decide), e]
    exact hA1
end PK
end Go.Proofs.YtemfcaaoobjgkaaGreatDoor
namespace Go.Proofs.YtemfcaaoobjgkaaGreatDoor
namespace PK
open PR (Has has_both has_ext has_nil has_mk)

section
variable {U : ByteArray} {p : Nat} {o : ByteArray × Int}
theorem rdPass_inv {a : Int} (P : Pk) (h : At U p o a) (hc : (rdPass U a P).2.2 = 0) : ∃ Q a', rdPass U a P = (Q, a', 0) ∧ At U p (conn4 o Q) a' ∧ (∃ v, Q = { P with pass := v }) := by
  unfold rdPass at hc ⊢
  by_cases hp : P.hasPass = true
  · rw [if_pos hp] at hc ⊢
    obtain ⟨c1, e1⟩ := bnd_inv hc
    obtain ⟨v, a1, h1, hA⟩ := rdD_inv h c1
    rw [e1, h1]
    exact ⟨_, _, rfl, by unfold conn4; rw [if_pos (by exact hp)]; exact hA, v, rfl⟩
  · rw [if_neg hp]
    exact ⟨_, _, rfl, by unfold conn4; rw [if_neg hp]; exact h, P.pass, rfl⟩
theorem rdUser_inv {a : Int} (P : Pk) (h : At U p o a) (hc : (rdUser U a P).2.2 = 0) : ∃ Q a', rdUser U a P = (Q, a', 0) ∧ At U p (conn4 (conn3 o Q) Q) a' ∧ (∃ u v, Q = { P with user := u, pass := v }) := by
  unfold rdUser at hc ⊢
  by_cases hp : P.hasUser = true
  · rw [if_pos hp] at hc ⊢
    obtain ⟨c1, e1⟩ := bnd_inv hc
    obtain ⟨u, a1, h1, hA⟩ := rdT_inv h c1
    rw [e1, h1] at hc
    rw [e1, h1]
    obtain ⟨Q, a2, h2, hA2, v, rfl⟩ := rdPass_inv _ hA hc
    exact ⟨_, _, h2, by unfold conn3; rw [if_pos (by exact hp)]; exact hA2, u, v, rfl⟩
  · rw [if_neg hp] at hc ⊢
    obtain ⟨Q, a2, h2, hA2, v, rfl⟩ := rdPass_inv _ h hc
    exact ⟨_, _, h2, by unfold conn3; rw [if_neg (by exact hp)]; exact hA2, P.user, v, rfl⟩
theorem rdWill_inv {a : Int} (P : Pk) (h : At U p o a) (hc : (rdWill U a P).2.2 = 0) : ∃ Q a', rdWill U a P = (Q, a', 0) ∧ At U p (conn4 (conn3 (conn2 o Q) Q) Q) a' ∧ (∃ l t d u v, Q = { P with wprops := l, wtopic := t, wpay := d, user := u, pass := v }) := by
  unfold rdWill at hc ⊢
  by_cases hp : P.hasWill = true
  · rw [if_pos hp] at hc ⊢
    obtain ⟨c1, e1⟩ := bnd_inv hc
    obtain ⟨l, a1, h1, hA1⟩ := rdPr_inv 0 h c1
    rw [e1, h1] at hc
    rw [e1, h1]
    obtain ⟨c2, e2⟩ := bnd_inv hc
    obtain ⟨t, a2, h2, hA2⟩ := rdT_inv hA1 c2
    rw [e2, h2] at hc
    rw [e2, h2]
    obtain ⟨c3, e3⟩ := bnd_inv hc
    obtain ⟨d, a3, h3, hA3⟩ := rdD_inv hA2 c3
    rw [e3, h3] at hc
    rw [e3, h3]
    obtain ⟨Q, a4, h4, hA4, u, v, rfl⟩ := rdUser_inv _ hA3 hc
    exact ⟨_, _, h4, by unfold conn2; rw [if_pos (by exact hp)]; exact hA4, l, t, d, u, v, rfl⟩
  · rw [if_neg hp] at hc ⊢
    obtain ⟨Q, a4, h4, hA4, u, v, rfl⟩ := rdUser_inv _ h hc
    exact ⟨_, _, h4, by unfold conn2; rw [if_neg (by exact hp)]; exact hA4, P.wprops, P.wtopic, P.wpay, u, v, rfl⟩
theorem rdConn_inv {a : Int} (P : Pk) (hk : P.kind = 1) (h : At U p o a) (hc : (rdConn U a P).2.2 = 0) : ∃ Q a', rdConn U a P = (Q, a', 0) ∧ At U p (conn o Q) a' ∧ Q.kind = 1 := by
  unfold rdConn at hc ⊢
  obtain ⟨c1, e1⟩ := bnd_inv hc
  obtain ⟨t, a1, h1, hA1⟩ := rdT_inv h c1
  rw [e1, h1] at hc
  rw [e1, h1]
  simp only at hc ⊢
  by_cases ht : t ≠ ⟨#[77, 81, 84, 84]⟩
  · rw [if_pos ht] at hc; exact absurd hc (by simp)
  rw [if_neg ht] at hc ⊢
  have ht' := Classical.not_not.1 ht
  obtain ⟨c2, e2⟩ := bnd_inv hc
  obtain ⟨v, a2, h2, hA2, _⟩ := rdN_inv 1 hA1 c2
  rw [e2, h2] at hc
  rw [e2, h2]
  simp only at hc ⊢
  by_cases hv : v ≠ 5
  · rw [if_pos hv] at hc; exact absurd hc (by simp)
  rw [if_neg hv] at hc ⊢
  have hv' := Classical.not_not.1 hv
  obtain ⟨c3, e3⟩ := bnd_inv hc
  obtain ⟨n, a3, h3, hA3⟩ := rdFl_inv P hA2 c3
  rw [e3, h3] at hc
  rw [e3, h3]
  simp only at hc ⊢
  unfold rdConn1 at hc ⊢
  obtain ⟨c4, e4⟩ := bnd_inv hc
  obtain ⟨ke, a4, h4, hA4, _⟩ := rdN_inv 2 hA3 c4
  rw [e4, h4] at hc
  rw [e4, h4]
  simp only at hc ⊢
  obtain ⟨c5, e5⟩ := bnd_inv hc
  obtain ⟨l, a5, h5, hA5⟩ := rdPr_inv (cflPk P n).kind hA4 c5
  rw [e5, h5] at hc
  rw [e5, h5]
  simp only at hc ⊢
  obtain ⟨c6, e6⟩ := bnd_inv hc
  obtain ⟨cl, a6, h6, hA6⟩ := rdT_inv hA5 c6
  rw [e6, h6] at hc
  rw [e6, h6]
  simp only at hc ⊢
  obtain ⟨Q, a7, h7, hA7, wl, wt, wd, us, pa, rfl⟩ := rdWill_inv _ hA6 hc
  refine ⟨_, _, h7, ?_, hk⟩
  rw [ht', hv', show (cflPk P n).kind = 1 from hk] at hA7
  exact hA7
end
/-- What follows the length, put again: for all kinds but those that may end early. -/
theorem parts_inv {U : ByteArray} {p : Nat} {o : ByteArray × Int} {a : Int} (P : Pk) (hk : P.kind = 1 ∨ P.kind = 2 ∨ P.kind = 3 ∨ P.kind = 8 ∨ P.kind = 9 ∨ P.kind = 10 ∨ P.kind = 11 ∨ P.kind = 12 ∨ P.kind = 13) (h : At U p o a)
    (hc : (partsK P.kind U a P).2.2 = 0) (he : (partsK P.kind U a P).2.1 = (U.size : Int)) : At U p (parts o (partsK P.kind U a P).1) (U.size : Int) ∧ (partsK P.kind U a P).1.kind = P.kind := by
  rcases hk with hk | hk | hk | hk | hk | hk | hk | hk | hk
  · have e : partsK P.kind U a P = rdConn U a P := by unfold partsK; rw [if_pos hk]
    rw [e] at hc he ⊢
    obtain ⟨Q, a', h1, h2, h3⟩ := rdConn_inv P hk h hc
    rw [h1] at he ⊢
    simp only at he ⊢
    rw [he] at h2
    exact ⟨by unfold parts; rw [if_pos h3]; exact h2, by rw [h3, hk]⟩
  · have e : partsK P.kind U a P = bnd P (rdSes U a) (fun v a => bnd P (rdC U a) (fun c a => bnd P (rdPr U a P.kind) (fun l a => ({ P with session := v, code := c, props := l }, a, 0)))) := by unfold partsK; rw [if_neg (by omega), if_pos hk]
    rw [e] at hc he ⊢
    obtain ⟨c1, e1⟩ := bnd_inv hc
    obtain ⟨v, a1, h1, hA1⟩ := rdSes_inv h c1
    rw [e1, h1] at hc he
    rw [e1, h1]
    obtain ⟨c2, e2⟩ := bnd_inv hc
    obtain ⟨c, a2, h2, hA2⟩ := rdC_inv hA1 c2
    rw [e2, h2] at hc he
    rw [e2, h2]
    obtain ⟨c3, e3⟩ := bnd_inv hc
    obtain ⟨l, a3, h3, hA3⟩ := rdPr_inv P.kind hA2 c3
    rw [e3, h3] at he
    rw [e3, h3]
    simp only at he ⊢
    rw [he] at hA3
    exact ⟨by unfold parts; rw [if_neg (by simp only; omega), if_pos hk]; exact hA3, by first | rfl | trivial⟩
  · have e : partsK P.kind U a P = ({ P with topic := (rdPub U a P.kind P.qos P.id).1.1, id := (rdPub U a P.kind P.qos P.id).1.2.1, props := (rdPub U a P.kind P.qos P.id).1.2.2.1, pay := (rdPub U a P.kind P.qos P.id).1.2.2.2 }, (rdPub U a P.kind P.qos P.id).2.1, (rdPub U a P.kind P.qos P.id).2.2) := by unfold partsK; rw [if_neg (by omega), if_neg (by omega), if_pos hk]
    rw [e] at hc ⊢
    simp only at hc ⊢
    obtain ⟨c1, c23⟩ := thn0 hc
    obtain ⟨c2, c3⟩ := thn0 c23
    obtain ⟨t, a1, h1, hA1⟩ := rdT_inv h c1
    have hid : ∃ i a2, rdI U a1 P.qos P.id = (i, a2, 0) ∧ At U p (if 0 < P.qos then idd (tx o t) i else tx o t) a2 := by
      rw [h1] at c2
      unfold rdI at c2 ⊢
      by_cases hq : 0 < P.qos
      · rw [if_pos hq] at c2
        simp only [if_pos hq]
        exact rdId_inv hA1 c2
      · simp only [if_neg hq]
        exact ⟨_, _, rfl, hA1⟩
    obtain ⟨i, a2, h2, hA2⟩ := hid
    rw [h1] at c3
    simp only at c3
    rw [h2] at c3
    obtain ⟨l, a3, h3, hA3⟩ := rdPr_inv P.kind hA2 c3
    have hpub : rdPub U a P.kind P.qos P.id = ((t, i, l, U.extract a3.toNat U.size), (U.size : Int), 0) := by
      unfold rdPub
      rw [h1]
      simp only
      rw [h2]
      simp only
      rw [h3]; rfl
    rw [hpub]
    simp only
    obtain ⟨z, hU, ha3⟩ := hA3
    generalize hS : pr (if 0 < P.qos then idd (tx o t) i else tx o t) P.kind l = S at z hU ha3
    have hz : p + S.1.size ≤ U.size := hU.1
    have e3 : a3.toNat = p + S.1.size := by omega
    have hA4 := ad_at (c := 0) z hU rfl (has_mk (q := U.size) hz (Nat.le_refl _))
    have e4 : p + S.1.size + (U.extract (p + S.1.size) U.size).size = U.size := by rw [ByteArray.size_extract]; omega
    rw [e4] at hA4
    refine ⟨?_, by first | rfl | trivial⟩
    unfold parts
    rw [if_neg (by simp only; omega), if_neg (by simp only; omega), if_pos hk]
    unfold pub pub1
    simp only
    rw [hS, e3]
    exact hA4
  · have e : partsK P.kind U a P = bnd P (rdHd U a P.kind) (fun h a => bnd P (lst (rdSub U) U.size 66 a []) (fun l a => ({ P with id := h.1, props := h.2, subs := l }, a, 0))) := by unfold partsK; rw [if_neg (by omega), if_neg (by omega), if_neg (by omega), if_pos hk]
    rw [e] at hc ⊢
    obtain ⟨c1, e1⟩ := bnd_inv hc
    obtain ⟨i, l, a1, h1, hA1⟩ := rdHd_inv P.kind h c1
    rw [e1, h1] at hc
    rw [e1, h1]
    obtain ⟨c2, e2⟩ := bnd_inv hc
    obtain ⟨ls, h2, hA2, n1, n2⟩ := lst_inv (fun o a => rdSub_inv) (pr (idd o i) P.kind l) 66 a1 [] hA1 (by simp) c2
    rw [e2, h2]
    refine ⟨?_, rfl⟩
    unfold parts
    rw [if_neg (by simp only; omega), if_neg (by simp only; omega), if_neg (by simp only; omega), if_pos hk]
    unfold eachO
    rw [if_neg n1, if_neg n2]
    exact hA2
  · have e : partsK P.kind U a P = bnd P (rdHd U a P.kind) (fun h a => bnd P (lst (rdC U) U.size 66 a []) (fun l a => ({ P with id := h.1, props := h.2, codes := l }, a, 0))) := by unfold partsK; rw [if_neg (by omega), if_neg (by omega), if_neg (by omega), if_neg (by omega), if_neg (by omega), if_pos (.inl hk)]
    rw [e] at hc ⊢
    obtain ⟨c1, e1⟩ := bnd_inv hc
    obtain ⟨i, l, a1, h1, hA1⟩ := rdHd_inv P.kind h c1
    rw [e1, h1] at hc
    rw [e1, h1]
    obtain ⟨c2, e2⟩ := bnd_inv hc
    obtain ⟨ls, h2, hA2, n1, n2⟩ := lst_inv (f := fun o c => nm o 1 c) (fun o a => rdC_inv) (pr (idd o i) P.kind l) 66 a1 [] hA1 (by simp) c2
    rw [e2, h2]
    refine ⟨?_, rfl⟩
    unfold parts
    rw [if_neg (by simp only; omega), if_neg (by simp only; omega), if_neg (by simp only; omega), if_neg (by simp only; omega), if_neg (by simp only; omega), if_pos (.inl hk)]
    unfold eachO
    rw [if_neg n1, if_neg n2]
    exact hA2
  · have e : partsK P.kind U a P = bnd P (rdHd U a P.kind) (fun h a => bnd P (lst (rdT U) U.size 66 a []) (fun l a => ({ P with id := h.1, props := h.2, filters := l }, a, 0))) := by unfold partsK; rw [if_neg (by omega), if_neg (by omega), if_neg (by omega), if_neg (by omega), if_pos hk]
    rw [e] at hc ⊢
    obtain ⟨c1, e1⟩ := bnd_inv hc
    obtain ⟨i, l, a1, h1, hA1⟩ := rdHd_inv P.kind h c1
    rw [e1, h1] at hc
    rw [e1, h1]
    obtain ⟨c2, e2⟩ := bnd_inv hc
    obtain ⟨ls, h2, hA2, n1, n2⟩ := lst_inv (fun o a => rdT_inv) (pr (idd o i) P.kind l) 66 a1 [] hA1 (by simp) c2
    rw [e2, h2]
    refine ⟨?_, rfl⟩
    unfold parts
    rw [if_neg (by simp only; omega), if_neg (by simp only; omega), if_neg (by simp only; omega), if_neg (by simp only; omega), if_pos hk]
    unfold eachO
    rw [if_neg n1, if_neg n2]
    exact hA2
  · have e : partsK P.kind U a P = bnd P (rdHd U a P.kind) (fun h a => bnd P (lst (rdC U) U.size 66 a []) (fun l a => ({ P with id := h.1, props := h.2, codes := l }, a, 0))) := by unfold partsK; rw [if_neg (by omega), if_neg (by omega), if_neg (by omega), if_neg (by omega), if_neg (by omega), if_pos (.inr hk)]
    rw [e] at hc ⊢
    obtain ⟨c1, e1⟩ := bnd_inv hc
    obtain ⟨i, l, a1, h1, hA1⟩ := rdHd_inv P.kind h c1
    rw [e1, h1] at hc
    rw [e1, h1]
    obtain ⟨c2, e2⟩ := bnd_inv hc
    obtain ⟨ls, h2, hA2, n1, n2⟩ := lst_inv (f := fun o c => nm o 1 c) (fun o a => rdC_inv) (pr (idd o i) P.kind l) 66 a1 [] hA1 (by simp) c2
    rw [e2, h2]
    refine ⟨?_, rfl⟩
    unfold parts
    rw [if_neg (by simp only; omega), if_neg (by simp only; omega), if_neg (by simp only; omega), if_neg (by simp only; omega), if_neg (by simp only; omega), if_pos (.inr hk)]
    unfold eachO
    rw [if_neg n1, if_neg n2]
    exact hA2
  all_goals
    have e : partsK P.kind U a P = (P, a, 0) := by unfold partsK; rw [if_neg (by omega), if_neg (by omega), if_neg (by omega), if_neg (by omega), if_neg (by omega), if_neg (by omega), if_neg (by omega), if_neg (by omega)]
    rw [e] at he ⊢
    simp only at he ⊢
    rw [he] at h
    exact ⟨by unfold parts; rw [if_neg (by omega), if_neg (by omega), if_neg (by omega), if_neg (by omega), if_neg (by omega), if_neg (by omega), if_neg (by omega), if_neg (by omega)]; exact h, by first | rfl | trivial⟩
end PK
end Go.Proofs.YtemfcaaoobjgkaaGreatDoor
namespace Go.Proofs.YtemfcaaoobjgkaaGreatDoor
namespace PK
open PR (Has has_both has_ext has_nil has_mk has_left has_right has_self)

theorem fix1_size {n : Int} (h0 : 0 ≤ n) (h1 : n ≤ 255) : (strOfNums (VP.fixL 1 n)).size = 1 ∧ VP.fixC 1 n = 0 := by
  have e : VP.fixC 1 n = 0 := by unfold VP.fixC; repeat' split
                                 all_goals first | rfl | omega
  refine ⟨?_, e⟩
  unfold VP.fixL
  repeat' split
  all_goals first | omega | rfl
/-- The first byte is told by its flags. -/
theorem beg_first (n : Int) (h0 : 0 ≤ n) (h1 : n ≤ 255) (h : begOk n = true) : 16 * (begPk n).kind + flagsN (begPk n) = n ∧ (if (begPk n).kind = 3 ∧ canPub (begPk n) = false then ((⟨#[]⟩, 129) : ByteArray × Int) else (⟨#[]⟩, 0)) = (⟨#[]⟩, 0) := by
  obtain ⟨k, rfl⟩ := Int.eq_ofNat_of_zero_le h0
  by_cases h3 : ((k : Int)) / 16 = 3
  · have hd : ∀ k : Fin 256, ((k.val : Nat) : Int) / 16 = 3 → begOk ((k.val : Nat) : Int) = true → 16 * (begPk ((k.val : Nat) : Int)).kind + flagsN (begPk ((k.val : Nat) : Int)) = ((k.val : Nat) : Int) := by decide +kernel
    refine ⟨hd ⟨k, by omega⟩ h3 h, ?_⟩
    have hc : canPub (begPk (k : Int)) = true := by unfold begOk at h; rw [if_pos h3] at h; exact h
    rw [if_neg (by rw [hc]; simp)]
  · have hb : begPk (k : Int) = barePk ((k : Int) / 16) false false 0 := by unfold begPk; rw [if_neg h3]
    unfold begOk at h
    rw [if_neg h3] at h
    simp at h
    rw [hb]
    refine ⟨?_, by rw [if_neg (by intro e; exact h3 e.1)]⟩
    have : flagsN (barePk ((k : Int) / 16) false false 0) = fixN ((k : Int) / 16) := by unfold flagsN fixN; rw [if_neg (show ¬ (barePk ((k : Int) / 16) false false 0).kind = 3 from h3)]; rfl
    rw [this, ← h.2]
    show 16 * ((k : Int) / 16) + (k : Int) % 16 = k
    omega
/-- What getPk found, where it found a packet. -/
theorem getPk_inv {s : ByteArray} (h : (getPk s).2 = 0) : ∃ (m b : Nat), begOk (b0 s) = true ∧ 0 < s.size ∧ VP.get s 1 = ((m : Int), (b : Int), 0) ∧ m ≤ 65536 ∧ b + m = s.size ∧ b = 1 + (strOfNums (VP.putL m)).size ∧ Has s 1 (strOfNums (VP.putL m)) ∧
    (partsK (begPk (b0 s)).kind s b (begPk (b0 s))).2.2 = 0 ∧ (partsK (begPk (b0 s)).kind s b (begPk (b0 s))).2.1 = (s.size : Int) ∧ getPk s = ((partsK (begPk (b0 s)).kind s b (begPk (b0 s))).1, 0) := by
  unfold getPk at h ⊢
  by_cases h0 : s.size = 0
  · rw [if_pos h0] at h; exact absurd h (by simp)
  rw [if_neg h0] at h ⊢
  by_cases h1 : begOk (b0 s) = false
  · rw [if_pos h1] at h; exact absurd h (by simp)
  rw [if_neg h1] at h ⊢
  by_cases h2 : hdC s ≠ 0
  · rw [if_pos h2] at h; exact absurd h h2
  rw [if_neg h2] at h ⊢
  by_cases h3 : (rdWhole s (VP.get s 1).2.1 (begPk (b0 s))).2 ≠ 0
  · rw [if_pos h3] at h; exact absurd h h3
  rw [if_neg h3]
  have hh := Classical.not_not.1 h2
  have hc : (VP.get s 1).2.2 = 0 := by
    unfold hdC at hh
    split at hh
    · assumption
    · exact hh
  obtain ⟨n, n0, n1, n2, n3, _⟩ := PR.get_inv (U := s) (P := 1) (by omega) hc
  obtain ⟨m, rfl⟩ := Int.eq_ofNat_of_zero_le n0
  have n2' : VP.get s 1 = ((m : Int), ((1 + (strOfNums (VP.putL (m : Int))).size : Nat) : Int), 0) := n2
  unfold hdC at hh
  rw [if_pos hc, n2'] at hh
  unfold lenC at hh
  have hb2 : 1 + (strOfNums (VP.putL (m : Int))).size ≤ s.size := n3.1
  have hm : m ≤ 65536 ∧ (m : Int) = (s.size : Int) - ((1 + (strOfNums (VP.putL (m : Int))).size : Nat) : Int) := by
    simp only at hh
    repeat' split at hh
    all_goals first | exact absurd hh (by decide) | (constructor <;> omega)
  have h3' := Classical.not_not.1 h3
  rw [n2'] at h3' ⊢
  unfold rdWhole at h3' ⊢
  obtain ⟨c1, c2⟩ := thn0 h3'
  have he : (partsK (begPk (b0 s)).kind s ((1 + (strOfNums (VP.putL (m : Int))).size : Nat) : Int) (begPk (b0 s))).2.1 = (s.size : Int) := by
    split at c2
    · assumption
    · exact absurd c2 (by decide)
  exact ⟨m, _, by simpa using h1, by omega, rfl, hm.1, by omega, rfl, n3, c1, he, rfl⟩
/-- Bytes that are put so, are read so: what is known of a packet's beginning. -/
theorem putS_head {Q : Pk} (hk : 1 ≤ Q.kind ∧ Q.kind ≤ 15) (hc : putC Q = 0) (hf : 0 ≤ 16 * Q.kind + flagsN Q ∧ 16 * Q.kind + flagsN Q ≤ 255) : ∃ b : Nat, VP.get (putS Q) 1 = (((bodyO Q).1.size : Int), (b : Int), 0) ∧ b + (bodyO Q).1.size = (putS Q).size ∧ Has (putS Q) b (bodyO Q).1 ∧ b0 (putS Q) = 16 * Q.kind + flagsN Q ∧ (bodyO Q).1.size ≤ 65536 ∧ (bodyO Q).2 = 0 ∧ 0 < (putS Q).size := by
  have hb : (bodyO Q).2 = 0 ∧ (bodyO Q).1.size ≤ 65536 := by
    unfold putC at hc
    rw [if_neg (by omega)] at hc
    by_cases h1 : (bodyO Q).2 ≠ 0
    · rw [if_pos h1] at hc; exact absurd hc h1
    · rw [if_neg h1] at hc
      by_cases h2 : 65536 < (bodyO Q).1.size
      · rw [if_pos h2] at hc; exact absurd hc (by decide)
      · exact ⟨Classical.not_not.1 h1, by omega⟩
  have e : putS Q = strOfNums (VP.fixL 1 (16 * Q.kind + flagsN Q)) ++ strOfNums (VP.putL (bodyO Q).1.size) ++ (bodyO Q).1 := by unfold putS; rw [if_neg (by simp [hc])]
  obtain ⟨f1, f2⟩ := fix1_size hf.1 hf.2
  generalize hF : strOfNums (VP.fixL 1 (16 * Q.kind + flagsN Q)) = F at *
  generalize hL : strOfNums (VP.putL ((bodyO Q).1.size : Int)) = L at *
  have hs : Has (putS Q) 0 (F ++ L ++ (bodyO Q).1) := by rw [← e]; exact has_self _
  have hFL := has_left hs
  have hB := has_right hs
  have hF1 := has_left hFL
  have hL1 := has_right hFL
  rw [Nat.zero_add, ByteArray.size_append, f1] at hB
  rw [Nat.zero_add, f1] at hL1
  have hg := PR.get_has (U := putS Q) (P := 1) (n := ((bodyO Q).1.size : Int)) (by omega) (by omega) (by rw [hL]; exact hL1)
  rw [hL] at hg
  have hsz : (putS Q).size = 1 + L.size + (bodyO Q).1.size := by rw [e, ByteArray.size_append, ByteArray.size_append, f1]
  refine ⟨1 + L.size, hg, by omega, hB, ?_, hb.2, hb.1, by omega⟩
  have hr := PR.rd_has (U := putS Q) (P := 0) (w := 1) (n := 16 * Q.kind + flagsN Q) f2 (by rw [hF]; exact hF1)
  have hpos : 0 < (putS Q).size := by omega
  unfold b0
  rw [dif_pos hpos]
  unfold VP.rd at hr
  have := congrArg Prod.fst hr
  simp [hpos] at this
  exact this
/-- All of it as it was. -/
theorem exact_done {s : ByteArray} {Q : Pk} {m b : Nat} (hk : 1 ≤ Q.kind ∧ Q.kind ≤ 15) (hA : At s b (bodyO Q) (s.size : Int)) (hm : m ≤ 65536) (hbm : b + m = s.size) (hb : b = 1 + (strOfNums (VP.putL m)).size) (hL : Has s 1 (strOfNums (VP.putL m)))
    (hn : 16 * Q.kind + flagsN Q = b0 s) (hpos : 0 < s.size) : putC Q = 0 ∧ putS Q = s := by
  obtain ⟨h1, h2, h3⟩ := hA
  have hsz : (bodyO Q).1.size = m := by omega
  have hc : putC Q = 0 := by
    unfold putC
    rw [if_neg (by omega), if_neg (by simp [h1]), if_neg (by omega)]
  refine ⟨hc, ?_⟩
  have e : putS Q = strOfNums (VP.fixL 1 (16 * Q.kind + flagsN Q)) ++ strOfNums (VP.putL (bodyO Q).1.size) ++ (bodyO Q).1 := by unfold putS; rw [if_neg (by simp [hc])]
  have hbn : 0 ≤ b0 s ∧ b0 s ≤ 255 := by
    unfold b0
    rw [dif_pos hpos]
    have := VP.byte_lt s 0 hpos
    omega
  obtain ⟨f1, f2⟩ := fix1_size hbn.1 hbn.2
  have hF : Has s 0 (strOfNums (VP.fixL 1 (b0 s))) := by
    have hrc : (VP.rd s ((0 : Nat) : Int) 1).2.2 = 0 := by
      unfold VP.rd
      simp [hpos]
      rw [if_neg (by omega)]
    obtain ⟨n, n1, n2, n3⟩ := PR.rd_inv (U := s) (P := 0) (w := 1) hrc
    have hn0 : n = b0 s := by
      have := congrArg Prod.fst n2
      unfold VP.rd at this
      simp [hpos] at this
      unfold b0
      rw [dif_pos hpos]
      exact this.symm
    rw [← hn0]; exact n3
  rw [e, hn, hsz]
  have hall : Has s 0 (strOfNums (VP.fixL 1 (b0 s)) ++ strOfNums (VP.putL m) ++ (bodyO Q).1) := by
    refine has_both (has_both hF (by rw [Nat.zero_add, f1]; exact hL)) ?_
    rw [Nat.zero_add, ByteArray.size_append, f1, ← hb]
    exact h2
  have hx := has_ext hall
  rw [ByteArray.size_append, ByteArray.size_append, f1, hsz, ← hb, Nat.zero_add, hbm] at hx
  rw [← hx]
  simp
end PK
end Go.Proofs.YtemfcaaoobjgkaaGreatDoor
namespace Go.Proofs.YtemfcaaoobjgkaaGreatDoor
namespace PK
open PR (Has has_both has_ext has_nil has_mk has_left has_right has_self)

/-- A code and properties, as far as they must stand there. -/
def endO (o : ByteArray × Int) (k c : Int) (l : List Pr) : ByteArray × Int := if c = 0 ∧ l = [] then o else if l = [] then nm o 1 c else pr (nm o 1 c) k l
theorem at_le {U : ByteArray} {p : Nat} {o : ByteArray × Int} {a : Int} (h : At U p o a) : a ≤ (U.size : Int) := by
  obtain ⟨_, h2, rfl⟩ := h
  have := h2.1
  omega
theorem end_inv {U : ByteArray} {p : Nat} {o : ByteArray × Int} {a : Int} (k : Int) (h : At U p o a) (hc : (rdEnd U a k).2.2 = 0) (he : (rdEnd U a k).2.1 = (U.size : Int)) :
    ∃ c l a', (rdEnd U a k).1 = (c, l) ∧ At U p (endO o k c l) a' ∧ (a' = (U.size : Int) ∨ (l = [] ∧ VP.fixC 1 c = 0)) := by
  have z0 : VP.fixC 1 0 = 0 := (fix1_size (Int.le_refl 0) (by decide)).2
  unfold rdEnd at hc he ⊢
  by_cases h1 : a = (U.size : Int)
  · rw [if_pos h1]
    exact ⟨0, [], a, rfl, by unfold endO; rw [if_pos ⟨rfl, rfl⟩]; exact h, .inl h1⟩
  rw [if_neg h1] at hc he ⊢
  by_cases h2 : (rdC U a).2.2 ≠ 0
  · rw [if_pos h2] at hc; exact absurd hc h2
  rw [if_neg h2] at hc he ⊢
  obtain ⟨c, a1, e1, hA1, hf⟩ := rdN_inv 1 h (Classical.not_not.1 h2)
  have e1' : rdC U a = (c, a1, 0) := e1
  rw [e1'] at hc he ⊢
  simp only at hc he ⊢
  by_cases h3 : a1 = (U.size : Int)
  · rw [if_pos h3]
    by_cases hc0 : c = 0
    · exact ⟨c, [], a, rfl, by unfold endO; rw [if_pos ⟨hc0, rfl⟩]; exact h, .inr ⟨rfl, hf⟩⟩
    · exact ⟨c, [], a1, rfl, by unfold endO; rw [if_neg (fun e => hc0 e.1), if_pos rfl]; exact hA1, .inl h3⟩
  · rw [if_neg h3] at hc he ⊢
    obtain ⟨l, a2, e2, hA2⟩ := rdPr_inv k hA1 hc
    rw [e2] at he ⊢
    simp only at he ⊢
    by_cases hl : l = []
    · subst hl
      by_cases hc0 : c = 0
      · exact ⟨c, [], a, rfl, by unfold endO; rw [if_pos ⟨hc0, rfl⟩]; exact h, .inr ⟨rfl, hf⟩⟩
      · exact ⟨c, [], a1, rfl, by unfold endO; rw [if_neg (fun e => hc0 e.1), if_pos rfl]; exact hA1, .inr ⟨rfl, hf⟩⟩
    · exact ⟨c, l, a2, rfl, by unfold endO; rw [if_neg (fun e => hl e.2), if_neg hl]; exact hA2, .inl he⟩
/-- A short ending is read back. -/
theorem end_fwd {V : ByteArray} {b : Nat} {o : ByteArray × Int} (k c : Int) (ho : o.2 = 0) (hf : VP.fixC 1 c = 0) (hV : Has V b (endO o k c []).1) (hz : b + (endO o k c []).1.size = V.size) : rdEnd V ((b + o.1.size : Nat) : Int) k = ((c, []), (V.size : Int), 0) ∧ Has V b o.1 := by
  unfold endO at hV hz
  by_cases hc0 : c = 0
  · rw [if_pos ⟨hc0, rfl⟩] at hV hz
    refine ⟨?_, hV⟩
    unfold rdEnd
    rw [if_pos (by rw [hz]), hz, hc0]
  · rw [if_neg (fun e => hc0 e.1), if_pos rfl] at hV hz
    have e : nm o 1 c = (o.1 ++ strOfNums (VP.fixL 1 c), 0) := by unfold nm; rw [hf, ad_ok ho]
    rw [e] at hV hz
    simp only at hV hz
    rw [ByteArray.size_append] at hz
    have h1 := has_left hV
    have h2 := has_right hV
    have hr := PR.rd_has (U := V) (P := b + o.1.size) (w := 1) hf h2
    have hsz : 0 < (strOfNums (VP.fixL 1 c)).size := by
      have hnn : 0 ≤ c ∧ c ≤ 255 := by
        unfold VP.fixC at hf
        repeat' split at hf
        all_goals first | omega | exact absurd hf (by decide)
      rw [(fix1_size hnn.1 hnn.2).1]; decide
    have hrc : rdC V ((b + o.1.size : Nat) : Int) = (c, (V.size : Int), 0) := by
      unfold rdC
      rw [hr]
      refine Prod.ext rfl (Prod.ext ?_ rfl)
      simp only
      omega
    refine ⟨?_, h1⟩
    unfold rdEnd
    rw [if_neg (by omega), hrc]
    simp
theorem sz_mono {n m : Int} (h0 : 0 ≤ n) (h : n ≤ m) (h1 : m ≤ 268435455) : VP.sz n ≤ VP.sz m := by
  unfold VP.sz
  repeat' split
  all_goals omega
theorem len_mono {n m : Nat} (h : n ≤ m) (h1 : m ≤ 65536) : (strOfNums (VP.putL (n : Int))).size ≤ (strOfNums (VP.putL (m : Int))).size := by
  have e1 := VP.putL_len (n := (n : Int)) (by omega) (by omega)
  have e2 := VP.putL_len (n := (m : Int)) (by omega) (by omega)
  have e3 := sz_mono (n := (n : Int)) (m := (m : Int)) (by omega) (by omega) (by omega)
  have s1 : ∀ l : List Int, (strOfNums l).size = l.length := fun l => by simp [strOfNums, ByteArray.size]
  rw [s1, s1]
  omega
/-- A packet without a code, with whatever follows its length. -/
theorem short_done {s : ByteArray} {Q : Pk} {m b : Nat} (hk : 1 ≤ Q.kind ∧ Q.kind ≤ 15) (h2 : (bodyO Q).2 = 0) (hle : (bodyO Q).1.size ≤ m) (hm : m ≤ 65536) (hbm : b + m = s.size) (hb : b = 1 + (strOfNums (VP.putL m)).size) (hn : 16 * Q.kind + flagsN Q = b0 s) (hpos : 0 < s.size) (hok : begOk (b0 s) = true)
    (hfwd : ∀ (V : ByteArray) (b' : Nat), Has V b' (bodyO Q).1 → b' + (bodyO Q).1.size = V.size → partsK (begPk (b0 s)).kind V b' (begPk (b0 s)) = (Q, (V.size : Int), 0)) : putC Q = 0 ∧ (putS Q).size ≤ s.size ∧ getPk (putS Q) = (Q, 0) := by
  have hbn : 0 ≤ b0 s ∧ b0 s ≤ 255 := by
    unfold b0
    rw [dif_pos hpos]
    have := VP.byte_lt s 0 hpos
    omega
  have hc : putC Q = 0 := by
    unfold putC
    rw [if_neg (by omega), if_neg (by simp [h2]), if_neg (by omega)]
  obtain ⟨b', g1, g2, g3, g4, g5, _, g7⟩ := putS_head hk hc (by rw [hn]; exact hbn)
  have hb' : b' = 1 + (strOfNums (VP.putL ((bodyO Q).1.size : Int))).size := by
    have e : putS Q = strOfNums (VP.fixL 1 (16 * Q.kind + flagsN Q)) ++ strOfNums (VP.putL (bodyO Q).1.size) ++ (bodyO Q).1 := by unfold putS; rw [if_neg (by simp [hc])]
    have := congrArg ByteArray.size e
    rw [ByteArray.size_append, ByteArray.size_append, hn, (fix1_size hbn.1 hbn.2).1] at this
    omega
  have hlen := len_mono hle hm
  refine ⟨hc, by omega, ?_⟩
  have hX := hfwd (putS Q) b' g3 g2
  unfold getPk
  rw [if_neg (by omega), g4, hn, if_neg (by rw [hok]; decide)]
  have hd : hdC (putS Q) = 0 := by
    unfold hdC
    rw [g1]
    simp only [if_true]
    unfold lenC
    rw [if_neg (by omega), if_neg (by omega), if_neg (by omega)]
  have hw : rdWhole (putS Q) (b' : Int) (begPk (b0 s)) = (Q, 0) := by
    unfold rdWhole
    rw [hX]
    simp only [if_true]
    rfl
  rw [if_neg (by rw [hd]; decide), g1]
  simp only
  rw [hw, if_neg (by simp)]
theorem flags_same {P Q : Pk} (hk : Q.kind = P.kind) (h3 : P.kind = 3 → Q.dup = P.dup ∧ Q.ret = P.ret ∧ Q.qos = P.qos) : flagsN Q = flagsN P ∧ flagsO Q = flagsO P := by
  unfold flagsN flagsO canPub
  rw [hk]
  by_cases h : P.kind = 3
  · obtain ⟨e1, e2, e3⟩ := h3 h
    rw [e1, e2, e3]
    exact ⟨rfl, rfl⟩
  · exact ⟨by rw [if_neg h, if_neg h], by rw [if_neg (fun e => h e.1), if_neg (fun e => h e.1)]⟩
theorem idd_fwd {V : ByteArray} {b : Nat} {i : Int} (h2 : (idd (⟨#[]⟩, 0) i).2 = 0) (hV : Has V b (idd (⟨#[]⟩, 0) i).1) : rdId V (b : Int) = (i, ((b + (idd (⟨#[]⟩, 0) i).1.size : Nat) : Int), 0) := by
  unfold idd at h2 hV ⊢
  by_cases hi : i < 1 ∨ 65535 < i
  · rw [if_pos hi] at h2
    have e : rf ((⟨#[]⟩, 0) : ByteArray × Int) 130 = (⟨#[]⟩, 130) := rfl
    rw [e] at h2
    unfold nm at h2
    rw [ad_bad (by simp)] at h2
    exact absurd h2 (by simp)
  rw [if_neg hi] at h2 hV ⊢
  have hf : VP.fixC 2 i = 0 := by
    by_cases hf : VP.fixC 2 i = 0
    · exact hf
    · unfold nm at h2
      rw [ad_code rfl _ hf] at h2
      exact absurd h2 hf
  have e : nm ((⟨#[]⟩, 0) : ByteArray × Int) 2 i = (⟨#[]⟩ ++ strOfNums (VP.fixL 2 i), 0) := by unfold nm; rw [hf, ad_ok rfl]
  rw [e] at hV ⊢
  have h3 := has_right hV
  have z : (ByteArray.mk #[]).size = 0 := rfl
  rw [z, Nat.add_zero] at h3
  have hr := PR.rd_has (U := V) (P := b) (w := 2) hf h3
  unfold rdId
  rw [hr]
  simp only
  rw [if_neg (by omega), ByteArray.size_append, z, Nat.zero_add]
  rfl
/-- What is read and put is read the same again. -/
theorem twice (s : ByteArray) (h : (getPk s).2 = 0) : putC (getPk s).1 = 0 ∧ (putS (getPk s).1).size ≤ s.size ∧ getPk (putS (getPk s).1) = ((getPk s).1, 0) := by
  obtain ⟨m, b, hok, hpos, _, hm, hbm, hb, hL, hc, he, hX⟩ := getPk_inv h
  have hX1 : (getPk s).1 = (partsK (begPk (b0 s)).kind s b (begPk (b0 s))).1 := by rw [hX]
  have hbn : 0 ≤ b0 s ∧ b0 s ≤ 255 := by
    unfold b0
    rw [dif_pos hpos]
    have := VP.byte_lt s 0 hpos
    omega
  obtain ⟨hk1, hk2, hB⟩ := beg_kind (b0 s) hok
  obtain ⟨hfirst, hflO⟩ := beg_first (b0 s) hbn.1 hbn.2 hok
  have hA0 : At s b (⟨#[]⟩, 0) (b : Int) := ⟨rfl, has_nil (by omega), rfl⟩
  have fin : ∀ Q : Pk, Q = (getPk s).1 → putC Q = 0 ∧ putS Q = s → putC (getPk s).1 = 0 ∧ (putS (getPk s).1).size ≤ s.size ∧ getPk (putS (getPk s).1) = ((getPk s).1, 0) := fun Q hQ hd => by
    subst hQ
    refine ⟨hd.1, by rw [hd.2]; exact Nat.le_refl _, ?_⟩
    rw [hd.2, hX]
  rw [hX1] at fin ⊢
  by_cases hke : (begPk (b0 s)).kind = 1 ∨ (begPk (b0 s)).kind = 2 ∨ (begPk (b0 s)).kind = 3 ∨ (begPk (b0 s)).kind = 8 ∨ (begPk (b0 s)).kind = 9 ∨ (begPk (b0 s)).kind = 10 ∨ (begPk (b0 s)).kind = 11 ∨ (begPk (b0 s)).kind = 12 ∨ (begPk (b0 s)).kind = 13
  · obtain ⟨hA, hQk⟩ := parts_inv (begPk (b0 s)) hke hA0 hc he
    have h3 : (begPk (b0 s)).kind = 3 → (partsK (begPk (b0 s)).kind s b (begPk (b0 s))).1.dup = (begPk (b0 s)).dup ∧ (partsK (begPk (b0 s)).kind s b (begPk (b0 s))).1.ret = (begPk (b0 s)).ret ∧ (partsK (begPk (b0 s)).kind s b (begPk (b0 s))).1.qos = (begPk (b0 s)).qos := fun hk3 => by
      unfold partsK
      rw [if_neg (by omega), if_neg (by omega), if_pos hk3]
      exact ⟨rfl, rfl, rfl⟩
    obtain ⟨f1, f2⟩ := flags_same hQk h3
    have hbo : bodyO (partsK (begPk (b0 s)).kind s b (begPk (b0 s))).1 = parts (⟨#[]⟩, 0) (partsK (begPk (b0 s)).kind s b (begPk (b0 s))).1 := by
      unfold bodyO
      rw [f2]
      exact congrArg (fun x => parts x _) hflO
    rw [← hbo] at hA
    exact fin _ rfl (exact_done (by rw [hQk]; exact ⟨hk1, hk2⟩) hA hm hbm hb hL (by rw [hQk, f1]; exact hfirst) hpos)
  · have hn3 : (begPk (b0 s)).kind ≠ 3 := fun e => hke (by omega)
    by_cases hk4 : (begPk (b0 s)).kind = 4 ∨ (begPk (b0 s)).kind = 5 ∨ (begPk (b0 s)).kind = 6 ∨ (begPk (b0 s)).kind = 7
    · have e : ∀ (V : ByteArray) (a : Int), partsK (begPk (b0 s)).kind V a (begPk (b0 s)) = bnd (begPk (b0 s)) (rdId V a) (fun i a => rdEndP V a (begPk (b0 s)).kind { begPk (b0 s) with id := i }) := fun V a => by unfold partsK; rw [if_neg (by omega), if_neg (by omega), if_neg (by omega), if_neg (by omega), if_neg (by omega), if_neg (by omega), if_pos hk4]
      rw [e] at hc he fin ⊢
      obtain ⟨c1, e1⟩ := bnd_inv hc
      obtain ⟨i, a1, h1, hA1⟩ := rdId_inv hA0 c1
      rw [e1, h1] at hc he fin ⊢
      obtain ⟨c, l, a2, h2, hA2, hor⟩ := end_inv (begPk (b0 s)).kind hA1 hc he
      obtain ⟨Q, hQ⟩ : ∃ Q, Q = (rdEndP s a1 (begPk (b0 s)).kind { begPk (b0 s) with id := i }).1 := ⟨_, rfl⟩
      have hQe : Q = { begPk (b0 s) with id := i, code := c, props := l } := by rw [hQ]; unfold rdEndP; rw [h2]
      have hQk : Q.kind = (begPk (b0 s)).kind := by rw [hQe]
      obtain ⟨f1, f2⟩ := flags_same hQk (fun h => absurd h hn3)
      have hbo : bodyO Q = endO (idd (⟨#[]⟩, 0) i) (begPk (b0 s)).kind c l := by
        unfold bodyO
        rw [f2, show flagsO (begPk (b0 s)) = (⟨#[]⟩, 0) from hflO]
        unfold parts
        rw [hQk, if_neg (by omega), if_neg (by omega), if_neg (by omega), if_neg (by omega), if_neg (by omega), if_neg (by omega), if_pos hk4, hQe]
        rfl
      rw [← hbo] at hA2
      simp only at fin ⊢
      rw [← hQ] at fin ⊢
      rcases hor with rfl | ⟨hl, hf⟩
      · exact fin _ rfl (exact_done (by rw [hQk]; exact ⟨hk1, hk2⟩) hA2 hm hbm hb hL (by rw [hQk, f1]; exact hfirst) hpos)
      · subst hl
        have hle := at_le hA2
        obtain ⟨z1, z2, z3⟩ := hA2
        refine short_done (m := m) (b := b) (by rw [hQk]; exact ⟨hk1, hk2⟩) z1 (by omega) hm hbm hb (by rw [hQk, f1]; exact hfirst) hpos hok ?_
        intro V b' hV hz
        rw [hbo] at hV hz
        obtain ⟨r1, r2⟩ := end_fwd (begPk (b0 s)).kind c hA1.1 hf hV hz
        have r3 := idd_fwd hA1.1 r2
        rw [e, r3, bnd_ok rfl]
        unfold rdEndP
        rw [r1, hQe]
    · have hk14 : (begPk (b0 s)).kind = 14 ∨ (begPk (b0 s)).kind = 15 := by omega
      have e : ∀ (V : ByteArray) (a : Int), partsK (begPk (b0 s)).kind V a (begPk (b0 s)) = rdEndP V a (begPk (b0 s)).kind (begPk (b0 s)) := fun V a => by unfold partsK; rw [if_neg (by omega), if_neg (by omega), if_neg (by omega), if_neg (by omega), if_neg (by omega), if_neg (by omega), if_neg hk4, if_pos hk14]
      rw [e] at hc he fin ⊢
      obtain ⟨c, l, a2, h2, hA2, hor⟩ := end_inv (begPk (b0 s)).kind hA0 hc he
      obtain ⟨Q, hQ⟩ : ∃ Q, Q = (rdEndP s b (begPk (b0 s)).kind (begPk (b0 s))).1 := ⟨_, rfl⟩
      have hQe : Q = { begPk (b0 s) with code := c, props := l } := by rw [hQ]; unfold rdEndP; rw [h2]
      have hQk : Q.kind = (begPk (b0 s)).kind := by rw [hQe]
      obtain ⟨f1, f2⟩ := flags_same hQk (fun h => absurd h hn3)
      have hbo : bodyO Q = endO (⟨#[]⟩, 0) (begPk (b0 s)).kind c l := by
        unfold bodyO
        rw [f2, show flagsO (begPk (b0 s)) = (⟨#[]⟩, 0) from hflO]
        unfold parts
        rw [hQk, if_neg (by omega), if_neg (by omega), if_neg (by omega), if_neg (by omega), if_neg (by omega), if_neg (by omega), if_neg hk4, if_pos hk14, hQe]
        rfl
      rw [← hbo] at hA2
      rw [← hQ] at fin ⊢
      rcases hor with rfl | ⟨hl, hf⟩
      · exact fin _ rfl (exact_done (by rw [hQk]; exact ⟨hk1, hk2⟩) hA2 hm hbm hb hL (by rw [hQk, f1]; exact hfirst) hpos)
      · subst hl
        have hle := at_le hA2
        obtain ⟨z1, z2, z3⟩ := hA2
        refine short_done (m := m) (b := b) (by rw [hQk]; exact ⟨hk1, hk2⟩) z1 (by omega) hm hbm hb (by rw [hQk, f1]; exact hfirst) hpos hok ?_
        intro V b' hV hz
        rw [hbo] at hV hz
        obtain ⟨r1, r2⟩ := end_fwd (o := (⟨#[]⟩, 0)) (begPk (b0 s)).kind c rfl hf hV hz
        rw [e]
        unfold rdEndP
        rw [show ((b' : Nat) : Int) = ((b' + (ByteArray.mk #[]).size : Nat) : Int) from rfl, r1, hQe]
end PK
end Go.Proofs.YtemfcaaoobjgkaaGreatDoor
namespace Go.Proofs.YtemfcaaoobjgkaaGreatDoor
namespace PK
open PR (Has has_both has_ext has_nil has_mk has_left has_right has_self)

/-- What a part's bytes are read as, with what was put ahead of them. -/
def Fw {α : Type} (V : ByteArray) (b : Nat) (o o' : ByteArray × Int) (rd : Int → α × Int × Int) (x : α) : Prop := o.2 = 0 ∧ Has V b o.1 ∧ rd ((b + o.1.size : Nat) : Int) = (x, ((b + o'.1.size : Nat) : Int), 0)
theorem ad_split {o : ByteArray × Int} {B : ByteArray} {c : Int} (h : (ad o B c).2 = 0) : o.2 = 0 ∧ c = 0 ∧ (ad o B c).1 = o.1 ++ B := by
  by_cases ho : o.2 = 0
  · by_cases hc : c = 0
    · subst hc; rw [ad_ok ho]; exact ⟨ho, rfl, rfl⟩
    · rw [ad_code ho _ hc] at h; exact absurd h hc
  · rw [ad_bad ho] at h; exact absurd h ho
theorem ad_fw {V : ByteArray} {b : Nat} {o : ByteArray × Int} {B : ByteArray} {c : Int} (h : (ad o B c).2 = 0) (hV : Has V b (ad o B c).1) : o.2 = 0 ∧ c = 0 ∧ Has V b o.1 ∧ Has V (b + o.1.size) B ∧ (ad o B c).1.size = o.1.size + B.size := by
  obtain ⟨h1, h2, h3⟩ := ad_split h
  rw [h3] at hV ⊢
  exact ⟨h1, h2, has_left hV, has_right hV, ByteArray.size_append⟩
theorem tx_fw {V : ByteArray} {b : Nat} {o : ByteArray × Int} {t : ByteArray} (h : (tx o t).2 = 0) (hV : Has V b (tx o t).1) : Fw V b o (tx o t) (rdT V) t := by
  obtain ⟨h1, h2, h3, h4, h5⟩ := ad_fw h hV
  refine ⟨h1, h3, ?_⟩
  unfold rdT
  rw [PR.getT_has h2 h4]
  show (t, _, cm 0) = _
  rw [show (tx o t).1.size = o.1.size + (TX.putS t).size from h5, Nat.add_assoc]
  rfl
theorem nm_fw {V : ByteArray} {b : Nat} {o : ByteArray × Int} {n : Int} (wd : Int) (h : (nm o wd n).2 = 0) (hV : Has V b (nm o wd n).1) : Fw V b o (nm o wd n) (fun a => rdN V a wd) n ∧ VP.fixC wd n = 0 := by
  obtain ⟨h1, h2, h3, h4, h5⟩ := ad_fw h hV
  refine ⟨⟨h1, h3, ?_⟩, h2⟩
  simp only
  unfold rdN
  rw [PR.rd_has h2 h4]
  show (n, _, cm 0) = _
  rw [show (nm o wd n).1.size = o.1.size + (strOfNums (VP.fixL wd n)).size from h5, Nat.add_assoc]
  rfl
theorem dt_fw {V : ByteArray} {b : Nat} {o : ByteArray × Int} {t : ByteArray} (h : (dt o t).2 = 0) (hV : Has V b (dt o t).1) : Fw V b o (dt o t) (rdD V) t := by
  obtain ⟨h1, h2, h3, h4, h5⟩ := ad_fw h hV
  have hs : t.size ≤ 65535 := by
    unfold TX.dataC at h2
    split at h2
    · omega
    · exact absurd h2 (by decide)
  refine ⟨h1, h3, ?_⟩
  unfold rdD
  rw [PR.dat_has hs h4]
  show (t, _, cm 0) = _
  rw [show (dt o t).1.size = o.1.size + (TX.dataS t).size from h5, Nat.add_assoc]
  rfl
theorem getL_has {V : ByteArray} {p : Nat} {l : List Pr} (h : PR.putC l = 0) (hV : Has V p (PR.putS l)) : PR.getL V (p : Int) = (l.map PR.nrm, ((p + (PR.putS l).size : Nat) : Int), 0) := by
  obtain ⟨hl, hr, he⟩ := PR.putS_is h
  have hz := PR.allS_size l
  rw [he] at hV
  have ha := has_left hV
  have hb := has_right hV
  have hg := PR.get_has (n := ((PR.allS l).size : Int)) (by omega) (by omega) ha
  have hs : (PR.putS l).size = (strOfNums (VP.putL (PR.allS l).size)).size + (PR.allS l).size := by rw [he, ByteArray.size_append]
  have hgl := PR.gl_has (U := PR.allS l) l [] 66 0 (has_self _) (by omega) (by omega) (by simpa using hl) (fun j q hq => by
    have := PR.rest_zero l 0 hr j q hq
    simpa using this)
  rw [List.nil_append, List.map_nil] at hgl
  rw [show ((0 : Nat) : Int) = 0 from rfl] at hgl
  have hB := hb.1
  have e := PR.getL_in V p (PR.allS l).size (p + (strOfNums (VP.putL (PR.allS l).size)).size) hg (by omega) rfl
  rw [e, has_ext hb, hgl, if_neg (by simp)]
  refine Prod.ext rfl (Prod.ext ?_ rfl)
  simp only
  omega
theorem alAll_nrm (k : Int) (l : List Pr) : alAll k (l.map PR.nrm) = alAll k l := by
  unfold alAll
  rw [List.all_map]
  congr 1
  funext p
  show al k (PR.nrm p).id = _
  rw [PR.nrm_id]
theorem pr_fw {V : ByteArray} {b : Nat} {o : ByteArray × Int} {l : List Pr} (k : Int) (h : (pr o k l).2 = 0) (hV : Has V b (pr o k l).1) : Fw V b o (pr o k l) (fun a => rdPr V a k) (l.map PR.nrm) := by
  have hal : alAll k l = true := by
    by_cases hal : alAll k l = true
    · exact hal
    · unfold pr at h
      rw [if_neg hal] at h
      exact absurd (ad_split h).2.1 (by decide)
  have e : pr o k l = ad o (PR.putS l) (PR.putC l) := by unfold pr; rw [if_pos hal]
  rw [e] at h hV ⊢
  obtain ⟨h1, h2, h3, h4, h5⟩ := ad_fw h hV
  refine ⟨h1, h3, ?_⟩
  simp only
  unfold rdPr
  rw [getL_has h2 h4]
  simp only
  rw [alAll_nrm, if_pos hal, h5, Nat.add_assoc]
  rfl
theorem idd_fw {V : ByteArray} {b : Nat} {o : ByteArray × Int} {i : Int} (h : (idd o i).2 = 0) (hV : Has V b (idd o i).1) : Fw V b o (idd o i) (rdId V) i := by
  unfold idd at h hV ⊢
  by_cases hi : i < 1 ∨ 65535 < i
  · rw [if_pos hi] at h
    have h1 := (ad_split h).1
    exact absurd (ad_split h1).2.1 (by decide)
  rw [if_neg hi] at h hV ⊢
  obtain ⟨⟨h1, h2, h3⟩, _⟩ := nm_fw 2 h hV
  refine ⟨h1, h2, ?_⟩
  have e1 : (VP.rd V ((b + o.1.size : Nat) : Int) 2).1 = i := congrArg Prod.fst h3
  have e2 : (VP.rd V ((b + o.1.size : Nat) : Int) 2).2.1 = ((b + (nm o 2 i).1.size : Nat) : Int) := congrArg (fun x => x.2.1) h3
  have e3 : cm (VP.rd V ((b + o.1.size : Nat) : Int) 2).2.2 = 0 := congrArg (fun x => x.2.2) h3
  unfold rdId
  rw [e1, e2, e3, if_neg (by omega)]
  rfl
theorem ses_fw {V : ByteArray} {b : Nat} {o : ByteArray × Int} {x : Bool} (h : (nm o 1 (fl x 1)).2 = 0) (hV : Has V b (nm o 1 (fl x 1)).1) : Fw V b o (nm o 1 (fl x 1)) (rdSes V) x := by
  obtain ⟨⟨h1, h2, h3⟩, _⟩ := nm_fw 1 h hV
  refine ⟨h1, h2, ?_⟩
  have e1 : (VP.rd V ((b + o.1.size : Nat) : Int) 1).1 = fl x 1 := congrArg Prod.fst h3
  have e2 : (VP.rd V ((b + o.1.size : Nat) : Int) 1).2.1 = ((b + (nm o 1 (fl x 1)).1.size : Nat) : Int) := congrArg (fun x => x.2.1) h3
  have e3 : cm (VP.rd V ((b + o.1.size : Nat) : Int) 1).2.2 = 0 := congrArg (fun x => x.2.2) h3
  unfold rdSes
  rw [e1, e2, e3]
  cases x <;> rfl
theorem sub_back (q h : Int) (nl ap : Bool) (h1 : (isQ q && isQ h) = true) (f : ByteArray) : subC (q + fl nl 4 + fl ap 8 + 16 * h) = 0 ∧ subOf f (q + fl nl 4 + fl ap 8 + 16 * h) = ⟨f, q, nl, ap, h⟩ := by
  simp [isQ] at h1
  obtain ⟨⟨a1, a2⟩, a3, a4⟩ := h1
  obtain ⟨x, rfl⟩ := Int.eq_ofNat_of_zero_le a1
  obtain ⟨y, rfl⟩ := Int.eq_ofNat_of_zero_le a3
  have hd : ∀ (x y : Fin 3) (nl ap : Bool), let n : Int := ((x.val : Nat) : Int) + fl nl 4 + fl ap 8 + 16 * ((y.val : Nat) : Int)
      subC n = 0 ∧ bits .and .i64 n 3 = ((x.val : Nat) : Int) ∧ (bits .and .i64 n 4 != 0) = nl ∧ (bits .and .i64 n 8 != 0) = ap ∧ bits .and .i64 (n / 16) 3 = ((y.val : Nat) : Int) := by decide +kernel
  obtain ⟨b1, b2, b3, b4, b5⟩ := hd ⟨x, by omega⟩ ⟨y, by omega⟩ nl ap
  simp only at b1 b2 b3 b4 b5
  refine ⟨b1, ?_⟩
  unfold subOf
  rw [b2, b3, b4, b5]
theorem sub_fw {V : ByteArray} {b : Nat} {o : ByteArray × Int} {s : Sb} (h : (sub o s).2 = 0) (hV : Has V b (sub o s).1) : Fw V b o (sub o s) (rdSub V) s := by
  unfold sub at h hV ⊢
  by_cases hq : (isQ s.q && isQ s.h) = true
  · rw [if_pos hq] at h hV ⊢
    obtain ⟨⟨h1, h2, h3⟩, _⟩ := nm_fw 1 h hV
    obtain ⟨k1, k2, k3⟩ := tx_fw h1 h2
    refine ⟨k1, k2, ?_⟩
    have e1 : (TX.getT V ((b + o.1.size : Nat) : Int)).1 = s.f := congrArg Prod.fst k3
    have e2 : (TX.getT V ((b + o.1.size : Nat) : Int)).2.1 = ((b + (tx o s.f).1.size : Nat) : Int) := congrArg (fun x => x.2.1) k3
    have e3 : cm (TX.getT V ((b + o.1.size : Nat) : Int)).2.2 = 0 := congrArg (fun x => x.2.2) k3
    have f1 : (VP.rd V ((b + (tx o s.f).1.size : Nat) : Int) 1).1 = subN s := congrArg Prod.fst h3
    have f2 : (VP.rd V ((b + (tx o s.f).1.size : Nat) : Int) 1).2.1 = ((b + (nm (tx o s.f) 1 (subN s)).1.size : Nat) : Int) := congrArg (fun x => x.2.1) h3
    have f3 : cm (VP.rd V ((b + (tx o s.f).1.size : Nat) : Int) 1).2.2 = 0 := congrArg (fun x => x.2.2) h3
    obtain ⟨g1, g2⟩ := sub_back s.q s.h s.nl s.ap hq s.f
    unfold rdSub
    rw [e1, e2, e3, f1, f2, f3, show subC (subN s) = 0 from g1, show subOf s.f (subN s) = s from g2]
    rfl
  · rw [if_neg hq] at h
    exact absurd (ad_split h).2.1 (by decide)
end PK
end Go.Proofs.YtemfcaaoobjgkaaGreatDoor
namespace Go.Proofs.YtemfcaaoobjgkaaGreatDoor
namespace PK
open PR (Has has_both has_ext has_nil has_mk has_left has_right has_self)

theorem nm1_pos {o : ByteArray × Int} {n : Int} (h : (nm o 1 n).2 = 0) : (nm o 1 n).1.size = o.1.size + 1 := by
  obtain ⟨_, h2, h3⟩ := ad_split h
  have hnn : 0 ≤ n ∧ n ≤ 255 := by
    unfold VP.fixC at h2
    repeat' split at h2
    all_goals first | omega | exact absurd h2 (by decide)
  rw [show (nm o 1 n).1 = o.1 ++ strOfNums (VP.fixL 1 n) from h3, ByteArray.size_append, (fix1_size hnn.1 hnn.2).1]
theorem putS_pos {t : ByteArray} (h : TX.putC t = 0) : 0 < (TX.putS t).size := by
  have hx := PR.getT_has (U := TX.putS t) (P := 0) h (has_self _)
  rcases Nat.eq_zero_or_pos (TX.putS t).size with hz | hz
  · exfalso
    have e : TX.putS t = ⟨#[]⟩ := by
      apply ByteArray.ext_getElem
      · exact hz
      · intro i h1 _; omega
    rw [e] at hx
    have hc : (TX.getT (ByteArray.mk #[]) ((0 : Nat) : Int)).2.2 = 242 := by decide +kernel
    rw [hx] at hc
    exact absurd hc (by simp)
  · exact hz
theorem tx_pos {o : ByteArray × Int} {t : ByteArray} (h : (tx o t).2 = 0) : o.1.size < (tx o t).1.size := by
  obtain ⟨_, h2, h3⟩ := ad_split h
  rw [show (tx o t).1 = o.1 ++ TX.putS t from h3, ByteArray.size_append]
  have := putS_pos h2
  omega
theorem sub_pos {o : ByteArray × Int} {s : Sb} (h : (sub o s).2 = 0) : o.1.size < (sub o s).1.size := by
  unfold sub at h ⊢
  by_cases hq : (isQ s.q && isQ s.h) = true
  · rw [if_pos hq] at h ⊢
    have h1 := nm1_pos h
    have h2 := tx_pos (ad_split h).1
    omega
  · rw [if_neg hq] at h
    exact absurd (ad_split h).2.1 (by decide)
section
variable {α : Type} {V : ByteArray} {b : Nat} {rd : Int → α × Int × Int} {f : ByteArray × Int → α → ByteArray × Int}
theorem fold_fw (hstep : ∀ o x, (f o x).2 = 0 → Has V b (f o x).1 → Fw V b o (f o x) rd x) (hpos : ∀ o x, (f o x).2 = 0 → o.1.size < (f o x).1.size) :
    ∀ (l : List α) (o : ByteArray × Int), (l.foldl f o).2 = 0 → Has V b (l.foldl f o).1 → o.2 = 0 ∧ Has V b o.1 ∧ o.1.size + l.length ≤ (l.foldl f o).1.size
  | [], o, h, hV => ⟨h, hV, by simp⟩
  | x :: l, o, h, hV => by
    rw [List.foldl_cons] at h hV ⊢
    obtain ⟨h1, h2, h3⟩ := fold_fw hstep hpos l (f o x) h hV
    obtain ⟨k1, k2, _⟩ := hstep o x h1 h2
    have := hpos o x h1
    exact ⟨k1, k2, by simp only [List.length_cons]; omega⟩
theorem lst_fw (hstep : ∀ o x, (f o x).2 = 0 → Has V b (f o x).1 → Fw V b o (f o x) rd x) (hpos : ∀ o x, (f o x).2 = 0 → o.1.size < (f o x).1.size) :
    ∀ (l : List α) (u : Nat) (out : List α) (o : ByteArray × Int), (l.foldl f o).2 = 0 → Has V b (l.foldl f o).1 → b + (l.foldl f o).1.size = V.size → (out ++ l).length ≠ 0 → (out ++ l).length ≤ 64 → l.length < u →
      lst rd V.size u ((b + o.1.size : Nat) : Int) out = (out ++ l, (V.size : Int), 0)
  | [], 0, _, _, _, _, _, _, _, h => absurd h (by simp)
  | [], u + 1, out, o, _, _, hz, hn, _, _ => by
    rw [List.foldl_nil] at hz
    rw [lst, if_pos (by rw [hz]), if_neg (by intro e; rw [e] at hn; exact hn rfl), hz, List.append_nil]
  | x :: l, 0, _, _, _, _, _, _, _, h => absurd h (by simp)
  | x :: l, u + 1, out, o, h, hV, hz, hn, hl, hu => by
    have hf := fold_fw hstep hpos (x :: l) o h hV
    rw [List.foldl_cons] at h hV hz
    obtain ⟨h1, h2, _⟩ := fold_fw hstep hpos l (f o x) h hV
    obtain ⟨k1, k2, k3⟩ := hstep o x h1 h2
    have hp := hpos o x h1
    have hfx := h2.1
    rw [lst, if_neg (by omega), if_neg (by simp at hl; omega), k3, if_neg (by simp)]
    have ih := lst_fw hstep hpos l u (out ++ [x]) (f o x) h hV hz (by simp) (by simpa using hl) (by simp at hu; omega)
    simp only
    rw [ih, List.append_assoc]
    rfl
end
theorem each_fw {α : Type} {V : ByteArray} {b : Nat} {rd : Int → α × Int × Int} {f : ByteArray × Int → α → ByteArray × Int} (hstep : ∀ o x, (f o x).2 = 0 → Has V b (f o x).1 → Fw V b o (f o x) rd x) (hpos : ∀ o x, (f o x).2 = 0 → o.1.size < (f o x).1.size) (o : ByteArray × Int) (l : List α)
    (h : (eachO o l f).2 = 0) (hV : Has V b (eachO o l f).1) (hz : b + (eachO o l f).1.size = V.size) : o.2 = 0 ∧ Has V b o.1 ∧ lst rd V.size 66 ((b + o.1.size : Nat) : Int) [] = (l, (V.size : Int), 0) := by
  unfold eachO at h hV hz
  by_cases h0 : l.length = 0
  · rw [if_pos h0] at h; exact absurd (ad_split h).2.1 (by decide)
  rw [if_neg h0] at h hV hz
  by_cases h1 : 64 < l.length
  · rw [if_pos h1] at h; exact absurd (ad_split h).2.1 (by decide)
  rw [if_neg h1] at h hV hz
  obtain ⟨k1, k2, _⟩ := fold_fw hstep hpos l o h hV
  exact ⟨k1, k2, lst_fw hstep hpos l 66 [] o h hV hz (by simpa using h0) (by simp; omega) (by omega)⟩
theorem rdHd_fw {V : ByteArray} {b : Nat} {o : ByteArray × Int} {i k : Int} {l : List Pr} (h : (pr (idd o i) k l).2 = 0) (hV : Has V b (pr (idd o i) k l).1) : Fw V b o (pr (idd o i) k l) (fun a => rdHd V a k) (i, l.map PR.nrm) := by
  obtain ⟨h1, h2, h3⟩ := pr_fw k h hV
  obtain ⟨k1, k2, k3⟩ := idd_fw h1 h2
  refine ⟨k1, k2, ?_⟩
  simp only at h3 ⊢
  unfold rdHd
  rw [k3]
  simp only
  rw [h3]
  rfl
end PK
end Go.Proofs.YtemfcaaoobjgkaaGreatDoor
namespace Go.Proofs.YtemfcaaoobjgkaaGreatDoor
namespace PK
open PR (Has has_both has_ext has_nil has_mk has_left has_right has_self)

theorem cfl_back (P : Pk) (h : P.hasWill = true → isQ P.wqos = true) : cflC (cflagsN P) = 0 ∧ (bits .and .i64 (cflagsN P) 4 != 0) = P.hasWill ∧ (bits .and .i64 (cflagsN P) 64 != 0) = P.hasPass ∧ (bits .and .i64 (cflagsN P) 128 != 0) = P.hasUser := by
  have hd : ∀ (x : Fin 3) (cl pa us wi wr : Bool), let n : Int := fl cl 2 + fl pa 64 + fl us 128 + if wi = true then 4 + 8 * ((x.val : Nat) : Int) + fl wr 32 else 0
      cflC n = 0 ∧ (bits .and .i64 n 4 != 0) = wi ∧ (bits .and .i64 n 64 != 0) = pa ∧ (bits .and .i64 n 128 != 0) = us := by decide +kernel
  by_cases hw : P.hasWill = true
  · have hq := h hw
    simp [isQ] at hq
    obtain ⟨x, hx⟩ := Int.eq_ofNat_of_zero_le hq.1
    have := hd ⟨x, by omega⟩ P.clean P.hasPass P.hasUser P.hasWill P.wret
    simp only [← hx] at this
    exact this
  · have hw' : P.hasWill = false := by simpa using hw
    have := hd ⟨0, by decide⟩ P.clean P.hasPass P.hasUser P.hasWill P.wret
    unfold cflagsN
    rw [hw'] at this ⊢
    exact this
theorem cflags_fw {V : ByteArray} {b : Nat} {o : ByteArray × Int} {P : Pk} (h : (cflags o P).2 = 0) (hV : Has V b (cflags o P).1) : Fw V b o (cflags o P) (rdFl V) (cflagsN P) ∧ (P.hasWill = true → isQ P.wqos = true) := by
  unfold cflags at h hV ⊢
  by_cases hw : (P.hasWill && !isQ P.wqos) = true
  · rw [if_pos hw] at h; exact absurd (ad_split h).2.1 (by decide)
  rw [if_neg hw] at h hV ⊢
  have hq : P.hasWill = true → isQ P.wqos = true := fun e => by
    rw [e] at hw; simpa using hw
  obtain ⟨⟨h1, h2, h3⟩, _⟩ := nm_fw 1 h hV
  refine ⟨⟨h1, h2, ?_⟩, hq⟩
  have e1 : (VP.rd V ((b + o.1.size : Nat) : Int) 1).1 = cflagsN P := congrArg Prod.fst h3
  have e2 : (VP.rd V ((b + o.1.size : Nat) : Int) 1).2.1 = ((b + (nm o 1 (cflagsN P)).1.size : Nat) : Int) := congrArg (fun x => x.2.1) h3
  have e3 : cm (VP.rd V ((b + o.1.size : Nat) : Int) 1).2.2 = 0 := congrArg (fun x => x.2.2) h3
  unfold rdFl
  rw [e1, e2, e3, (cfl_back P hq).1]
  rfl
theorem conn_fw {V : ByteArray} {b : Nat} {o : ByteArray × Int} {P : Pk} (P0 : Pk) (hk : P0.kind = 1) (h : (conn o P).2 = 0) (hV : Has V b (conn o P).1) :
    o.2 = 0 ∧ Has V b o.1 ∧ (rdConn V ((b + o.1.size : Nat) : Int) P0).2.2 = 0 ∧ (rdConn V ((b + o.1.size : Nat) : Int) P0).2.1 = ((b + (conn o P).1.size : Nat) : Int) := by
  have s4 : (conn3 (conn2 (conn1 o P) P) P).2 = 0 ∧ Has V b (conn3 (conn2 (conn1 o P) P) P).1 ∧ ∀ Q : Pk, Q.hasPass = P.hasPass → (rdPass V ((b + (conn3 (conn2 (conn1 o P) P) P).1.size : Nat) : Int) Q).2 = (((b + (conn o P).1.size : Nat) : Int), 0) := by
    unfold conn conn4 at h hV ⊢
    by_cases hp : P.hasPass = true
    · rw [if_pos hp] at h hV ⊢
      obtain ⟨h1, h2, h3⟩ := dt_fw h hV
      refine ⟨h1, h2, fun Q hQ => ?_⟩
      unfold rdPass
      rw [if_pos (by rw [hQ]; exact hp), h3, bnd_ok rfl]
    · rw [if_neg hp] at h hV ⊢
      refine ⟨h, hV, fun Q hQ => ?_⟩
      unfold rdPass
      rw [if_neg (by rw [hQ]; exact hp)]
  obtain ⟨h4, v4, r4⟩ := s4
  have s3 : (conn2 (conn1 o P) P).2 = 0 ∧ Has V b (conn2 (conn1 o P) P).1 ∧ ∀ Q : Pk, Q.hasPass = P.hasPass → Q.hasUser = P.hasUser → (rdUser V ((b + (conn2 (conn1 o P) P).1.size : Nat) : Int) Q).2 = (((b + (conn o P).1.size : Nat) : Int), 0) := by
    unfold conn3 at h4 v4 r4
    by_cases hp : P.hasUser = true
    · rw [if_pos hp] at h4 v4 r4
      obtain ⟨h1, h2, h3⟩ := tx_fw h4 v4
      refine ⟨h1, h2, fun Q hQ hU => ?_⟩
      unfold rdUser
      rw [if_pos (by rw [hU]; exact hp), h3, bnd_ok rfl]
      exact r4 _ hQ
    · rw [if_neg hp] at h4 v4 r4
      refine ⟨h4, v4, fun Q hQ hU => ?_⟩
      unfold rdUser
      rw [if_neg (by rw [hU]; exact hp)]
      exact r4 _ hQ
  obtain ⟨h3, v3, r3⟩ := s3
  have s2 : (conn1 o P).2 = 0 ∧ Has V b (conn1 o P).1 ∧ ∀ Q : Pk, Q.hasPass = P.hasPass → Q.hasUser = P.hasUser → Q.hasWill = P.hasWill → (rdWill V ((b + (conn1 o P).1.size : Nat) : Int) Q).2 = (((b + (conn o P).1.size : Nat) : Int), 0) := by
    unfold conn2 at h3 v3 r3
    by_cases hp : P.hasWill = true
    · rw [if_pos hp] at h3 v3 r3
      obtain ⟨a1, a2, a3⟩ := dt_fw h3 v3
      obtain ⟨b1, b2, b3⟩ := tx_fw a1 a2
      obtain ⟨c1, c2, c3⟩ := pr_fw 0 b1 b2
      refine ⟨c1, c2, fun Q hQ hU hW => ?_⟩
      simp only at c3
      unfold rdWill
      rw [if_pos (by rw [hW]; exact hp), c3, bnd_ok rfl, b3, bnd_ok rfl, a3, bnd_ok rfl]
      exact r3 _ hQ hU
    · rw [if_neg hp] at h3 v3 r3
      refine ⟨h3, v3, fun Q hQ hU hW => ?_⟩
      unfold rdWill
      rw [if_neg (by rw [hW]; exact hp)]
      exact r3 _ hQ hU
  obtain ⟨h2, v2, r2⟩ := s2
  unfold conn1 at h2 v2 r2
  obtain ⟨a1, a2, a3⟩ := tx_fw h2 v2
  obtain ⟨b1, b2, b3⟩ := pr_fw 1 a1 a2
  obtain ⟨⟨c1, c2, c3⟩, _⟩ := nm_fw 2 b1 b2
  obtain ⟨⟨d1, d2, d3⟩, dq⟩ := cflags_fw c1 c2
  obtain ⟨⟨e1, e2, e3⟩, _⟩ := nm_fw 1 d1 d2
  obtain ⟨f1, f2, f3⟩ := tx_fw e1 e2
  simp only at b3 c3 e3
  obtain ⟨g1, g2, g3, g4⟩ := cfl_back P dq
  have hfin := r2 { cflPk P0 (cflagsN P) with keep := P.keep, props := P.props.map PR.nrm, client := P.client } g3 g4 g2
  have hkk : (cflPk P0 (cflagsN P)).kind = 1 := hk
  have hall : rdConn V ((b + o.1.size : Nat) : Int) P0 = rdWill V ((b + (tx (pr (nm (cflags (nm (tx o ⟨#[77, 81, 84, 84]⟩) 1 5) P) 2 P.keep) 1 P.props) P.client).1.size : Nat) : Int) { cflPk P0 (cflagsN P) with keep := P.keep, props := P.props.map PR.nrm, client := P.client } := by
    unfold rdConn
    rw [f3, bnd_ok rfl, if_neg (by simp), e3, bnd_ok rfl, if_neg (by simp), d3, bnd_ok rfl]
    unfold rdConn1
    have b3' : rdPr V ((b + (nm (cflags (nm (tx o ⟨#[77, 81, 84, 84]⟩) 1 5) P) 2 P.keep).1.size : Nat) : Int) (cflPk P0 (cflagsN P)).kind = (P.props.map PR.nrm, ((b + (pr (nm (cflags (nm (tx o ⟨#[77, 81, 84, 84]⟩) 1 5) P) 2 P.keep) 1 P.props).1.size : Nat) : Int), 0) := by rw [hkk]; exact b3
    rw [c3, bnd_ok rfl, b3', bnd_ok rfl, a3, bnd_ok rfl]
  refine ⟨f1, f2, ?_, ?_⟩
  · rw [hall]; exact congrArg Prod.snd hfin
  · rw [hall]; exact congrArg Prod.fst hfin
theorem end_fw {V : ByteArray} {b : Nat} {o : ByteArray × Int} (k c : Int) (l : List Pr) (h : (endO o k c l).2 = 0) (hV : Has V b (endO o k c l).1) (hz : b + (endO o k c l).1.size = V.size) :
    o.2 = 0 ∧ Has V b o.1 ∧ rdEnd V ((b + o.1.size : Nat) : Int) k = ((c, l.map PR.nrm), (V.size : Int), 0) := by
  by_cases hl : l = []
  · subst hl
    have ho : o.2 = 0 ∧ VP.fixC 1 c = 0 := by
      unfold endO at h
      by_cases hc : c = 0
      · rw [if_pos ⟨hc, rfl⟩] at h
        exact ⟨h, by rw [hc]; exact (fix1_size (Int.le_refl 0) (by decide)).2⟩
      · rw [if_neg (fun e => hc e.1), if_pos rfl] at h
        exact ⟨(ad_split h).1, (ad_split h).2.1⟩
    obtain ⟨r1, r2⟩ := end_fwd k c ho.1 ho.2 hV hz
    exact ⟨ho.1, r2, r1⟩
  · unfold endO at h hV hz
    rw [if_neg (fun e => hl e.2), if_neg hl] at h hV hz
    obtain ⟨a1, a2, a3⟩ := pr_fw k h hV
    obtain ⟨⟨b1, b2, b3⟩, _⟩ := nm_fw 1 a1 a2
    simp only at a3 b3
    refine ⟨b1, b2, ?_⟩
    have hp1 := nm1_pos a1
    have hal : pr (nm o 1 c) k l = ad (nm o 1 c) (PR.putS l) (PR.putC l) := by
      by_cases hal : alAll k l = true
      · unfold pr; rw [if_pos hal]
      · unfold pr at h
        rw [if_neg hal] at h
        exact absurd (ad_split h).2.1 (by decide)
    have hp2 : (nm o 1 c).1.size < (pr (nm o 1 c) k l).1.size := by
      rw [hal] at h ⊢
      obtain ⟨_, c2, c3⟩ := ad_split h
      rw [c3, ByteArray.size_append]
      obtain ⟨_, _, e⟩ := PR.putS_is c2
      have hz2 := PR.allS_size l
      have e2 := VP.putL_len (n := ((PR.allS l).size : Int)) (by omega) (by omega)
      have e3 := (VP.sz_in (m := ((PR.allS l).size : Int)) (by omega) (by omega)).1
      have s1 : ∀ l : List Int, (strOfNums l).size = l.length := fun l => by simp [strOfNums, ByteArray.size]
      rw [e, ByteArray.size_append, s1]
      omega
    have hrc : rdC V ((b + o.1.size : Nat) : Int) = (c, ((b + (nm o 1 c).1.size : Nat) : Int), 0) := b3
    unfold rdEnd
    rw [if_neg (by omega), hrc]
    simp only
    rw [if_neg (by simp), if_neg (by omega), a3, hz]
theorem beg_back (P : Pk) (hk : 1 ≤ P.kind ∧ P.kind ≤ 15) (h3 : P.kind = 3 → canPub P = true) : (0 ≤ 16 * P.kind + flagsN P ∧ 16 * P.kind + flagsN P ≤ 255) ∧ begOk (16 * P.kind + flagsN P) = true ∧ (begPk (16 * P.kind + flagsN P)).kind = P.kind ∧ (P.kind = 3 → (begPk (16 * P.kind + flagsN P)).qos = P.qos) := by
  by_cases h : P.kind = 3
  · have hc := h3 h
    have hfl : flagsN P = fl P.dup 8 + 2 * P.qos + fl P.ret 1 := by unfold flagsN; rw [if_pos h]
    unfold canPub at hc
    have hq : 0 ≤ P.qos ∧ P.qos ≤ 2 := by
      simp [isQ] at hc; exact hc.1
    obtain ⟨x, hx⟩ := Int.eq_ofNat_of_zero_le hq.1
    have hd : ∀ (x : Fin 3) (d r : Bool), (isQ ((x.val : Nat) : Int) && (decide (0 < ((x.val : Nat) : Int)) || !d)) = true →
        let n : Int := 16 * 3 + (fl d 8 + 2 * ((x.val : Nat) : Int) + fl r 1)
        (0 ≤ n ∧ n ≤ 255) ∧ begOk n = true ∧ (begPk n).kind = 3 ∧ (begPk n).qos = ((x.val : Nat) : Int) := by decide +kernel
    have := hd ⟨x, by omega⟩ P.dup P.ret (by simp only [← hx]; exact hc)
    simp only [← hx] at this
    rw [hfl, h]
    exact ⟨this.1, this.2.1, this.2.2.1, fun _ => this.2.2.2⟩
  · have hfl : flagsN P = fixN P.kind := by unfold flagsN fixN; rw [if_neg h]
    have hf : fixN P.kind = 2 ∨ fixN P.kind = 0 := by unfold fixN; split <;> simp
    rw [hfl]
    have hd : (16 * P.kind + fixN P.kind) / 16 = P.kind := by omega
    have hm : (16 * P.kind + fixN P.kind) % 16 = fixN P.kind := by omega
    refine ⟨by omega, ?_, ?_, fun e => absurd e h⟩
    · unfold begOk
      rw [hd, hm, if_neg h]
      simp [isK]
      omega
    · unfold begPk
      rw [hd, if_neg h]
      rfl
end PK
end Go.Proofs.YtemfcaaoobjgkaaGreatDoor
namespace Go.Proofs.YtemfcaaoobjgkaaGreatDoor
namespace PK
open PR (Has has_both has_ext has_nil has_mk has_left has_right has_self)

theorem C_fw {V : ByteArray} {b : Nat} (o : ByteArray × Int) (c : Int) (h : (nm o 1 c).2 = 0) (hV : Has V b (nm o 1 c).1) : Fw V b o (nm o 1 c) (rdC V) c := (nm_fw 1 h hV).1
/-- What follows the length is read without a code, up to the end. -/
theorem parts_fw {V : ByteArray} {b : Nat} {o : ByteArray × Int} (P P0 : Pk) (_hk : 1 ≤ P.kind ∧ P.kind ≤ 15) (hk0 : P0.kind = P.kind) (hq : P.kind = 3 → P0.qos = P.qos) (h : (parts o P).2 = 0) (hV : Has V b (parts o P).1) (hz : b + (parts o P).1.size = V.size) :
    o.2 = 0 ∧ Has V b o.1 ∧ (partsK P.kind V ((b + o.1.size : Nat) : Int) P0).2 = ((V.size : Int), 0) := by
  unfold parts at h hV hz
  unfold partsK
  by_cases k1 : P.kind = 1
  · rw [if_pos k1] at h hV hz ⊢
    obtain ⟨a1, a2, a3, a4⟩ := conn_fw P0 (hk0.trans k1) h hV
    exact ⟨a1, a2, Prod.ext (by rw [a4, hz]) a3⟩
  rw [if_neg k1] at h hV hz ⊢
  by_cases k2 : P.kind = 2
  · rw [if_pos k2] at h hV hz ⊢
    obtain ⟨a1, a2, a3⟩ := pr_fw P.kind h hV
    obtain ⟨⟨b1, b2, b3⟩, _⟩ := nm_fw 1 a1 a2
    obtain ⟨c1, c2, c3⟩ := ses_fw b1 b2
    simp only at a3 b3
    refine ⟨c1, c2, ?_⟩
    rw [c3, bnd_ok rfl, show rdC V _ = _ from b3, bnd_ok rfl, a3, bnd_ok rfl, hz]
  rw [if_neg k2] at h hV hz ⊢
  by_cases k3 : P.kind = 3
  · rw [if_pos k3] at h hV hz ⊢
    unfold pub pub1 at h hV hz
    obtain ⟨a1, _, a2, a3, a4⟩ := ad_fw h hV
    obtain ⟨b1, b2, b3⟩ := pr_fw P.kind a1 a2
    simp only at b3
    have hid : (tx o P.topic).2 = 0 ∧ Has V b (tx o P.topic).1 ∧ ∃ i, rdI V ((b + (tx o P.topic).1.size : Nat) : Int) P0.qos P0.id = (i, ((b + (if 0 < P.qos then idd (tx o P.topic) P.id else tx o P.topic).1.size : Nat) : Int), 0) := by
      unfold rdI
      rw [hq k3]
      by_cases q0 : 0 < P.qos
      · simp only [if_pos q0] at b1 b2 ⊢
        obtain ⟨c1, c2, c3⟩ := idd_fw b1 b2
        exact ⟨c1, c2, _, c3⟩
      · simp only [if_neg q0] at b1 b2 ⊢
        exact ⟨b1, b2, _, rfl⟩
    obtain ⟨c1, c2, i, c3⟩ := hid
    obtain ⟨d1, d2, d3⟩ := tx_fw c1 c2
    refine ⟨d1, d2, ?_⟩
    unfold rdPub
    rw [d3]
    simp only
    rw [c3]
    simp only
    rw [b3]
    rfl
  rw [if_neg k3] at h hV hz ⊢
  by_cases k8 : P.kind = 8
  · rw [if_pos k8] at h hV hz ⊢
    obtain ⟨a1, a2, a3⟩ := each_fw (rd := rdSub V) (fun o x => sub_fw) (fun o x => sub_pos) _ _ h hV hz
    obtain ⟨b1, b2, b3⟩ := rdHd_fw a1 a2
    simp only at b3
    exact ⟨b1, b2, by rw [b3, bnd_ok rfl, show lst _ _ _ ((b + (pr (idd o P.id) P.kind P.props).1.size : Nat) : Int) [] = _ from a3, bnd_ok rfl]⟩
  rw [if_neg k8] at h hV hz ⊢
  by_cases k10 : P.kind = 10
  · rw [if_pos k10] at h hV hz ⊢
    obtain ⟨a1, a2, a3⟩ := each_fw (rd := rdT V) (fun o x => tx_fw) (fun o x => tx_pos) _ _ h hV hz
    obtain ⟨b1, b2, b3⟩ := rdHd_fw a1 a2
    simp only at b3
    exact ⟨b1, b2, by rw [b3, bnd_ok rfl, show lst _ _ _ ((b + (pr (idd o P.id) P.kind P.props).1.size : Nat) : Int) [] = _ from a3, bnd_ok rfl]⟩
  rw [if_neg k10] at h hV hz ⊢
  by_cases k9 : P.kind = 9 ∨ P.kind = 11
  · rw [if_pos k9] at h hV hz ⊢
    obtain ⟨a1, a2, a3⟩ := each_fw (rd := rdC V) C_fw (fun o x hh => by have := nm1_pos hh; omega) _ _ h hV hz
    obtain ⟨b1, b2, b3⟩ := rdHd_fw a1 a2
    simp only at b3
    exact ⟨b1, b2, by rw [b3, bnd_ok rfl, show lst _ _ _ ((b + (pr (idd o P.id) P.kind P.props).1.size : Nat) : Int) [] = _ from a3, bnd_ok rfl]⟩
  rw [if_neg k9] at h hV hz ⊢
  by_cases k4 : P.kind = 4 ∨ P.kind = 5 ∨ P.kind = 6 ∨ P.kind = 7
  · rw [if_pos k4] at h hV hz ⊢
    obtain ⟨a1, a2, a3⟩ := end_fw P.kind P.code P.props h hV hz
    obtain ⟨b1, b2, b3⟩ := idd_fw a1 a2
    refine ⟨b1, b2, ?_⟩
    rw [b3, bnd_ok rfl]
    unfold rdEndP
    rw [a3]
  rw [if_neg k4] at h hV hz ⊢
  by_cases k14 : P.kind = 14 ∨ P.kind = 15
  · rw [if_pos k14] at h hV hz ⊢
    obtain ⟨a1, a2, a3⟩ := end_fw P.kind P.code P.props h hV hz
    refine ⟨a1, a2, ?_⟩
    unfold rdEndP
    rw [a3]
  rw [if_neg k14] at h hV hz ⊢
  exact ⟨h, hV, by rw [hz]⟩
/-- A packet without a code is read back from its bytes. -/
theorem put_read (P : Pk) (hc : putC P = 0) : (getPk (putS P)).2 = 0 ∧ (1 ≤ P.kind ∧ P.kind ≤ 15) ∧ b0 (putS P) = 16 * P.kind + flagsN P ∧ (begPk (b0 (putS P))).kind = P.kind := by
  have hk : 1 ≤ P.kind ∧ P.kind ≤ 15 := by
    unfold putC at hc
    by_cases h : P.kind < 1 ∨ 15 < P.kind
    · rw [if_pos h] at hc; exact absurd hc (by decide)
    · omega
  have hb2 : (bodyO P).2 = 0 := by
    unfold putC at hc
    rw [if_neg (by omega)] at hc
    by_cases h1 : (bodyO P).2 ≠ 0
    · rw [if_pos h1] at hc; exact absurd hc h1
    · exact Classical.not_not.1 h1
  have h3 : P.kind = 3 → canPub P = true := fun h => by
    by_cases hp : canPub P = true
    · exact hp
    · exfalso
      have e : flagsO P = (⟨#[]⟩, 129) := by unfold flagsO; rw [if_pos ⟨h, by simpa using hp⟩]
      unfold bodyO parts at hb2
      rw [if_neg (by omega), if_neg (by omega), if_pos h, e] at hb2
      have a1 := (ad_split hb2).1
      have a2 : (pub1 (⟨#[]⟩, 129) P).2 = 0 := by
        unfold pr at a1
        split at a1
        · exact (ad_split a1).1
        · exact (ad_split (ad_split a1).1).1
      unfold pub1 at a2
      split at a2
      · unfold idd at a2
        split at a2
        · exact absurd (ad_split (ad_split (ad_split a2).1).1).1 (by decide)
        · exact absurd (ad_split (ad_split a2).1).1 (by decide)
      · exact absurd (ad_split a2).1 (by decide)
  obtain ⟨g0, g1, g2, g3⟩ := beg_back P hk h3
  have hfl : flagsO P = (⟨#[]⟩, 0) := by unfold flagsO; rw [if_neg (fun e => by rw [h3 e.1] at e; exact absurd e.2 (by decide))]
  obtain ⟨b, p1, p2, p3, p4, p5, p6, p7⟩ := putS_head hk hc g0
  have hbo : bodyO P = parts (⟨#[]⟩, 0) P := by unfold bodyO; rw [hfl]
  rw [hbo] at p1 p2 p3 p5
  obtain ⟨_, _, r3⟩ := parts_fw (o := (⟨#[]⟩, 0)) P (begPk (b0 (putS P))) hk (by rw [p4]; exact g2) (fun h => by rw [p4]; exact g3 h) (by rw [← hbo]; exact hb2) p3 p2
  refine ⟨?_, hk, p4, by rw [p4]; exact g2⟩
  have hd : hdC (putS P) = 0 := by
    unfold hdC
    rw [p1]
    simp only [if_true]
    unfold lenC
    rw [if_neg (by omega), if_neg (by omega), if_neg (by omega)]
  have hw : (rdWhole (putS P) (b : Int) (begPk (b0 (putS P)))).2 = 0 := by
    unfold rdWhole
    rw [show (begPk (b0 (putS P))).kind = P.kind by rw [p4]; exact g2]
    have e1 := congrArg Prod.fst r3
    have e2 := congrArg Prod.snd r3
    simp only at e1 e2
    rw [show ((b : Nat) : Int) = ((b + ((⟨#[]⟩, 0) : ByteArray × Int).1.size : Nat) : Int) from rfl, e1, e2, if_pos rfl]
    rfl
  unfold getPk
  rw [if_neg (by omega), p4, g1, if_neg (by decide), if_neg (by rw [hd]; decide), p1]
  simp only
  rw [p4] at hw
  rw [if_neg (by rw [hw]; decide)]
end PK
end Go.Proofs.YtemfcaaoobjgkaaGreatDoor
namespace Go.Proofs.YtemfcaaoobjgkaaGreatDoor
namespace ST
/-- X stands at the beginning of Y. -/
def Beg (X Y : ByteArray) : Prop := X.size ≤ Y.size ∧ ∀ (j : Nat) (h1 : j < X.size) (h2 : j < Y.size), X[j]'h1 = Y[j]'h2
theorem getG_keeps {X Y : ByteArray} (hb : Beg X Y) (k : Nat) : ∀ (u i : Nat) (n : Int), (VP.getG X k u i n).2.2 ≠ 242 → VP.getG Y k u i n = VP.getG X k u i n
  | 0, i, n, _ => by rw [VP.getG_0, VP.getG_0]
  | u + 1, i, n, h => by
    by_cases h1 : k + i < X.size
    · have h2 : k + i < Y.size := Nat.lt_of_lt_of_le h1 hb.1
      have e := hb.2 (k + i) h1 h2
      rw [VP.getG, dif_pos h1] at h
      rw [VP.getG, VP.getG, dif_pos h1, dif_pos h2, ← e]
      split
      · rfl
      · rename_i h3
        rw [if_neg h3] at h
        exact getG_keeps hb k u (i + 1) _ h
    · rw [VP.getG_end X k u i n h1] at h
      exact absurd rfl h
theorem get_keeps {X Y : ByteArray} (hb : Beg X Y) (k : Nat) (hk : k ≤ X.size) (h : (VP.get X (k : Int)).2.2 ≠ 242) : VP.get Y (k : Int) = VP.get X (k : Int) := by
  rw [VP.get_in X k hk] at h ⊢
  rw [VP.get_in Y k (Nat.le_trans hk hb.1)]
  exact getG_keeps hb k 4 0 0 h
theorem first_keeps {X Y : ByteArray} (hb : Beg X Y) (m : Int) (h : (first X m).2 ≠ 242) : first Y m = first X m := by
  unfold first at h ⊢
  by_cases h0 : X.size = 0
  · rw [if_pos h0] at h; exact absurd rfl h
  rw [if_neg h0] at h ⊢
  have hY : Y.size ≠ 0 := by have := hb.1; omega
  rw [if_neg hY]
  by_cases h1 : (VP.get X 1).2.2 = 242
  · rw [if_pos (by rw [h1]; decide)] at h
    exact absurd h1 h
  have hg : VP.get Y 1 = VP.get X 1 := get_keeps hb 1 (by omega) h1
  rw [hg]
  by_cases h2 : (VP.get X 1).2.2 ≠ 0
  · rw [if_pos h2, if_pos h2]
  rw [if_neg h2] at h
  rw [if_neg h2, if_neg h2]
  by_cases h3 : m < (VP.get X 1).2.1 + (VP.get X 1).1
  · rw [if_pos h3, if_pos h3]
  rw [if_neg h3] at h
  rw [if_neg h3, if_neg h3]
  by_cases h4 : (X.size : Int) < (VP.get X 1).2.1 + (VP.get X 1).1
  · rw [if_pos h4] at h; exact absurd rfl h
  rw [if_neg h4, if_neg (by have := hb.1; omega)]
theorem beg_drop {X Y : ByteArray} (hb : Beg X Y) (a : Nat) (ha : a ≤ X.size) : Beg (X.extract a X.size) (Y.extract a Y.size) := by
  refine ⟨by rw [ByteArray.size_extract, ByteArray.size_extract]; have := hb.1; omega, fun j h1 h2 => ?_⟩
  rw [ByteArray.size_extract] at h1 h2
  rw [ByteArray.getElem_extract, ByteArray.getElem_extract]
  exact hb.2 (a + j) (by omega) (by omega)
theorem beg_part {X Y : ByteArray} (hb : Beg X Y) (a k : Nat) (hk : a + k ≤ X.size) : Y.extract a (a + k) = X.extract a (a + k) := by
  have := hb.1
  apply ByteArray.ext_getElem
  · rw [ByteArray.size_extract, ByteArray.size_extract]; omega
  · intro i h1 h2
    rw [ByteArray.size_extract] at h1 h2
    rw [ByteArray.getElem_extract, ByteArray.getElem_extract]
    exact (hb.2 (a + i) (by omega) (by omega)).symm
/-- Fuel that is enough. -/
theorem thr_fuel (s : ByteArray) (m : Int) (f : ByteArray → Int) : ∀ (u v a : Nat), a ≤ s.size → s.size < a + u → s.size < a + v → thr s m f u a = thr s m f v a
  | 0, v, a, h, h1, _ => by omega
  | u + 1, 0, a, h, _, h2 => by omega
  | u + 1, v + 1, a, h, h1, h2 => by
    rw [thr, thr]
    by_cases hf : (first (s.extract a s.size) m).2 = 0
    · obtain ⟨k, hk, hk1, hk2⟩ := first_ok _ _ hf
      rw [ByteArray.size_extract] at hk2
      rw [hk]
      simp only [Int.toNat_natCast]
      rw [thr_fuel s m f u v (a + k) (by omega) (by omega) (by omega)]
    · rw [if_neg hf, if_neg hf]
/-- More bytes behind: what was told stays; behind a code nothing is. -/
theorem thr_more {X Y : ByteArray} (hb : Beg X Y) (m : Int) (f : ByteArray → Int) : ∀ (u v a : Nat), a ≤ X.size → X.size < a + u → Y.size < a + v →
    ((thr X m f u a).2.2 ≠ 0 → (thr Y m f v a).1 = (thr X m f u a).1 ∧ (thr Y m f v a).2.2 = (thr X m f u a).2.2) ∧
    ((thr X m f u a).2.2 = 0 → (thr X m f u a).2.1 ≤ X.size ∧ (first (X.extract (thr X m f u a).2.1 X.size) m).2 = 242 ∧ ∀ v', Y.size < (thr X m f u a).2.1 + v' → (thr Y m f v a).1 = (thr X m f u a).1 ++ (thr Y m f v' (thr X m f u a).2.1).1 ∧ (thr Y m f v a).2.2 = (thr Y m f v' (thr X m f u a).2.1).2.2)
  | 0, v, a, h, h1, _ => by omega
  | u + 1, v, a, h, h1, h2 => by
    obtain ⟨v, rfl⟩ : ∃ w, v = w + 1 := ⟨v - 1, by have := hb.1; omega⟩
    by_cases h242 : (first (X.extract a X.size) m).2 = 242
    · have e : thr X m f (u + 1) a = ([], a, 0) := by rw [thr, if_neg (by rw [h242]; decide), if_pos h242]
      rw [e]
      refine ⟨fun h => absurd rfl h, fun _ => ⟨h, h242, fun v' hv' => ?_⟩⟩
      rw [thr_fuel Y m f (v + 1) v' a (Nat.le_trans h hb.1) h2 hv']
      exact ⟨rfl, rfl⟩
    · have hk := first_keeps (beg_drop hb a h) m h242
      by_cases hf : (first (X.extract a X.size) m).2 = 0
      · obtain ⟨k, hk0, hk1, hk2⟩ := first_ok _ _ hf
        rw [ByteArray.size_extract] at hk2
        have hpart := beg_part hb a k (by omega)
        rw [hk0] at hk
        by_cases hc : f (X.extract a (a + k)) = 0
        · have eX : thr X m f (u + 1) a = (X.extract a (a + k) :: (thr X m f u (a + k)).1, (thr X m f u (a + k)).2) := by rw [thr, hk0]; simp [hc]
          have eY : thr Y m f (v + 1) a = (X.extract a (a + k) :: (thr Y m f v (a + k)).1, (thr Y m f v (a + k)).2) := by rw [thr, hk]; simp [hpart, hc]
          have ih := thr_more hb m f u v (a + k) (by omega) (by omega) (by omega)
          rw [eX, eY]
          refine ⟨fun h0 => ?_, fun h0 => ?_⟩
          · obtain ⟨i1, i2⟩ := ih.1 h0
            exact ⟨by simp only; rw [i1], i2⟩
          · obtain ⟨i0, i1, i2⟩ := ih.2 h0
            refine ⟨i0, i1, fun v' hv' => ?_⟩
            obtain ⟨j1, j2⟩ := i2 v' hv'
            exact ⟨by simp only [List.cons_append]; rw [j1], j2⟩
        · have eX : thr X m f (u + 1) a = ([], a, f (X.extract a (a + k))) := by rw [thr, hk0]; simp [hc]
          have eY : thr Y m f (v + 1) a = ([], a, f (X.extract a (a + k))) := by rw [thr, hk]; simp [hpart, hc]
          rw [eX, eY]
          exact ⟨fun _ => ⟨rfl, rfl⟩, fun h0 => absurd h0 hc⟩
      · have eX : thr X m f (u + 1) a = ([], a, (first (X.extract a X.size) m).2) := by rw [thr, if_neg hf, if_neg h242]
        have eY : thr Y m f (v + 1) a = ([], a, (first (X.extract a X.size) m).2) := by rw [thr, hk, if_neg hf, if_neg h242]
        rw [eX, eY]
        exact ⟨fun _ => ⟨rfl, rfl⟩, fun h0 => absurd h0 hf⟩
/-- From a place on: as of the bytes from there on. -/
theorem thr_drop (s : ByteArray) (m : Int) (f : ByteArray → Int) (b : Nat) : ∀ (u a : Nat), (thr s m f u (b + a)).1 = (thr (s.extract b s.size) m f u a).1 ∧ (thr s m f u (b + a)).2.2 = (thr (s.extract b s.size) m f u a).2.2
  | 0, a => ⟨rfl, rfl⟩
  | u + 1, a => by
    have hz : (s.extract b s.size).size = s.size - b := by rw [ByteArray.size_extract]; omega
    have e1 : (s.extract b s.size).extract a (s.extract b s.size).size = s.extract (b + a) s.size := by
      rw [hz, ByteArray.extract_extract]; congr 1; omega
    rw [thr, thr, e1]
    by_cases hf : (first (s.extract (b + a) s.size) m).2 = 0
    · obtain ⟨k, hk, hk1, hk2⟩ := first_ok _ _ hf
      rw [ByteArray.size_extract] at hk2
      rw [hk]
      simp only [Int.toNat_natCast, if_true]
      have e2 : (s.extract b s.size).extract a (a + k) = s.extract (b + a) (b + a + k) := by
        rw [ByteArray.extract_extract]; congr 1; omega
      rw [e2]
      have ih := thr_drop s m f b u (a + k)
      rw [show b + (a + k) = b + a + k by omega] at ih
      split
      · exact ⟨by simp only; rw [ih.1], ih.2⟩
      · exact ⟨rfl, rfl⟩
    · rw [if_neg hf, if_neg hf]
      exact ⟨rfl, rfl⟩
end ST
end Go.Proofs.YtemfcaaoobjgkaaGreatDoor
namespace Go.Proofs.YtemfcaaoobjgkaaGreatDoor
namespace PK
open _root_.Go.Proofs.YtemfcaaoobjgkaaGreatDoor.ST
theorem beg_cut (s : ByteArray) (k : Nat) : Beg (s.extract 0 k) s := by
  refine ⟨by rw [ByteArray.size_extract]; omega, fun j h1 h2 => ?_⟩
  rw [ByteArray.getElem_extract]
  simp only [Nat.zero_add]
theorem beg_app (s t : ByteArray) : Beg s (s ++ t) := by
  refine ⟨by rw [ByteArray.size_append]; omega, fun j h1 h2 => ?_⟩
  exact (ByteArray.getElem_append_left h1).symm
theorem b0_beg {X Y : ByteArray} (h : Beg X Y) (h0 : 0 < X.size) : b0 X = b0 Y := by
  unfold b0
  rw [dif_pos h0, dif_pos (Nat.lt_of_lt_of_le h0 h.1), h.2 0 h0 (Nat.lt_of_lt_of_le h0 h.1)]
/-- Cut off anywhere they are too few. -/
theorem cut_none (P : Pk) (hc : putC P = 0) (k : Nat) (hk : k < (putS P).size) : (getPk ((putS P).extract 0 k)).2 = 242 := by
  obtain ⟨m, b, i1, i2, i3, i4, i5, _⟩ := getPk_inv (put_read P hc).1
  have hb := beg_cut (putS P) k
  have hs : ((putS P).extract 0 k).size = k := by rw [ByteArray.size_extract]; omega
  unfold getPk
  by_cases h0 : k = 0
  · rw [if_pos (by omega)]
  · rw [if_neg (by omega), b0_beg hb (by omega), if_neg (by rw [i1]; decide)]
    have hd : hdC ((putS P).extract 0 k) = 242 := by
      unfold hdC
      by_cases h : (VP.get ((putS P).extract 0 k) 1).2.2 = 242
      · rw [h, if_neg (by decide)]
      · have e := get_keeps hb 1 (by omega) h
        have e' : VP.get ((putS P).extract 0 k) 1 = ((m : Int), (b : Int), 0) := e.symm.trans i3
        rw [e', hs]
        show (if (0 : Int) = 0 then lenC (m : Int) ((k : Int) - (b : Int)) else 0) = 242
        rw [if_pos rfl]
        unfold lenC
        rw [if_neg (by omega), if_pos (by omega)]
    rw [hd, if_pos (by decide)]
/-- With a byte more they are none. -/
theorem more_bad (P : Pk) (hc : putC P = 0) (t : ByteArray) (ht : t.size = 1) : (getPk (putS P ++ t)).2 = 129 := by
  obtain ⟨m, b, i1, i2, i3, i4, i5, _⟩ := getPk_inv (put_read P hc).1
  have hb := beg_app (putS P) t
  have hs : (putS P ++ t).size = (putS P).size + 1 := by rw [ByteArray.size_append, ht]
  unfold getPk
  rw [if_neg (by omega), ← b0_beg hb i2, if_neg (by rw [i1]; decide)]
  have hd : hdC (putS P ++ t) = 129 := by
    unfold hdC
    have e := get_keeps hb 1 (by omega) (show (VP.get (putS P) ((1 : Nat) : Int)).2.2 ≠ 242 by rw [show VP.get (putS P) ((1 : Nat) : Int) = _ from i3]; show (0 : Int) ≠ 242; decide)
    have e' : VP.get (putS P ++ t) 1 = ((m : Int), (b : Int), 0) := e.trans i3
    rw [e', hs]
    show (if (0 : Int) = 0 then lenC (m : Int) ((((putS P).size + 1 : Nat) : Int) - (b : Int)) else 0) = 129
    rw [if_pos rfl]
    unfold lenC
    rw [if_neg (by omega), if_neg (by omega), if_pos (by omega)]
  rw [hd, if_pos (by decide)]
/-- With other flags a packet that is no Publish is none. -/
theorem flags_bad (P : Pk) (hc : putC P = 0) (h3 : P.kind ≠ 3) (t : ByteArray) (h0 : 0 < t.size) (hq : b0 t / 16 = b0 (putS P) / 16) (hr : b0 t % 16 ≠ b0 (putS P) % 16) : (getPk t).2 = 129 := by
  obtain ⟨m, b, i1, i2, _⟩ := getPk_inv (put_read P hc).1
  obtain ⟨_, hk, hb, hg⟩ := put_read P hc
  have n3 : b0 (putS P) / 16 ≠ 3 := fun h => by
    unfold begPk at hg
    rw [if_pos h] at hg
    exact h3 hg.symm
  have hbad : begOk (b0 t) = false := by
    unfold begOk at i1 ⊢
    rw [if_neg n3] at i1
    rw [hq, if_neg n3]
    rw [Bool.and_eq_true, beq_iff_eq] at i1
    rw [i1.1, Bool.true_and, beq_eq_false_iff_ne, ← i1.2]
    exact hr
  unfold getPk
  rw [if_neg (by omega), if_pos hbad]
end PK
end Go.Proofs.YtemfcaaoobjgkaaGreatDoor
