/- Plain functions behind topics: levels, what may be a name or a filter, what matches. No program is named here. -/
import Derived.Lib.Split
import Derived.Lib.SplitLaws
import Derived.Lib.Join
import Derived.Lib.JoinLaws
namespace Go.Proofs.YtcobklfimlblgaaDoor
namespace TP

/-- The pieces between slashes, x ahead of the first one. -/
def lvA : List UInt8 → List UInt8 → List (List UInt8)
  | x, [] => [x]
  | x, c :: t => if c = 47 then x :: lvA [] t else lvA (x ++ [c]) t
/-- The levels of bytes. -/
def lvL (l : List UInt8) : List (List UInt8) := lvA [] l
/-- Pieces with slashes between. -/
def jn (ls : List (List UInt8)) : List UInt8 := Go.Lib.join ls [47]

theorem lvA_nil (x : List UInt8) : lvA x [] = [x] := rfl
theorem lvA_slash (x t : List UInt8) : lvA x (47 :: t) = x :: lvL t := by rw [lvA, if_pos rfl]; rfl
theorem lvA_other (x t : List UInt8) (c : UInt8) (h : c ≠ 47) : lvA x (c :: t) = lvA (x ++ [c]) t := by rw [lvA, if_neg h]
theorem lvA_ne : ∀ (l x : List UInt8), lvA x l ≠ []
  | [], x => by simp [lvA]
  | c :: t, x => by
    unfold lvA
    split
    · simp
    · exact lvA_ne t _
theorem lvL_ne (l : List UInt8) : lvL l ≠ [] := lvA_ne l []
theorem lvA_pass : ∀ (a x t : List UInt8), (47 : UInt8) ∉ a → lvA x (a ++ t) = lvA (x ++ a) t
  | [], x, t, _ => by simp
  | c :: a, x, t, h => by
    have hc : c ≠ 47 := fun e => h (by simp [e])
    have ha : (47 : UInt8) ∉ a := fun e => h (by simp [e])
    rw [List.cons_append, lvA_other _ _ _ hc, lvA_pass a _ t ha]
    simp
theorem lvA_cut (a x t : List UInt8) (h : (47 : UInt8) ∉ a) : lvA x (a ++ 47 :: t) = (x ++ a) :: lvL t := by
  rw [lvA_pass a x _ h, lvA_slash]
theorem lvA_whole (a x : List UInt8) (h : (47 : UInt8) ∉ a) : lvA x a = [x ++ a] := by
  have := lvA_pass a x [] h
  rw [List.append_nil] at this
  rw [this, lvA_nil]
theorem lvA_app : ∀ (a x b : List UInt8), lvA x (a ++ 47 :: b) = lvA x a ++ lvL b
  | [], x, b => by rw [List.nil_append, lvA_slash, lvA_nil]; rfl
  | c :: a, x, b => by
    by_cases hc : c = 47
    · subst hc
      rw [List.cons_append, lvA_slash, lvA_slash, show lvL (a ++ 47 :: b) = lvL a ++ lvL b from lvA_app a [] b]; rfl
    · rw [List.cons_append, lvA_other _ _ _ hc, lvA_other _ _ _ hc, lvA_app a _ b]
theorem lvL_app (a b : List UInt8) : lvL (a ++ 47 :: b) = lvL a ++ lvL b := lvA_app a [] b
theorem lvA_head : ∀ (l x y : List UInt8), ∃ h r, lvA y l = (y ++ h) :: r ∧ lvA (x ++ y) l = (x ++ y ++ h) :: r
  | [], x, y => ⟨[], [], by simp [lvA], by simp [lvA]⟩
  | c :: t, x, y => by
    by_cases hc : c = 47
    · subst hc
      exact ⟨[], lvL t, by rw [lvA_slash]; simp, by rw [lvA_slash]; simp⟩
    · obtain ⟨h, r, e1, e2⟩ := lvA_head t x (y ++ [c])
      refine ⟨c :: h, r, ?_, ?_⟩
      · rw [lvA_other _ _ _ hc, e1]; simp
      · rw [lvA_other _ _ _ hc, show x ++ y ++ [c] = x ++ (y ++ [c]) by simp, e2]; simp
theorem lvA_mem : ∀ (l x : List UInt8), (47 : UInt8) ∉ x → ∀ p ∈ lvA x l, (47 : UInt8) ∉ p
  | [], x, hx, p, hp => by rw [lvA_nil] at hp; simp at hp; rw [hp]; exact hx
  | c :: t, x, hx, p, hp => by
    by_cases hc : c = 47
    · subst hc
      rw [lvA_slash] at hp
      rcases List.mem_cons.1 hp with rfl | hp
      · exact hx
      · exact lvA_mem t [] (by simp) p hp
    · rw [lvA_other _ _ _ hc] at hp
      refine lvA_mem t _ ?_ p hp
      intro e
      rcases List.mem_append.1 e with e | e
      · exact hx e
      · simp at e; exact hc e.symm
theorem lvL_mem (l : List UInt8) : ∀ p ∈ lvL l, (47 : UInt8) ∉ p := lvA_mem l [] (by simp)
theorem lvA_length : ∀ (l x : List UInt8), (lvA x l).length = l.count 47 + 1
  | [], x => rfl
  | c :: t, x => by
    by_cases hc : c = 47
    · subst hc
      rw [lvA_slash, List.length_cons, show (lvL t).length = _ from lvA_length t [], List.count_cons_self]
    · rw [lvA_other _ _ _ hc, lvA_length t, List.count_cons_of_ne hc]
theorem lvL_length (l : List UInt8) : (lvL l).length = l.count 47 + 1 := lvA_length l []

theorem jn_one (x : List UInt8) : jn [x] = x := Go.Lib.join_one x [47]
theorem jn_nil : jn [] = [] := rfl
theorem jn_cons (x : List UInt8) (r : List (List UInt8)) (h : r ≠ []) : jn (x :: r) = x ++ 47 :: jn r := by
  cases r with
  | nil => exact absurd rfl h
  | cons y r =>
    unfold jn
    rw [Go.Lib.join_cons, Go.Lib.join_cons]
    simp [Go.Lib.joinTail]
theorem jn_lvA : ∀ (l x : List UInt8), jn (lvA x l) = x ++ l
  | [], x => by rw [lvA_nil, jn_one]; simp
  | c :: t, x => by
    by_cases hc : c = 47
    · subst hc
      rw [lvA_slash, jn_cons _ _ (lvL_ne t), show jn (lvL t) = t from by have := jn_lvA t []; rw [List.nil_append] at this; exact this]
    · rw [lvA_other _ _ _ hc, jn_lvA t]; simp
theorem jn_lvL (l : List UInt8) : jn (lvL l) = l := by have := jn_lvA l []; rw [List.nil_append] at this; exact this
theorem lvL_jn : ∀ (ls : List (List UInt8)), ls ≠ [] → (∀ x ∈ ls, (47 : UInt8) ∉ x) → lvL (jn ls) = ls
  | [], h, _ => absurd rfl h
  | [x], _, hm => by rw [jn_one]; unfold lvL; rw [lvA_whole x [] (hm x (by simp))]; simp
  | x :: y :: r, _, hm => by
    rw [jn_cons _ _ (by simp)]
    unfold lvL
    rw [lvA_cut x [] _ (hm x (by simp)), lvL_jn (y :: r) (by simp) (fun z hz => hm z (by simp [hz]))]
    simp
theorem lvL_inj {a b : List UInt8} (h : lvL a = lvL b) : a = b := by rw [← jn_lvL a, ← jn_lvL b, h]
theorem jn_snoc : ∀ (ls : List (List UInt8)) (x : List UInt8), ls ≠ [] → jn (ls ++ [x]) = jn ls ++ 47 :: x
  | [], _, h => absurd rfl h
  | [y], x, _ => by rw [List.singleton_append, jn_cons _ _ (by simp), jn_one, jn_one]
  | y :: z :: r, x, _ => by
    rw [List.cons_append, jn_cons y ((z :: r) ++ [x]) (by simp), jn_snoc (z :: r) x (by simp), jn_cons y (z :: r) (by simp)]
    simp

/-! The library's Split and this. -/
theorem splitK_lv : ∀ (n : Nat) (l : List UInt8), l.length ≤ n → Go.Lib.splitK [47] 0 (l.count 47) l = lvL l := by
  intro n
  induction n with
  | zero =>
    intro l h
    have : l = [] := List.length_eq_zero_iff.1 (by omega)
    subst this
    rfl
  | succ n ih =>
    intro l h
    rcases Go.Lib.index_spec l [47] with ⟨h1, h2⟩ | ⟨i, h1, h2, h3, h4⟩
    · have hno : (47 : UInt8) ∉ l := by
        intro hm
        obtain ⟨j, hj, e⟩ := List.getElem_of_mem hm
        have := h2 j (by omega)
        rw [Go.Lib.occAt_iff_take _ _ _ (by simp; omega)] at this
        simp [List.drop_eq_getElem_cons hj, e] at this
      rw [List.count_eq_zero.2 hno]
      unfold lvL
      rw [lvA_whole l [] hno]
      rfl
    · have hi : i < l.length := by
        rcases Go.Lib.occAt_room h3 with h | h
        · simp at h; omega
        · simp at h
      have hc : l[i] = 47 := by
        have := Go.Lib.occAt_head (c := 47) (t := []) rfl h3
        rw [List.getElem?_eq_getElem hi] at this
        exact Option.some.inj this
      have hno : (47 : UInt8) ∉ l.take i := by
        intro hm
        obtain ⟨j, hj, e⟩ := List.getElem_of_mem hm
        rw [List.length_take] at hj
        rw [List.getElem_take] at e
        have := h4 j (by omega)
        rw [Go.Lib.occAt_iff_take _ _ _ (by simp; omega)] at this
        simp [List.drop_eq_getElem_cons (show j < l.length by omega), e] at this
      have hl : l = l.take i ++ 47 :: l.drop (i + 1) := by
        conv => lhs; rw [← List.take_append_drop i l, List.drop_eq_getElem_cons hi, hc]
      have hcount : l.count 47 = (l.drop (i + 1)).count 47 + 1 := by
        conv => lhs; rw [hl, List.count_append, List.count_eq_zero.2 hno, List.count_cons_self]
        omega
      rw [hcount]
      unfold Go.Lib.splitK
      rw [if_neg (by rw [h1, beq_iff_eq]; omega), h1]
      simp only [Int.toNat_natCast, Nat.add_zero, List.length_singleton]
      rw [ih (l.drop (i + 1)) (by rw [List.length_drop]; omega)]
      conv => rhs; rw [hl]; unfold lvL
      rw [lvA_cut _ [] _ hno]
      simp
theorem splitK_all (l : List UInt8) : Go.Lib.splitK [47] 0 (l.count 47) l = lvL l := splitK_lv l.length l (Nat.le_refl _)

/-- Bytes as a string. -/
def bs (l : List UInt8) : ByteArray := ⟨l.toArray⟩
theorem bs_data (l : List UInt8) : (bs l).data.toList = l := by simp [bs]
theorem bs_of (s : ByteArray) : bs s.data.toList = s := by cases s; simp [bs]
theorem bs_size (l : List UInt8) : (bs l).size = l.length := by simp [bs, ByteArray.size]
theorem bs_inj {a b : List UInt8} : bs a = bs b ↔ a = b := ⟨fun h => by rw [← bs_data a, ← bs_data b, h], fun h => by rw [h]⟩
theorem map_bs_data (l : List ByteArray) : (l.map (·.data.toList)).map bs = l := by
  rw [List.map_map]
  conv => rhs; rw [← List.map_id l]
  exact List.map_congr_left (fun x _ => bs_of x)
theorem map_data_bs (l : List (List UInt8)) : (l.map bs).map (·.data.toList) = l := by
  rw [List.map_map]
  conv => rhs; rw [← List.map_id l]
  exact List.map_congr_left (fun x _ => bs_data x)
/-- The levels of a string. -/
def lv (s : ByteArray) : List ByteArray := (lvL s.data.toList).map bs
theorem countB_slash (s : ByteArray) : Go.Lib.countB s ⟨#[47]⟩ = s.data.toList.count 47 := Go.Lib.count_one 47 _
theorem splitB_lv (s : ByteArray) : Go.Lib.splitB ⟨#[47]⟩ 0 (Go.Lib.countB s ⟨#[47]⟩) s = lv s := by
  have h := Go.Lib.splitB_data ⟨#[47]⟩ 0 (Go.Lib.countB s ⟨#[47]⟩) s
  rw [countB_slash] at h ⊢
  have h2 : Go.Lib.splitK (ByteArray.data ⟨#[47]⟩).toList 0 (s.data.toList.count 47) s.data.toList = lvL s.data.toList := splitK_all _
  rw [h2] at h
  unfold lv
  rw [← h, map_bs_data]
theorem lv_length (s : ByteArray) : (lv s).length = s.data.toList.count 47 + 1 := by unfold lv; rw [List.length_map, lvL_length]

end TP
end Go.Proofs.YtcobklfimlblgaaDoor
