/- Errors as trees of plain data: what is asked of them, by recursion. No function of the program is named here. -/
import Derived.Lib.Hide
namespace Go.Proofs.YteacjahncngoiaaDoor
namespace FA

/-- An error that is not nil: a fault without a cause, one with a cause, joined ones, any other one. -/
inductive E where
  | leaf (c : Nat) (s : ByteArray)
  | wrap (c : Nat) (s : ByteArray) (k : E)
  | many (l : List E)
  | other (s : ByteArray)

mutual
def sz : E → Nat
  | .leaf _ _ => 1
  | .wrap _ _ k => 1 + sz k
  | .many l => 1 + szL l
  | .other _ => 1
def szL : List E → Nat
  | [] => 0
  | e :: l => sz e + szL l
end

def cd : E → Nat
  | .leaf c _ => c
  | .wrap c _ _ => c
  | .many _ => 0
  | .other _ => 0
def kind : E → Nat
  | .leaf _ _ => 1
  | .wrap _ _ _ => 1
  | .many _ => 2
  | .other _ => 3
def wh : E → ByteArray
  | .leaf _ s => s
  | .wrap _ s _ => s
  | .many _ => ⟨#[]⟩
  | .other s => s
def kids : E → List E
  | .leaf _ _ => []
  | .wrap _ _ k => [k]
  | .many l => l
  | .other _ => []

mutual
/-- The first fault. -/
def ff : E → Option E
  | .leaf c s => some (.leaf c s)
  | .wrap c s k => some (.wrap c s k)
  | .many l => ffL l
  | .other _ => none
def ffL : List E → Option E
  | [] => none
  | e :: l => match ff e with
    | some f => some f
    | none => ffL l
end
def code (e : E) : Nat := match ff e with
  | some f => cd f
  | none => 128

mutual
def has (c : Nat) : E → Bool
  | .leaf d _ => d == c
  | .wrap d _ k => d == c || has c k
  | .many l => hasL c l
  | .other _ => false
def hasL (c : Nat) : List E → Bool
  | [] => false
  | e :: l => has c e || hasL c l
end

mutual
def path : E → List ByteArray
  | .leaf _ s => [s]
  | .wrap _ s k => s :: path k
  | .many l => pathL l
  | .other _ => []
def pathL : List E → List ByteArray
  | [] => []
  | e :: _ => path e
end

/-- The digits of a code. -/
def dec (n : Nat) : List UInt8 := if n < 10 then [UInt8.ofNat (48 + n)] else if n < 100 then [UInt8.ofNat (48 + n / 10), UInt8.ofNat (48 + n % 10)] else [UInt8.ofNat (48 + n / 100), UInt8.ofNat (48 + n / 10 % 10), UInt8.ofNat (48 + n % 10)]
def sep (b : Bool) : List UInt8 := if b then [59, 32] else []
mutual
def text : E → List UInt8
  | .leaf c s => s.data.toList ++ ([58, 32] ++ dec c)
  | .wrap _ s k => s.data.toList ++ ([58, 32] ++ text k)
  | .many l => textL false l
  | .other s => s.data.toList
def textL (b : Bool) : List E → List UInt8
  | [] => []
  | e :: l => sep b ++ (text e ++ textL true l)
end

mutual
def Good : E → Prop
  | .leaf c s => c < 256 ∧ s.size ≤ 50
  | .wrap c s k => c < 256 ∧ s.size ≤ 50 ∧ c = code k ∧ Good k
  | .many l => GoodL l
  | .other s => s.size ≤ 50
def GoodL : List E → Prop
  | [] => True
  | e :: l => Good e ∧ GoodL l
end

theorem sz_pos (e : E) : 0 < sz e := by cases e <;> simp [sz] <;> omega

theorem szL_mem {l : List E} {e : E} (h : e ∈ l) : sz e ≤ szL l := by
  induction l with
  | nil => cases h
  | cons a l ih =>
    rcases List.mem_cons.1 h with rfl | h
    · simp [szL]
    · have := ih h; simp [szL]; omega

theorem GoodL_mem {l : List E} {e : E} (hl : GoodL l) (h : e ∈ l) : Good e := by
  induction l with
  | nil => cases h
  | cons a l ih =>
    rcases List.mem_cons.1 h with rfl | h
    · exact hl.1
    · exact ih hl.2 h

theorem GoodL_of {l : List E} (h : ∀ e ∈ l, Good e) : GoodL l := by
  induction l with
  | nil => trivial
  | cons a l ih => exact ⟨h a (.head _), ih fun e he => h e (.tail _ he)⟩

theorem kids_sz {e k : E} (h : k ∈ kids e) : sz k < sz e := by
  cases e with
  | leaf c s => cases h
  | other s => cases h
  | wrap c s k' => simp [kids] at h; subst h; simp [sz]
  | many l => have := szL_mem (show k ∈ l from h); simp [sz]; omega

theorem kids_good {e k : E} (hg : Good e) (h : k ∈ kids e) : Good k := by
  cases e with
  | leaf c s => cases h
  | other s => cases h
  | wrap c s k' => simp [kids] at h; subst h; exact hg.2.2.2
  | many l => exact GoodL_mem hg h

theorem dec_len (n : Nat) : (dec n).length ≤ 3 := by
  unfold dec
  split
  · simp
  · split <;> simp
theorem sep_len (b : Bool) : (sep b).length ≤ 2 := by cases b <;> simp [sep]

mutual
theorem text_len : ∀ e : E, Good e → (text e).length + 2 ≤ 60 * sz e
  | .leaf c s, h => by
    have := dec_len c
    have h2 : s.data.toList.length ≤ 50 := h.2
    simp only [text, List.length_append, sz, List.length_cons, List.length_nil]; omega
  | .wrap c s k, h => by
    have := text_len k h.2.2.2
    have h2 : s.data.toList.length ≤ 50 := h.2.1
    simp only [text, List.length_append, sz, List.length_cons, List.length_nil]; omega
  | .many l, h => by
    have := textL_len false l h
    simp only [text, sz]; omega
  | .other s, h => by
    have h2 : s.data.toList.length ≤ 50 := h
    simp only [text, sz]; omega
theorem textL_len : ∀ (b : Bool) (l : List E), GoodL l → (textL b l).length ≤ 60 * szL l
  | b, [], _ => by simp [textL]
  | b, e :: l, h => by
    have h1 := text_len e h.1
    have h2 := textL_len true l h.2
    have h3 := sep_len b
    simp only [textL, List.length_append, szL]; omega
end

theorem drop_at {l : List E} {k : Nat} {e : E} (h : l[k]? = some e) : l.drop k = e :: l.drop (k + 1) := by
  obtain ⟨hk, he⟩ := List.getElem?_eq_some_iff.1 h
  rw [List.drop_eq_getElem_cons hk, he]
theorem ffL_yes {l : List E} {k : Nat} {e f : E} (h : l[k]? = some e) (hf : ff e = some f) : ffL (l.drop k) = some f := by rw [drop_at h, ffL, hf]
theorem ffL_no {l : List E} {k : Nat} {e : E} (h : l[k]? = some e) (hf : ff e = none) : ffL (l.drop k) = ffL (l.drop (k + 1)) := by rw [drop_at h, ffL, hf]
theorem ffL_end (l : List E) : ffL (l.drop l.length) = none := by rw [List.drop_length, ffL]
theorem hasL_at {c : Nat} {l : List E} {k : Nat} {e : E} (h : l[k]? = some e) : hasL c (l.drop k) = (has c e || hasL c (l.drop (k + 1))) := by rw [drop_at h, hasL]
theorem hasL_end (c : Nat) (l : List E) : hasL c (l.drop l.length) = false := by rw [List.drop_length, hasL]
theorem textL_at {b : Bool} {l : List E} {k : Nat} {e : E} (h : l[k]? = some e) : textL b (l.drop k) = sep b ++ (text e ++ textL true (l.drop (k + 1))) := by rw [drop_at h, textL]
theorem textL_end (b : Bool) (l : List E) : textL b (l.drop l.length) = [] := by rw [List.drop_length, textL]
end FA
end Go.Proofs.YteacjahncngoiaaDoor
