/- How errors lie in memory: the program's values, and the document's records. -/
import Derived.Test.YteacjahncngoiaaDoorProg
import Derived.Test.YteacjahncngoiaaDoorFaPure
import Derived.Below
import Derived.WalkKit
namespace Go.Proofs.YteacjahncngoiaaDoor
open Go.RowKit FA

mutual
/-- The value v is the error, all of it in blocks below B. -/
def RepE (w : World) (B : Nat) : E → Value → Prop
  | .leaf c s, v => ∃ b, v = .iface 47 (.pointer (some ⟨b, 0, none⟩)) ∧ b < B ∧ w.heap[b]? = some (.cells #[.int .u8 c, .string s, .nilIface] 51 (0, 0))
  | .wrap c s k, v => ∃ b u, v = .iface 47 (.pointer (some ⟨b, 0, none⟩)) ∧ b < B ∧ w.heap[b]? = some (.cells #[.int .u8 c, .string s, u] 51 (0, 0)) ∧ RepE w B k u
  | .many l, v => ∃ b g cap us, v = .iface 90 (.pointer (some ⟨b, 0, none⟩)) ∧ b < B ∧ w.heap[b]? = some (.cells #[.slice (some ⟨g, 0, none⟩) l.length cap] 92 (0, 0)) ∧ g < B ∧ 0 < l.length ∧ l.length ≤ cap ∧ cap ≤ maxLen ∧ (∀ i u, us[i]? = some u → w.cell? ⟨g, i, none⟩ = some u) ∧ RepL w B l us
  | .other s, v => ∃ b, v = .iface 93 (.pointer (some ⟨b, 0, none⟩)) ∧ b < B ∧ w.heap[b]? = some (.cells #[.string s] 95 (0, 0))
def RepL (w : World) (B : Nat) : List E → List Value → Prop
  | [], us => us = []
  | e :: l, us => ∃ u us', us = u :: us' ∧ RepE w B e u ∧ RepL w B l us'
end

mutual
theorem RepE.below {w w' : World} {B : Nat} (hb : Below B w w') : ∀ (e : E) (v : Value), RepE w B e v → RepE w' B e v
  | .leaf c s, v, h => by
    simp only [RepE] at h ⊢
    obtain ⟨b, rfl, hlt, hh⟩ := h
    exact ⟨b, rfl, hlt, (hb.block b hlt).trans hh⟩
  | .wrap c s k, v, h => by
    simp only [RepE] at h ⊢
    obtain ⟨b, u, rfl, hlt, hh, hk⟩ := h
    exact ⟨b, u, rfl, hlt, (hb.block b hlt).trans hh, RepE.below hb k u hk⟩
  | .many l, v, h => by
    simp only [RepE] at h ⊢
    obtain ⟨b, g, cap, us, rfl, hlt, hh, hg, hl0, hlc, hc, hus, hl⟩ := h
    exact ⟨b, g, cap, us, rfl, hlt, (hb.block b hlt).trans hh, hg, hl0, hlc, hc, fun i u hu => (hb.cell (p := ⟨g, i, none⟩) hg).trans (hus i u hu), RepL.below hb l us hl⟩
  | .other s, v, h => by
    simp only [RepE] at h ⊢
    obtain ⟨b, rfl, hlt, hh⟩ := h
    exact ⟨b, rfl, hlt, (hb.block b hlt).trans hh⟩
theorem RepL.below {w w' : World} {B : Nat} (hb : Below B w w') : ∀ (l : List E) (us : List Value), RepL w B l us → RepL w' B l us
  | [], us, h => h
  | e :: l, us, h => by
    simp only [RepL] at h ⊢
    obtain ⟨u, us', rfl, he, hl⟩ := h
    exact ⟨u, us', rfl, RepE.below hb e u he, RepL.below hb l us' hl⟩
end

mutual
theorem RepE.more {w : World} {B B' : Nat} (hb : B ≤ B') : ∀ (e : E) (v : Value), RepE w B e v → RepE w B' e v
  | .leaf c s, v, h => by
    simp only [RepE] at h ⊢
    obtain ⟨b, rfl, hlt, hh⟩ := h
    exact ⟨b, rfl, by omega, hh⟩
  | .wrap c s k, v, h => by
    simp only [RepE] at h ⊢
    obtain ⟨b, u, rfl, hlt, hh, hk⟩ := h
    exact ⟨b, u, rfl, by omega, hh, RepE.more hb k u hk⟩
  | .many l, v, h => by
    simp only [RepE] at h ⊢
    obtain ⟨b, g, cap, us, rfl, hlt, hh, hg, hl0, hlc, hc, hus, hl⟩ := h
    exact ⟨b, g, cap, us, rfl, by omega, hh, by omega, hl0, hlc, hc, hus, RepL.more hb l us hl⟩
  | .other s, v, h => by
    simp only [RepE] at h ⊢
    obtain ⟨b, rfl, hlt, hh⟩ := h
    exact ⟨b, rfl, by omega, hh⟩
theorem RepL.more {w : World} {B B' : Nat} (hb : B ≤ B') : ∀ (l : List E) (us : List Value), RepL w B l us → RepL w B' l us
  | [], us, h => h
  | e :: l, us, h => by
    simp only [RepL] at h ⊢
    obtain ⟨u, us', rfl, he, hl⟩ := h
    exact ⟨u, us', rfl, RepE.more hb e u he, RepL.more hb l us' hl⟩
end

theorem RepL.length {w : World} {B : Nat} : ∀ {l : List E} {us : List Value}, RepL w B l us → us.length = l.length
  | [], us, h => by simp only [RepL] at h; subst h; rfl
  | e :: l, us, h => by
    simp only [RepL] at h
    obtain ⟨u, us', rfl, _, hl⟩ := h
    simp [RepL.length hl]
theorem RepL.at_ {w : World} {B : Nat} : ∀ {l : List E} {us : List Value} {i : Nat} {e : E}, RepL w B l us → l[i]? = some e → ∃ u, us[i]? = some u ∧ RepE w B e u
  | [], us, i, e, h, he => by simp at he
  | a :: l, us, i, e, h, he => by
    simp only [RepL] at h
    obtain ⟨u, us', rfl, ha, hl⟩ := h
    cases i with
    | zero => simp at he; subst he; exact ⟨u, by simp, ha⟩
    | succ i => simp at he; obtain ⟨u', h1, h2⟩ := RepL.at_ hl he; exact ⟨u', by simpa using h1, h2⟩
theorem RepL.of {w : World} {B : Nat} : ∀ {l : List E} {us : List Value}, us.length = l.length → (∀ (i : Nat) e u, l[i]? = some e → us[i]? = some u → RepE w B e u) → RepL w B l us
  | [], us, hl, _ => by simp only [RepL]; exact List.eq_nil_of_length_eq_zero hl
  | e :: l, [], hl, _ => by simp at hl
  | e :: l, u :: us, hl, h => by
    simp only [RepL]
    exact ⟨u, us, rfl, h 0 e u (by simp) (by simp), RepL.of (by simpa using hl) fun i e' u' h1 h2 => h (i + 1) e' u' (by simpa using h1) (by simpa using h2)⟩

/-- An error that may be nil. -/
def RepO (w : World) (B : Nat) : Option E → Value → Prop
  | none, v => v = .nilIface
  | some e, v => RepE w B e v
theorem RepO.below {w w' : World} {B : Nat} (hb : Below B w w') {x : Option E} {v : Value} (h : RepO w B x v) : RepO w' B x v := by
  cases x with
  | none => exact h
  | some e => exact RepE.below hb e v h
theorem RepO.more {w : World} {B B' : Nat} (hb : B ≤ B') {x : Option E} {v : Value} (h : RepO w B x v) : RepO w B' x v := by
  cases x with
  | none => exact h
  | some e => exact RepE.more hb e v h

/-- Every error's value is an interface's. -/
theorem RepE.iface {w : World} {B : Nat} {e : E} {v : Value} (h : RepE w B e v) : ∃ t b, v = .iface t (.pointer (some ⟨b, 0, none⟩)) := by
  cases e with
  | leaf c s => simp only [RepE] at h; obtain ⟨b, rfl, _⟩ := h; exact ⟨_, _, rfl⟩
  | wrap c s k => simp only [RepE] at h; obtain ⟨b, u, rfl, _⟩ := h; exact ⟨_, _, rfl⟩
  | many l => simp only [RepE] at h; obtain ⟨b, g, cap, us, rfl, _⟩ := h; exact ⟨_, _, rfl⟩
  | other s => simp only [RepE] at h; obtain ⟨b, rfl, _⟩ := h; exact ⟨_, _, rfl⟩

/-- The document's record of an error, at a place of a block; x is its list of kids. -/
def Row4 (w : World) (g o : Nat) (e : E) (x : Value) : Prop :=
  w.cell? ⟨g, o, none⟩ = some (.int .i64 (kind e)) ∧ w.cell? ⟨g, o + 1, none⟩ = some (.int .i64 (cd e)) ∧ w.cell? ⟨g, o + 2, none⟩ = some (.string (wh e)) ∧ w.cell? ⟨g, o + 3, none⟩ = some x

mutual
def RepR (w : World) (B : Nat) : E → Value → Prop
  | .leaf _ _, x => x = .slice none 0 0
  | .wrap _ _ k, x => ∃ g cap, x = .slice (some ⟨g, 0, none⟩) 1 cap ∧ g < B ∧ ∃ y, Row4 w g 0 k y ∧ RepR w B k y
  | .many l, x => ∃ g cap, x = .slice (some ⟨g, 0, none⟩) l.length cap ∧ g < B ∧ l.length ≤ maxLen ∧ RepRL w B g 0 l
  | .other _, x => x = .slice none 0 0
def RepRL (w : World) (B g : Nat) : Nat → List E → Prop
  | _, [] => True
  | i, e :: l => (∃ y, Row4 w g (i * 4) e y ∧ RepR w B e y) ∧ RepRL w B g (i + 1) l
end

theorem Row4.below {w w' : World} {B g o : Nat} {e : E} {x : Value} (hb : Below B w w') (hg : g < B) (h : Row4 w g o e x) : Row4 w' g o e x :=
  ⟨(hb.cell (p := ⟨g, o, none⟩) hg).trans h.1, (hb.cell (p := ⟨g, o + 1, none⟩) hg).trans h.2.1, (hb.cell (p := ⟨g, o + 2, none⟩) hg).trans h.2.2.1, (hb.cell (p := ⟨g, o + 3, none⟩) hg).trans h.2.2.2⟩

mutual
theorem RepR.below {w w' : World} {B : Nat} (hb : Below B w w') : ∀ (e : E) (x : Value), RepR w B e x → RepR w' B e x
  | .leaf _ _, x, h => h
  | .wrap _ _ k, x, h => by
    simp only [RepR] at h ⊢
    obtain ⟨g, cap, rfl, hg, y, h4, hk⟩ := h
    exact ⟨g, cap, rfl, hg, y, h4.below hb hg, RepR.below hb k y hk⟩
  | .many l, x, h => by
    simp only [RepR] at h ⊢
    obtain ⟨g, cap, rfl, hg, hm, hl⟩ := h
    exact ⟨g, cap, rfl, hg, hm, RepRL.below hb hg 0 l hl⟩
  | .other _, x, h => h
theorem RepRL.below {w w' : World} {B g : Nat} (hb : Below B w w') (hg : g < B) : ∀ (i : Nat) (l : List E), RepRL w B g i l → RepRL w' B g i l
  | _, [], _ => trivial
  | i, e :: l, h => by
    simp only [RepRL] at h ⊢
    obtain ⟨⟨y, h4, he⟩, hl⟩ := h
    exact ⟨⟨y, h4.below hb hg, RepR.below hb e y he⟩, RepRL.below hb hg (i + 1) l hl⟩
end
mutual
theorem RepR.more {w : World} {B B' : Nat} (hb : B ≤ B') : ∀ (e : E) (x : Value), RepR w B e x → RepR w B' e x
  | .leaf _ _, x, h => h
  | .wrap _ _ k, x, h => by
    simp only [RepR] at h ⊢
    obtain ⟨g, cap, rfl, hg, y, h4, hk⟩ := h
    exact ⟨g, cap, rfl, by omega, y, h4, RepR.more hb k y hk⟩
  | .many l, x, h => by
    simp only [RepR] at h ⊢
    obtain ⟨g, cap, rfl, hg, hm, hl⟩ := h
    exact ⟨g, cap, rfl, by omega, hm, RepRL.more hb 0 l hl⟩
  | .other _, x, h => h
theorem RepRL.more {w : World} {B B' g : Nat} (hb : B ≤ B') : ∀ (i : Nat) (l : List E), RepRL w B g i l → RepRL w B' g i l
  | _, [], _ => trivial
  | i, e :: l, h => by
    simp only [RepRL] at h ⊢
    obtain ⟨⟨y, h4, he⟩, hl⟩ := h
    exact ⟨⟨y, h4, RepR.more hb e y he⟩, RepRL.more hb (i + 1) l hl⟩
end
theorem RepRL.at_ {w : World} {B g : Nat} : ∀ {l : List E} {j i : Nat} {e : E}, RepRL w B g j l → l[i]? = some e → ∃ y, Row4 w g ((j + i) * 4) e y ∧ RepR w B e y
  | [], j, i, e, h, he => by simp at he
  | a :: l, j, i, e, h, he => by
    simp only [RepRL] at h
    obtain ⟨⟨y, h4, ha⟩, hl⟩ := h
    cases i with
    | zero => simp at he; subst he; exact ⟨y, h4, ha⟩
    | succ i =>
      simp at he
      obtain ⟨y', h1, h2⟩ := RepRL.at_ hl he
      exact ⟨y', by rw [show j + (i + 1) = j + 1 + i by omega]; exact h1, h2⟩
theorem RepRL.of {w : World} {B g : Nat} : ∀ {l : List E} {j : Nat}, (∀ (i : Nat) e, l[i]? = some e → ∃ y, Row4 w g ((j + i) * 4) e y ∧ RepR w B e y) → RepRL w B g j l
  | [], j, _ => trivial
  | e :: l, j, h => by
    simp only [RepRL]
    exact ⟨h 0 e (by simp), RepRL.of fun i e' h1 => by
      have := h (i + 1) e' (by simpa using h1)
      rwa [show j + (i + 1) = j + 1 + i by omega] at this⟩

/-- The kids of a record, told one by one. -/
def Kids (w : World) (B : Nat) (l : List E) (x : Value) : Prop :=
  l.length ≤ maxLen ∧ ∃ A cap, x = .slice A l.length cap ∧ ∀ (i : Nat) e, l[i]? = some e → ∃ g y, A = some ⟨g, 0, none⟩ ∧ g < B ∧ Row4 w g (i * 4) e y ∧ RepR w B e y
theorem RepR.kids {w : World} {B : Nat} {e : E} {x : Value} (h : RepR w B e x) : Kids w B (kids e) x := by
  cases e with
  | leaf c s => simp only [RepR] at h; subst h; exact ⟨by simp [FA.kids], none, 0, rfl, fun i e he => by simp [FA.kids] at he⟩
  | other s => simp only [RepR] at h; subst h; exact ⟨by simp [FA.kids], none, 0, rfl, fun i e he => by simp [FA.kids] at he⟩
  | wrap c s k =>
    simp only [RepR] at h
    obtain ⟨g, cap, rfl, hg, y, h4, hk⟩ := h
    refine ⟨by simp [FA.kids, maxLen], some ⟨g, 0, none⟩, cap, rfl, fun i e he => ?_⟩
    cases i with
    | zero => simp [FA.kids] at he; subst he; exact ⟨g, y, rfl, hg, h4, hk⟩
    | succ i => simp [FA.kids] at he
  | many l =>
    simp only [RepR] at h
    obtain ⟨g, cap, rfl, hg, hm, hl⟩ := h
    refine ⟨hm, some ⟨g, 0, none⟩, cap, rfl, fun i e he => ?_⟩
    obtain ⟨y, h1, h2⟩ := RepRL.at_ hl he
    exact ⟨g, y, rfl, hg, by simpa using h1, h2⟩

/-- A record that may be of none. -/
def kindO : Option E → Nat | none => 0 | some e => kind e
def cdO : Option E → Nat | none => 0 | some e => cd e
def whO : Option E → ByteArray | none => ⟨#[]⟩ | some e => wh e
def RepRO (w : World) (B : Nat) : Option E → Value → Prop
  | none, x => x = .slice none 0 0
  | some e, x => RepR w B e x
theorem RepRO.below {w w' : World} {B : Nat} (hb : Below B w w') {x : Option E} {v : Value} (h : RepRO w B x v) : RepRO w' B x v := by
  cases x with
  | none => exact h
  | some e => exact RepR.below hb e v h
theorem RepRO.more {w : World} {B B' : Nat} (hb : B ≤ B') {x : Option E} {v : Value} (h : RepRO w B x v) : RepRO w B' x v := by
  cases x with
  | none => exact h
  | some e => exact RepR.more hb e v h
theorem RepRO.slice {w : World} {B : Nat} {x : Option E} {v : Value} (h : RepRO w B x v) : ∃ A n cap, v = .slice A n cap := by
  cases x with
  | none => exact ⟨_, _, _, h⟩
  | some e => obtain ⟨_, A, cap, h, _⟩ := RepR.kids (e := e) h; exact ⟨_, _, _, h⟩
def recO (x : Option E) (v : Value) : Value := .agg #[.int .i64 (kindO x), .int .i64 (cdO x), .string (whO x), v]

theorem kind_le (e : E) : 1 ≤ kind e ∧ kind e ≤ 3 := by cases e <;> simp [kind]

end Go.Proofs.YteacjahncngoiaaDoor
