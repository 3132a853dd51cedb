/- Errors in memory, in blocks that a condition names: so that other rows may grow in place. -/
import Derived.Test.YteacjahncngoiaaDoorFaRep
import Derived.Test.YteacjahncngoiaaDoorFaNew
namespace Go.Proofs.YteacjahncngoiaaDoor
open Go.RowKit FA

mutual
/-- The value v is the error, all of it in blocks of which Q is true. -/
def RepQ (w : World) (Q : Nat → Prop) : E → Value → Prop
  | .leaf c s, v => ∃ b, v = .iface 47 (.pointer (some ⟨b, 0, none⟩)) ∧ Q b ∧ w.heap[b]? = some (.cells #[.int .u8 c, .string s, .nilIface] 51 (0, 0))
  | .wrap c s k, v => ∃ b u, v = .iface 47 (.pointer (some ⟨b, 0, none⟩)) ∧ Q b ∧ w.heap[b]? = some (.cells #[.int .u8 c, .string s, u] 51 (0, 0)) ∧ RepQ w Q k u
  | .many l, v => ∃ b g cap us, v = .iface 90 (.pointer (some ⟨b, 0, none⟩)) ∧ Q b ∧ w.heap[b]? = some (.cells #[.slice (some ⟨g, 0, none⟩) l.length cap] 92 (0, 0)) ∧ Q g ∧ 0 < l.length ∧ l.length ≤ cap ∧ cap ≤ maxLen ∧ (∀ i u, us[i]? = some u → w.cell? ⟨g, i, none⟩ = some u) ∧ RepQL w Q l us
  | .other s, v => ∃ b, v = .iface 93 (.pointer (some ⟨b, 0, none⟩)) ∧ Q b ∧ w.heap[b]? = some (.cells #[.string s] 95 (0, 0))
def RepQL (w : World) (Q : Nat → Prop) : List E → List Value → Prop
  | [], us => us = []
  | e :: l, us => ∃ u us', us = u :: us' ∧ RepQ w Q e u ∧ RepQL w Q l us'
end

/-- What of Q's blocks holds there, holds here. -/
def Moves (w w' : World) (Q Q' : Nat → Prop) : Prop := ∀ b, Q b → Q' b ∧ w'.heap[b]? = w.heap[b]?
theorem Moves.cell {w w' : World} {Q Q' : Nat → Prop} (h : Moves w w' Q Q') {p : Addr} (hp : Q p.block) : w'.cell? p = w.cell? p := World.cell?_of_block (w := w) (h p.block hp).2

mutual
theorem RepQ.move {w w' : World} {Q Q' : Nat → Prop} (hm : Moves w w' Q Q') : ∀ (e : E) (v : Value), RepQ w Q e v → RepQ w' Q' e v
  | .leaf c s, v, h => by
    simp only [RepQ] at h ⊢
    obtain ⟨b, rfl, hq, hh⟩ := h
    exact ⟨b, rfl, (hm b hq).1, (hm b hq).2.trans hh⟩
  | .wrap c s k, v, h => by
    simp only [RepQ] at h ⊢
    obtain ⟨b, u, rfl, hq, hh, hk⟩ := h
    exact ⟨b, u, rfl, (hm b hq).1, (hm b hq).2.trans hh, RepQ.move hm k u hk⟩
  | .many l, v, h => by
    simp only [RepQ] at h ⊢
    obtain ⟨b, g, cap, us, rfl, hq, hh, hg, hl0, hlc, hc, hus, hl⟩ := h
    exact ⟨b, g, cap, us, rfl, (hm b hq).1, (hm b hq).2.trans hh, (hm g hg).1, hl0, hlc, hc, fun i u hu => (hm.cell (p := ⟨g, i, none⟩) hg).trans (hus i u hu), RepQL.move hm l us hl⟩
  | .other s, v, h => by
    simp only [RepQ] at h ⊢
    obtain ⟨b, rfl, hq, hh⟩ := h
    exact ⟨b, rfl, (hm b hq).1, (hm b hq).2.trans hh⟩
theorem RepQL.move {w w' : World} {Q Q' : Nat → Prop} (hm : Moves w w' Q Q') : ∀ (l : List E) (us : List Value), RepQL w Q l us → RepQL w' Q' l us
  | [], us, h => h
  | e :: l, us, h => by
    simp only [RepQL] at h ⊢
    obtain ⟨u, us', rfl, he, hl⟩ := h
    exact ⟨u, us', rfl, RepQ.move hm e u he, RepQL.move hm l us' hl⟩
end

mutual
theorem RepQ.toB {w : World} {Q : Nat → Prop} {B : Nat} (hB : ∀ b, Q b → b < B) : ∀ (e : E) (v : Value), RepQ w Q e v → RepE w B e v
  | .leaf c s, v, h => by
    simp only [RepQ] at h
    simp only [RepE]
    obtain ⟨b, rfl, hq, hh⟩ := h
    exact ⟨b, rfl, hB b hq, hh⟩
  | .wrap c s k, v, h => by
    simp only [RepQ] at h
    simp only [RepE]
    obtain ⟨b, u, rfl, hq, hh, hk⟩ := h
    exact ⟨b, u, rfl, hB b hq, hh, RepQ.toB hB k u hk⟩
  | .many l, v, h => by
    simp only [RepQ] at h
    simp only [RepE]
    obtain ⟨b, g, cap, us, rfl, hq, hh, hg, hl0, hlc, hc, hus, hl⟩ := h
    exact ⟨b, g, cap, us, rfl, hB b hq, hh, hB g hg, hl0, hlc, hc, hus, RepQL.toB hB l us hl⟩
  | .other s, v, h => by
    simp only [RepQ] at h
    simp only [RepE]
    obtain ⟨b, rfl, hq, hh⟩ := h
    exact ⟨b, rfl, hB b hq, hh⟩
theorem RepQL.toB {w : World} {Q : Nat → Prop} {B : Nat} (hB : ∀ b, Q b → b < B) : ∀ (l : List E) (us : List Value), RepQL w Q l us → RepL w B l us
  | [], us, h => h
  | e :: l, us, h => by
    simp only [RepQL] at h
    simp only [RepL]
    obtain ⟨u, us', rfl, he, hl⟩ := h
    exact ⟨u, us', rfl, RepQ.toB hB e u he, RepQL.toB hB l us' hl⟩
end

def RepQO (w : World) (Q : Nat → Prop) : Option E → Value → Prop
  | none, v => v = .nilIface
  | some e, v => RepQ w Q e v
theorem RepQO.move {w w' : World} {Q Q' : Nat → Prop} (hm : Moves w w' Q Q') {x : Option E} {v : Value} (h : RepQO w Q x v) : RepQO w' Q' x v := by
  cases x with
  | none => exact h
  | some e => exact RepQ.move hm e v h
theorem RepQO.toB {w : World} {Q : Nat → Prop} {B : Nat} (hB : ∀ b, Q b → b < B) {x : Option E} {v : Value} (h : RepQO w Q x v) : RepO w B x v := by
  cases x with
  | none => exact h
  | some e => exact RepQ.toB hB e v h
theorem RepQL.of_pairs {w : World} {Q : Nat → Prop} : ∀ {pp : List (E × Value)}, (∀ p ∈ pp, RepQ w Q p.1 p.2) → RepQL w Q (pp.map Prod.fst) (pp.map Prod.snd)
  | [], _ => rfl
  | p :: pp, h => by
    simp only [List.map_cons, RepQL]
    exact ⟨p.2, _, rfl, h p (.head _), RepQL.of_pairs fun q hq => h q (.tail _ hq)⟩

mutual
def RepRQ (w : World) (Q : Nat → Prop) : E → Value → Prop
  | .leaf _ _, x => x = .slice none 0 0
  | .wrap _ _ k, x => ∃ g cap, x = .slice (some ⟨g, 0, none⟩) 1 cap ∧ Q g ∧ ∃ y, Row4 w g 0 k y ∧ RepRQ w Q k y
  | .many l, x => ∃ g cap, x = .slice (some ⟨g, 0, none⟩) l.length cap ∧ Q g ∧ l.length ≤ maxLen ∧ RepRQL w Q g 0 l
  | .other _, x => x = .slice none 0 0
def RepRQL (w : World) (Q : Nat → Prop) (g : Nat) : Nat → List E → Prop
  | _, [] => True
  | i, e :: l => (∃ y, Row4 w g (i * 4) e y ∧ RepRQ w Q e y) ∧ RepRQL w Q g (i + 1) l
end
theorem Row4.move {w w' : World} {Q Q' : Nat → Prop} {g o : Nat} {e : E} {x : Value} (hm : Moves w w' Q Q') (hg : Q g) (h : Row4 w g o e x) : Row4 w' g o e x :=
  ⟨(hm.cell (p := ⟨g, o, none⟩) hg).trans h.1, (hm.cell (p := ⟨g, o + 1, none⟩) hg).trans h.2.1, (hm.cell (p := ⟨g, o + 2, none⟩) hg).trans h.2.2.1, (hm.cell (p := ⟨g, o + 3, none⟩) hg).trans h.2.2.2⟩
mutual
theorem RepRQ.move {w w' : World} {Q Q' : Nat → Prop} (hm : Moves w w' Q Q') : ∀ (e : E) (x : Value), RepRQ w Q e x → RepRQ w' Q' e x
  | .leaf _ _, x, h => h
  | .wrap _ _ k, x, h => by
    simp only [RepRQ] at h ⊢
    obtain ⟨g, cap, rfl, hg, y, h4, hk⟩ := h
    exact ⟨g, cap, rfl, (hm g hg).1, y, h4.move hm hg, RepRQ.move hm k y hk⟩
  | .many l, x, h => by
    simp only [RepRQ] at h ⊢
    obtain ⟨g, cap, rfl, hg, hl0, hl⟩ := h
    exact ⟨g, cap, rfl, (hm g hg).1, hl0, RepRQL.move hm hg 0 l hl⟩
  | .other _, x, h => h
theorem RepRQL.move {w w' : World} {Q Q' : Nat → Prop} {g : Nat} (hm : Moves w w' Q Q') (hg : Q g) : ∀ (i : Nat) (l : List E), RepRQL w Q g i l → RepRQL w' Q' g i l
  | _, [], _ => trivial
  | i, e :: l, h => by
    simp only [RepRQL] at h ⊢
    obtain ⟨⟨y, h4, he⟩, hl⟩ := h
    exact ⟨⟨y, h4.move hm hg, RepRQ.move hm e y he⟩, RepRQL.move hm hg (i + 1) l hl⟩
end
mutual
theorem RepRQ.toB {w : World} {Q : Nat → Prop} {B : Nat} (hB : ∀ b, Q b → b < B) : ∀ (e : E) (x : Value), RepRQ w Q e x → RepR w B e x
  | .leaf _ _, x, h => h
  | .wrap _ _ k, x, h => by
    simp only [RepRQ] at h
    simp only [RepR]
    obtain ⟨g, cap, rfl, hg, y, h4, hk⟩ := h
    exact ⟨g, cap, rfl, hB g hg, y, h4, RepRQ.toB hB k y hk⟩
  | .many l, x, h => by
    simp only [RepRQ] at h
    simp only [RepR]
    obtain ⟨g, cap, rfl, hg, hl0, hl⟩ := h
    exact ⟨g, cap, rfl, hB g hg, hl0, RepRQL.toB hB 0 l hl⟩
  | .other _, x, h => h
theorem RepRQL.toB {w : World} {Q : Nat → Prop} {B g : Nat} (hB : ∀ b, Q b → b < B) : ∀ (i : Nat) (l : List E), RepRQL w Q g i l → RepRL w B g i l
  | _, [], _ => trivial
  | i, e :: l, h => by
    simp only [RepRQL] at h
    simp only [RepRL]
    obtain ⟨⟨y, h4, he⟩, hl⟩ := h
    exact ⟨⟨y, h4, RepRQ.toB hB e y he⟩, RepRQL.toB hB (i + 1) l hl⟩
end
theorem RepRQL.of {w : World} {Q : Nat → Prop} {g : Nat} : ∀ {l : List E} {j : Nat}, (∀ (i : Nat) e, l[i]? = some e → ∃ y, Row4 w g ((j + i) * 4) e y ∧ RepRQ w Q e y) → RepRQL w Q g j l
  | [], j, _ => trivial
  | e :: l, j, h => by
    simp only [RepRQL]
    exact ⟨h 0 e (by simp), RepRQL.of fun i e' h1 => by
      have := h (i + 1) e' (by simpa using h1)
      rwa [show j + (i + 1) = j + 1 + i by omega] at this⟩
def RepRQO (w : World) (Q : Nat → Prop) : Option E → Value → Prop
  | none, x => x = .slice none 0 0
  | some e, x => RepRQ w Q e x
theorem RepRQO.move {w w' : World} {Q Q' : Nat → Prop} (hm : Moves w w' Q Q') {x : Option E} {v : Value} (h : RepRQO w Q x v) : RepRQO w' Q' x v := by
  cases x with
  | none => exact h
  | some e => exact RepRQ.move hm e v h
theorem RepRQO.toB {w : World} {Q : Nat → Prop} {B : Nat} (hB : ∀ b, Q b → b < B) {x : Option E} {v : Value} (h : RepRQO w Q x v) : RepRO w B x v := by
  cases x with
  | none => exact h
  | some e => exact RepRQ.toB hB e v h
end Go.Proofs.YteacjahncngoiaaDoor
