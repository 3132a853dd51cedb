/- How far it goes from an error to the first of what it unwraps to, again and again: a number that falls. -/
import Derived.Test.YteacjahncngoiaaDoorFaWrap
namespace Go.Proofs.YteacjahncngoiaaDoor
open Go.RowKit FA

mutual
def link : E → Nat
  | .leaf _ _ => 1
  | .wrap _ _ k => 1 + link k
  | .many l => 1 + linkL l
  | .other _ => 1
def linkL : List E → Nat
  | [] => 0
  | e :: _ => link e
end

def stepV (w : World) (v : Value) : Option Value :=
  match v with
  | .iface t (.pointer (some a)) =>
    if t = 47 then w.cell? ⟨a.block, 2, none⟩
    else if t = 90 then
      match w.cell? ⟨a.block, 0, none⟩ with
      | some (.slice (some p) _ _) => w.cell? ⟨p.block, 0, none⟩
      | _ => none
    else none
  | _ => none

def chain (w : World) : Nat → Value → Nat
  | 0, _ => 0
  | _ + 1, .nilIface => 0
  | n + 1, v => match stepV w v with
    | some u => 1 + chain w n u
    | none => 1

theorem chain_nil (w : World) (n : Nat) : chain w n .nilIface = 0 := by cases n <;> rfl
theorem chain_iface (w : World) (n : Nat) (t : TypeId) (x : Value) : chain w (n + 1) (.iface t x) = match stepV w (.iface t x) with
    | some u => 1 + chain w n u
    | none => 1 := rfl

theorem RepE.step {w : World} {B : Nat} {e : E} {v : Value} (h : RepE w B e v) :
    match e with
    | .leaf _ _ => stepV w v = some .nilIface
    | .wrap _ _ k => ∃ u, stepV w v = some u ∧ RepE w B k u
    | .many l => ∃ a u, l[0]? = some a ∧ stepV w v = some u ∧ RepE w B a u
    | .other _ => stepV w v = none := by
  cases e with
  | leaf c s =>
    simp only [RepE] at h
    obtain ⟨b, rfl, hlt, hh⟩ := h
    simp only [stepV, if_true]
    rw [cell_heap hh]; rfl
  | wrap c s k =>
    simp only [RepE] at h
    obtain ⟨b, u, rfl, hlt, hh, hk⟩ := h
    refine ⟨u, ?_, hk⟩
    simp only [stepV, if_true]
    rw [cell_heap hh]; rfl
  | many l =>
    simp only [RepE] at h
    obtain ⟨b, g, cap, us, rfl, hlt, hh, hg, hl0, hlc, hc, hus, hl⟩ := h
    obtain ⟨a, ha⟩ : ∃ a, l[0]? = some a := ⟨l[0], List.getElem?_eq_getElem hl0⟩
    obtain ⟨u, hu, hr⟩ := RepL.at_ hl ha
    refine ⟨a, u, ha, ?_, hr⟩
    have hc0 : w.cell? ⟨b, 0, none⟩ = some (.slice (some ⟨g, 0, none⟩) l.length cap) := by rw [cell_heap hh]; rfl
    simp only [stepV, if_neg (show ¬ (90 : Nat) = 47 by decide), if_true, hc0]
    exact hus 0 u hu
  | other s =>
    simp only [RepE] at h
    obtain ⟨b, rfl, hlt, hh⟩ := h
    simp only [stepV, if_neg (show ¬ (93 : Nat) = 47 by decide), if_neg (show ¬ (93 : Nat) = 90 by decide)]

theorem chain_eq {w : World} {B : Nat} : ∀ (n : Nat) (e : E) (v : Value), sz e ≤ n → RepE w B e v → chain w n v = link e
  | 0, e, v, hz, h => by have := sz_pos e; omega
  | n + 1, e, v, hz, h => by
    have hs := RepE.step h
    obtain ⟨t, b, rfl⟩ := RepE.iface h
    rw [chain_iface]
    cases e with
    | leaf c s => simp only at hs; rw [hs]; simp [chain_nil, link]
    | wrap c s k =>
      obtain ⟨u, h1, h2⟩ := hs
      rw [h1]
      simp only [sz] at hz
      simp only [link]
      rw [chain_eq n k u (by omega) h2]
    | many l =>
      obtain ⟨a, u, h0, h1, h2⟩ := hs
      rw [h1]
      simp only [sz] at hz
      have hm := szL_mem (List.mem_of_getElem? h0)
      simp only
      rw [chain_eq n a u (by omega) h2]
      cases l with
      | nil => simp at h0
      | cons a' l => simp at h0; subst h0; simp [link, linkL]
    | other s => simp only at hs; rw [hs]; simp [link]

theorem link_pos (e : E) : 0 < link e := by cases e <;> simp [link] <;> omega
end Go.Proofs.YteacjahncngoiaaDoor
