/- The laws' arguments, opened: rows of texts; what the bound on the bulk gives. -/
import Derived.Test.YtcobklfimlblgaaDoorRows
import Derived.Test.YtcobklfimlblgaaDoorTpRow
import Derived.Deep.Strs
import Derived.Deep.Slices
import Derived.ChangeOld
import Derived.OpenShut
import Derived.Lib.Strings
namespace Go.Proofs.YtcobklfimlblgaaDoor
open Go.RowKit Go.ChangeShapes Go.WideShapes Go.Deep

theorem bulk_app {H : Type} (l r : List (DataW H)) : Rows.uptoBulkAll (l ++ r) = Rows.uptoBulkAll l + Rows.uptoBulkAll r := by
  induction l with
  | nil => simp [Rows.uptoBulkAll]
  | cons x l ih => simp only [List.cons_append, Rows.uptoBulkAll, ih]; omega
theorem bulk_bound {H : Type} {l : List (DataW H)} (hk : Rows.uptoSmall H l = true) : Rows.uptoBulkAll l ≤ 1048576 := of_decide_eq_true hk
theorem bulk_string {H : Type} (s : ByteArray) : Rows.uptoBulk (DataW.lit (H := H) (.string s.data.toList)) = s.size + 1 := by
  have e : s.data.toList.length = s.size := by rw [Array.length_toList]; rfl
  simp only [Rows.uptoBulk, e]
theorem bulk_texts {H : Type} (l : List ByteArray) : bytesOf l ≤ Rows.uptoBulkAll (l.map fun s => DataW.lit (H := H) (.string s.data.toList)) := by
  induction l with
  | nil => simp [bytesOf, Rows.uptoBulkAll]
  | cons x l ih =>
    simp only [List.map_cons, Rows.uptoBulkAll, bulk_string]
    simp [bytesOf] at ih ⊢
    omega
theorem trod_lt' {H : Type} {enc : TypeId × Value → H} {P : Program} {w : World} {base : Nat} {spare : Nat → Bool} {held : Bool} {t : TypeId} {v : Value} {d : DataW H} {ps : List MemPlace} (h : DataW.Trod enc P w base spare held t v d ps) : ∀ x ∈ ps, x.block < w.heap.size := by
  obtain ⟨n, hn⟩ := h
  exact DataW.trod_lt n t _ _ hn
theorem cell_in {w : World} {a : Addr} {v : Value} (h : w.cell? a = some v) : a.block < w.heap.size := by
  rcases Nat.lt_or_ge a.block w.heap.size with h' | h'
  · exact h'
  · exfalso
    have e : w.heap[a.block]? = none := Array.getElem?_eq_none h'
    simp [World.cell?, e] at h
theorem texts_len : Tryd.prog.cellsOf 9 = 1 := by kernel_rfl
set_option maxRecDepth 100000 in
/-- An argument of texts. -/
theorem open_texts {H : Type} {enc : TypeId × Value → H} {w : World} {v : Value} {d : DataW H} {ps : List MemPlace} {r : Reach} {b0 : Nat} (hv : Value.okWide Tryd.prog w r b0 22 v) (h : DataW.Trod enc Tryd.prog w 0 (fun _ => true) true 22 v d ps) :
    ∃ A cap l, v = .slice A l.length cap ∧ l.length ≤ maxLen ∧ Texts w A l ∧ l.length ≤ cap ∧ bytesOf l ≤ Rows.uptoBulk d := by
  obtain ⟨A0, l0, c0, rfl⟩ := okWide_slice Tryd.underlying22 hv
  obtain ⟨n, hn⟩ := h
  rcases open_strs Tryd.underlying22 Tryd.underlying9 texts_len hn with ⟨hc, hx⟩ | ⟨a, len, cap, m, Sx, hc, _, hl, hm, hmm, hx, hi⟩
  · have e1 : Value.slice A0 l0 c0 = .slice none 0 0 := (List.cons.inj (show [Value.slice A0 l0 c0] = _ from hc)).1
    exact ⟨none, 0, [], e1, by simp [maxLen], fun i x hx => by simp at hx, Nat.le_refl _, by simp [bytesOf]⟩
  · have e1 : Value.slice A0 l0 c0 = .slice (some a) len cap := (List.cons.inj (show [Value.slice A0 l0 c0] = _ from hc)).1
    have hmc : m = cap := by simpa using hmm
    have hd : d = .slice ((List.range len).map fun i => .lit (.string (Sx i).data.toList)) ((List.range (m - len)).map fun j => .lit (.string (Sx (len + j)).data.toList)) := congrArg Prod.fst hx
    refine ⟨some a, cap, (List.range len).map Sx, by simpa using e1, by simp; omega, ?_, by simpa using hl, ?_⟩
    · intro i x hx
      rw [List.getElem?_map] at hx
      have hil : i < len := by
        rcases Nat.lt_or_ge i len with h' | h'
        · exact h'
        · rw [List.getElem?_eq_none (by simpa using h')] at hx; cases hx
      rw [List.getElem?_range hil] at hx
      simp at hx
      subst hx
      have h1 := (hi i (by omega)).1
      obtain ⟨b, o, spot⟩ := a
      have hspot : spot = none := by simpa [Addr.add] using World.cell?_spot (hi 0 (by omega)).1
      subst hspot
      rw [add_plain] at h1
      exact ⟨b, o, rfl, cell_in h1, h1⟩
    · rw [hd]
      simp only [Rows.uptoBulk]
      have := bulk_texts (H := H) ((List.range len).map Sx)
      rw [List.map_map] at this
      have e : ((fun s : ByteArray => DataW.lit (H := H) (.string s.data.toList)) ∘ Sx) = fun i => .lit (.string (Sx i).data.toList) := rfl
      rw [e] at this
      omega
end Go.Proofs.YtcobklfimlblgaaDoor
