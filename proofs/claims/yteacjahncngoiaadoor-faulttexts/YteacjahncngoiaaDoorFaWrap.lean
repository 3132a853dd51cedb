/- Wrap at any error. -/
import Derived.Test.YteacjahncngoiaaDoorFaCode
namespace Go.Proofs.YteacjahncngoiaaDoor
open Go.RowKit FA

def wrapO (s : ByteArray) : Option E → Option E | none => none | some e => some (.wrap (code e) s e)

theorem RetO.below {w w0 w' : World} {x : Option E} {en : Ending} (hb : Below w0.heap.size w0 w) (h : RetO w x en w') : RetO w0 x en w' := by
  obtain ⟨v, h1, h2, h3⟩ := h
  exact ⟨v, h1, h2, hb.trans (h3.mono hb.size)⟩

theorem wrap_any (B : Nat) (s : ByteArray) (x : Option E) (v : Value) (w : World) (hB : B ≤ w.heap.size) (h : RepO w B x v) (hz : szO x ≤ 1000000) (hT : Tabs w) :
    Calls Tryd.prog 21 #[.string s, v] w (RetO w (wrapO s x)) := by
  cases x with
  | none =>
    obtain rfl : v = .nilIface := h
    go_enter Tryd.func21, Tryd.ntmps21
    go_wp2
    go_ret
    exact ⟨_, rfl, rfl, Below.refl _ _⟩
  | some e =>
    have C := Lib.hid (codeOf_any B (some e) v w hB h hz hT)
    have H := Lib.hid (show RepE w B e v from h)
    clear hT
    obtain ⟨tv, bv, rfl⟩ := RepE.iface H.out
    clear h
    go_enter Tryd.func21, Tryd.ntmps21
    go_wp2_with fail
    refine C.out.mono ?_
    rintro en w1 ⟨rfl, b1⟩
    have Hb := Lib.hid b1
    clear b1
    go_wp2
    go_ret
    have hal := (Below.refl w1.heap.size w1).alloc (Nat.le_refl _) (.cells #[.int .u8 (codeO (some e)), .string s, .iface tv (.pointer (some ⟨bv, 0, none⟩))] 51)
    refine ⟨_, rfl, ?_, Hb.out.trans (hal.mono Hb.out.size)⟩
    simp only [wrapO, RepO, RepE]
    refine ⟨w1.heap.size, _, rfl, by simp, heap_alloc_new w1 _, ?_⟩
    have := Hb.out.size
    exact RepE.more (by simp; omega) _ _ (RepE.below (hal.mono (by omega)) _ _ (RepE.below (Hb.out.mono hB) _ _ H.out))

theorem Tabs.below {w w' : World} (h : Tabs w) (hb : Below w.heap.size w w') : Tabs w' := by
  refine ⟨?_, ?_⟩
  · rw [hb.cell (p := ⟨0, 0, none⟩) (lt_cell h.1)]; exact h.1
  · have hg : Tryd.prog.globalNamed powName = some 1 := by kernel_rfl
    have h2 : w.var? Tryd.prog powName = _ := h.2
    show w'.var? Tryd.prog powName = _
    rw [← h2]
    unfold World.var? at h2 ⊢
    rw [hg] at h2 ⊢
    simp only [Option.bind_some] at h2 ⊢
    rcases Nat.lt_or_ge 1 w.heap.size with h' | h'
    · rw [hb.block _ h']
    · rw [Array.getElem?_eq_none h'] at h2; cases h2
end Go.Proofs.YteacjahncngoiaaDoor
