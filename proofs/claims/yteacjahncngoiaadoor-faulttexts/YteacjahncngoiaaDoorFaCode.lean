/- errors.As, CodeOf and Wrap at any error. -/
import Derived.Test.YteacjahncngoiaaDoorFaAsAny
import Derived.Test.YteacjahncngoiaaDoorFaNames
import Derived.Shelf.Strconv.Itoa3
namespace Go.Proofs.YteacjahncngoiaaDoor
open Go.RowKit Go.Extern.Stop Go.Stop Go.Extern FA

/-- What is asked of the package-level variables: the handle of the type error, the table of powers of ten. -/
def Tabs (w : World) : Prop :=
  w.cell? ⟨0, 0, none⟩ = some (.iface 97 (.agg #[.pointer (some ⟨4, 24, none⟩)])) ∧ Lib.TabIs Tryd.prog w powName .u64 Lib.pow10Tab

set_option maxRecDepth 100000 in
set_option maxHeartbeats 4000000 in
theorem As_any (B tb : Nat) (old : Value) (e : E) (v : Value) (w : World) (hBt : B ≤ tb) (hB : B ≤ w.heap.size) (h : RepE w B e v) (hz : sz e ≤ 1000000)
    (ht : w.cell? ⟨tb, 0, none⟩ = some old) (hf : w.frozen? ⟨tb, 0, none⟩ = false) (hT : w.cell? ⟨0, 0, none⟩ = some (.iface 97 (.agg #[.pointer (some ⟨4, 24, none⟩)]))) :
    Calls Tryd.prog 22 #[v, .iface 49 (.pointer (some ⟨tb, 0, none⟩))] w (AsP w B tb e) := by
  have htl : tb < w.heap.size := lt_cell ht
  have hgl : 0 < w.heap.size := lt_cell hT
  have hbl := ((Below.refl w.heap.size w).alloc (Nat.le_refl _) (.cells #[.pointer (some ⟨tb, 0, none⟩)] 49)).alloc (by simp) (.cells (tgt w.heap.size) 83)
  have C := Lib.hid (as_any B tb w.heap.size old hBt _ e (Nat.le_refl _) hz v _ (RepE.below (hbl.mono hB) _ _ h) (by simp; omega)
    (by rw [World.cell?_alloc_lt _ _ _ (by simp), World.cell?_alloc_at _ _ _ _ rfl]; rfl)
    (by rw [hbl.cell (p := ⟨tb, 0, none⟩) htl]; exact ht) (by rw [hbl.frozen (p := ⟨tb, 0, none⟩) htl]; exact hf))
  obtain ⟨tv, bv, rfl⟩ := RepE.iface h
  have e1 := x_valueOf; have e2 := x_type; have e3 := x_kind; have e4 := x_isNil; have e5 := x_elemT; have e6 := x_impl
  have f1 := valueOfPP; have f2 := typePP; have f3 := mKind; have f4 := kindPP; have f5 := mElem; have f6 := elemPP; have f7 := kindP; have f8 := mImpl; have f9 := implP
  have n8 := isNilPP ⟨w.heap.size, 0, none⟩ ⟨tb, 0, none⟩ ((w.alloc (.cells #[.pointer (some ⟨tb, 0, none⟩)] 49)).alloc (.cells (tgt w.heap.size) 83))
    (by rw [World.cell?_alloc_lt _ _ _ (by simp), World.cell?_alloc_at _ _ _ _ rfl]; rfl)
  have hg2 : ((w.alloc (.cells #[.pointer (some ⟨tb, 0, none⟩)] 49)).alloc (.cells (tgt w.heap.size) 83)).cell? ⟨0, 0, none⟩ = some (.iface 97 (.agg #[.pointer (some ⟨4, 24, none⟩)])) := by
    rw [hbl.cell (p := ⟨0, 0, none⟩) hgl]; exact hT
  have Hb := Lib.hid hbl
  clear hbl ht hf hT h
  unfold tgt at *
  go_enter Tryd.func22, Tryd.ntmps22
  go_wp2_with fail
  refine C.out.mono ?_
  rintro en w2 (⟨hff, rfl, hb2⟩ | ⟨f, p, hff, hrep, rfl, hb2, hc2⟩)
  · have H1 := Lib.hid hff
    have B2 := Lib.hid hb2
    clear hff hb2
    go_wp2
    go_ret
    exact .inl ⟨H1.out, rfl, Hb.out.trans (B2.out.mono (by simp; omega))⟩
  · have H1 := Lib.hid hff
    have B2 := Lib.hid hb2
    have H2 := Lib.hid hc2
    have H3 := Lib.hid hrep
    clear hff hb2 hc2 hrep
    go_wp2
    go_ret
    exact .inr ⟨f, p, H1.out, H3.out, rfl, (Hb.out.mono hB).trans B2.out, H2.out⟩

theorem RepE.code_cell {w : World} {B p : Nat} {f : E} (h : RepE w B f (.iface 47 (.pointer (some ⟨p, 0, none⟩)))) :
    p < B ∧ w.cell? ⟨p, 0, none⟩ = some (.int .u8 (cd f)) := by
  cases f with
  | leaf c s =>
    simp only [RepE] at h
    obtain ⟨b, hv, hlt, hh⟩ := h
    injection hv with _ hv; injection hv with hv; injection hv with hv; injection hv with hv
    subst hv
    exact ⟨hlt, by rw [cell_heap hh]; rfl⟩
  | wrap c s k =>
    simp only [RepE] at h
    obtain ⟨b, u, hv, hlt, hh, _⟩ := h
    injection hv with _ hv; injection hv with hv; injection hv with hv; injection hv with hv
    subst hv
    exact ⟨hlt, by rw [cell_heap hh]; rfl⟩
  | many l => simp only [RepE] at h; obtain ⟨b, g, cap, us, hv, _⟩ := h; injection hv with hv; cases hv
  | other s => simp only [RepE] at h; obtain ⟨b, hv, _⟩ := h; injection hv with hv; cases hv

def codeO : Option E → Nat | none => 0 | some e => code e
def szO : Option E → Nat | none => 0 | some e => sz e

set_option maxHeartbeats 4000000 in
theorem codeOf_any (B : Nat) (x : Option E) (v : Value) (w : World) (hB : B ≤ w.heap.size) (h : RepO w B x v) (hz : szO x ≤ 1000000) (hT : Tabs w) :
    Calls Tryd.prog 11 #[v] w fun e w' => e = .returned (.int .u8 (codeO x)) ∧ Below w.heap.size w w' := by
  cases x with
  | none =>
    obtain rfl : v = .nilIface := h
    simp only [codeO]
    go_enter Tryd.func11, Tryd.ntmps11
    go_wp2
    go_ret
    exact ⟨rfl, Below.refl _ _⟩
  | some e =>
    have h' : RepE w w.heap.size e v := RepE.more hB e v h
    have hgl : 0 < w.heap.size := lt_cell hT.1
    have hbl := (Below.refl w.heap.size w).alloc (Nat.le_refl _) (.cells #[.pointer none] 47)
    have C := Lib.hid (As_any w.heap.size w.heap.size (.pointer none) e v (w.alloc (.cells #[.pointer none] 47)) (Nat.le_refl _) (by simp) (RepE.below hbl _ _ h') hz
      (by rw [World.cell?_alloc_at _ _ _ _ rfl]; rfl) (by simp) (by rw [hbl.cell (p := ⟨0, 0, none⟩) hgl]; exact hT.1))
    obtain ⟨tv, bv, rfl⟩ := RepE.iface h'
    have Hb := Lib.hid hbl
    clear hbl h h' hT
    simp only [codeO]
    go_enter Tryd.func11, Tryd.ntmps11
    go_wp2_with fail
    refine C.out.mono ?_
    rintro en w2 (⟨hff, rfl, hb2⟩ | ⟨f, p, hff, hrep, rfl, hb2, hc2⟩)
    · have H1 : Hid (code e = 128) := Lib.hid (by unfold code; rw [hff])
      have B2 := Lib.hid hb2
      clear hff hb2
      go_wp2
      go_ret
      exact ⟨by rw [H1.out]; rfl, Hb.out.trans (B2.out.mono (by simp))⟩
    · have H1 : Hid (code e = cd f) := Lib.hid (by unfold code; rw [hff])
      have B2 := Lib.hid hb2
      have hcc := (RepE.code_cell hrep).2
      clear hff hb2 hrep
      go_wp2
      go_ret
      exact ⟨by rw [H1.out]; rfl, Hb.out.trans B2.out⟩
end Go.Proofs.YteacjahncngoiaaDoor
