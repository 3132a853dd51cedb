/- errors.Is and Has at any error. -/
import Derived.Test.YteacjahncngoiaaDoorFaIs
namespace Go.Proofs.YteacjahncngoiaaDoor
open Go.RowKit Go.Extern.Stop Go.Stop Go.Extern FA

def hasO (c : Nat) : Option E → Bool | none => false | some e => has c e

set_option maxHeartbeats 1000000 in
theorem Is_any (B tb c : Nat) (hBt : B ≤ tb) (x : Option E) (v : Value) (w : World) (h : RepO w B x v) (hB : B ≤ w.heap.size) (hz : szO x ≤ 1000000)
    (ht : w.heap[tb]? = some (.cells #[.int .u8 c, .string ⟨#[]⟩, .nilIface] 51 (0, 0))) :
    Calls Tryd.prog 15 #[v, .iface 47 (.pointer (some ⟨tb, 0, none⟩))] w fun en w' => en = .returned (.bool (hasO c x)) ∧ Below w.heap.size w w' := by
  cases x with
  | none =>
    obtain rfl : v = .nilIface := h
    have hq := run_eql_iface_nil_left (P := Tryd.prog) w 47 (.pointer (some ⟨tb, 0, none⟩)) Tryd.underlying24
    simp only [hasO]
    clear ht
    go_enter Tryd.func15, Tryd.ntmps15
    go_wp2
    go_ret
    exact ⟨rfl, Below.refl _ _⟩
  | some e =>
    have C := Lib.hid (is_any B tb c hBt _ e (Nat.le_refl _) hz v w h hB ht)
    obtain ⟨tv, bv, rfl⟩ := RepE.iface (show RepE w B e v from h)
    have e1 := x_typeOf; have e2 := x_comparable; have f1 := typeOfF; have f2 := mComparable; have f3 := comparableF
    clear h ht
    simp only [hasO]
    go_enter Tryd.func15, Tryd.ntmps15
    go_wp2_with fail
    refine C.out.mono ?_
    rintro en w1 ⟨rfl, b1⟩
    have B1 := Lib.hid b1
    clear b1 C
    go_wp2
    go_ret
    exact ⟨rfl, B1.out⟩

theorem has_any (B c : Nat) (x : Option E) (v : Value) (w : World) (h : RepO w B x v) (hB : B ≤ w.heap.size) (hz : szO x ≤ 1000000) :
    Calls Tryd.prog 13 #[v, .int .u8 c] w fun en w' => en = .returned (.bool (hasO c x)) ∧ Below w.heap.size w w' := by
  have hal := (Below.refl w.heap.size w).alloc (Nat.le_refl _) (.cells #[.int .u8 c, .string ⟨#[]⟩, .nilIface] 51)
  have C := Lib.hid (Is_any w.heap.size w.heap.size c (Nat.le_refl _) x v _ (RepO.below hal (RepO.more hB h)) (by simp) hz (heap_alloc_new w _))
  have Hb := Lib.hid hal
  have Hv : v = .nilIface ∨ ∃ t p, v = .iface t p := by
    cases x with
    | none => exact .inl h
    | some e => obtain ⟨t, b, rfl⟩ := RepE.iface (show RepE w B e v from h); exact .inr ⟨_, _, rfl⟩
  clear hal h
  rcases Hv with rfl | ⟨t, p, rfl⟩ <;>
  · go_enter Tryd.func13, Tryd.ntmps13
    go_wp2_with fail
    refine (of_w c _).mono ?_
    rintro en w1 ⟨rfl, rfl⟩
    go_wp2_with fail
    refine C.out.mono ?_
    rintro en w1 ⟨rfl, b1⟩
    have B1 := Lib.hid b1
    clear b1 C
    go_wp2
    go_ret
    exact ⟨rfl, Hb.out.trans (B1.out.mono (by simp))⟩
end Go.Proofs.YteacjahncngoiaaDoor
