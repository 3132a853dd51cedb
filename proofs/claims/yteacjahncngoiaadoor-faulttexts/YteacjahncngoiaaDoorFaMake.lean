/- Wrap and Join: what they answer, told by the values that they are handed. -/
import Derived.Test.YteacjahncngoiaaDoorFaJoin
namespace Go.Proofs.YteacjahncngoiaaDoor
open Go.RowKit Go.Extern.Stop Go.Stop Go.Extern FA

/-- Those of pairs whose error is not nil. -/
def somes (ps : List (Option E × Value)) : List (E × Value) := ps.filterMap fun p => p.1.map fun e => (e, p.2)
theorem so_nil : somes [] = [] := rfl
theorem so_drop_none {xs : List (Option E × Value)} {k : Nat} {v : Value} (h : xs[k]? = some (none, v)) : somes (xs.drop k) = somes (xs.drop (k + 1)) := by
  obtain ⟨hk, he⟩ := List.getElem?_eq_some_iff.1 h
  rw [List.drop_eq_getElem_cons hk, he]; rfl
theorem so_drop_some {xs : List (Option E × Value)} {k : Nat} {e : E} {v : Value} (h : xs[k]? = some (some e, v)) : somes (xs.drop k) = (e, v) :: somes (xs.drop (k + 1)) := by
  obtain ⟨hk, he⟩ := List.getElem?_eq_some_iff.1 h
  rw [List.drop_eq_getElem_cons hk, he]; rfl
theorem so_mem {ps : List (Option E × Value)} {p : E × Value} (h : p ∈ somes ps) : (some p.1, p.2) ∈ ps := by
  simp only [somes, List.mem_filterMap, Option.map_eq_some_iff] at h
  obtain ⟨⟨x, v⟩, hm, e, hx, rfl⟩ := h
  simp only at hx
  subst hx
  exact hm
theorem so_fst (ps : List (Option E × Value)) : (somes ps).map Prod.fst = (ps.map Prod.fst).filterMap id := by
  induction ps with
  | nil => rfl
  | cons p ps ih =>
    obtain ⟨x, v⟩ := p
    cases x with
    | none => exact ih
    | some e => show e :: (somes ps).map Prod.fst = e :: (ps.map Prod.fst).filterMap id; rw [ih]

/-- A row of errors' values, from an address on. -/
def ErrsAt (w : World) (A : Option Addr) (ps : List (Option E × Value)) : Prop :=
  ∀ (i : Nat) p, ps[i]? = some p → ∃ g o, A = some ⟨g, o, none⟩ ∧ g < w.heap.size ∧ w.cell? ⟨g, o + i, none⟩ = some p.2 ∧ (p.1 = none → p.2 = .nilIface) ∧ (p.1 ≠ none → ∃ t b, p.2 = .iface t (.pointer (some ⟨b, 0, none⟩)))

def JoinX (w : World) (ps : List (Option E × Value)) (en : Ending) (w' : World) : Prop :=
  (somes ps = [] ∧ en = .returned .nilIface ∧ Below w.heap.size w w') ∨
  (somes ps ≠ [] ∧ ∃ b g cap, en = .returned (.iface 90 (.pointer (some ⟨b, 0, none⟩))) ∧ w.heap.size ≤ b ∧ b < w'.heap.size ∧ w'.heap[b]? = some (.cells #[.slice (some ⟨g, 0, none⟩) (somes ps).length cap] 92 (0, 0)) ∧
    w.heap.size ≤ g ∧ g < w'.heap.size ∧ (somes ps).length ≤ cap ∧ cap ≤ maxLen ∧ (∀ (i : Nat) u, ((somes ps).map Prod.snd)[i]? = some u → w'.cell? ⟨g, i, none⟩ = some u) ∧ Below w.heap.size w w')

/-- Wrap of an error that is not nil. -/
def WrapX (w : World) (c : Nat) (s : ByteArray) (v : Value) (en : Ending) (w' : World) : Prop :=
  ∃ b, en = .returned (.iface 47 (.pointer (some ⟨b, 0, none⟩))) ∧ w.heap.size ≤ b ∧ b < w'.heap.size ∧ w'.heap[b]? = some (.cells #[.int .u8 c, .string s, v] 51 (0, 0)) ∧ Below w.heap.size w w'

theorem wrap_x (B : Nat) (s : ByteArray) (e : E) (v : Value) (w : World) (hB : B ≤ w.heap.size) (h : RepE w B e v) (hz : sz e ≤ 1000000) (hT : Tabs w) :
    Calls Tryd.prog 21 #[.string s, v] w (WrapX w (code e) s v) := by
  have C := Lib.hid (codeOf_any B (some e) v w hB h hz hT)
  clear hT
  obtain ⟨tv, bv, rfl⟩ := RepE.iface h
  clear h
  go_enter Tryd.func21, Tryd.ntmps21
  go_wp2_with fail
  refine C.out.mono ?_
  rintro en w1 ⟨rfl, b1⟩
  have Hb := Lib.hid b1
  clear b1
  go_wp2
  go_ret
  have hal := (Below.refl w1.heap.size w1).alloc (Nat.le_refl _) (.cells #[.int .u8 (codeO (some e)), .string s, .iface tv (.pointer (some ⟨bv, 0, none⟩))] 51)
  exact ⟨w1.heap.size, rfl, Hb.out.size, by simp, heap_alloc_new w1 _, Hb.out.trans (hal.mono Hb.out.size)⟩
theorem wrap_none (s : ByteArray) (w : World) :
    Calls Tryd.prog 21 #[.string s, .nilIface] w fun en w' => en = .returned .nilIface ∧ w = w' := by
  go_enter Tryd.func21, Tryd.ntmps21
  go_wp2
  go_ret
  exact ⟨rfl, rfl⟩

set_option maxHeartbeats 4000000 in
theorem join_x (A : Option Addr) (cap : Nat) (xs : List (Option E × Value)) (w : World) (h : ErrsAt w A xs) (hn : xs.length ≤ 1000) :
    Calls Tryd.prog 25 #[.slice A xs.length cap] w (JoinX w xs) := by
  obtain ⟨i0, hi0, hz0, hz1, hz2⟩ := info_parts errInfo
  have Hi := Lib.hid hi0; have Hz0 := Lib.hid hz0; have Hz1 := Lib.hid hz1; have Hz2 := Lib.hid hz2
  have H := Lib.hid h
  clear hi0 hz0 hz1 hz2 h
  go_enter Tryd.func25, Tryd.ntmps25
  go_wp2
  go_loopw [8, 3] (fun i met wr => ∃ (k : Nat) (done : List (E × Value)), i = .int .i64 k ∧ k ≤ xs.length ∧ done.length ≤ k ∧ Hid (done ++ somes (xs.drop k) = somes xs) ∧ Hid (wr.ownsRow w.heap.size 24 1 met done.length (done.map Prod.snd)) ∧ Hid (Below w.heap.size w wr))
    (fun i _ _ => xs.length - (intOf i).toNat)
  case atStart => exact ⟨0, [], rfl, by omega, by simp, Lib.hid rfl, Lib.hid (own_nil _ _ _ _), Lib.hid (Below.refl _ _)⟩
  case round =>
    obtain ⟨k, done, rfl, hk, hd, hk1, hown, hbr⟩ := hrel
    have hsr := hbr.out.size
    by_cases hlt : k < xs.length
    · obtain ⟨x, hx⟩ : ∃ x, xs[k]? = some x := ⟨xs[k], List.getElem?_eq_getElem hlt⟩
      obtain ⟨x, v⟩ := x
      obtain ⟨g, o, rfl, hg, hc, hv1, hv2⟩ := H.out k _ hx
      simp only at hc hv1 hv2
      have c1 : wr.cell? ⟨g, o + k, none⟩ = some v := by rw [hbr.out.cell (p := ⟨g, o + k, none⟩) (by simp; omega)]; exact hc
      cases x with
      | none =>
        obtain rfl : v = .nilIface := hv1 rfl
        have E1 := Lib.hid (so_drop_none hx)
        clear hx hc hv1 hv2
        go_wp2
        go_roundw
        case rel => exact ⟨k + 1, done, by go_num, by omega, by omega, Lib.hid (E1.out ▸ hk1.out), hown, hbr⟩
        case measure => simp [intOf]; omega
      | some e =>
        obtain ⟨tv, bv, rfl⟩ := hv2 (by simp)
        have E1 := Lib.hid (so_drop_some hx)
        obtain ⟨v2, w2, hr2, hown2, _, hb2⟩ := app1 Tryd.underlying57 Hi.out Hz0.out Hz1.out Hz2.out rfl (by omega) (by omega) w.heap.size u3 done.length _ wr hown.out (by omega) #[.iface tv (.pointer (some ⟨bv, 0, none⟩))] rfl (by simp [Value.oneCell']) (by omega)
        have Ho2 := Lib.hid hown2
        have Hb2 := Lib.hid (hbr.out.trans hb2)
        clear hx hc hv1 hv2 hown2 hb2
        go_wp2_with (at_builtin; refine wpList_run (by rfl) (.tmp 14) (.tmp 16) _ _ (by rfl) (by rfl) (by rfl) hr2 ?_; clear hr2)
        go_roundw
        case rel =>
          refine ⟨k + 1, done ++ [(e, .iface tv (.pointer (some ⟨bv, 0, none⟩)))], by go_num, by omega, by simp; omega, Lib.hid ?_, Lib.hid ?_, Hb2⟩
          · have := hk1.out
            rw [E1.out] at this
            simpa using this
          · have := Ho2.out
            simpa using this
        case measure => simp [intOf]; omega
    · have hkl : k = xs.length := by omega
      subst hkl
      have e1 := hk1.out
      simp only [List.drop_length, so_nil, List.append_nil] at e1
      obtain ⟨A3, cap3, rfl⟩ := own_form hown.out
      by_cases h0 : done = []
      · subst h0
        have E1 := Lib.hid e1
        clear e1 hlt
        go_wp2
        go_ret
        exact .inl ⟨E1.out.symm, rfl, hbr.out⟩
      · have hpos : 0 < done.length := List.length_pos_iff.2 h0
        have hne : ((done.length : Int) == 0) = false := by rw [beq_eq_false_iff_ne]; omega
        obtain ⟨g3, cap4, hv3, hg3, hg3'⟩ := hown.out.form hpos
        obtain ⟨cur, hcap, hmx⟩ : ∃ cur : Array Value, done.length ≤ cap3 ∧ cap3 ≤ maxLen := by
          rcases hown.out.2 with ⟨hx, hy⟩ | ⟨g, c, cur, hx, _, _, h3, h4, _⟩
          · omega
          · injection hx with _ _ hx; subst hx; exact ⟨#[], h3, h4⟩
        injection hv3 with hA3 _ hc4
        subst hA3
        have E1 := Lib.hid e1
        have Hne := Lib.hid h0
        clear e1 hlt h0 hc4
        go_wp2
        go_ret
        have hal := (Below.refl wr.heap.size wr).alloc (Nat.le_refl _) (.cells #[.slice (some ⟨g3, 0, none⟩) done.length cap3] 92)
        refine .inr ⟨by rw [← E1.out]; exact Hne.out, wr.heap.size, g3, cap3, rfl, hsr, by simp, ?_, hg3, by simp; omega, by rw [← E1.out]; exact hcap, hmx, fun i u hu => ?_, hbr.out.trans (hal.mono hsr)⟩
        · rw [← E1.out]; exact heap_alloc_new wr _
        · rw [← E1.out] at hu
          rw [hal.cell (p := ⟨g3, i, none⟩) hg3', ← add0]
          exact hown.out.cells (g := g3) rfl i u hu
end Go.Proofs.YteacjahncngoiaaDoor
