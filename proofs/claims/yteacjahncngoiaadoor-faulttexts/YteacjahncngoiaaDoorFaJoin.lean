/- Join at any errors. -/
import Derived.Test.YteacjahncngoiaaDoorFaWrap
import Derived.Test.YteacjahncngoiaaDoorFaRow
namespace Go.Proofs.YteacjahncngoiaaDoor
open Go.RowKit Go.Extern.Stop Go.Stop Go.Extern FA

/-- A row of errors, from an address on. -/
def Errs (w : World) (B : Nat) (A : Option Addr) (xs : List (Option E)) : Prop :=
  ∀ (i : Nat) (x : Option E), xs[i]? = some x → ∃ g o v, A = some ⟨g, o, none⟩ ∧ g < B ∧ w.cell? ⟨g, o + i, none⟩ = some v ∧ RepO w B x v

def joinO (xs : List (Option E)) : Option E := if xs.filterMap id = [] then none else some (.many (xs.filterMap id))

theorem fm_drop_none {xs : List (Option E)} {k : Nat} (h : xs[k]? = some none) : (xs.drop k).filterMap id = (xs.drop (k + 1)).filterMap id := by
  obtain ⟨hk, he⟩ := List.getElem?_eq_some_iff.1 h
  rw [List.drop_eq_getElem_cons hk, he]; rfl
theorem fm_drop_some {xs : List (Option E)} {k : Nat} {e : E} (h : xs[k]? = some (some e)) : (xs.drop k).filterMap id = e :: (xs.drop (k + 1)).filterMap id := by
  obtain ⟨hk, he⟩ := List.getElem?_eq_some_iff.1 h
  rw [List.drop_eq_getElem_cons hk, he]; rfl

theorem RepL.snoc {w : World} {B : Nat} : ∀ {l : List E} {us : List Value} {e : E} {u : Value}, RepL w B l us → RepE w B e u → RepL w B (l ++ [e]) (us ++ [u])
  | [], us, e, u, h, he => by
    simp only [RepL] at h
    subst h
    simp only [List.nil_append, RepL]
    exact ⟨u, [], rfl, he, rfl⟩
  | a :: l, us, e, u, h, he => by
    simp only [RepL] at h
    obtain ⟨u', us', rfl, ha, hl⟩ := h
    simp only [List.cons_append, RepL]
    exact ⟨u', _, rfl, ha, RepL.snoc hl he⟩

set_option maxHeartbeats 4000000 in
theorem join_any (B : Nat) (A : Option Addr) (cap : Nat) (xs : List (Option E)) (w : World) (h : Errs w B A xs) (hB : B ≤ w.heap.size) (hn : xs.length ≤ 1000) :
    Calls Tryd.prog 25 #[.slice A xs.length cap] w (RetO w (joinO xs)) := by
  obtain ⟨i0, hi0, hz0, hz1, hz2⟩ := info_parts errInfo
  have Hi := Lib.hid hi0; have Hz0 := Lib.hid hz0; have Hz1 := Lib.hid hz1; have Hz2 := Lib.hid hz2
  have H := Lib.hid h
  clear hi0 hz0 hz1 hz2 h
  go_enter Tryd.func25, Tryd.ntmps25
  go_wp2
  go_loopw [8, 3] (fun i met wr => ∃ (k : Nat) (done : List E) (us : List Value), i = .int .i64 k ∧ k ≤ xs.length ∧ done.length ≤ k ∧ Hid (done ++ (xs.drop k).filterMap id = xs.filterMap id) ∧ Hid (RepL w B done us) ∧ Hid (wr.ownsRow w.heap.size 24 1 met done.length us) ∧ Hid (Below w.heap.size w wr))
    (fun i _ _ => xs.length - (intOf i).toNat)
  case atStart => exact ⟨0, [], [], rfl, by omega, by simp, Lib.hid rfl, Lib.hid rfl, Lib.hid (own_nil _ _ _ _), Lib.hid (Below.refl _ _)⟩
  case round =>
    obtain ⟨k, done, us, rfl, hk, hd, hk1, hrl, hown, hbr⟩ := hrel
    have hsr := hbr.out.size
    by_cases hlt : k < xs.length
    · obtain ⟨x, hx⟩ : ∃ x, xs[k]? = some x := ⟨xs[k], List.getElem?_eq_getElem hlt⟩
      obtain ⟨g, o, v, rfl, hg, hc, hv⟩ := H.out k x hx
      have c1 : wr.cell? ⟨g, o + k, none⟩ = some v := by rw [hbr.out.cell (p := ⟨g, o + k, none⟩) (by simp; omega)]; exact hc
      cases x with
      | none =>
        obtain rfl : v = .nilIface := hv
        have E1 := Lib.hid (fm_drop_none hx)
        clear hx hc
        go_wp2
        go_roundw
        case rel => exact ⟨k + 1, done, us, by go_num, by omega, by omega, Lib.hid (E1.out ▸ hk1.out), hrl, hown, hbr⟩
        case measure => simp [intOf]; omega
      | some e =>
        have hre : RepE w B e v := hv
        obtain ⟨tv, bv, rfl⟩ := RepE.iface hre
        have E1 := Lib.hid (fm_drop_some hx)
        obtain ⟨v2, w2, hr2, hown2, _, hb2⟩ := app1 Tryd.underlying57 Hi.out Hz0.out Hz1.out Hz2.out rfl (by omega) (by omega) w.heap.size u3 done.length _ wr hown.out (by omega) #[.iface tv (.pointer (some ⟨bv, 0, none⟩))] rfl (by simp [Value.oneCell']) (by omega)
        have hrl2 := Lib.hid (RepL.snoc hrl.out hre)
        have Ho2 := Lib.hid hown2
        have Hb2 := Lib.hid (hbr.out.trans hb2)
        clear hx hc hv hre hown2 hb2
        go_wp2_with (at_builtin; refine wpList_run (by rfl) (.tmp 14) (.tmp 16) _ _ (by rfl) (by rfl) (by rfl) hr2 ?_; clear hr2)
        go_roundw
        case rel =>
          refine ⟨k + 1, done ++ [e], _, by go_num, by omega, by simp; omega, Lib.hid ?_, hrl2, Lib.hid ?_, Hb2⟩
          · have := hk1.out
            rw [E1.out] at this
            simpa using this
          · have := Ho2.out
            simpa using this
        case measure => simp [intOf]; omega
    · have hkl : k = xs.length := by omega
      subst hkl
      have e1 := hk1.out
      simp only [List.drop_length, List.filterMap_nil, List.append_nil] at e1
      obtain ⟨A3, cap3, rfl⟩ := own_form hown.out
      by_cases h0 : done = []
      · subst h0
        have E1 := Lib.hid e1
        clear e1 hlt
        go_wp2
        go_ret
        refine ⟨_, rfl, ?_, hbr.out⟩
        unfold joinO
        rw [if_pos E1.out.symm]
        rfl
      · have hpos : 0 < done.length := List.length_pos_iff.2 h0
        have hne : ((done.length : Int) == 0) = false := by rw [beq_eq_false_iff_ne]; omega
        obtain ⟨g3, cap4, hv3, hg3, hg3'⟩ := hown.out.form hpos
        obtain ⟨cur, hcap, hmx⟩ : ∃ cur : Array Value, done.length ≤ cap3 ∧ cap3 ≤ maxLen := by
          rcases hown.out.2 with ⟨hx, hy⟩ | ⟨g, c, cur, hx, _, _, h3, h4, _⟩
          · omega
          · injection hx with _ _ hx; subst hx; exact ⟨#[], h3, h4⟩
        injection hv3 with hA3 _ hc4
        subst hA3
        have E1 := Lib.hid e1
        have Hne := Lib.hid h0
        clear e1 hlt h0 hc4
        go_wp2
        go_ret
        have hal := (Below.refl wr.heap.size wr).alloc (Nat.le_refl _) (.cells #[.slice (some ⟨g3, 0, none⟩) done.length cap3] 92)
        refine ⟨_, rfl, ?_, hbr.out.trans (hal.mono hsr)⟩
        unfold joinO
        rw [if_neg (by rw [← E1.out]; exact Hne.out), ← E1.out]
        simp only [RepO, RepE]
        refine ⟨wr.heap.size, g3, cap3, us, rfl, by simp, heap_alloc_new wr _, by simp; omega, hpos, hcap, hmx, fun i u hu => ?_, ?_⟩
        · rw [hal.cell (p := ⟨g3, i, none⟩) hg3', ← add0]
          exact hown.out.cells (g := g3) rfl i u hu
        · exact RepL.more (by simp; omega) _ _ (RepL.below ((hbr.out.mono hB).trans (hal.mono (by omega))) _ _ hrl.out)
end Go.Proofs.YteacjahncngoiaaDoor
