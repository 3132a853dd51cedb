/- Path at any error. -/
import Derived.Test.YteacjahncngoiaaDoorFaPath
namespace Go.Proofs.YteacjahncngoiaaDoor
open Go.RowKit Go.Extern.Stop Go.Stop Go.Extern FA

def pathO : Option E → List ByteArray | none => [] | some e => path e

mutual
theorem path_len : ∀ e : E, (path e).length ≤ sz e
  | .leaf c s => by simp [path, sz]
  | .wrap c s k => by have := path_len k; simp [path, sz]; omega
  | .many l => by have := pathL_len l; simp [path, sz]; omega
  | .other s => by simp [path, sz]
theorem pathL_len : ∀ l : List E, (pathL l).length ≤ szL l
  | [] => by simp [pathL]
  | e :: l => by have := path_len e; simp [pathL, szL]; omega
end
theorem pathO_len (x : Option E) : (pathO x).length ≤ szO x := by
  cases x with
  | none => simp [pathO]
  | some e => exact path_len e

theorem stepV_below {w w' : World} {B : Nat} {e : E} {v : Value} (hb : Below B w w') (h : RepE w B e v) : stepV w' v = stepV w v := by
  cases e with
  | leaf c s =>
    simp only [RepE] at h
    obtain ⟨b, rfl, hlt, hh⟩ := h
    simp only [stepV, if_true]
    exact hb.cell (p := ⟨b, 2, none⟩) hlt
  | wrap c s k =>
    simp only [RepE] at h
    obtain ⟨b, u, rfl, hlt, hh, hk⟩ := h
    simp only [stepV, if_true]
    exact hb.cell (p := ⟨b, 2, none⟩) hlt
  | many l =>
    simp only [RepE] at h
    obtain ⟨b, g, cap, us, rfl, hlt, hh, hg, hl0, hlc, hc, hus, hl⟩ := h
    have hc0 : w.cell? ⟨b, 0, none⟩ = some (.slice (some ⟨g, 0, none⟩) l.length cap) := by rw [cell_heap hh]; rfl
    have hc1 := (hb.cell (p := ⟨b, 0, none⟩) hlt).trans hc0
    simp only [stepV, if_neg (show ¬ (90 : Nat) = 47 by decide), if_true, hc0, hc1]
    exact hb.cell (p := ⟨g, 0, none⟩) hg
  | other s =>
    simp only [RepE] at h
    obtain ⟨b, rfl, hlt, hh⟩ := h
    simp only [stepV, if_neg (show ¬ (93 : Nat) = 47 by decide), if_neg (show ¬ (93 : Nat) = 90 by decide)]

/-- The relation of Path's loop. -/
def PathRel (w : World) (B : Nat) (x : Option E) (v' ps : Value) (wr : World) : Prop :=
  ∃ (x' : Option E) (done : List ByteArray), RepO w B x' v' ∧ done ++ pathO x' = pathO x ∧ szO x' ≤ szO x ∧ wr.ownsRow w.heap.size 9 1 ps done.length (done.map .string) ∧ Below w.heap.size w wr

set_option maxHeartbeats 4000000 in
theorem path_any (B : Nat) (x : Option E) (v : Value) (w : World) (h : RepO w B x v) (hB : B ≤ w.heap.size) (hz : szO x < 1000000) :
    Calls Tryd.prog 17 #[v] w (RetRow w 9 1 (pathO x).length ((pathO x).map .string)) := by
  obtain ⟨i0, hi0, hz0, hz1, hz2⟩ := info_parts strInfo
  have Hi := Lib.hid hi0; have Hz0 := Lib.hid hz0; have Hz1 := Lib.hid hz1; have Hz2 := Lib.hid hz2
  clear hi0 hz0 hz1 hz2
  have hpl := pathO_len x
  have H0 : Hid (PathRel w B x v (.slice none 0 0) w) := ⟨x, [], h, rfl, Nat.le_refl _, own_nil _ _ _ _, Below.refl _ _⟩
  clear h
  go_enter Tryd.func17, Tryd.ntmps17
  go_wp2
  go_loopw [0, 3] (fun v' ps wr => Hid (PathRel w B x v' ps wr)) (fun v' _ _ => chain w (szO x) v')
  case atStart => exact H0
  case round =>
    clear H0
    obtain ⟨x', done, hr, hd, hz', hown, hb⟩ := hrel.out
    clear hrel
    have hsr : w.heap.size ≤ wr.heap.size := hb.size
    have Hd := Lib.hid hd
    have Hb := Lib.hid hb
    have Ho := Lib.hid hown
    have hdl : done.length ≤ szO x := by have := congrArg List.length hd; simp at this; omega
    clear hd hown
    cases x' with
    | none =>
      obtain rfl : u0 = .nilIface := hr
      clear hb
      go_wp2
      go_ret
      refine ⟨_, rfl, ?_, Hb.out⟩
      have e1 := Hd.out
      simp only [pathO, List.append_nil] at e1
      rw [show pathO x = done from e1.symm]
      exact Ho.out
    | some e' =>
      have hrE : RepE w B e' u0 := hr
      clear hr
      have hze : sz e' ≤ szO x := hz'
      have hch := Lib.hid (chain_eq (w := w) (B := B) (szO x) e' _ hze hrE)
      have HR := Lib.hid hrE
      cases e' with
      | leaf c s =>
        have hs : stepV w u0 = some .nilIface := RepE.step hrE
        have HE := hrE
        simp only [RepE] at HE
        obtain ⟨b, rfl, hlt, hh⟩ := HE
        have c1 : wr.cell? ⟨b, 1, none⟩ = some (.string s) := by rw [hb.cell (p := ⟨b, 1, none⟩) (by simp; omega), cell_heap hh]; rfl
        obtain ⟨v2, w2, hr2, hown2, _, hb2⟩ := app1 Tryd.underlying40 Hi.out Hz0.out Hz1.out Hz2.out rfl (by omega) (by omega) w.heap.size u3 done.length _ wr Ho.out (by omega) #[.string s] rfl (by simp [Value.oneCell']) (by omega)
        have hbw2 : Below w.heap.size w w2 := Hb.out.trans hb2
        have C := first_any B (.leaf c s) _ w2 (RepE.below (hbw2.mono hB) _ _ hrE) (by have := hbw2.size; omega) (by omega)
        rw [stepV_below (hbw2.mono hB) hrE, hs] at C
        have HC := Lib.hid C
        have Ho2 := Lib.hid hown2
        have Hb2 := Lib.hid hbw2
        clear C hown2 hb2 hbw2 hs hh hrE hb
        go_wp2_with fail
        refine (asfault_w _ _).mono ?_
        rintro en w1 ⟨rfl, rfl⟩
        go_wp2_with (at_builtin; refine wpList_run (by rfl) (.tmp 11) (.tmp 16) _ _ (by rfl) (by rfl) (by rfl) hr2 ?_; clear hr2)
        refine HC.out.mono ?_
        rintro en w3 ⟨rfl, b3⟩
        have B3 := Lib.hid b3
        clear b3
        simp only [Option.getD_some]
        go_wp2
        go_roundw
        case rel =>
          refine ⟨none, done ++ [s], rfl, ?_, Nat.zero_le _, ?_, Hb2.out.trans (B3.out.mono Hb2.out.size)⟩
          · rw [← Hd.out]; simp [pathO, path]
          · have := own_below Ho2.out B3.out
            simpa using this
        case measure =>
          have h2 := hch.out
          simp only [link] at h2
          rw [chain_nil, h2]; omega
      | wrap c s k =>
        obtain ⟨u, hs, hk⟩ := RepE.step hrE
        have HE := hrE
        simp only [RepE] at HE
        obtain ⟨b, u', rfl, hlt, hh, _⟩ := HE
        have c1 : wr.cell? ⟨b, 1, none⟩ = some (.string s) := by rw [hb.cell (p := ⟨b, 1, none⟩) (by simp; omega), cell_heap hh]; rfl
        obtain ⟨v2, w2, hr2, hown2, _, hb2⟩ := app1 Tryd.underlying40 Hi.out Hz0.out Hz1.out Hz2.out rfl (by omega) (by omega) w.heap.size u3 done.length _ wr Ho.out (by omega) #[.string s] rfl (by simp [Value.oneCell']) (by omega)
        have hbw2 : Below w.heap.size w w2 := Hb.out.trans hb2
        have C := first_any B (.wrap c s k) _ w2 (RepE.below (hbw2.mono hB) _ _ hrE) (by have := hbw2.size; omega) (by omega)
        rw [stepV_below (hbw2.mono hB) hrE, hs] at C
        have HC := Lib.hid C
        have Ho2 := Lib.hid hown2
        have Hb2 := Lib.hid hbw2
        have Hk := Lib.hid hk
        obtain ⟨tu, bu, rfl⟩ := RepE.iface hk
        clear C hown2 hb2 hbw2 hs hh hrE hb hk
        go_wp2_with fail
        refine (asfault_w _ _).mono ?_
        rintro en w1 ⟨rfl, rfl⟩
        go_wp2_with (at_builtin; refine wpList_run (by rfl) (.tmp 11) (.tmp 16) _ _ (by rfl) (by rfl) (by rfl) hr2 ?_; clear hr2)
        refine HC.out.mono ?_
        rintro en w3 ⟨rfl, b3⟩
        have B3 := Lib.hid b3
        clear b3
        simp only [Option.getD_some]
        go_wp2
        go_roundw
        case rel =>
          refine ⟨some k, done ++ [s], Hk.out, ?_, by simp only [szO, sz] at hz' ⊢; omega, ?_, Hb2.out.trans (B3.out.mono Hb2.out.size)⟩
          · rw [← Hd.out]; simp [pathO, path]
          · have := own_below Ho2.out B3.out
            simpa using this
        case measure =>
          have h1 := chain_eq (w := w) (B := B) (szO x) k _ (by simp only [sz] at hze; omega) Hk.out
          have h2 := hch.out
          simp only [link] at h2
          rw [h1, h2]; omega
      | many l =>
        obtain ⟨a, u, hl0, hs, hk⟩ := RepE.step hrE
        have C := first_any B (.many l) _ wr (RepE.below (hb.mono hB) _ _ hrE) (by omega) (by omega)
        rw [stepV_below (hb.mono hB) hrE, hs] at C
        have HE := hrE
        simp only [RepE] at HE
        obtain ⟨b, g, cap, us, rfl, _⟩ := HE
        have HC := Lib.hid C
        have Hk := Lib.hid hk
        have Hl0 := Lib.hid hl0
        obtain ⟨tu, bu, rfl⟩ := RepE.iface hk
        clear C hs hrE hb hk hl0
        go_wp2_with fail
        refine (asfault_j _ _).mono ?_
        rintro en w1 ⟨rfl, rfl⟩
        go_wp2_with fail
        refine HC.out.mono ?_
        rintro en w3 ⟨rfl, b3⟩
        have B3 := Lib.hid b3
        clear b3
        simp only [Option.getD_some]
        go_wp2
        go_roundw
        case rel =>
          refine ⟨some a, done, Hk.out, ?_, ?_, own_below Ho.out B3.out, Hb.out.trans (B3.out.mono hsr)⟩
          · rw [← Hd.out]
            have := Hl0.out
            cases l with
            | nil => simp at this
            | cons a' l => simp at this; subst this; simp [pathO, path, pathL]
          · have := szL_mem (List.mem_of_getElem? Hl0.out)
            simp only [szO, sz] at hz' ⊢; omega
        case measure =>
          have hm := szL_mem (List.mem_of_getElem? Hl0.out)
          have h1 := chain_eq (w := w) (B := B) (szO x) a _ (by simp only [sz] at hze; omega) Hk.out
          have h2 := hch.out
          have h3 := Hl0.out
          rw [h1, h2]
          cases l with
          | nil => simp at h3
          | cons a' l => simp at h3; subst h3; simp [link, linkL]
      | other s =>
        have hs : stepV w u0 = none := RepE.step hrE
        have C := first_any B (.other s) _ wr (RepE.below (hb.mono hB) _ _ hrE) (by omega) (by omega)
        rw [stepV_below (hb.mono hB) hrE, hs] at C
        have HE := hrE
        simp only [RepE] at HE
        obtain ⟨b, rfl, _⟩ := HE
        have HC := Lib.hid C
        clear C hs hrE hb
        go_wp2_with fail
        refine (asfault_o _ _).mono ?_
        rintro en w1 ⟨rfl, rfl⟩
        go_wp2_with fail
        refine HC.out.mono ?_
        rintro en w3 ⟨rfl, b3⟩
        have B3 := Lib.hid b3
        clear b3
        simp only [Option.getD_none]
        go_wp2
        go_roundw
        case rel =>
          refine ⟨none, done, rfl, ?_, Nat.zero_le _, own_below Ho.out B3.out, Hb.out.trans (B3.out.mono hsr)⟩
          rw [← Hd.out]; simp [pathO, path]
        case measure =>
          have h2 := hch.out
          simp only [link] at h2
          rw [chain_nil, h2]; omega
end Go.Proofs.YteacjahncngoiaaDoor
