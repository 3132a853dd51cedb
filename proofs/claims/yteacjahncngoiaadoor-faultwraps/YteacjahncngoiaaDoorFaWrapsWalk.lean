/- FaultWraps, of what the law's helper answers. -/
import Derived.Test.YteacjahncngoiaaDoorFaFindsWalk
import Derived.Test.YteacjahncngoiaaDoorFaOpen
import Derived.BigQuiet
namespace Go.Proofs.YteacjahncngoiaaDoor
open Go.RowKit Go.Sort FA

/-- A place, at most 50 bytes of it. -/
def cut (s : ByteArray) : ByteArray := s.extract 0 (min (s.size : Int) 50).toNat
def wrs : List ByteArray → Option E → Option E
  | [], x => x
  | s :: l, x => wrs l (wrapO (cut s) x)
theorem wrs_snoc (l : List ByteArray) (s : ByteArray) : ∀ x, wrs (l ++ [s]) x = wrapO (cut s) (wrs l x) := by
  induction l with
  | nil => intro x; rfl
  | cons a l ih => intro x; exact ih _
theorem wrs_none (l : List ByteArray) : wrs l none = none := by
  induction l with
  | nil => rfl
  | cons a l ih => exact ih
theorem wrs_some (l : List ByteArray) : ∀ e, ∃ e', wrs l (some e) = some e' ∧ code e' = code e ∧ sz e' = sz e + l.length ∧ path e' = (l.map cut).reverse ++ path e := by
  induction l with
  | nil => intro e; exact ⟨e, rfl, rfl, rfl, rfl⟩
  | cons a l ih =>
    intro e
    obtain ⟨e', h1, h2, h3, h4⟩ := ih (.wrap (code e) (cut a) e)
    refine ⟨e', h1, h2.trans rfl, ?_, ?_⟩
    · rw [h3, sz]; simp; omega
    · rw [h4, path]; simp
theorem wraps_drewN (B : Nat) (w : World) (n : Nat) : Below B w (w.drewN n) := ⟨rfl, rfl, rfl, Nat.le_refl _, fun _ _ => rfl⟩
theorem slice_cut (s : ByteArray) (k : Nat) (h : k ≤ s.size) (w : World) :
    (Instr.slice 9 (.string s) none (some (.int .i64 (k : Int))) none).run Tryd.prog w = .ok (.string (s.extract 0 k)) w := by
  rw [run_slice_string_to_if w 9 s .i64 _ Tryd.underlying9, if_pos (by omega)]
  rfl

set_option maxRecDepth 100000 in
set_option maxHeartbeats 8000000 in
theorem faultWraps_of (w : World) (v0 : Value) (A : Option Addr) (cap : Nat) (l : List ByteArray) (hl : l.length ≤ maxLen) (hs : Strs w A l) (hc : l.length ≤ cap) (C : Calls Tryd.prog 9 #[v0] w (MadeP w)) (hT : Tabs w) (hG : 4 ≤ w.heap.size) :
    Calls Tryd.prog 6 #[v0, .slice A l.length cap] w fun e w' => e = .returned (.bool true) ∧ Below w.heap.size w w' := by
  unfold maxLen at hl
  have C1 := Lib.hid C
  have HT := Lib.hid hT
  have HS := Lib.hid hs
  clear C hT hs
  go_enter Tryd.func6, Tryd.ntmps6
  go_wp2_with fail
  refine C1.out.mono ?_
  rintro en w1 ⟨x, v, y, rfl, hx, hy, hg, hz, b1⟩
  obtain ⟨Ay, ny, cy, rfl⟩ := RepRO.slice hy
  have s1 := b1.size
  have B1 := Lib.hid b1
  have Hx := Lib.hid hx
  clear hx hy b1 C1 hg
  have hal : Hid (Below w1.heap.size w1 (w1.alloc (.cells #[.int .i64 (kindO x), .int .i64 (cdO x), .string (whO x), .slice Ay ny cy] 27))) := (Below.refl w1.heap.size w1).alloc (Nat.le_refl _) _
  simp only [recO]
  go_wp2_with fail
  generalize w1.alloc (.cells #[.int .i64 (kindO x), .int .i64 (cdO x), .string (whO x), .slice Ay ny cy] 27) = W at *
  have hb : Hid (Below w.heap.size w W) := B1.out.trans (hal.out.mono s1)
  obtain ⟨m, hm, hm1, hm2⟩ : ∃ m : Nat, min (l.length : Int) 30 = (m : Int) ∧ m ≤ 30 ∧ m ≤ l.length := ⟨min l.length 30, by omega, by omega, by omega⟩
  have hm3 : ((m : Int)).toNat = m := by omega
  have hm4 : max (m : Int) 0 = m := by omega
  rw [hm, hm3, hm4]
  clear hm hm3 hm4
  have hX : Hid (RepO W w1.heap.size x v) := RepO.below hal.out Hx.out
  have hsW : w1.heap.size ≤ W.heap.size := hal.out.size
  have HTW : Hid (Tabs W) := HT.out.below hb.out
  have hLen : (l.take m).length = m := by simp; omega
  have HS2 : Hid (∀ (i : Nat) s, (l.take m)[i]? = some s → ∃ g o, A = some ⟨g, o, none⟩ ∧ g < w.heap.size ∧ w.cell? ⟨g, o + i, none⟩ = some (.string s)) := Lib.hid (fun i s hi => by
    rw [List.getElem?_take] at hi
    split at hi
    · obtain ⟨g, o, h1, h2, h3, _⟩ := HS.out i s hi
      exact ⟨g, o, h1, h2, h3⟩
    · cases hi)
  clear HS Hx hal HT B1 s1
  generalize l.take m = L at *
  have HLen := Lib.hid hLen
  clear hLen
  generalize ((kindO x : Nat) : Int) = kk at *
  generalize ((cdO x : Nat) : Int) = cc at *
  generalize whO x = ww at *
  go_loopw [28, 7] (fun i out wr => ∃ k : Nat, i = .int .i64 k ∧ k ≤ m ∧ Hid (RepO wr wr.heap.size (wrs (L.take k) x) out) ∧ Hid (Below W.heap.size W wr))
    (fun i _ _ => m - (intOf i).toNat)
  case atStart => exact ⟨0, rfl, by omega, RepO.more hsW hX.out, Lib.hid (Below.refl _ _)⟩
  case round =>
    obtain ⟨k, rfl, hk, hro, hbr⟩ := hrel
    have hsr := hbr.out.size
    by_cases hlt : k < m
    · obtain ⟨s, hs⟩ : ∃ s, L[k]? = some s := ⟨L[k]'(by have := HLen.out; omega), List.getElem?_eq_getElem _⟩
      obtain ⟨g, o, rfl, hg, hcell⟩ := HS2.out k s hs
      have c1 : wr.cell? ⟨g, o + k, none⟩ = some (.string s) := by rw [(hb.out.trans (hbr.out.mono hb.out.size)).cell (p := ⟨g, o + k, none⟩) hg]; exact hcell
      have hsl := slice_cut s (min s.size 50) (by omega)
      have hsz : szO (wrs (L.take k) x) ≤ 1000000 := by
        cases x with
        | none => rw [wrs_none]; exact Nat.zero_le _
        | some e =>
          obtain ⟨e', h1, _, h3, _⟩ := wrs_some (L.take k) e
          rw [h1]
          have h4 : (L.take k).length ≤ k := List.length_take_le _ _
          have h5 : sz e ≤ 1000 := hz
          show sz e' ≤ _
          omega
      have CW := Lib.hid (wrap_any wr.heap.size (cut s) (wrs (L.take k) x) u7 wr (Nat.le_refl _) hro.out hsz (HTW.out.below hbr.out))
      have E1 : Hid (wrs (L.take (k + 1)) x = wrapO (cut s) (wrs (L.take k) x)) := Lib.hid (by
        rw [← wrs_snoc]
        obtain ⟨hk', he⟩ := List.getElem?_eq_some_iff.1 hs
        rw [List.take_succ_eq_append_getElem hk', he])
      have hvv : u7 = .nilIface ∨ ∃ t p, u7 = .iface t p := by
        have h1 := hro.out
        cases hq : wrs (L.take k) x with
        | none => rw [hq] at h1; exact .inl h1
        | some e => rw [hq] at h1; obtain ⟨t, b, rfl⟩ := RepE.iface (show RepE wr wr.heap.size e u7 from h1); exact .inr ⟨_, _, rfl⟩
      unfold cut at CW
      have i1 : (k : Int) < (m : Int) := by omega
      clear hcell hs hsz hro
      rcases hvv with rfl | ⟨tu, pu, rfl⟩
      all_goals
        go_wp2_with fail
        refine CW.out.mono ?_
        rintro en w3 ⟨v3, rfl, h3, b3⟩
        have H3 := Lib.hid h3
        have B3 := Lib.hid b3
        clear h3 b3 CW
        go_wp2
        go_roundw
        case rel => exact ⟨k + 1, by go_num, by omega, Lib.hid (by rw [E1.out]; exact H3.out), Lib.hid (hbr.out.trans (B3.out.mono hsr))⟩
        case measure => simp [intOf]; omega
    · have hkl : k = m := by omega
      subst hkl
      have hLt : L.take k = L := List.take_of_length_le (by have := HLen.out; omega)
      have hro2 := hro.out
      rw [hLt] at hro2
      have hbW : Hid (Below w.heap.size w wr) := hb.out.trans (hbr.out.mono hb.out.size)
      have KW : Hid (∀ W', Below wr.heap.size wr W' → Calls Tryd.prog 10 #[] W' fun en w' => en = .returned (.bool true) ∧ Below W'.heap.size W' w') := fun W' hW =>
        wakes_any W' (HTW.out.below (hbr.out.trans (hW.mono hsr))) (by have := hW.size; have := hb.out.size; omega)
      clear hLt hro hlt
      cases x with
      | none =>
        rw [wrs_none] at hro2
        obtain rfl : u7 = .nilIface := hro2
        obtain rfl : v = .nilIface := hX.out
        have KC : Hid (∀ W', Below wr.heap.size wr W' → Calls Tryd.prog 11 #[.nilIface] W' fun en w' => en = .returned (.int .u8 0) ∧ Below W'.heap.size W' w') := fun W' hW =>
          codeOf_any 0 none .nilIface W' (Nat.zero_le _) rfl (by simp [szO]) (HTW.out.below (hbr.out.trans (hW.mono hsr)))
        go_wp2_with fail
        refine (KW.out _ (Below.refl _ _)).mono ?_
        rintro en w3 ⟨rfl, b3⟩
        have B3 := Lib.hid b3
        clear b3
        go_wp2_with fail
        refine (KW.out _ B3.out).mono ?_
        rintro en w4 ⟨rfl, b4⟩
        have B4 : Hid (Below wr.heap.size wr w4) := B3.out.trans (b4.mono B3.out.size)
        clear b4
        go_wp2_with fail
        refine (KC.out _ B4.out).mono ?_
        rintro en w5 ⟨rfl, b5⟩
        have B5 : Hid (Below wr.heap.size wr w5) := B4.out.trans (b5.mono B4.out.size)
        clear b5
        go_wp2
        go_ret
        exact ⟨rfl, hbW.out.trans (B5.out.mono hbW.out.size)⟩
      | some e =>
        obtain ⟨e', hq1, hq2, hq3, hq4⟩ := wrs_some L e
        rw [hq1] at hro2
        have hE' : RepE wr wr.heap.size e' u7 := hro2
        have hE : RepE W w1.heap.size e v := hX.out
        have hze : sz e ≤ 1000 := hz
        have hze' : sz e' ≤ 1030 := by rw [hq3, HLen.out]; omega
        obtain ⟨tu, bu, rfl⟩ := RepE.iface hE'
        obtain ⟨tv, bv, rfl⟩ := RepE.iface hE
        have KP1 : Hid (∀ W', Below wr.heap.size wr W' → Calls Tryd.prog 17 #[.iface tu (.pointer (some ⟨bu, 0, none⟩))] W' (RetRow W' 9 1 ((path e').map Value.string).length ((path e').map .string))) := fun W' hW => by
          have h1 := path_any wr.heap.size (some e') _ W' (RepO.below (x := some e') hW hE') hW.size (by show sz e' < _; omega)
          rw [List.length_map]; exact h1
        have KP2 : Hid (∀ W', Below wr.heap.size wr W' → Calls Tryd.prog 17 #[.iface tv (.pointer (some ⟨bv, 0, none⟩))] W' (RetRow W' 9 1 ((path e).map Value.string).length ((path e).map .string))) := fun W' hW => by
          have h1 := path_any w1.heap.size (some e) _ W' (RepO.below (x := some e) ((hbr.out.trans (hW.mono hsr)).mono hsW) hE) (by have := hW.size; omega) (by show sz e < _; omega)
          rw [List.length_map]; exact h1
        have KC1 : Hid (∀ W', Below wr.heap.size wr W' → Calls Tryd.prog 11 #[.iface tu (.pointer (some ⟨bu, 0, none⟩))] W' fun en w' => en = .returned (.int .u8 (code e)) ∧ Below W'.heap.size W' w') := fun W' hW => by
          have h1 := codeOf_any wr.heap.size (some e') _ W' hW.size (RepO.below (x := some e') hW hE') (by show sz e' ≤ _; omega) (HTW.out.below (hbr.out.trans (hW.mono hsr)))
          rw [← hq2]; exact h1
        have KC2 : Hid (∀ W', Below wr.heap.size wr W' → Calls Tryd.prog 11 #[.iface tv (.pointer (some ⟨bv, 0, none⟩))] W' fun en w' => en = .returned (.int .u8 (code e)) ∧ Below W'.heap.size W' w') := fun W' hW =>
          codeOf_any w1.heap.size (some e) _ W' (by have := hW.size; omega) (RepO.below (x := some e) ((hbr.out.trans (hW.mono hsr)).mono hsW) hE) (by show sz e ≤ _; omega) (HTW.out.below (hbr.out.trans (hW.mono hsr)))
        have hpo := path_len e
        have Hstr : Hid (∀ u ∈ (path e).map Value.string, ∃ su, u = .string su) := Lib.hid (fun u hu => by obtain ⟨a, _, rfl⟩ := List.mem_map.1 hu; exact ⟨a, rfl⟩)
        have HP : Hid ((path e').map Value.string = (L.map fun s => Value.string (cut s)).reverse ++ (path e).map Value.string) := Lib.hid (by rw [hq4]; simp)
        have hol : ((path e).map Value.string).length ≤ 1000 := by simp; omega
        have hpl : ((path e').map Value.string).length = k + ((path e).map Value.string).length := by rw [HP.out]; simp [HLen.out]
        clear hE' hE hro2 hX hq1 hq2 hq3 hq4 hz hpo
        generalize (path e).map Value.string = own at *
        generalize (path e').map Value.string = us at *
        generalize code e = cd at *
        have Hpl := Lib.hid hpl
        have hpl' : us.length ≤ k + own.length := by omega
        clear hpl
        go_wp2_with fail
        refine (KW.out _ (Below.refl _ _)).mono ?_
        rintro en w3 ⟨rfl, b3⟩
        have B3 := Lib.hid b3
        clear b3
        go_wp2_with fail
        refine (KP1.out _ B3.out).mono ?_
        rintro en w4 ⟨v4, rfl, ho4, b4⟩
        have B4 : Hid (Below wr.heap.size wr w4) := B3.out.trans (b4.mono B3.out.size)
        obtain ⟨A4, c4, rfl⟩ := own_form ho4
        have Ho4 := Lib.hid ho4
        clear b4 ho4
        go_wp2_with fail
        refine (KP2.out _ B4.out).mono ?_
        rintro en w5 ⟨v5, rfl, ho5, b5⟩
        have B5 : Hid (Below wr.heap.size wr w5) := B4.out.trans (b5.mono B4.out.size)
        obtain ⟨A5, c5, rfl⟩ := own_form ho5
        have Ho5 := Lib.hid ho5
        have Ho4b := Lib.hid (own_below Ho4.out b5)
        clear b5 ho5 Ho4
        go_wp2_with fail
        refine (KC1.out _ B5.out).mono ?_
        rintro en w6 ⟨rfl, b6⟩
        have B6 : Hid (Below wr.heap.size wr w6) := B5.out.trans (b6.mono B5.out.size)
        have Ho5b := Lib.hid (own_below Ho5.out b6)
        have Ho4c := Lib.hid (own_below Ho4b.out b6)
        clear b6 Ho5 Ho4b
        go_wp2_with fail
        refine (KC2.out _ B6.out).mono ?_
        rintro en w7 ⟨rfl, b7⟩
        have B7 : Hid (Below wr.heap.size wr w7) := B6.out.trans (b7.mono B6.out.size)
        have Ho5 := Lib.hid (own_below Ho5b.out b7)
        have Ho4 := Lib.hid (own_below Ho4c.out b7)
        clear b7 Ho5b Ho4c KW KP1 KP2 KC1 KC2
        have hq : ((us.length : Int) != (k : Int) + (own.length : Int)) = false := by have := Hpl.out; simp; omega
        have HB7 : Hid (Below w.heap.size w w7) := hbW.out.trans (B7.out.mono hbW.out.size)
        have hs7 := HB7.out.size
        go_wp2
        go_loopw [77] (fun i wq => ∃ j : Nat, i = .int .i64 j ∧ j ≤ us.length ∧ Hid (Below w7.heap.size w7 wq)) (fun i _ => us.length - (intOf i).toNat)
        case atStart => exact ⟨0, rfl, by omega, Lib.hid (Below.refl _ _)⟩
        case round =>
          obtain ⟨j, rfl, hj, hbq⟩ := hrel
          by_cases hjl : j < us.length
          · obtain ⟨u, hu⟩ : ∃ u, us[j]? = some u := ⟨us[j], List.getElem?_eq_getElem hjl⟩
            obtain ⟨g4, p4', hv4, hg4, hg4'⟩ := Ho4.out.form (by omega)
            injection hv4 with hv4 _ hc4'
            subst hv4
            clear hc4'
            have cu : wr.cell? ⟨g4, j, none⟩ = some u := by rw [hbq.out.cell (p := ⟨g4, j, none⟩) hg4', ← add0]; exact Ho4.out.cells (g := g4) rfl j _ hu
            have i1 : (j : Int) < (us.length : Int) := by omega
            by_cases hjk : j < k
            · obtain ⟨q, hq1⟩ : ∃ q : Nat, k = j + 1 + q := ⟨k - 1 - j, by omega⟩
              obtain ⟨s, hs⟩ : ∃ s, L[q]? = some s := ⟨L[q]'(by have := HLen.out; omega), List.getElem?_eq_getElem _⟩
              have hus : us[j]? = some (.string (cut s)) := by
                rw [HP.out, List.getElem?_append_left (by simp; have := HLen.out; omega), List.getElem?_reverse (by simp; have := HLen.out; omega)]
                simp only [List.length_map, HLen.out, List.getElem?_map]
                rw [show k - 1 - j = q by omega, hs]
                rfl
              obtain rfl : u = .string (cut s) := Option.some.inj (hu.symm.trans hus)
              obtain ⟨g, o, rfl, hg, hcell⟩ := HS2.out q s hs
              have c1 : wr.cell? ⟨g, o + q, none⟩ = some (.string s) := by rw [(HB7.out.trans (hbq.out.mono hs7)).cell (p := ⟨g, o + q, none⟩) hg]; exact hcell
              have hsl := slice_cut s (min s.size 50) (by omega)
              have hi1 : (k : Int) - 1 - (j : Int) = (q : Int) := by omega
              have hi2 : (q : Int) < (k : Int) := by omega
              have hi3 : (0 : Int) ≤ (q : Int) := by omega
              clear hu hus hcell hs hq1 hjk
              unfold cut at cu
              go_wp2_with fail
              go_quiet (fail)
              go_wp2
              go_roundw
              case rel => exact ⟨j + 1, by go_num, by omega, Lib.hid (hbq.out.trans (wraps_drewN _ _ _))⟩
              case measure => simp [intOf]; omega
            · obtain ⟨q, hq1⟩ : ∃ q : Nat, j = k + q := ⟨j - k, by omega⟩
              have hus : us[j]? = own[q]? := by
                rw [HP.out, List.getElem?_append_right (by simp; have := HLen.out; omega)]
                congr 1
                simp [HLen.out]; omega
              have hoq : own[q]? = some u := hus.symm.trans hu
              have hql := (List.getElem?_eq_some_iff.1 hoq).1
              obtain ⟨su, rfl⟩ := Hstr.out u (List.mem_of_getElem? hoq)
              obtain ⟨g5, p5', hv5, hg5, hg5'⟩ := Ho5.out.form (by omega)
              injection hv5 with hv5 _ hc5'
              subst hv5
              clear hc5'
              have cq : wr.cell? ⟨g5, q, none⟩ = some (.string su) := by rw [hbq.out.cell (p := ⟨g5, q, none⟩) hg5', ← add0]; exact Ho5.out.cells (g := g5) rfl q _ hoq
              have hi1 : (j : Int) - (k : Int) = (q : Int) := by omega
              have hi2 : (q : Int) < (own.length : Int) := by omega
              have hi3 : (0 : Int) ≤ (q : Int) := by omega
              have hi4 : (k : Int) ≤ (j : Int) := by omega
              clear hu hus hoq hq1 hjk
              go_wp2
              go_roundw
              case rel => exact ⟨j + 1, by go_num, by omega, hbq⟩
              case measure => simp [intOf]; omega
          · have hkl : j = us.length := by omega
            subst hkl
            go_wp2
            go_ret
            exact ⟨rfl, HB7.out.trans (hbq.out.mono hs7)⟩
end Go.Proofs.YteacjahncngoiaaDoor
