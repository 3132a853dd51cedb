/- PropFinds: the first property of an identifier, and the values of a name's pairs, are the document's. -/
import Derived.Test.YtpkbakmiofbojaaPrProps
import Derived.BigQuiet
namespace Go.Proofs.Ytpkbakmiofbojaa
open Go.RowKit

theorem finds_drewN (B : Nat) (w : World) (n : Nat) : Below B w (w.drewN n) := ⟨rfl, rfl, rfl, Nat.le_refl _, fun _ _ => rfl⟩
theorem sevens (w : World) (t : TypeId) : Props (w.alloc (.cells #[.int .i64 7, .int .i64 0, .string ⟨#[]⟩, .string ⟨#[]⟩] t)) (some ⟨w.heap.size, 0, none⟩) [⟨7, 0, ⟨#[]⟩, ⟨#[]⟩⟩] := by
  intro i p hp
  match i, hp with
  | 0, hp =>
    simp at hp
    subst hp
    exact ⟨w.heap.size, 0, rfl, by simp, by rw [World.cell?_alloc_at _ _ _ _ rfl]; rfl, by rw [World.cell?_alloc_at _ _ _ _ rfl]; rfl, by rw [World.cell?_alloc_at _ _ _ _ rfl]; rfl, by rw [World.cell?_alloc_at _ _ _ _ rfl]; rfl⟩

set_option maxRecDepth 100000 in
set_option maxHeartbeats 8000000 in
theorem propFinds_walk (w : World) (A : Option Addr) (cap : Nat) (l : List Pr) (hl : l.length ≤ maxLen) (h : Props w A l) (hc : l.length ≤ cap) (hz : ∀ p ∈ l, p.s.size ≤ 140737488351232 ∧ p.t.size ≤ 140737488351232) (_hw : ∀ p ∈ l, (Lit.int .i64 p.id).wf = true ∧ (Lit.int .i64 p.n).wf = true) (id : Int) (_hid : (Lit.int .i64 id).wf = true) (nm : ByteArray) (_hnm : nm.size ≤ 140737488351232) :
    Calls Try.prog 4 #[.slice A l.length cap, .int .i64 id, .string nm] w fun e w' => e = .returned (.bool true) ∧ Below w.heap.size w w' := by
  have C1 := Lib.hid (props_any A cap l hl w h hc)
  have HZ := Lib.hid (fun p (hp : p ∈ l.take 80) => hz p (List.mem_of_mem_take hp))
  clear h hz
  go_enter Try.func4, Try.ntmps4
  go_wp2_with fail
  refine C1.out.mono ?_
  rintro e w1 ⟨va, vb, rfl, hrows, b1⟩
  obtain ⟨A1, c1, rfl⟩ := own_form hrows.1
  obtain ⟨A2, c2, rfl⟩ := own_form hrows.2
  have hL : (l.take 80).length ≤ 80 := List.length_take_le _ _
  have H1 := Lib.hid (own_props hrows.1)
  have H2 := Lib.hid (own_props hrows.2)
  have B1 := Lib.hid b1
  clear b1 C1 hrows
  generalize l.take 80 = L at *
  have K2 : Hid (∀ W', Below w1.heap.size w1 W' → Calls Try.prog 8 #[.slice A1 L.length c1, .int .i64 id] W' (FindX W' (fnd id L))) := fun W' hW => find_any A1 c1 L id W' (by omega) (H1.out.below hW) HZ.out
  have K3 : Hid (∀ W', Below w1.heap.size w1 W' → Calls Try.prog 9 #[.slice A2 L.length c2, .int .i64 id] W' (FindX W' (fnd id L))) := fun W' hW => rfind_any A2 c2 L id W' (by omega) (H2.out.below hW)
  have K4 : Hid (∀ W', Below w1.heap.size w1 W' → Calls Try.prog 10 #[.slice A1 L.length c1, .string nm] W' (RetRow W' 9 1 ((usr nm L).map Value.string).length ((usr nm L).map .string))) := fun W' hW => by
    have h1 := users_any A1 c1 L nm W' (by omega) (H1.out.below hW) HZ.out
    rw [List.length_map]; exact h1
  have K5 : Hid (∀ W', Below w1.heap.size w1 W' → Calls Try.prog 11 #[.slice A2 L.length c2, .string nm] W' (RetRow W' 9 1 ((usr nm L).map Value.string).length ((usr nm L).map .string))) := fun W' hW => by
    have h1 := rusers_any A2 c2 L nm W' (by omega) (H2.out.below hW)
    rw [List.length_map]; exact h1
  have K6 : Hid (∀ W' : World, Calls Try.prog 8 #[.slice (some ⟨W'.heap.size, 0, none⟩) 1 1, .int .i64 7] (W'.alloc (.cells #[.int .i64 7, .int .i64 0, .string ⟨#[]⟩, .string ⟨#[]⟩] 32)) fun e w' => e = .returned (.tuple #[.agg #[.int .i64 7, .int .i64 0, .string ⟨#[]⟩, .string ⟨#[]⟩], .bool true]) ∧ Below W'.heap.size W' w') := fun W' => by
    have h1 := find_any (some ⟨W'.heap.size, 0, none⟩) 1 [⟨7, 0, ⟨#[]⟩, ⟨#[]⟩⟩] 7 _ (by simp) (sevens W' 32) (fun p hp => by simp at hp; subst hp; exact ⟨by decide, by decide⟩)
    refine h1.mono ?_
    rintro e w' ⟨rfl, hb⟩
    exact ⟨rfl, ((Below.refl W'.heap.size W').alloc (Nat.le_refl _) _).trans (hb.mono (by simp))⟩
  have hul : ((usr nm L).map Value.string).length ≤ 1000 := by
    have : ∀ l : List Pr, (usr nm l).length ≤ l.length := fun l => by
      induction l with
      | nil => simp [usr]
      | cons p l ih => unfold usr; split <;> simp <;> omega
    have := this L
    simp; omega
  have Hstr : Hid (∀ u ∈ (usr nm L).map Value.string, ∃ su, u = .string su) := Lib.hid (fun u hu => by obtain ⟨a, _, rfl⟩ := List.mem_map.1 hu; exact ⟨a, rfl⟩)
  unfold FindX at K2 K3
  generalize (fnd id L).isSome = bx at *
  generalize ((fnd id L).getD zeroP).id = id' at *
  generalize ((fnd id L).getD zeroP).n = n' at *
  generalize ((fnd id L).getD zeroP).s = s' at *
  generalize ((fnd id L).getD zeroP).t = t' at *
  generalize (usr nm L).map Value.string = us at *
  clear H1 H2 HZ
  go_wp2_with fail
  refine (K2.out _ (Below.refl _ _)).mono ?_
  rintro e w2 ⟨rfl, b2⟩
  have B2 := Lib.hid b2
  have hal2 : Hid (Below w2.heap.size w2 (w2.alloc (.cells #[.int .i64 id', .int .i64 n', .string s', .string t'] 32))) := (Below.refl _ _).alloc (Nat.le_refl _) _
  have B2a : Hid (Below w1.heap.size w1 (w2.alloc (.cells #[.int .i64 id', .int .i64 n', .string s', .string t'] 32))) := B2.out.trans (hal2.out.mono B2.out.size)
  have hv2 : (w2.alloc (.cells #[.int .i64 id', .int .i64 n', .string s', .string t'] 32)).heap[w2.heap.size]? = some (.cells #[.int .i64 id', .int .i64 n', .string s', .string t'] 32 (0, 0)) := heap_alloc_new w2 _
  have Hv2 := Lib.hid hv2
  clear b2 hv2 K2
  go_wp2_with fail
  refine (K3.out _ B2a.out).mono ?_
  rintro e w3 ⟨rfl, b3⟩
  have B3 := Lib.hid b3
  have B3' : Hid (Below w1.heap.size w1 w3) := B2a.out.trans (B3.out.mono B2a.out.size)
  have hal3 : Hid (Below w3.heap.size w3 (w3.alloc (.cells #[.int .i64 id', .int .i64 n', .string s', .string t'] 35))) := (Below.refl _ _).alloc (Nat.le_refl _) _
  have B3a : Hid (Below w1.heap.size w1 (w3.alloc (.cells #[.int .i64 id', .int .i64 n', .string s', .string t'] 35))) := B3'.out.trans (hal3.out.mono B3'.out.size)
  have Hv3 : Hid ((w3.alloc (.cells #[.int .i64 id', .int .i64 n', .string s', .string t'] 35)).heap[w3.heap.size]? = some (.cells #[.int .i64 id', .int .i64 n', .string s', .string t'] 35 (0, 0))) := heap_alloc_new w3 _
  have Hw3 : Hid (w2.heap.size + 1 ≤ w3.heap.size) := Lib.hid (by have := B3.out.size; simpa using this)
  clear b3 K3
  go_wp2_with fail
  refine (K4.out _ B3a.out).mono ?_
  rintro e w4 ⟨v4, rfl, ho4, b4⟩
  obtain ⟨A4, c4, rfl⟩ := own_form ho4
  have B4 := Lib.hid b4
  have Ho4 := Lib.hid ho4
  have B4' : Hid (Below w1.heap.size w1 w4) := B3a.out.trans (b4.mono B3a.out.size)
  clear b4 ho4 K4
  go_wp2_with fail
  refine (K5.out _ B4'.out).mono ?_
  rintro e w5 ⟨v5, rfl, ho5, b5⟩
  obtain ⟨A5, c5, rfl⟩ := own_form ho5
  have B5 := Lib.hid b5
  have Ho5 := Lib.hid ho5
  have B5' : Hid (Below w1.heap.size w1 w5) := B4'.out.trans (b5.mono B4'.out.size)
  clear b5 ho5 K5
  go_wp2_with fail
  refine (K6.out w5).mono ?_
  rintro e w6 ⟨rfl, b6⟩
  have B6 := Lib.hid b6
  have hw4 : w3.heap.size + 1 ≤ w4.heap.size := by have := B4.out.size; simpa using this
  have hw5 := B5.out.size
  have hw6 := B6.out.size
  have hw3 := Hw3.out
  have hd3 : w3.heap[w2.heap.size]? = some (.cells #[.int .i64 id', .int .i64 n', .string s', .string t'] 32 (0, 0)) := (B3.out.block _ (by simp)).trans Hv2.out
  have hd : w6.heap[w2.heap.size]? = some (.cells #[.int .i64 id', .int .i64 n', .string s', .string t'] 32 (0, 0)) := (B6.out.block _ (by omega)).trans ((B5.out.block _ (by omega)).trans ((B4.out.block _ (by simp; omega)).trans ((hal3.out.block _ (by omega)).trans hd3)))
  have he : w6.heap[w3.heap.size]? = some (.cells #[.int .i64 id', .int .i64 n', .string s', .string t'] 35 (0, 0)) := (B6.out.block _ (by omega)).trans ((B5.out.block _ (by omega)).trans ((B4.out.block _ (by simp)).trans Hv3.out))
  have d0 : w6.cell? ⟨w2.heap.size, 0, none⟩ = some (.int .i64 id') := by rw [cell_heap hd]; rfl
  have e0 : w6.cell? ⟨w3.heap.size, 0, none⟩ = some (.int .i64 id') := by rw [cell_heap he]; rfl
  have d1 : w6.cell? ⟨w2.heap.size, 1, none⟩ = some (.int .i64 n') := by rw [cell_heap hd]; rfl
  have e1 : w6.cell? ⟨w3.heap.size, 1, none⟩ = some (.int .i64 n') := by rw [cell_heap he]; rfl
  have d2 : w6.cell? ⟨w2.heap.size, 2, none⟩ = some (.string s') := by rw [cell_heap hd]; rfl
  have e2 : w6.cell? ⟨w3.heap.size, 2, none⟩ = some (.string s') := by rw [cell_heap he]; rfl
  have d3 : w6.cell? ⟨w2.heap.size, 3, none⟩ = some (.string t') := by rw [cell_heap hd]; rfl
  have e3 : w6.cell? ⟨w3.heap.size, 3, none⟩ = some (.string t') := by rw [cell_heap he]; rfl
  have h26 : w2.heap.size < w6.heap.size := by omega
  have h36 : w3.heap.size < w6.heap.size := by omega
  have hbx : (bx != bx) = false := by simp
  have hnn : ((us.length : Int) != (us.length : Int)) = false := by simp
  clear b6 K6 hd he hd3
  go_wp2_with fail
  have hal6 : Hid (Below w6.heap.size w6 (w6.alloc (.cells #[.int .i64 7, .int .i64 0, .string ⟨#[]⟩, .string ⟨#[]⟩] 32))) := (Below.refl _ _).alloc (Nat.le_refl _) _
  generalize w6.alloc (.cells #[.int .i64 7, .int .i64 0, .string ⟨#[]⟩, .string ⟨#[]⟩] 32) = w7 at *
  have B57 : Hid (Below w5.heap.size w5 w7) := B6.out.trans (hal6.out.mono hw6)
  have hs57 := B57.out.size
  clear d0 d1 d2 d3 e0 e1 e2 e3
  go_loopw [73] (fun i wr => ∃ k : Nat, i = .int .i64 k ∧ k ≤ us.length ∧ Hid (Below w7.heap.size w7 wr)) (fun i _ => us.length - (intOf i).toNat)
  case atStart => exact ⟨0, rfl, by omega, Lib.hid (Below.refl _ _)⟩
  case round =>
    obtain ⟨k, rfl, hk, hbr⟩ := hrel
    by_cases hlt2 : k < us.length
    · obtain ⟨u, hu⟩ : ∃ u, us[k]? = some u := ⟨us[k], List.getElem?_eq_getElem hlt2⟩
      obtain ⟨su, rfl⟩ := Hstr.out u (List.mem_of_getElem? hu)
      obtain ⟨g4, p4', hv4, hg4, hg4'⟩ := Ho4.out.form (by omega)
      injection hv4 with hv4 _ hc4'
      subst hv4
      obtain ⟨g5, p5', hv5, hg5, hg5'⟩ := Ho5.out.form (by omega)
      injection hv5 with hv5 _ hc5'
      subst hv5
      have e4 : w4.cell? ⟨g4, k, none⟩ = some (.string su) := by rw [← add0]; exact Ho4.out.cells (g := g4) rfl k _ hu
      have e5 : w5.cell? ⟨g5, k, none⟩ = some (.string su) := by rw [← add0]; exact Ho5.out.cells (g := g5) rfl k _ hu
      have f4 : wr.cell? ⟨g4, k, none⟩ = some (.string su) := by rw [hbr.out.cell (p := ⟨g4, k, none⟩) (by simp; omega), B57.out.cell (p := ⟨g4, k, none⟩) (by simp; omega), B5.out.cell (p := ⟨g4, k, none⟩) hg4']; exact e4
      have f5 : wr.cell? ⟨g5, k, none⟩ = some (.string su) := by rw [hbr.out.cell (p := ⟨g5, k, none⟩) (by simp; omega), B57.out.cell (p := ⟨g5, k, none⟩) hg5']; exact e5
      have i1 : (0 : Int) ≤ (k : Int) := by omega
      have i2 : (k : Int) < (us.length : Int) := by omega
      clear e4 e5 hu hc4' hc5'
      go_wp2_with fail
      go_quiet (fail)
      go_wp2
      go_roundw
      case rel => exact ⟨k + 1, by go_num, by omega, Lib.hid (hbr.out.trans (finds_drewN _ _ _))⟩
      case measure => simp [intOf]; omega
    · have hkl : k = us.length := by omega
      subst hkl
      go_wp2
      go_ret
      exact ⟨rfl, B1.out.trans ((B5'.out.trans ((B57.out.trans (hbr.out.mono hs57)).mono B5'.out.size)).mono B1.out.size)⟩
end Go.Proofs.Ytpkbakmiofbojaa
