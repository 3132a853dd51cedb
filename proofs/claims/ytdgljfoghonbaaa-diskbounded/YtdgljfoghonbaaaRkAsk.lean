/- The document's Crash and Ask. -/
import Derived.Test.YtdgljfoghonbaaaRkLose
import Derived.Test.YtdgljfoghonbaaaDkCrash
import Derived.Test.YtdgljfoghonbaaaDkClos
namespace Go.Proofs.Ytdgljfoghonbaaa
open Go.RowKit DK

/-- Numbers that lie apart from block r. -/
def AInts (r : Nat) (w : World) (A : Option Addr) (l : List Int) : Prop := Ints w A l ∧ (l ≠ [] → ∀ g o, A = some ⟨g, o, none⟩ → g ≠ r)
theorem rlose_any (r : Nat) (R : Rv) (A : Option Addr) (l : List Int) (cap : Nat) (w : World) (h : Rk r R w) (ho : ROk R) (H : AInts r w A l) :
    Calls Try.prog 41 #[.pointer (some ⟨r, 0, none⟩), .slice A l.length cap] w (RetP r (R.lose (numAt l 0) (numAt l 1)) w (.tuple #[])) := by
  obtain ⟨hI, hA⟩ := H
  match l, hI with
  | [], _ => exact rlose0_any r R A cap w h ho
  | [a], hI =>
    obtain ⟨ia, g, o, rfl, hg, hc⟩ := hI 0 a rfl
    exact rlose1_any r R g o a ia (hA (by simp) g o rfl) cap w h ho hc
  | a :: b :: l, hI =>
    obtain ⟨ia, g, o, rfl, hg, hc⟩ := hI 0 a rfl
    obtain ⟨ib, g', o', e, hg', hc'⟩ := hI 1 b rfl
    injection e with e
    injection e with e1 e2
    subst e1 e2
    exact rlose2_any r R g o (l.length + 1 + 1) (by omega) a b ia ib (hA (by simp) g o rfl) cap w h ho hc hc'
set_option maxRecDepth 100000 in
theorem rcrash_any (r : Nat) (R : Rv) (A : Option Addr) (l : List Int) (cap : Nat) (w : World) (h : Rk r R w) (ho : ROk R) (H : AInts r w A l) :
    Calls Try.prog 27 #[.pointer (some ⟨r, 0, none⟩), .slice A l.length cap] w (RetP r (R.crash (numAt l 0) (numAt l 1)) w (.tuple #[])) := by
  have CL := Lib.hid (rlose_any r R A l cap w h ho H)
  have CO := Lib.hid (fun R W h => ron_any r R W h)
  have C0 := Lib.hid (ron_any r R w h)
  obtain ⟨vk, h⟩ := h
  obtain ⟨-, -, -, -, -, c5, -⟩ := h.cells
  have HD : Hid (R.crash (numAt l 0) (numAt l 1) = (if R.off = true then R else R.lose (numAt l 0) (numAt l 1)).on) := Lib.hid rfl
  generalize l.length = n at *
  clear h ho H
  by_cases hoff : R.off = true
  · rw [HD.out, if_pos hoff]
    rw [hoff] at c5
    clear hoff HD CL CO
    go_enter Try.func27, Try.ntmps27
    go_wp2_with fail
    refine C0.out.mono ?_
    rintro e w1 he
    have HE := Lib.hid he
    obtain ⟨rfl, -⟩ := he
    go_wp2_with fail
    go_end0
    exact HE.out
  · have hoff' : R.off = false := by simpa using hoff
    rw [HD.out, if_neg hoff]
    rw [hoff'] at c5
    clear hoff hoff' HD C0
    go_enter Try.func27, Try.ntmps27
    go_wp2_with fail
    refine CL.out.mono ?_
    rintro e w1 ⟨rfl, h1, k1⟩
    have C1 := Lib.hid (CO.out _ w1 h1)
    have K1 := Lib.hid k1
    clear CL CO h1 k1
    go_wp2_with fail
    refine C1.out.mono ?_
    rintro e w2 ⟨rfl, h2, k2⟩
    have HF : Hid (RetP r (R.lose (numAt l 0) (numAt l 1)).on w (.tuple #[]) (.returned (.tuple #[])) w2) := Lib.hid ⟨rfl, h2, K1.out.trans k2⟩
    clear h2 k2 C1 K1
    go_wp2_with fail
    go_end0
    exact HF.out

/-- One number more behind the numbers kept. -/
theorem keep_more (w : World) (r : Nat) (v : Value) (l : List Int) (z : Int) (hown : w.ownsRow r 3 1 v l.length (intCells' l)) (hl : l.length ≤ 4) (hr : r ≤ w.heap.size) :
    ∃ v' w', (Builtin.append_ #[29, 29] 29 #[v, .slice (some ⟨w.heap.size, 0, none⟩) 1 1]).run Try.prog (w.alloc (.cells #[.int .i64 z] 3)) = .ok v' w' ∧ w'.ownsRow r 3 1 v' (l.length + 1) (intCells' (l ++ [z])) ∧ w.grownBy w' v.ownBlock := by
  obtain ⟨i0, hi, hz0, hz1, hz2⟩ := info_parts intInfo
  obtain ⟨v', w', hr', hown', hg, -, -⟩ := run_append_own_at (P := Try.prog) (w.alloc (.cells #[.int .i64 z] 3)) r 29 29 3 i0 (.int .i64 0) 1 8 Try.underlying29 hi hz0 hz1 hz2 rfl (by decide) v l.length (intCells' l) (hown.alloc _) ⟨w.heap.size, 0, none⟩ 1 1 [.int .i64 z] rfl
    (fun j u hu => cell_one_new w (.int .i64 z) 3 j u hu) (fun u hu => by simp at hu; subst hu; rfl) (by unfold maxLen; omega) (by omega) (by simp; omega)
  exact ⟨v', w', hr', by simpa [intCells'] using hown', ⟨hg.os, hg.tape, hg.output, by have := hg.size; simp at this; omega, fun k hk hne => (hg.block k (by simp; omega) hne).trans (Below.heap_alloc w _ k hk)⟩⟩
/-- The state of Ask's loop. -/
def AskI (r : Nat) (R : Rv) (w : World) (l : List Int) (k : Nat) (wr : World) : Prop := Rk r { R with keep := l.take k } wr ∧ Kt 3 r w wr

set_option maxRecDepth 100000 in
set_option maxHeartbeats 2000000 in
theorem ask_any (r : Nat) (R : Rv) (n : Int) (A : Option Addr) (l : List Int) (cap : Nat) (w : World) (h : Rk r R w) (hl : l.length ≤ 4) (H : ∀ w', Kt 3 r w w' → Ints w' A l) :
    Calls Try.prog 25 #[.pointer (some ⟨r, 0, none⟩), .int .i64 n, .slice A l.length cap] w (RetP r (R.ask n l) w (.tuple #[])) := by
  obtain ⟨vk, h⟩ := h
  obtain ⟨-, -, -, -, -, -, c6, c7, -, -⟩ := h.cells
  have f6 := h.loose 6
  have f7 := h.loose 7
  have h1 := h.set (R' := { R with cut := 0 }) 6 (.int .i64 0) rfl rfl
  obtain ⟨c, hc⟩ : ∃ c, c = if 0 < n then n else 0 := ⟨_, rfl⟩
  have HR : Hid (R.ask n l = { R with cut := c, keep := l }) := Lib.hid (by rw [hc]; rfl)
  have HI := Lib.hid H
  have fin : Hid (∀ W, AskI r { R with cut := c } w l l.length W → RetP r (R.ask n l) w (.tuple #[]) (.returned (.tuple #[])) W) := Lib.hid (fun W hW => by
    obtain ⟨a, b⟩ := hW
    rw [List.take_length] at a
    exact ⟨rfl, by rw [HR.out]; exact a, b⟩)
  have round : Hid (∀ (k : Nat) W, k < l.length → AskI r { R with cut := c } w l k W → ∃ z g o vk v' w', A = some ⟨g, o, none⟩ ∧ W.cell? ⟨g, o + k, none⟩ = some (.int .i64 z) ∧ W.cell? ⟨r, 7, none⟩ = some vk ∧ (W.alloc (.cells #[.int .i64 z] 3)).cell? ⟨r, 7, none⟩ = some vk ∧ (∃ a b, vk = .slice a k b) ∧
      (Builtin.append_ #[29, 29] 29 #[vk, .slice (some ⟨W.heap.size, 0, none⟩) 1 1]).run Try.prog (W.drew.alloc (.cells #[.int .i64 z] 3)) = .ok v' w' ∧ w'.cell? ⟨r, 7, none⟩ = some vk ∧ w'.frozen? ⟨r, 7, none⟩ = false ∧ (∃ a b, v' = .slice a (k + 1) b) ∧ AskI r { R with cut := c } w l (k + 1) (w'.setCell ⟨r, 7, none⟩ v')) := Lib.hid (fun k W hk hW => by
    obtain ⟨⟨vk, hA⟩, hK⟩ := hW
    obtain ⟨-, g, o, rfl, hg, hc⟩ := HI.out W hK k l[k] (List.getElem?_eq_getElem hk)
    have hlen : (l.take k).length = k := by rw [List.length_take]; omega
    have hown : W.ownsRow r 3 1 vk (l.take k).length (intCells' (l.take k)) := hA.2
    obtain ⟨v', w', hr, ho, hgr⟩ := keep_more W.drew r vk (l.take k) l[k] hown (by omega) (Nat.le_of_lt (lt_heap hA.1))
    have hne := hA.ne
    have hb : w'.heap[r]? = _ := (hgr.block r (lt_heap hA.1) (fun e => hne e.symm)).trans hA.1
    have htk : l.take k ++ [l[k]] = l.take (k + 1) := (List.take_succ_eq_append_getElem hk).symm
    rw [htk] at ho
    have hlen2 : (l.take (k + 1)).length = k + 1 := by rw [List.length_take]; omega
    rw [hlen] at ho
    obtain ⟨a1, b1, e1⟩ := own_form hown
    rw [hlen] at e1
    refine ⟨l[k], g, o, vk, v', w', rfl, hc, by rw [cell_heap hA.1]; rfl, by rw [cell_heap ((Below.heap_alloc W _ r (lt_heap hA.1)).trans hA.1)]; rfl, ⟨a1, b1, e1⟩, hr, by rw [cell_heap hb]; rfl, frozen_heap hb, own_form ho, ⟨v', set_block hb rfl, ?_⟩, ?_⟩
    · show World.ownsRow _ _ _ _ _ (l.take (k + 1)).length _
      rw [hlen2]
      exact own_set ho (own_ne ho hb (by decide))
    · have h1 : Kt 3 r W.drew w' := (Kt.refl _ _ _).grown hown (Nat.le_refl _) (Nat.le_of_lt (lt_heap hA.1)) hgr
      exact (hK.trans ⟨⟨h1.1.os, h1.1.tape, h1.1.output, h1.1.size, h1.1.block⟩, h1.2⟩).setCell 7 v')
  by_cases hp : 0 < n
  · rw [if_pos hp] at hc
    subst hc
    have h2 := h1.set (R' := { R with cut := c }) 6 (.int .i64 c) rfl rfl
    have b3 := set_block (j := 7) (u := .slice none 0 0) h2.1 rfl
    have I0 : Hid (AskI r { R with cut := c } w l 0 (((w.setCell ⟨r, 6, none⟩ (.int .i64 0)).setCell ⟨r, 6, none⟩ (.int .i64 c)).setCell ⟨r, 7, none⟩ (.slice none 0 0))) := Lib.hid ⟨⟨_, b3, own_nil _ _ _ _⟩, (((Kt.refl _ _ _).setCell _ _).setCell _ _).setCell _ _⟩
    clear h h1 h2 b3 H HR HI
    go_enter Try.func25, Try.ntmps25
    go_wp2_with fail
    go_loopw [6] (fun i wr => ∃ k : Nat, i = .int .i64 k ∧ k ≤ l.length ∧ Hid (AskI r { R with cut := c } w l k wr)) (fun i _ => l.length - (intOf i).toNat)
    case atStart => exact ⟨0, rfl, Nat.zero_le _, I0⟩
    case round =>
      obtain ⟨k, rfl, hk, hst⟩ := hrel
      by_cases hlt : k < l.length
      · obtain ⟨z, g, o, vk', v', w', rfl, q1, q2, q2', ⟨a1, b1, rfl⟩, hr, q3, q4, ⟨a2, b2, rfl⟩, hn⟩ := round.out k wr hlt hst.out
        have i0 : (0 : Int) ≤ (k : Int) := by omega
        have i1 : (k : Int) < (l.length : Int) := by omega
        have HN := Lib.hid hn
        clear hn hst I0 round fin
        go_wp2_with fail
        go_region_law (refine step_run (by rfl) (.tmp 29) (.tmp 34) _ _ (by rfl) (by rfl) (by rfl) hr ?_)
        all_goals
          go_wp2_with fail
          go_roundw
          case rel => exact ⟨k + 1, by go_num, by omega, HN⟩
          case measure => simp [intOf]; omega
      · have hkn : k = l.length := by omega
        subst hkn
        have HE := Lib.hid (fin.out wr hst.out)
        clear hst I0 round fin
        go_wp2_with fail
        go_end0
        exact HE.out
  · rw [if_neg hp] at hc
    subst hc
    have b3 := set_block (j := 7) (u := .slice none 0 0) h1.1 rfl
    have I0 : Hid (AskI r { R with cut := 0 } w l 0 ((w.setCell ⟨r, 6, none⟩ (.int .i64 0)).setCell ⟨r, 7, none⟩ (.slice none 0 0))) := Lib.hid ⟨⟨_, b3, own_nil _ _ _ _⟩, ((Kt.refl _ _ _).setCell _ _).setCell _ _⟩
    clear h h1 b3 H HR HI
    go_enter Try.func25, Try.ntmps25
    go_wp2_with fail
    go_loopw [6] (fun i wr => ∃ k : Nat, i = .int .i64 k ∧ k ≤ l.length ∧ Hid (AskI r { R with cut := 0 } w l k wr)) (fun i _ => l.length - (intOf i).toNat)
    case atStart => exact ⟨0, rfl, Nat.zero_le _, I0⟩
    case round =>
      obtain ⟨k, rfl, hk, hst⟩ := hrel
      by_cases hlt : k < l.length
      · obtain ⟨z, g, o, vk', v', w', rfl, q1, q2, q2', ⟨a1, b1, rfl⟩, hr, q3, q4, ⟨a2, b2, rfl⟩, hn⟩ := round.out k wr hlt hst.out
        have i0 : (0 : Int) ≤ (k : Int) := by omega
        have i1 : (k : Int) < (l.length : Int) := by omega
        have HN := Lib.hid hn
        clear hn hst I0 round fin
        go_wp2_with fail
        go_region_law (refine step_run (by rfl) (.tmp 29) (.tmp 34) _ _ (by rfl) (by rfl) (by rfl) hr ?_)
        all_goals
          go_wp2_with fail
          go_roundw
          case rel => exact ⟨k + 1, by go_num, by omega, HN⟩
          case measure => simp [intOf]; omega
      · have hkn : k = l.length := by omega
        subst hkn
        have HE := Lib.hid (fin.out wr hst.out)
        clear hst I0 round fin
        go_wp2_with fail
        go_end0
        exact HE.out
end Go.Proofs.Ytdgljfoghonbaaa
