/- Find: the program's and the document's. -/
import Derived.Test.YtpkbakmiofbojaaPrIndex
import Derived.Test.YtpkbakmiofbojaaVarClone
import Derived.Deep.RegionHeld3
namespace Go.Proofs.Ytpkbakmiofbojaa
open Go.RowKit

def zeroP : Pr := ⟨0, 0, ⟨#[]⟩, ⟨#[]⟩⟩
/-- What Find answers. -/
def FindX (w : World) (x : Option Pr) (e : Ending) (w' : World) : Prop :=
  e = .returned (.tuple #[.agg #[.int .i64 (x.getD zeroP).id, .int .i64 (x.getD zeroP).n, .string (x.getD zeroP).s, .string (x.getD zeroP).t], .bool x.isSome]) ∧ Below w.heap.size w w'
theorem below_of_drew {B : Nat} {a b : World} (h : Below B a.drew b) : Below B a b := ⟨h.os, h.tape, h.output, h.size, h.block⟩

set_option maxRecDepth 100000 in
set_option maxHeartbeats 4000000 in
theorem find_any (A : Option Addr) (cap : Nat) (l : List Pr) (id : Int) (w : World) (hl : l.length ≤ 1000) (h : Props w A l) (hs : ∀ p ∈ l, p.s.size ≤ 140737488351232 ∧ p.t.size ≤ 140737488351232) :
    Calls Try.prog 8 #[.slice A l.length cap, .int .i64 id] w (FindX w (fnd id l)) := by
  have hbl := (Below.refl w.heap.size w).alloc (Nat.le_refl _) (.cells #[.int .i64 0, .int .i64 0, .string ⟨#[]⟩, .string ⟨#[]⟩] 32)
  have C := Lib.hid (index_any A cap l id _ hl (h.below hbl))
  have H := Lib.hid h
  have Hb := Lib.hid hbl
  rcases ix_spec id l 0 with ⟨h1, h2⟩ | ⟨j, p, h1, h2, h3⟩
  · rw [h1] at C
    rw [h2]
    show Calls Try.prog 8 #[.slice A l.length cap, .int .i64 id] w fun e w' => e = .returned (.tuple #[.agg #[.int .i64 0, .int .i64 0, .string ⟨#[]⟩, .string ⟨#[]⟩], .bool false]) ∧ Below w.heap.size w w'
    clear h hbl h1 h2 hs
    go_enter Try.func8, Try.ntmps8
    go_wp2_with fail
    refine C.out.mono ?_
    rintro e w1 ⟨rfl, b1⟩
    have hblk : w1.heap[w.heap.size]? = some (.cells #[.int .i64 0, .int .i64 0, .string ⟨#[]⟩, .string ⟨#[]⟩] 32 (0, 0)) := by rw [b1.block _ (by simp)]; exact heap_alloc_new w _
    have z0 : w1.cell? ⟨w.heap.size, 0, none⟩ = some (.int .i64 0) := by rw [cell_heap hblk]; rfl
    have z1 : w1.cell? ⟨w.heap.size, 1, none⟩ = some (.int .i64 0) := by rw [cell_heap hblk]; rfl
    have z2 : w1.cell? ⟨w.heap.size, 2, none⟩ = some (.string ⟨#[]⟩) := by rw [cell_heap hblk]; rfl
    have z3 : w1.cell? ⟨w.heap.size, 3, none⟩ = some (.string ⟨#[]⟩) := by rw [cell_heap hblk]; rfl
    have f0 : w1.frozen? ⟨w.heap.size, 0, none⟩ = false := frozen_heap hblk
    have f1 : w1.frozen? ⟨w.heap.size, 1, none⟩ = false := frozen_heap hblk
    have f2 : w1.frozen? ⟨w.heap.size, 2, none⟩ = false := frozen_heap hblk
    have f3 : w1.frozen? ⟨w.heap.size, 3, none⟩ = false := frozen_heap hblk
    have B1 := Lib.hid (Hb.out.trans (b1.mono (by simp)))
    clear b1 C hblk
    go_wp2
    have hb5 := (((B1.out.setCell (p := ⟨w.heap.size, 0, none⟩) (Nat.le_refl _) (.int .i64 0)).setCell (p := ⟨w.heap.size, 1, none⟩) (Nat.le_refl _) (.int .i64 0)).setCell (p := ⟨w.heap.size, 2, none⟩) (Nat.le_refl _) (.string ⟨#[]⟩)).setCell (p := ⟨w.heap.size, 3, none⟩) (Nat.le_refl _) (.string ⟨#[]⟩)
    exact bodyPost_ret (v := .tuple #[.agg #[.int .i64 0, .int .i64 0, .string ⟨#[]⟩, .string ⟨#[]⟩], .bool false]) (by simp [results, Try.results8, go_sem, z0, z1, z2, z3]) rfl ⟨rfl, hb5⟩
  · rw [h1, Nat.zero_add] at C
    rw [h3]
    have hsp := hs p (List.mem_of_getElem? h2)
    have hjl := (List.getElem?_eq_some_iff.1 h2).1
    obtain ⟨g, o, rfl, hg, r0, r1, r2, r3⟩ := H.out j p h2
    obtain ⟨id', n', s', t'⟩ := p
    simp only at r0 r1 r2 r3 hsp
    show Calls Try.prog 8 #[.slice (some ⟨g, o, none⟩) l.length cap, .int .i64 id] w fun e w' => e = .returned (.tuple #[.agg #[.int .i64 id', .int .i64 n', .string s', .string t'], .bool true]) ∧ Below w.heap.size w w'
    have i1 : (j : Int) < (l.length : Int) := by omega
    have i0 : (0 : Int) ≤ (j : Int) := by omega
    have hn0 : decide ((j : Int) < 0) = false := by simp
    obtain ⟨hs1, hs2⟩ := hsp
    clear h hbl h1 h2 h3 hs
    go_enter Try.func8, Try.ntmps8
    go_wp2_with fail
    refine C.out.mono ?_
    rintro e w1 ⟨rfl, b1⟩
    have B1 := Lib.hid (Hb.out.trans (b1.mono (by simp)))
    have hsz1 : w.heap.size + 1 ≤ w1.heap.size := by have := b1.size; simpa using this
    have hblk : w1.heap[w.heap.size]? = some (.cells #[.int .i64 0, .int .i64 0, .string ⟨#[]⟩, .string ⟨#[]⟩] 32 (0, 0)) := by rw [b1.block _ (by simp)]; exact heap_alloc_new w _
    have q0 : w1.cell? ⟨g, o + j * 4, none⟩ = some (.int .i64 id') := by rw [B1.out.cell (by simpa using hg)]; exact r0
    have q1 : w1.cell? ⟨g, o + j * 4 + 1, none⟩ = some (.int .i64 n') := by rw [B1.out.cell (by simpa using hg)]; exact r1
    have q2 : w1.cell? ⟨g, o + j * 4 + 2, none⟩ = some (.string s') := by rw [B1.out.cell (by simpa using hg)]; exact r2
    have q3 : w1.cell? ⟨g, o + j * 4 + 3, none⟩ = some (.string t') := by rw [B1.out.cell (by simpa using hg)]; exact r3
    have Hblk := Lib.hid hblk
    clear b1 C hblk r0 r1 r2 r3
    go_wp2_with fail
    have hal := (Below.refl w1.heap.size w1).alloc (Nat.le_refl _) (.cells #[.int .i64 id', .int .i64 n', .string s', .string t'] 32)
    have hvb : (w1.alloc (.cells #[.int .i64 id', .int .i64 n', .string s', .string t'] 32)).heap[w1.heap.size]? = some (.cells #[.int .i64 id', .int .i64 n', .string s', .string t'] 32 (0, 0)) := heap_alloc_new w1 _
    have hvs : w1.heap.size + 1 ≤ (w1.alloc (.cells #[.int .i64 id', .int .i64 n', .string s', .string t'] 32)).heap.size := by simp
    generalize w1.alloc (.cells #[.int .i64 id', .int .i64 n', .string s', .string t'] 32) = V at *
    have Hal := Lib.hid hal
    have Hvb := Lib.hid hvb
    have c2 : V.cell? ⟨w1.heap.size, 2, none⟩ = some (.string s') := by rw [cell_heap hvb]; rfl
    have c3 : V.cell? ⟨w1.heap.size, 3, none⟩ = some (.string t') := by rw [cell_heap hvb]; rfl
    clear hal hvb
    go_region_held3 (fun w' => w'.cell? ⟨w1.heap.size, 2, none⟩ = some (.string s') ∧ w'.cell? ⟨w1.heap.size, 3, none⟩ = some (.string t'))
      (first | exact ⟨c2, c3⟩ | exact ⟨k2, k3⟩ | exact ⟨m2, m3⟩ | exact ⟨n2, n3⟩ | exact ⟨p2, p3⟩)
      (first
        | (go_at_call 14
           refine (clone_any t' _ (by omega)).mono ?_
           rintro en w3 ⟨rfl, b3⟩
           have HV3 : Hid (Below V.heap.size V w3) := HV2.out.trans (b3.mono HV2.out.size)
           have hb3 : w3.heap[w1.heap.size]? = some (.cells #[.int .i64 id', .int .i64 n', .string s', .string t'] 32 (0, 0)) := (HV3.out.block _ (by omega)).trans Hvb.out
           have m2 : w3.cell? ⟨w1.heap.size, 2, none⟩ = some (.string s') := by rw [cell_heap hb3]; rfl
           have m3 : w3.cell? ⟨w1.heap.size, 3, none⟩ = some (.string t') := by rw [cell_heap hb3]; rfl
           have m0 : w3.cell? ⟨w1.heap.size, 0, none⟩ = some (.int .i64 id') := by rw [cell_heap hb3]; rfl
           have m1 : w3.cell? ⟨w1.heap.size, 1, none⟩ = some (.int .i64 n') := by rw [cell_heap hb3]; rfl
           have g2 : w3.frozen? ⟨w1.heap.size, 2, none⟩ = false := frozen_heap hb3
           have g3 : w3.frozen? ⟨w1.heap.size, 3, none⟩ = false := frozen_heap hb3
           have n2 : (w3.setCell ⟨w1.heap.size, 2, none⟩ (.string s')).cell? ⟨w1.heap.size, 2, none⟩ = some (.string s') := World.cell?_setCell_same _ _ _ m2
           have n3 : (w3.setCell ⟨w1.heap.size, 2, none⟩ (.string s')).cell? ⟨w1.heap.size, 3, none⟩ = some (.string t') := (World.cell?_setCell_other _ _ _ _ (fun e => by injection e with _ e; cases e)).trans m3
           have p2 : ((w3.setCell ⟨w1.heap.size, 2, none⟩ (.string s')).setCell ⟨w1.heap.size, 3, none⟩ (.string t')).cell? ⟨w1.heap.size, 2, none⟩ = some (.string s') := (World.cell?_setCell_other _ _ _ _ (fun e => by injection e with _ e; cases e)).trans n2
           have p3 : ((w3.setCell ⟨w1.heap.size, 2, none⟩ (.string s')).setCell ⟨w1.heap.size, 3, none⟩ (.string t')).cell? ⟨w1.heap.size, 3, none⟩ = some (.string t') := World.cell?_setCell_same _ _ _ n3
           clear b3 hb3)
        | (go_at_call 14
           refine (clone_any s' _ (by omega)).mono ?_
           rintro en w2 ⟨rfl, b2⟩
           have HV2 : Hid (Below V.heap.size V w2) := below_of_drew b2
           have k2 : w2.cell? ⟨w1.heap.size, 2, none⟩ = some (.string s') := by rw [HV2.out.cell (p := ⟨w1.heap.size, 2, none⟩) (by simp; omega)]; exact c2
           have k3 : w2.cell? ⟨w1.heap.size, 3, none⟩ = some (.string t') := by rw [HV2.out.cell (p := ⟨w1.heap.size, 3, none⟩) (by simp; omega)]; exact c3
           clear b2))
    have hblk3 : w3.heap[w.heap.size]? = some (.cells #[.int .i64 0, .int .i64 0, .string ⟨#[]⟩, .string ⟨#[]⟩] 32 (0, 0)) := (HV3.out.block _ (by omega)).trans ((Hal.out.block _ (by omega)).trans Hblk.out)
    have z0 : w3.cell? ⟨w.heap.size, 0, none⟩ = some (.int .i64 0) := by rw [cell_heap hblk3]; rfl
    have z1 : w3.cell? ⟨w.heap.size, 1, none⟩ = some (.int .i64 0) := by rw [cell_heap hblk3]; rfl
    have z2 : w3.cell? ⟨w.heap.size, 2, none⟩ = some (.string ⟨#[]⟩) := by rw [cell_heap hblk3]; rfl
    have z3 : w3.cell? ⟨w.heap.size, 3, none⟩ = some (.string ⟨#[]⟩) := by rw [cell_heap hblk3]; rfl
    have f0 : w3.frozen? ⟨w.heap.size, 0, none⟩ = false := frozen_heap hblk3
    have f1 : w3.frozen? ⟨w.heap.size, 1, none⟩ = false := frozen_heap hblk3
    have f2 : w3.frozen? ⟨w.heap.size, 2, none⟩ = false := frozen_heap hblk3
    have f3 : w3.frozen? ⟨w.heap.size, 3, none⟩ = false := frozen_heap hblk3
    have hne : w.heap.size ≠ w1.heap.size := by omega
    have hne' : w1.heap.size ≠ w.heap.size := by omega
    clear hblk3
    go_wp2
    have hbw : Below w.heap.size w w3 := B1.out.trans ((Hal.out.trans (HV3.out.mono (by omega))).mono (by omega))
    have hb5 := (((((hbw.setCell (p := ⟨w1.heap.size, 2, none⟩) (by simp; omega) (.string s')).setCell (p := ⟨w1.heap.size, 3, none⟩) (by simp; omega) (.string t')).setCell (p := ⟨w.heap.size, 0, none⟩) (Nat.le_refl _) (.int .i64 id')).setCell (p := ⟨w.heap.size, 1, none⟩) (Nat.le_refl _) (.int .i64 n')).setCell (p := ⟨w.heap.size, 2, none⟩) (Nat.le_refl _) (.string s')).setCell (p := ⟨w.heap.size, 3, none⟩) (Nat.le_refl _) (.string t')
    exact bodyPost_ret (v := .tuple #[.agg #[.int .i64 id', .int .i64 n', .string s', .string t'], .bool true]) (by simp [results, Try.results8, go_sem, z0, z1, z2, z3]) rfl ⟨rfl, hb5⟩

set_option maxRecDepth 100000 in
set_option maxHeartbeats 4000000 in
theorem rfind_any (A : Option Addr) (cap : Nat) (l : List Pr) (id : Int) (w : World) (hl : l.length ≤ 1000) (h : Props w A l) :
    Calls Try.prog 9 #[.slice A l.length cap, .int .i64 id] w (FindX w (fnd id l)) := by
  have hbl := (Below.refl w.heap.size w).alloc (Nat.le_refl _) (.cells #[.int .i64 0, .int .i64 0, .string ⟨#[]⟩, .string ⟨#[]⟩] 35)
  have hblk : (w.alloc (.cells #[.int .i64 0, .int .i64 0, .string ⟨#[]⟩, .string ⟨#[]⟩] 35)).heap[w.heap.size]? = some (.cells #[.int .i64 0, .int .i64 0, .string ⟨#[]⟩, .string ⟨#[]⟩] 35 (0, 0)) := heap_alloc_new w _
  have hvs : w.heap.size + 1 ≤ (w.alloc (.cells #[.int .i64 0, .int .i64 0, .string ⟨#[]⟩, .string ⟨#[]⟩] 35)).heap.size := by simp
  have H := Lib.hid (h.below hbl)
  have Hb := Lib.hid hbl
  have HW := Lib.hid h
  clear h hbl
  go_enter Try.func9, Try.ntmps9
  go_wp2
  generalize w.alloc (.cells #[.int .i64 0, .int .i64 0, .string ⟨#[]⟩, .string ⟨#[]⟩] 35) = V at *
  have z0 : V.cell? ⟨w.heap.size, 0, none⟩ = some (.int .i64 0) := by rw [cell_heap hblk]; rfl
  have z1 : V.cell? ⟨w.heap.size, 1, none⟩ = some (.int .i64 0) := by rw [cell_heap hblk]; rfl
  have z2 : V.cell? ⟨w.heap.size, 2, none⟩ = some (.string ⟨#[]⟩) := by rw [cell_heap hblk]; rfl
  have z3 : V.cell? ⟨w.heap.size, 3, none⟩ = some (.string ⟨#[]⟩) := by rw [cell_heap hblk]; rfl
  have f0 : V.frozen? ⟨w.heap.size, 0, none⟩ = false := frozen_heap hblk
  have f1 : V.frozen? ⟨w.heap.size, 1, none⟩ = false := frozen_heap hblk
  have f2 : V.frozen? ⟨w.heap.size, 2, none⟩ = false := frozen_heap hblk
  have f3 : V.frozen? ⟨w.heap.size, 3, none⟩ = false := frozen_heap hblk
  clear hblk
  go_loop [6] (fun i => ∃ k : Nat, i = .int .i64 k ∧ k ≤ l.length ∧ Hid (fnd id (l.drop k) = fnd id l)) (fun i => l.length - (intOf i).toNat)
  case atStart => exact ⟨0, rfl, by omega, Lib.hid rfl⟩
  case round =>
    obtain ⟨k, rfl, hk, hk1⟩ := hrel
    by_cases hlt : k < l.length
    · obtain ⟨p, hp⟩ : ∃ p, l[k]? = some p := ⟨l[k], List.getElem?_eq_getElem hlt⟩
      obtain ⟨g, o, rfl, hg, q0, q1, q2, q3⟩ := H.out k p hp
      obtain ⟨g', o', hA', hg', _⟩ := HW.out k p hp
      have hgw : g < w.heap.size := by injection hA' with hA'; injection hA' with h1; omega
      clear hA' hg'
      have i1 : (k : Int) < (l.length : Int) := by omega
      have i0 : (0 : Int) ≤ (k : Int) := by omega
      by_cases he : (p.id == id) = true
      · have E1 := Lib.hid (fnd_yes hp he)
        obtain ⟨id', n', s', t'⟩ := p
        simp only at q0 q1 q2 q3 he
        have hne : g ≠ w.heap.size := by omega
        clear hp
        go_wp2
        have hb5 := (((Hb.out.setCell (p := ⟨w.heap.size, 0, none⟩) (Nat.le_refl _) (.int .i64 id')).setCell (p := ⟨w.heap.size, 1, none⟩) (Nat.le_refl _) (.int .i64 n')).setCell (p := ⟨w.heap.size, 2, none⟩) (Nat.le_refl _) (.string s')).setCell (p := ⟨w.heap.size, 3, none⟩) (Nat.le_refl _) (.string t')
        refine bodyPost_ret (v := .tuple #[.agg #[.int .i64 id', .int .i64 n', .string s', .string t'], .bool true]) (by simp [results, Try.results9, go_sem, z0, z1, z2, z3]) rfl ?_
        rw [← hk1.out, E1.out]
        exact ⟨rfl, hb5⟩
      · have he' : (p.id == id) = false := by simpa using he
        have E1 := Lib.hid (fnd_no hp he')
        clear hp he
        go_wp2
        go_round
        case rel => exact ⟨k + 1, by go_num, by omega, Lib.hid (by rw [← E1.out]; exact hk1.out)⟩
        case measure => simp [intOf]; omega
    · have hkl : k = l.length := by omega
      subst hkl
      have E1 := Lib.hid (fnd_end id l)
      go_wp2
      have hb5 := (((Hb.out.setCell (p := ⟨w.heap.size, 0, none⟩) (Nat.le_refl _) (.int .i64 0)).setCell (p := ⟨w.heap.size, 1, none⟩) (Nat.le_refl _) (.int .i64 0)).setCell (p := ⟨w.heap.size, 2, none⟩) (Nat.le_refl _) (.string ⟨#[]⟩)).setCell (p := ⟨w.heap.size, 3, none⟩) (Nat.le_refl _) (.string ⟨#[]⟩)
      refine bodyPost_ret (v := .tuple #[.agg #[.int .i64 0, .int .i64 0, .string ⟨#[]⟩, .string ⟨#[]⟩], .bool false]) (by simp [results, Try.results9, go_sem, z0, z1, z2, z3]) rfl ?_
      rw [← hk1.out, E1.out]
      exact ⟨rfl, hb5⟩
end Go.Proofs.Ytpkbakmiofbojaa
