/- The reader's filters with their options.; The reader's lists. (Written by wip/tools/gen_rlist.py.); The reader at a packet: what stands ahead of a list.; The reader at a packet: endings that may be left out.; The reader at a packet: publish.; The reader at a packet: the flags of a Connect. -/
import Derived.Test.YtjajandjdclifaaGreatDoorMF
import Derived.Test.YtjajandjdclifaaGreatDoorMA
namespace Go.Proofs.YtjajandjdclifaaGreatDoor
open Go.RowKit
attribute [local go_sem ↓] Go.wp_at_zero Go.wp_at_succ

namespace PK
/-- The options that a byte tells. -/
def subOf (f : ByteArray) (n : Int) : Sb := ⟨f, bits .and .i64 n 3, bits .and .i64 n 4 != 0, bits .and .i64 n 8 != 0, bits .and .i64 (n / 16) 3⟩
def subC (n : Int) : Int := if isQ (bits .and .i64 n 3) = false then 129 else if (bits .and .i64 n 192 != 0) = true then 129 else if isQ (bits .and .i64 (n / 16) 3) = false then 130 else 0
def rdSub (s : ByteArray) (a : Int) : Sb × Int × Int :=
  (subOf (TX.getT s a).1 (VP.rd s (TX.getT s a).2.1 1).1, (VP.rd s (TX.getT s a).2.1 1).2.1, thn (cm (TX.getT s a).2.2) (thn (cm (VP.rd s (TX.getT s a).2.1 1).2.2) (subC (VP.rd s (TX.getT s a).2.1 1).1)))
end PK
theorem Gr.setNew {r n : Nat} {w w' : World} (h : Gr r w w') (hn : w.heap.size ≤ n) (j : Nat) (u : Value) : Gr r w (w'.setCell ⟨n, j, none⟩ u) :=
  ⟨h.os, h.tape, h.output, by simp [World.setCell]; exact h.size, fun i hi hne => (Below.heap_setCell _ _ _ _ (fun e => by simp at e; omega)).trans (h.block i hi hne)⟩
theorem Gr.alloc {r : Nat} {w w' : World} (h : Gr r w w') (o : Obj) : Gr r w (w'.alloc o) := h.trans (Gr.of_below ((Below.refl _ _).alloc (Nat.le_refl _) o))
theorem RdAt.setOther {r n : Nat} {s : ByteArray} {a : Int} {w : World} (h : RdAt r s a w) (hn : r ≠ n) (j : Nat) (u : Value) : RdAt r s a (w.setCell ⟨n, j, none⟩ u) := (Below.heap_setCell _ _ _ _ (fun e => hn (by simpa using e))).trans h
theorem RdAt.alloc {r : Nat} {s : ByteArray} {a : Int} {w : World} (h : RdAt r s a w) (o : Obj) : RdAt r s a (w.alloc o) := h.below ((Below.refl _ _).alloc (Nat.le_refl _) o)
theorem Gr.kept {r n : Nat} {w w' : World} {o : Obj} (h : Gr r w w') (hn : n ≠ r) (hb : w.heap[n]? = some o) : w'.heap[n]? = some o := (h.block n (lt_heap hb) (fun e => hn (by injection e))).trans hb

set_option maxRecDepth 100000 in
set_option maxHeartbeats 4000000 in
theorem rsub_any (r : Nat) (s : ByteArray) (a : Int) (w : World) (h : RdAt r s a w) (hs : s.size ≤ 140737488351232) (hT : Tabs w) :
    Calls Tryz.prog 100 #[.pointer (some ⟨r, 0, none⟩)] w (RdP r s w (.agg #[.string (PK.rdSub s a).1.f, .int .i64 (PK.rdSub s a).1.q, .bool (PK.rdSub s a).1.nl, .bool (PK.rdSub s a).1.ap, .int .i64 (PK.rdSub s a).1.h]) (PK.rdSub s a).2.1 (PK.rdSub s a).2.2) := by
  have hal := (Below.refl w.heap.size w).alloc (Nat.le_refl _) (.cells #[.string ⟨#[]⟩, .int .i64 0, .bool false, .bool false, .int .i64 0] 90)
  have hb0 : (w.alloc (.cells #[.string ⟨#[]⟩, .int .i64 0, .bool false, .bool false, .int .i64 0] 90)).heap[w.heap.size]? = some (.cells #[.string ⟨#[]⟩, .int .i64 0, .bool false, .bool false, .int .i64 0] 90 (0, 0)) := heap_alloc_new w _
  have C1 := Lib.hid (rtext_any r s a _ (h.below hal) hs (hT.below hal))
  have C2 : Hid (∀ a W, RdAt r s a W → Calls Tryz.prog 120 #[.pointer (some ⟨r, 0, none⟩), .int .i64 1] W (RdP r s W (.int .i64 (VP.rd s a 1).1) (VP.rd s a 1).2.1 (cm (VP.rd s a 1).2.2))) := fun a W hW => rnumber_any r s a 1 W hW hs
  have CQ := Lib.hid isqos_any
  have CH := Lib.hid ishand_any
  have CL := Lib.hid leave_any
  have hlt := lt_heap h
  have hne : w.heap.size ≠ r := by omega
  have G0 : Hid (Gr r w (w.alloc (.cells #[.string ⟨#[]⟩, .int .i64 0, .bool false, .bool false, .int .i64 0] 90))) := Lib.hid (Gr.of_below hal)
  have B0 := Lib.hid hb0
  have hn1 := PK.rd_nn s (TX.getT s a).2.1 1
  have hn2 := PK.rd_1le s (TX.getT s a).2.1
  unfold PK.rdSub
  generalize TX.getT s a = X at *
  obtain ⟨f, a1, c1⟩ := X
  simp only at C1 hn1 hn2 ⊢
  have D2 := C2.out a1
  generalize VP.rd s a1 1 = Y at *
  obtain ⟨n, a2, c2⟩ := Y
  simp only at D2 hn1 hn2 ⊢
  have HD2 := Lib.hid D2
  obtain ⟨TC, hTC⟩ : ∃ t, t = PK.thn (cm c1) (PK.thn (cm c2) (PK.subC n)) := ⟨_, rfl⟩
  rw [← hTC]
  have HTC := Lib.hid hTC
  have hnn := hn1.1
  clear hTC D2 C2 h hT hal hb0 hn1
  by_cases h1 : cm c1 = 0
  · by_cases h2 : cm c2 = 0
    · have ET : Hid (TC = PK.subC n) := Lib.hid (by rw [HTC.out, PK.thn_ok h1, PK.thn_ok h2])
      have H1 := Lib.hid h1
      have H2 := Lib.hid h2
      clear h1 h2 HTC
      unfold PK.subOf
      simp only
      go_enter Tryz.func100, Tryz.ntmps100
      go_wp2_with fail
      refine C1.out.mono ?_
      rintro e w1 hR
      obtain ⟨rfl, r1, g1⟩ := hR.1 H1.out
      have E2 := Lib.hid (HD2.out w1 r1)
      have G1 : Hid (Gr r w w1) := Lib.hid (G0.out.trans g1)
      have B1 := Lib.hid (g1.kept hne B0.out)
      clear hR r1 g1 C1 HD2
      go_wp2_with fail
      refine E2.out.mono ?_
      rintro e w2 hR
      obtain ⟨rfl, r2, g2⟩ := hR.1 H2.out
      have R2 := Lib.hid r2
      have G2 : Hid (Gr r w w2) := Lib.hid (G1.out.trans g2)
      have b2 := g2.kept hne B1.out
      have z0 : w2.cell? ⟨w.heap.size, 0, none⟩ = some (.string ⟨#[]⟩) := by rw [cell_heap b2]; rfl
      have z1 : w2.cell? ⟨w.heap.size, 1, none⟩ = some (.int .i64 0) := by rw [cell_heap b2]; rfl
      have z2 : w2.cell? ⟨w.heap.size, 2, none⟩ = some (.bool false) := by rw [cell_heap b2]; rfl
      have z3 : w2.cell? ⟨w.heap.size, 3, none⟩ = some (.bool false) := by rw [cell_heap b2]; rfl
      have z4 : w2.cell? ⟨w.heap.size, 4, none⟩ = some (.int .i64 0) := by rw [cell_heap b2]; rfl
      have f0 : w2.frozen? ⟨w.heap.size, 0, none⟩ = false := frozen_heap b2
      have f1 : w2.frozen? ⟨w.heap.size, 1, none⟩ = false := frozen_heap b2
      have f2 : w2.frozen? ⟨w.heap.size, 2, none⟩ = false := frozen_heap b2
      have f3 : w2.frozen? ⟨w.heap.size, 3, none⟩ = false := frozen_heap b2
      have f4 : w2.frozen? ⟨w.heap.size, 4, none⟩ = false := frozen_heap b2
      have hlt2 : w.heap.size < w2.heap.size := lt_heap b2
      have hne2 : w.heap.size ≠ w2.heap.size := by omega
      have hrne : r ≠ w.heap.size := by omega
      clear hR r2 g2 E2 b2
      cases hq : PK.isQ (bits .and .i64 n 3)
      · have E : Hid (TC = 129) := Lib.hid (by rw [ET.out]; unfold PK.subC; rw [if_pos hq])
        have HQ := Lib.hid hq
        clear hq ET
        go_wp2_with fail
        refine (CQ.out _ _).mono ?_
        rintro e w' ⟨rfl, rfl⟩
        rw [HQ.out]
        go_wp2_with fail
        refine (CL.out _ _).mono ?_
        rintro e w' ⟨rfl, rfl⟩
        exact ⟨rfl, fun h => absurd (E.out.symm.trans h) (by decide), fun _ => ⟨by rw [E.out]; rfl, G2.out.alloc _⟩⟩
      · have HQ := Lib.hid hq
        cases hb : (bits .and .i64 n 192 != 0)
        · have HBB := Lib.hid hb
          cases hh : PK.isQ (bits .and .i64 (n / 16) 3)
          · have E : Hid (TC = 130) := Lib.hid (by rw [ET.out]; unfold PK.subC; rw [if_neg (by rw [hq]; decide), if_neg (by rw [hb]; decide), if_pos hh])
            have HH := Lib.hid hh
            clear hq hh ET
            go_wp2_with fail
            refine (CQ.out _ _).mono ?_
            rintro e w' ⟨rfl, rfl⟩
            rw [HQ.out]
            go_wp2_with fail
            refine (CH.out _ _).mono ?_
            rintro e w' ⟨rfl, rfl⟩
            rw [HH.out]
            go_wp2_with fail
            refine (CL.out _ _).mono ?_
            rintro e w' ⟨rfl, rfl⟩
            exact ⟨rfl, fun h => absurd (E.out.symm.trans h) (by decide), fun _ => ⟨by rw [E.out]; rfl, G2.out.alloc _⟩⟩
          · have E : Hid (TC = 0) := Lib.hid (by rw [ET.out]; unfold PK.subC; rw [if_neg (by rw [hq]; decide), if_neg (by rw [hb]; decide), if_neg (by rw [hh]; decide)])
            have HH := Lib.hid hh
            clear hq hh ET
            go_wp2_with fail
            refine (CQ.out _ _).mono ?_
            rintro e w' ⟨rfl, rfl⟩
            rw [HQ.out]
            go_wp2_with fail
            refine (CH.out _ _).mono ?_
            rintro e w' ⟨rfl, rfl⟩
            rw [HH.out]
            go_wp2
            refine bodyPost_ret (v := .agg #[.string f, .int .i64 (bits .and .i64 n 3), .bool (bits .and .i64 n 4 != 0), .bool (bits .and .i64 n 8 != 0), .int .i64 (bits .and .i64 (n / 16) 3)]) (by simp [results, Tryz.results100, go_sem, z0, z1, z2, z3, z4, hlt2]) rfl ⟨fun _ => ⟨rfl, ?_, ?_⟩, fun h => absurd E.out h⟩
            · exact (((((R2.out.setOther hrne _ _).setOther hrne _ _).setOther hrne _ _).setOther hrne _ _).setOther hrne _ _).alloc _
            · exact (((((G2.out.setNew (Nat.le_refl _) _ _).setNew (Nat.le_refl _) _ _).setNew (Nat.le_refl _) _ _).setNew (Nat.le_refl _) _ _).setNew (Nat.le_refl _) _ _).alloc _
        · have E : Hid (TC = 129) := Lib.hid (by rw [ET.out]; unfold PK.subC; rw [if_neg (by rw [hq]; decide), if_pos hb])
          have HBB := Lib.hid hb
          clear hq ET
          go_wp2_with fail
          refine (CQ.out _ _).mono ?_
          rintro e w' ⟨rfl, rfl⟩
          rw [HQ.out]
          go_wp2_with fail
          refine (CL.out _ _).mono ?_
          rintro e w' ⟨rfl, rfl⟩
          exact ⟨rfl, fun h => absurd (E.out.symm.trans h) (by decide), fun _ => ⟨by rw [E.out]; rfl, G2.out.alloc _⟩⟩
    · have E : Hid (TC = cm c2) := Lib.hid (by rw [HTC.out, PK.thn_ok h1, PK.thn_bad h2])
      have H1 := Lib.hid h1
      have H2 := Lib.hid h2
      clear h1 h2 HTC
      go_enter Tryz.func100, Tryz.ntmps100
      go_wp2_with fail
      refine C1.out.mono ?_
      rintro e w1 hR
      obtain ⟨rfl, r1, g1⟩ := hR.1 H1.out
      have E2 := Lib.hid (HD2.out w1 r1)
      have G1 : Hid (Gr r w w1) := Lib.hid (G0.out.trans g1)
      clear hR r1 g1 C1 HD2
      go_wp2_with fail
      refine E2.out.mono ?_
      rintro e w2 hR
      obtain ⟨rfl, g2⟩ := hR.2 H2.out
      exact ⟨rfl, fun h => absurd (E.out.symm.trans h) H2.out, fun _ => ⟨by rw [E.out]; rfl, G1.out.trans g2⟩⟩
  · have E : Hid (TC = cm c1) := Lib.hid (by rw [HTC.out, PK.thn_bad h1])
    have H1 := Lib.hid h1
    clear h1 HTC
    go_enter Tryz.func100, Tryz.ntmps100
    go_wp2_with fail
    refine C1.out.mono ?_
    rintro e w1 hR
    obtain ⟨rfl, g1⟩ := hR.2 H1.out
    exact ⟨rfl, fun h => absurd (E.out.symm.trans h) H1.out, fun _ => ⟨by rw [E.out]; rfl, G0.out.trans g1⟩⟩
end Go.Proofs.YtjajandjdclifaaGreatDoor
namespace Go.Proofs.YtjajandjdclifaaGreatDoor
open Go.RowKit

namespace PK
/-- All that is left, one by one: at least one and at most 64. -/
def lst {α : Type} (rd : Int → α × Int × Int) (sz : Nat) : Nat → Int → List α → List α × Int × Int
  | 0, _, _ => ([], 0, 149)
  | u + 1, a, out => if a = (sz : Int) then (if out = [] then ([], 0, 130) else (out, a, 0)) else if out.length = 64 then ([], 0, 149) else if (rd a).2.2 ≠ 0 then ([], 0, (rd a).2.2) else lst rd sz u (rd a).2.1 (out ++ [(rd a).1])
def rdT (s : ByteArray) (a : Int) : ByteArray × Int × Int := ((TX.getT s a).1, (TX.getT s a).2.1, cm (TX.getT s a).2.2)
def rdC (s : ByteArray) (a : Int) : Int × Int × Int := ((VP.rd s a 1).1, (VP.rd s a 1).2.1, cm (VP.rd s a 1).2.2)
end PK
def flatT (l : List ByteArray) : List Value := l.map Value.string
def flatC (l : List Int) : List Value := l.map (Value.int .u8)
theorem flatT_snoc (l : List ByteArray) (x : ByteArray) : flatT (l ++ [x]) = flatT l ++ [.string x] := by simp [flatT]
theorem flatC_snoc (l : List Int) (x : Int) : flatC (l ++ [x]) = flatC l ++ [.int .u8 x] := by simp [flatC]
def Sb.cells (s : Sb) : List Value := [.string s.f, .int .i64 s.q, .bool s.nl, .bool s.ap, .int .i64 s.h]
def flatB (l : List Sb) : List Value := l.flatMap Sb.cells
theorem flatB_snoc (l : List Sb) (x : Sb) : flatB (l ++ [x]) = flatB l ++ [.string x.f, .int .i64 x.q, .bool x.nl, .bool x.ap, .int .i64 x.h] := by simp [flatB, Sb.cells]
/-- What the reader's list answers: a new row. -/
def LsP {α : Type} (t : TypeId) (size : Nat) (flat : List α → List Value) (r : Nat) (s : ByteArray) (w : World) (X : List α × Int × Int) (e : Ending) (w' : World) : Prop :=
  (X.2.2 = 0 → ∃ v, e = .returned v ∧ w'.ownsRow w.heap.size t size v X.1.length (flat X.1) ∧ RdAt r s X.2.1 w' ∧ Gr r w w') ∧ (X.2.2 ≠ 0 → e = leftBy X.2.2 ∧ Gr r w w')
theorem cInfo : (Tryz.prog.info? 23).map (fun i => (i.zero, i.size, i.bytes)) = some (some (.int .u8 0), 1, 1) := by kernel_rfl
theorem sbInfo : (Tryz.prog.info? 90).map (fun i => (i.zero, i.size, i.bytes)) = some (some (.agg #[.string ⟨#[]⟩, .int .i64 0, .bool false, .bool false, .int .i64 0]), 5, 40) := by kernel_rfl
theorem tInfo : (Tryz.prog.info? 9).map (fun i => (i.zero, i.size, i.bytes)) = some (some (.string ⟨#[]⟩), 1, 16) := by kernel_rfl

set_option maxRecDepth 100000 in
set_option maxHeartbeats 4000000 in
theorem rlistt_any (r : Nat) (s : ByteArray) (a : Int) (w : World) (h : RdAt r s a w) (hs : s.size ≤ 140737488351232) (hT : ∀ W, Gr r w W → Tabs W) :
    Calls Tryz.prog 101 #[.pointer (some ⟨r, 0, none⟩), .func (.func 102) #[.pointer (some ⟨r, 0, none⟩)] #[]] w (LsP 9 1 flatT r s w (PK.lst (PK.rdT s) s.size 66 a [])) := by
  have C1 : Hid (∀ a W, Gr r w W → RdAt r s a W → Calls Tryz.prog 102 #[.pointer (some ⟨r, 0, none⟩)] W (RdP r s W (.string (PK.rdT s a).1) (PK.rdT s a).2.1 (PK.rdT s a).2.2)) := fun a W hg hW => rtext_any r s a W hW hs (hT W hg)
  have CE : Hid (∀ a W, RdAt r s a W → Calls Tryz.prog 61 #[.pointer (some ⟨r, 0, none⟩)] W fun e w' => e = .returned (.bool (a == (s.size : Int))) ∧ Below W.heap.size W w') := fun a W hW => ended_any r s a W hW
  have CL := Lib.hid leave_any
  have H0 := Lib.hid h
  have hlt := lt_heap h
  obtain ⟨i0, hi0, hz0, hz1, hz2⟩ := info_parts tInfo
  have Hi := Lib.hid hi0; have Hz0 := Lib.hid hz0; have Hz1 := Lib.hid hz1; have Hz2 := Lib.hid hz2
  obtain ⟨X, hX⟩ : ∃ X, X = PK.lst (PK.rdT s) s.size 66 a [] := ⟨_, rfl⟩
  rw [← hX]
  have HX := Lib.hid hX
  clear h hT hX hi0 hz0 hz1 hz2
  go_enter Tryz.func101, Tryz.ntmps101
  go_wp2_with fail
  go_loopw [5] (fun lv wr => ∃ (a' : Int) (out : List ByteArray), out.length ≤ 64 ∧ (∃ A cap, lv = .slice A out.length cap) ∧ Hid (RdAt r s a' wr) ∧ Hid (Gr r w wr) ∧ Hid (wr.ownsRow w.heap.size 9 1 lv out.length (flatT out)) ∧ Hid (PK.lst (PK.rdT s) s.size (66 - out.length) a' out = PK.lst (PK.rdT s) s.size 66 a [])) (fun lv _ => 66 - slLen lv)
  case atStart => exact ⟨a, [], by simp, ⟨none, 0, rfl⟩, H0, Lib.hid (Gr.refl _ _), Lib.hid (own_nil _ _ _ _), Lib.hid rfl⟩
  case round =>
    obtain ⟨a', out, hol, ⟨A, cap, rfl⟩, hrd, hgr, hown, heq⟩ := hrel
    obtain ⟨u, hu⟩ : ∃ u, 66 - out.length = u + 1 := ⟨65 - out.length, by omega⟩
    rw [hu] at heq
    have D1 := Lib.hid (CE.out a' wr hrd.out)
    by_cases he : a' = (s.size : Int)
    · have e1 : (a' == (s.size : Int)) = true := by simp [he]
      rw [e1] at D1
      by_cases ho : out = []
      · have E : Hid (X = ([], 0, 130)) := Lib.hid (by rw [HX.out, ← heq.out, PK.lst, if_pos he, if_pos ho])
        have i0 : ((out.length : Int) == 0) = true := by rw [ho]; rfl
        clear he e1 ho heq hu
        go_wp2_with fail
        refine D1.out.mono ?_
        rintro e w1 ⟨rfl, b1⟩
        have G1 : Hid (Gr r w w1) := Lib.hid (hgr.out.trans (Gr.of_below b1))
        clear b1 D1
        go_wp2_with fail
        refine (CL.out _ _).mono ?_
        rintro e w' ⟨rfl, rfl⟩
        exact ⟨rfl, by rw [E.out]; exact ⟨fun h => absurd h (by decide), fun _ => ⟨rfl, G1.out⟩⟩⟩
      · have hlp : 0 < out.length := List.length_pos_iff.2 ho
        have E : Hid (X = (out, a', 0)) := Lib.hid (by rw [HX.out, ← heq.out, PK.lst, if_pos he, if_neg ho])
        have i0 : ((out.length : Int) == 0) = false := by rw [beq_eq_false_iff_ne]; omega
        clear he e1 ho heq hu
        go_wp2_with fail
        refine D1.out.mono ?_
        rintro e w1 ⟨rfl, b1⟩
        have G1 : Hid (Gr r w w1) := Lib.hid (hgr.out.trans (Gr.of_below b1))
        have R1 := Lib.hid (hrd.out.below b1)
        have O1 := Lib.hid (own_below hown.out b1)
        clear b1 D1
        go_wp2
        go_ret
        rw [E.out]
        exact ⟨fun _ => ⟨_, rfl, O1.out, R1.out, G1.out⟩, fun h => absurd rfl h⟩
    · have e1 : (a' == (s.size : Int)) = false := by rw [beq_eq_false_iff_ne]; exact he
      rw [e1] at D1
      by_cases h64 : out.length = 64
      · have E : Hid (X = ([], 0, 149)) := Lib.hid (by rw [HX.out, ← heq.out, PK.lst, if_neg he, if_pos h64])
        have i0 : ((out.length : Int) == 64) = true := by rw [h64]; rfl
        clear he e1 h64 heq hu
        go_wp2_with fail
        refine D1.out.mono ?_
        rintro e w1 ⟨rfl, b1⟩
        have G1 : Hid (Gr r w w1) := Lib.hid (hgr.out.trans (Gr.of_below b1))
        clear b1 D1
        go_wp2_with fail
        refine (CL.out _ _).mono ?_
        rintro e w' ⟨rfl, rfl⟩
        exact ⟨rfl, by rw [E.out]; exact ⟨fun h => absurd h (by decide), fun _ => ⟨rfl, G1.out⟩⟩⟩
      · have i0 : ((out.length : Int) == 64) = false := by rw [beq_eq_false_iff_ne]; omega
        by_cases hc : (PK.rdT s a').2.2 = 0
        · have E : Hid (PK.lst (PK.rdT s) s.size u (PK.rdT s a').2.1 (out ++ [(PK.rdT s a').1]) = PK.lst (PK.rdT s) s.size 66 a []) := Lib.hid (by rw [← heq.out, PK.lst, if_neg he, if_neg h64, if_neg (by simp [hc])])
          have HC := Lib.hid hc
          have hu2 : 66 - (out ++ [(PK.rdT s a').1]).length = u := by rw [List.length_append, List.length_singleton]; omega
          have Hu2 := Lib.hid hu2
          clear he e1 heq hu hc hu2
          go_wp2_with fail
          refine D1.out.mono ?_
          rintro e w1 ⟨rfl, b1⟩
          have G1 : Hid (Gr r w w1) := Lib.hid (hgr.out.trans (Gr.of_below b1))
          have D2 := Lib.hid (C1.out a' w1 G1.out (hrd.out.below b1))
          have O1 := Lib.hid (own_below hown.out b1)
          clear b1 D1 hgr hrd hown
          go_wp2_with fail
          refine D2.out.mono ?_
          rintro e w2 hR
          obtain ⟨rfl, r2, g2⟩ := hR.1 HC.out
          have G2 : Hid (Gr r w w2) := Lib.hid (G1.out.trans g2)
          have o2 := own_gr O1.out g2 (row_ne O1.out hlt)
          obtain ⟨v5, w5, hr5, hown5, hgr5, hb5⟩ := app1 Tryz.underlying29 Hi.out Hz0.out Hz1.out Hz2.out rfl (by omega) (by omega) w.heap.size (.slice A out.length cap) out.length _ w2 o2 (by have := G2.out.size; omega) #[.string (PK.rdT s a').1] rfl (by simp [Value.oneCell']) (by omega)
          have R5 : Hid (RdAt r s (PK.rdT s a').2.1 w5) := Lib.hid ((hb5.block r hlt).trans r2)
          have G5 : Hid (Gr r w w5) := Lib.hid ⟨hb5.os.trans G2.out.os, hb5.tape.trans G2.out.tape, hb5.output.trans G2.out.output, Nat.le_trans G2.out.size hb5.size, fun i hi hne => (hb5.block i hi).trans (G2.out.block i hi hne)⟩
          have hl5 : (out ++ [(PK.rdT s a').1]).length = out.length + 1 := by rw [List.length_append, List.length_singleton]
          have O5 : Hid (w5.ownsRow w.heap.size 9 1 v5 (out ++ [(PK.rdT s a').1]).length (flatT (out ++ [(PK.rdT s a').1]))) := Lib.hid (by rw [hl5, flatT_snoc]; simpa using hown5)
          obtain ⟨A5, c5, hv5⟩ := own_form hown5
          subst hv5
          have Hl5 := Lib.hid hl5
          clear hR r2 g2 o2 D2 O1 hown5 hgr5 hb5 hl5 C1 CE
          go_wp2_with (at_builtin; refine wpList_run (by rfl) (.tmp 13) (.tmp 16) _ _ (by rfl) (by rfl) (by rfl) hr5 ?_; clear hr5)
          go_roundw
          case rel => exact ⟨_, out ++ [(PK.rdT s a').1], by rw [Hl5.out]; omega, ⟨A5, c5, by rw [Hl5.out]⟩, R5, G5, O5, Lib.hid (by rw [Hu2.out]; exact E.out)⟩
          case measure => simp [slLen]; omega
        · have E : Hid (X = ([], 0, (PK.rdT s a').2.2)) := Lib.hid (by rw [HX.out, ← heq.out, PK.lst, if_neg he, if_neg h64, if_pos hc])
          have HC := Lib.hid hc
          clear he e1 heq hu hc
          go_wp2_with fail
          refine D1.out.mono ?_
          rintro e w1 ⟨rfl, b1⟩
          have G1 : Hid (Gr r w w1) := Lib.hid (hgr.out.trans (Gr.of_below b1))
          have D2 := Lib.hid (C1.out a' w1 G1.out (hrd.out.below b1))
          clear b1 D1
          go_wp2_with fail
          refine D2.out.mono ?_
          rintro e w2 hR
          obtain ⟨rfl, g2⟩ := hR.2 HC.out
          exact ⟨rfl, by rw [E.out]; exact ⟨fun h => absurd h HC.out, fun _ => ⟨rfl, G1.out.trans g2⟩⟩⟩

set_option maxRecDepth 100000 in
set_option maxHeartbeats 4000000 in
theorem rlistc_any (r : Nat) (s : ByteArray) (a : Int) (w : World) (h : RdAt r s a w) (hs : s.size ≤ 140737488351232) :
    Calls Tryz.prog 103 #[.pointer (some ⟨r, 0, none⟩), .func (.func 95) #[.pointer (some ⟨r, 0, none⟩)] #[]] w (LsP 23 1 flatC r s w (PK.lst (PK.rdC s) s.size 66 a [])) := by
  have C1 : Hid (∀ a W, Gr r w W → RdAt r s a W → Calls Tryz.prog 95 #[.pointer (some ⟨r, 0, none⟩)] W (RdP r s W (.int .u8 (PK.rdC s a).1) (PK.rdC s a).2.1 (PK.rdC s a).2.2)) := fun a W _ hW => rreason_any r s a W hW hs
  have CE : Hid (∀ a W, RdAt r s a W → Calls Tryz.prog 61 #[.pointer (some ⟨r, 0, none⟩)] W fun e w' => e = .returned (.bool (a == (s.size : Int))) ∧ Below W.heap.size W w') := fun a W hW => ended_any r s a W hW
  have CL := Lib.hid leave_any
  have H0 := Lib.hid h
  have hlt := lt_heap h
  obtain ⟨i0, hi0, hz0, hz1, hz2⟩ := info_parts cInfo
  have Hi := Lib.hid hi0; have Hz0 := Lib.hid hz0; have Hz1 := Lib.hid hz1; have Hz2 := Lib.hid hz2
  obtain ⟨X, hX⟩ : ∃ X, X = PK.lst (PK.rdC s) s.size 66 a [] := ⟨_, rfl⟩
  rw [← hX]
  have HX := Lib.hid hX
  clear h hX hi0 hz0 hz1 hz2
  go_enter Tryz.func103, Tryz.ntmps103
  go_wp2_with fail
  go_loopw [5] (fun lv wr => ∃ (a' : Int) (out : List Int), out.length ≤ 64 ∧ (∃ A cap, lv = .slice A out.length cap) ∧ Hid (RdAt r s a' wr) ∧ Hid (Gr r w wr) ∧ Hid (wr.ownsRow w.heap.size 23 1 lv out.length (flatC out)) ∧ Hid (PK.lst (PK.rdC s) s.size (66 - out.length) a' out = PK.lst (PK.rdC s) s.size 66 a [])) (fun lv _ => 66 - slLen lv)
  case atStart => exact ⟨a, [], by simp, ⟨none, 0, rfl⟩, H0, Lib.hid (Gr.refl _ _), Lib.hid (own_nil _ _ _ _), Lib.hid rfl⟩
  case round =>
    obtain ⟨a', out, hol, ⟨A, cap, rfl⟩, hrd, hgr, hown, heq⟩ := hrel
    obtain ⟨u, hu⟩ : ∃ u, 66 - out.length = u + 1 := ⟨65 - out.length, by omega⟩
    rw [hu] at heq
    have D1 := Lib.hid (CE.out a' wr hrd.out)
    by_cases he : a' = (s.size : Int)
    · have e1 : (a' == (s.size : Int)) = true := by simp [he]
      rw [e1] at D1
      by_cases ho : out = []
      · have E : Hid (X = ([], 0, 130)) := Lib.hid (by rw [HX.out, ← heq.out, PK.lst, if_pos he, if_pos ho])
        have i0 : ((out.length : Int) == 0) = true := by rw [ho]; rfl
        clear he e1 ho heq hu
        go_wp2_with fail
        refine D1.out.mono ?_
        rintro e w1 ⟨rfl, b1⟩
        have G1 : Hid (Gr r w w1) := Lib.hid (hgr.out.trans (Gr.of_below b1))
        clear b1 D1
        go_wp2_with fail
        refine (CL.out _ _).mono ?_
        rintro e w' ⟨rfl, rfl⟩
        exact ⟨rfl, by rw [E.out]; exact ⟨fun h => absurd h (by decide), fun _ => ⟨rfl, G1.out⟩⟩⟩
      · have hlp : 0 < out.length := List.length_pos_iff.2 ho
        have E : Hid (X = (out, a', 0)) := Lib.hid (by rw [HX.out, ← heq.out, PK.lst, if_pos he, if_neg ho])
        have i0 : ((out.length : Int) == 0) = false := by rw [beq_eq_false_iff_ne]; omega
        clear he e1 ho heq hu
        go_wp2_with fail
        refine D1.out.mono ?_
        rintro e w1 ⟨rfl, b1⟩
        have G1 : Hid (Gr r w w1) := Lib.hid (hgr.out.trans (Gr.of_below b1))
        have R1 := Lib.hid (hrd.out.below b1)
        have O1 := Lib.hid (own_below hown.out b1)
        clear b1 D1
        go_wp2
        go_ret
        rw [E.out]
        exact ⟨fun _ => ⟨_, rfl, O1.out, R1.out, G1.out⟩, fun h => absurd rfl h⟩
    · have e1 : (a' == (s.size : Int)) = false := by rw [beq_eq_false_iff_ne]; exact he
      rw [e1] at D1
      by_cases h64 : out.length = 64
      · have E : Hid (X = ([], 0, 149)) := Lib.hid (by rw [HX.out, ← heq.out, PK.lst, if_neg he, if_pos h64])
        have i0 : ((out.length : Int) == 64) = true := by rw [h64]; rfl
        clear he e1 h64 heq hu
        go_wp2_with fail
        refine D1.out.mono ?_
        rintro e w1 ⟨rfl, b1⟩
        have G1 : Hid (Gr r w w1) := Lib.hid (hgr.out.trans (Gr.of_below b1))
        clear b1 D1
        go_wp2_with fail
        refine (CL.out _ _).mono ?_
        rintro e w' ⟨rfl, rfl⟩
        exact ⟨rfl, by rw [E.out]; exact ⟨fun h => absurd h (by decide), fun _ => ⟨rfl, G1.out⟩⟩⟩
      · have i0 : ((out.length : Int) == 64) = false := by rw [beq_eq_false_iff_ne]; omega
        by_cases hc : (PK.rdC s a').2.2 = 0
        · have E : Hid (PK.lst (PK.rdC s) s.size u (PK.rdC s a').2.1 (out ++ [(PK.rdC s a').1]) = PK.lst (PK.rdC s) s.size 66 a []) := Lib.hid (by rw [← heq.out, PK.lst, if_neg he, if_neg h64, if_neg (by simp [hc])])
          have HC := Lib.hid hc
          have hu2 : 66 - (out ++ [(PK.rdC s a').1]).length = u := by rw [List.length_append, List.length_singleton]; omega
          have Hu2 := Lib.hid hu2
          clear he e1 heq hu hc hu2
          go_wp2_with fail
          refine D1.out.mono ?_
          rintro e w1 ⟨rfl, b1⟩
          have G1 : Hid (Gr r w w1) := Lib.hid (hgr.out.trans (Gr.of_below b1))
          have D2 := Lib.hid (C1.out a' w1 G1.out (hrd.out.below b1))
          have O1 := Lib.hid (own_below hown.out b1)
          clear b1 D1 hgr hrd hown
          go_wp2_with fail
          refine D2.out.mono ?_
          rintro e w2 hR
          obtain ⟨rfl, r2, g2⟩ := hR.1 HC.out
          have G2 : Hid (Gr r w w2) := Lib.hid (G1.out.trans g2)
          have o2 := own_gr O1.out g2 (row_ne O1.out hlt)
          obtain ⟨v5, w5, hr5, hown5, hgr5, hb5⟩ := app1 Tryz.underlying24 Hi.out Hz0.out Hz1.out Hz2.out rfl (by omega) (by omega) w.heap.size (.slice A out.length cap) out.length _ w2 o2 (by have := G2.out.size; omega) #[.int .u8 (PK.rdC s a').1] rfl (by simp [Value.oneCell']) (by omega)
          have R5 : Hid (RdAt r s (PK.rdC s a').2.1 w5) := Lib.hid ((hb5.block r hlt).trans r2)
          have G5 : Hid (Gr r w w5) := Lib.hid ⟨hb5.os.trans G2.out.os, hb5.tape.trans G2.out.tape, hb5.output.trans G2.out.output, Nat.le_trans G2.out.size hb5.size, fun i hi hne => (hb5.block i hi).trans (G2.out.block i hi hne)⟩
          have hl5 : (out ++ [(PK.rdC s a').1]).length = out.length + 1 := by rw [List.length_append, List.length_singleton]
          have O5 : Hid (w5.ownsRow w.heap.size 23 1 v5 (out ++ [(PK.rdC s a').1]).length (flatC (out ++ [(PK.rdC s a').1]))) := Lib.hid (by rw [hl5, flatC_snoc]; simpa using hown5)
          obtain ⟨A5, c5, hv5⟩ := own_form hown5
          subst hv5
          have Hl5 := Lib.hid hl5
          clear hR r2 g2 o2 D2 O1 hown5 hgr5 hb5 hl5 C1 CE
          go_wp2_with (at_builtin; refine wpList_run (by rfl) (.tmp 13) (.tmp 16) _ _ (by rfl) (by rfl) (by rfl) hr5 ?_; clear hr5)
          go_roundw
          case rel => exact ⟨_, out ++ [(PK.rdC s a').1], by rw [Hl5.out]; omega, ⟨A5, c5, by rw [Hl5.out]⟩, R5, G5, O5, Lib.hid (by rw [Hu2.out]; exact E.out)⟩
          case measure => simp [slLen]; omega
        · have E : Hid (X = ([], 0, (PK.rdC s a').2.2)) := Lib.hid (by rw [HX.out, ← heq.out, PK.lst, if_neg he, if_neg h64, if_pos hc])
          have HC := Lib.hid hc
          clear he e1 heq hu hc
          go_wp2_with fail
          refine D1.out.mono ?_
          rintro e w1 ⟨rfl, b1⟩
          have G1 : Hid (Gr r w w1) := Lib.hid (hgr.out.trans (Gr.of_below b1))
          have D2 := Lib.hid (C1.out a' w1 G1.out (hrd.out.below b1))
          clear b1 D1
          go_wp2_with fail
          refine D2.out.mono ?_
          rintro e w2 hR
          obtain ⟨rfl, g2⟩ := hR.2 HC.out
          exact ⟨rfl, by rw [E.out]; exact ⟨fun h => absurd h HC.out, fun _ => ⟨rfl, G1.out.trans g2⟩⟩⟩

set_option maxRecDepth 100000 in
set_option maxHeartbeats 4000000 in
theorem rlists_any (r : Nat) (s : ByteArray) (a : Int) (w : World) (h : RdAt r s a w) (hs : s.size ≤ 140737488351232) (hT : ∀ W, Gr r w W → Tabs W) :
    Calls Tryz.prog 99 #[.pointer (some ⟨r, 0, none⟩), .func (.func 100) #[.pointer (some ⟨r, 0, none⟩)] #[]] w (LsP 90 5 flatB r s w (PK.lst (PK.rdSub s) s.size 66 a [])) := by
  have C1 : Hid (∀ a W, Gr r w W → RdAt r s a W → Calls Tryz.prog 100 #[.pointer (some ⟨r, 0, none⟩)] W (RdP r s W (.agg #[.string (PK.rdSub s a).1.f, .int .i64 (PK.rdSub s a).1.q, .bool (PK.rdSub s a).1.nl, .bool (PK.rdSub s a).1.ap, .int .i64 (PK.rdSub s a).1.h]) (PK.rdSub s a).2.1 (PK.rdSub s a).2.2)) := fun a W hg hW => rsub_any r s a W hW hs (hT W hg)
  have CE : Hid (∀ a W, RdAt r s a W → Calls Tryz.prog 61 #[.pointer (some ⟨r, 0, none⟩)] W fun e w' => e = .returned (.bool (a == (s.size : Int))) ∧ Below W.heap.size W w') := fun a W hW => ended_any r s a W hW
  have CL := Lib.hid leave_any
  have H0 := Lib.hid h
  have hlt := lt_heap h
  obtain ⟨i0, hi0, hz0, hz1, hz2⟩ := info_parts sbInfo
  have Hi := Lib.hid hi0; have Hz0 := Lib.hid hz0; have Hz1 := Lib.hid hz1; have Hz2 := Lib.hid hz2
  obtain ⟨X, hX⟩ : ∃ X, X = PK.lst (PK.rdSub s) s.size 66 a [] := ⟨_, rfl⟩
  rw [← hX]
  have HX := Lib.hid hX
  clear h hT hX hi0 hz0 hz1 hz2
  go_enter Tryz.func99, Tryz.ntmps99
  go_wp2_with fail
  go_loopw [5] (fun lv wr => ∃ (a' : Int) (out : List Sb), out.length ≤ 64 ∧ (∃ A cap, lv = .slice A out.length cap) ∧ Hid (RdAt r s a' wr) ∧ Hid (Gr r w wr) ∧ Hid (wr.ownsRow w.heap.size 90 5 lv out.length (flatB out)) ∧ Hid (PK.lst (PK.rdSub s) s.size (66 - out.length) a' out = PK.lst (PK.rdSub s) s.size 66 a [])) (fun lv _ => 66 - slLen lv)
  case atStart => exact ⟨a, [], by simp, ⟨none, 0, rfl⟩, H0, Lib.hid (Gr.refl _ _), Lib.hid (own_nil _ _ _ _), Lib.hid rfl⟩
  case round =>
    obtain ⟨a', out, hol, ⟨A, cap, rfl⟩, hrd, hgr, hown, heq⟩ := hrel
    obtain ⟨u, hu⟩ : ∃ u, 66 - out.length = u + 1 := ⟨65 - out.length, by omega⟩
    rw [hu] at heq
    have D1 := Lib.hid (CE.out a' wr hrd.out)
    by_cases he : a' = (s.size : Int)
    · have e1 : (a' == (s.size : Int)) = true := by simp [he]
      rw [e1] at D1
      by_cases ho : out = []
      · have E : Hid (X = ([], 0, 130)) := Lib.hid (by rw [HX.out, ← heq.out, PK.lst, if_pos he, if_pos ho])
        have i0 : ((out.length : Int) == 0) = true := by rw [ho]; rfl
        clear he e1 ho heq hu
        go_wp2_with fail
        refine D1.out.mono ?_
        rintro e w1 ⟨rfl, b1⟩
        have G1 : Hid (Gr r w w1) := Lib.hid (hgr.out.trans (Gr.of_below b1))
        clear b1 D1
        go_wp2_with fail
        refine (CL.out _ _).mono ?_
        rintro e w' ⟨rfl, rfl⟩
        exact ⟨rfl, by rw [E.out]; exact ⟨fun h => absurd h (by decide), fun _ => ⟨rfl, G1.out⟩⟩⟩
      · have hlp : 0 < out.length := List.length_pos_iff.2 ho
        have E : Hid (X = (out, a', 0)) := Lib.hid (by rw [HX.out, ← heq.out, PK.lst, if_pos he, if_neg ho])
        have i0 : ((out.length : Int) == 0) = false := by rw [beq_eq_false_iff_ne]; omega
        clear he e1 ho heq hu
        go_wp2_with fail
        refine D1.out.mono ?_
        rintro e w1 ⟨rfl, b1⟩
        have G1 : Hid (Gr r w w1) := Lib.hid (hgr.out.trans (Gr.of_below b1))
        have R1 := Lib.hid (hrd.out.below b1)
        have O1 := Lib.hid (own_below hown.out b1)
        clear b1 D1
        go_wp2
        go_ret
        rw [E.out]
        exact ⟨fun _ => ⟨_, rfl, O1.out, R1.out, G1.out⟩, fun h => absurd rfl h⟩
    · have e1 : (a' == (s.size : Int)) = false := by rw [beq_eq_false_iff_ne]; exact he
      rw [e1] at D1
      by_cases h64 : out.length = 64
      · have E : Hid (X = ([], 0, 149)) := Lib.hid (by rw [HX.out, ← heq.out, PK.lst, if_neg he, if_pos h64])
        have i0 : ((out.length : Int) == 64) = true := by rw [h64]; rfl
        clear he e1 h64 heq hu
        go_wp2_with fail
        refine D1.out.mono ?_
        rintro e w1 ⟨rfl, b1⟩
        have G1 : Hid (Gr r w w1) := Lib.hid (hgr.out.trans (Gr.of_below b1))
        clear b1 D1
        go_wp2_with fail
        refine (CL.out _ _).mono ?_
        rintro e w' ⟨rfl, rfl⟩
        exact ⟨rfl, by rw [E.out]; exact ⟨fun h => absurd h (by decide), fun _ => ⟨rfl, G1.out⟩⟩⟩
      · have i0 : ((out.length : Int) == 64) = false := by rw [beq_eq_false_iff_ne]; omega
        by_cases hc : (PK.rdSub s a').2.2 = 0
        · have E : Hid (PK.lst (PK.rdSub s) s.size u (PK.rdSub s a').2.1 (out ++ [(PK.rdSub s a').1]) = PK.lst (PK.rdSub s) s.size 66 a []) := Lib.hid (by rw [← heq.out, PK.lst, if_neg he, if_neg h64, if_neg (by simp [hc])])
          have HC := Lib.hid hc
          have hu2 : 66 - (out ++ [(PK.rdSub s a').1]).length = u := by rw [List.length_append, List.length_singleton]; omega
          have Hu2 := Lib.hid hu2
          clear he e1 heq hu hc hu2
          go_wp2_with fail
          refine D1.out.mono ?_
          rintro e w1 ⟨rfl, b1⟩
          have G1 : Hid (Gr r w w1) := Lib.hid (hgr.out.trans (Gr.of_below b1))
          have D2 := Lib.hid (C1.out a' w1 G1.out (hrd.out.below b1))
          have O1 := Lib.hid (own_below hown.out b1)
          clear b1 D1 hgr hrd hown
          go_wp2_with fail
          refine D2.out.mono ?_
          rintro e w2 hR
          obtain ⟨rfl, r2, g2⟩ := hR.1 HC.out
          have G2 : Hid (Gr r w w2) := Lib.hid (G1.out.trans g2)
          have o2 := own_gr O1.out g2 (row_ne O1.out hlt)
          obtain ⟨v5, w5, hr5, hown5, hgr5, hb5⟩ := app1 Tryz.underlying28 Hi.out Hz0.out Hz1.out Hz2.out rfl (by omega) (by omega) w.heap.size (.slice A out.length cap) out.length _ w2 o2 (by have := G2.out.size; omega) #[.string (PK.rdSub s a').1.f, .int .i64 (PK.rdSub s a').1.q, .bool (PK.rdSub s a').1.nl, .bool (PK.rdSub s a').1.ap, .int .i64 (PK.rdSub s a').1.h] rfl (by simp [Value.oneCell']) (by omega)
          have R5 : Hid (RdAt r s (PK.rdSub s a').2.1 w5) := Lib.hid ((hb5.block r hlt).trans r2)
          have G5 : Hid (Gr r w w5) := Lib.hid ⟨hb5.os.trans G2.out.os, hb5.tape.trans G2.out.tape, hb5.output.trans G2.out.output, Nat.le_trans G2.out.size hb5.size, fun i hi hne => (hb5.block i hi).trans (G2.out.block i hi hne)⟩
          have hl5 : (out ++ [(PK.rdSub s a').1]).length = out.length + 1 := by rw [List.length_append, List.length_singleton]
          have O5 : Hid (w5.ownsRow w.heap.size 90 5 v5 (out ++ [(PK.rdSub s a').1]).length (flatB (out ++ [(PK.rdSub s a').1]))) := Lib.hid (by rw [hl5, flatB_snoc]; simpa using hown5)
          obtain ⟨A5, c5, hv5⟩ := own_form hown5
          subst hv5
          have Hl5 := Lib.hid hl5
          clear hR r2 g2 o2 D2 O1 hown5 hgr5 hb5 hl5 C1 CE
          go_wp2_with (at_builtin; refine wpList_run (by rfl) (.tmp 13) (.tmp 16) _ _ (by rfl) (by rfl) (by rfl) hr5 ?_; clear hr5)
          go_roundw
          case rel => exact ⟨_, out ++ [(PK.rdSub s a').1], by rw [Hl5.out]; omega, ⟨A5, c5, by rw [Hl5.out]⟩, R5, G5, O5, Lib.hid (by rw [Hu2.out]; exact E.out)⟩
          case measure => simp [slLen]; omega
        · have E : Hid (X = ([], 0, (PK.rdSub s a').2.2)) := Lib.hid (by rw [HX.out, ← heq.out, PK.lst, if_neg he, if_neg h64, if_pos hc])
          have HC := Lib.hid hc
          clear he e1 heq hu hc
          go_wp2_with fail
          refine D1.out.mono ?_
          rintro e w1 ⟨rfl, b1⟩
          have G1 : Hid (Gr r w w1) := Lib.hid (hgr.out.trans (Gr.of_below b1))
          have D2 := Lib.hid (C1.out a' w1 G1.out (hrd.out.below b1))
          clear b1 D1
          go_wp2_with fail
          refine D2.out.mono ?_
          rintro e w2 hR
          obtain ⟨rfl, g2⟩ := hR.2 HC.out
          exact ⟨rfl, by rw [E.out]; exact ⟨fun h => absurd h HC.out, fun _ => ⟨rfl, G1.out.trans g2⟩⟩⟩
end Go.Proofs.YtjajandjdclifaaGreatDoor
namespace Go.Proofs.YtjajandjdclifaaGreatDoor
open Go.RowKit

/-- All but the reader's block and the packet's stands. -/
structure G2 (r p : Nat) (w w' : World) : Prop where
  os : w'.os = w.os
  tape : w'.tape = w.tape
  output : w'.output = w.output
  size : w.heap.size ≤ w'.heap.size
  block : ∀ i, i < w.heap.size → i ≠ r → i ≠ p → w'.heap[i]? = w.heap[i]?
theorem G2.refl (r p : Nat) (w : World) : G2 r p w w := ⟨rfl, rfl, rfl, Nat.le_refl _, fun _ _ _ _ => rfl⟩
theorem G2.trans {r p : Nat} {w1 w2 w3 : World} (h : G2 r p w1 w2) (k : G2 r p w2 w3) : G2 r p w1 w3 :=
  ⟨k.os.trans h.os, k.tape.trans h.tape, k.output.trans h.output, Nat.le_trans h.size k.size, fun i hi h1 h2 => (k.block i (Nat.lt_of_lt_of_le hi h.size) h1 h2).trans (h.block i hi h1 h2)⟩
theorem G2.of_gr {r p : Nat} {w w' : World} (h : Gr r w w') : G2 r p w w' := ⟨h.os, h.tape, h.output, h.size, fun i hi h1 _ => h.block i hi (fun e => h1 (by injection e))⟩
theorem G2.setCell {r p : Nat} {w w' : World} (h : G2 r p w w') (j : Nat) (u : Value) : G2 r p w (w'.setCell ⟨p, j, none⟩ u) :=
  ⟨h.os, h.tape, h.output, by simp [World.setCell]; exact h.size, fun i hi h1 h2 => (Below.heap_setCell _ _ _ _ (fun e => h2 (by simpa using e))).trans (h.block i hi h1 h2)⟩
/-- The packet that is read, in block p. -/
def PbAt (p : Nat) (P : Pk) (vc vp vw vs vf : Value) (w : World) : Prop := w.heap[p]? = some (.cells (pkCells P vc vp vw vs vf) 31 (0, 0))
theorem PbAt.gr {r p : Nat} {P : Pk} {vc vp vw vs vf : Value} {w w' : World} (h : PbAt p P vc vp vw vs vf w) (hg : Gr r w w') (hne : p ≠ r) : PbAt p P vc vp vw vs vf w' := hg.kept hne h
namespace PK
/-- An identifier and properties. -/
def rdHd (s : ByteArray) (a k : Int) : (Int × List Pr) × Int × Int := (((rdId s a).1, (rdPr s (rdId s a).2.1 k).1), (rdPr s (rdId s a).2.1 k).2.1, thn (rdId s a).2.2 (rdPr s (rdId s a).2.1 k).2.2)
end PK
/-- What the reader's head answers. -/
def HdP (r p : Nat) (s : ByteArray) (P : Pk) (vc vw vs vf : Value) (w : World) (X : (Int × List Pr) × Int × Int) (e : Ending) (w' : World) : Prop :=
  (X.2.2 = 0 → ∃ v, e = .returned (.tuple #[]) ∧ w'.ownsRow w.heap.size 163 4 v X.1.2.length (flatP X.1.2) ∧ RdAt r s X.2.1 w' ∧ PbAt p { P with id := X.1.1, props := X.1.2 } vc v vw vs vf w' ∧ G2 r p w w') ∧ (X.2.2 ≠ 0 → e = leftBy X.2.2 ∧ G2 r p w w')

set_option maxRecDepth 100000 in
set_option maxHeartbeats 4000000 in
theorem rhead_any (r p : Nat) (s : ByteArray) (a : Int) (P : Pk) (vc vp vw vs vf : Value) (w : World) (h : RdAt r s a w) (hp : PbAt p P vc vp vw vs vf w) (hs : s.size ≤ 140737488351232) (hT : ∀ W, G2 r p w W → Tabs W) (hrp : r ≠ p) :
    Calls Tryz.prog 98 #[.pointer (some ⟨r, 0, none⟩), .pointer (some ⟨p, 0, none⟩)] w (HdP r p s P vc vw vs vf w (PK.rdHd s a P.kind)) := by
  have C1 := Lib.hid (rid_any r s a w h hs)
  have C2 : Hid (∀ a W, G2 r p w W → RdAt r s a W → Calls Tryz.prog 96 #[.pointer (some ⟨r, 0, none⟩), .int .i64 P.kind] W (RdPP r s W (PK.rdPr s a P.kind).1 (PK.rdPr s a P.kind).2.1 (PK.rdPr s a P.kind).2.2)) := fun a W hg hW => rprops_any r s a P.kind W hW hs (hT W hg)
  have HP := Lib.hid hp
  have hlr := lt_heap h
  have hlp := lt_heap hp
  have hpr : p ≠ r := fun e => hrp e.symm
  unfold PK.rdHd
  generalize PK.rdId s a = X at *
  obtain ⟨n, a1, c1⟩ := X
  simp only at C1 ⊢
  have D2 := C2.out a1
  generalize PK.rdPr s a1 P.kind = Y at *
  obtain ⟨l, a2, c2⟩ := Y
  simp only at D2 ⊢
  have HD2 := Lib.hid D2
  obtain ⟨TC, hTC⟩ : ∃ t, t = PK.thn c1 c2 := ⟨_, rfl⟩
  rw [← hTC]
  have HTC := Lib.hid hTC
  clear hTC D2 C2 h hp hT
  by_cases h1 : c1 = 0
  · have H1 := Lib.hid h1
    go_enter Tryz.func98, Tryz.ntmps98
    clear h1
    go_wp2_with fail
    refine C1.out.mono ?_
    rintro e w1 hR
    obtain ⟨rfl, r1, g1⟩ := hR.1 H1.out
    have p1 := HP.out.gr g1 hpr
    have z4 : w1.cell? ⟨p, 4, none⟩ = some (.int .i64 P.id) := by rw [cell_heap p1]; rfl
    have f4 : w1.frozen? ⟨p, 4, none⟩ = false := frozen_heap p1
    have z0 : w1.cell? ⟨p, 0, none⟩ = some (.int .i64 P.kind) := by rw [cell_heap p1]; rfl
    have P2 : Hid (PbAt p { P with id := n } vc vp vw vs vf (w1.setCell ⟨p, 4, none⟩ (.int .i64 n))) := Lib.hid (set_block p1 rfl)
    have R2 : RdAt r s a1 (w1.setCell ⟨p, 4, none⟩ (.int .i64 n)) := r1.setOther hrp _ _
    have G2' : G2 r p w (w1.setCell ⟨p, 4, none⟩ (.int .i64 n)) := (G2.of_gr g1).setCell 4 _
    have E2 := Lib.hid (HD2.out _ G2' R2)
    have HG2 := Lib.hid G2'
    clear hR r1 g1 C1 HD2 p1 R2 G2'
    go_wp2_with fail
    refine E2.out.mono ?_
    rintro e w2 hR
    by_cases h2 : c2 = 0
    · obtain ⟨v, rfl, o2, r2, g2⟩ := hR.1 h2
      have E : Hid (TC = 0) := Lib.hid (by rw [HTC.out, PK.thn_ok H1.out, h2])
      have p2 := P2.out.gr g2 hpr
      have z9 : w2.cell? ⟨p, 9, none⟩ = some vp := by rw [cell_heap p2]; rfl
      have f9 : w2.frozen? ⟨p, 9, none⟩ = false := frozen_heap p2
      obtain ⟨A, cap, rfl⟩ := own_form o2
      have hsz : w.heap.size ≤ (w1.setCell ⟨p, 4, none⟩ (.int .i64 n)).heap.size := HG2.out.size
      have o3 : w2.ownsRow w.heap.size 163 4 (.slice A l.length cap) l.length (flatP l) := own_base' o2 hsz
      have O4 : Hid ((w2.setCell ⟨p, 9, none⟩ (.slice A l.length cap)).ownsRow w.heap.size 163 4 (.slice A l.length cap) l.length (flatP l)) := Lib.hid (own_set o3 (row_ne o3 hlp))
      have P4 : Hid (PbAt p { P with id := n, props := l } vc (.slice A l.length cap) vw vs vf (w2.setCell ⟨p, 9, none⟩ (.slice A l.length cap))) := Lib.hid (set_block p2 rfl)
      have R4 : Hid (RdAt r s a2 (w2.setCell ⟨p, 9, none⟩ (.slice A l.length cap))) := Lib.hid (r2.setOther hrp _ _)
      have G4 : Hid (G2 r p w (w2.setCell ⟨p, 9, none⟩ (.slice A l.length cap))) := Lib.hid ((HG2.out.trans (G2.of_gr g2)).setCell 9 _)
      clear hR o2 r2 g2 p2 o3 E2 h2 HTC
      go_wp2
      go_end0
      exact ⟨fun _ => ⟨_, rfl, O4.out, R4.out, P4.out, G4.out⟩, fun h => absurd E.out h⟩
    · obtain ⟨rfl, g2⟩ := hR.2 h2
      have E : TC = c2 := by rw [HTC.out, PK.thn_ok H1.out]
      exact ⟨rfl, fun h => absurd (E.symm.trans h) h2, fun _ => ⟨by rw [E]; rfl, HG2.out.trans (G2.of_gr g2)⟩⟩
  · have E : Hid (TC = c1) := Lib.hid (by rw [HTC.out, PK.thn_bad h1])
    have H1 := Lib.hid h1
    clear h1 HTC
    go_enter Tryz.func98, Tryz.ntmps98
    go_wp2_with fail
    refine C1.out.mono ?_
    rintro e w1 hR
    obtain ⟨rfl, g1⟩ := hR.2 H1.out
    exact ⟨rfl, fun h => absurd (E.out.symm.trans h) H1.out, fun _ => ⟨by rw [E.out]; rfl, G2.of_gr g1⟩⟩
end Go.Proofs.YtjajandjdclifaaGreatDoor
namespace Go.Proofs.YtjajandjdclifaaGreatDoor
open Go.RowKit

namespace PK
/-- A code and properties, as far as they stand there. -/
def rdEnd (s : ByteArray) (a k : Int) : (Int × List Pr) × Int × Int :=
  if a = (s.size : Int) then ((0, []), a, 0)
  else if (rdC s a).2.2 ≠ 0 then ((0, []), 0, (rdC s a).2.2)
  else if (rdC s a).2.1 = (s.size : Int) then (((rdC s a).1, []), (rdC s a).2.1, 0)
  else (((rdC s a).1, (rdPr s (rdC s a).2.1 k).1), (rdPr s (rdC s a).2.1 k).2.1, (rdPr s (rdC s a).2.1 k).2.2)
end PK
/-- What the reader's ending answers. -/
def EdP (r p : Nat) (s : ByteArray) (P : Pk) (vc vw vs vf : Value) (w : World) (X : (Int × List Pr) × Int × Int) (e : Ending) (w' : World) : Prop :=
  (X.2.2 = 0 → ∃ v, e = .returned (.tuple #[]) ∧ w'.ownsRow w.heap.size 163 4 v X.1.2.length (flatP X.1.2) ∧ RdAt r s X.2.1 w' ∧ PbAt p { P with code := X.1.1, props := X.1.2 } vc v vw vs vf w' ∧ G2 r p w w') ∧ (X.2.2 ≠ 0 → e = leftBy X.2.2 ∧ G2 r p w w')

set_option maxRecDepth 100000 in
set_option maxHeartbeats 4000000 in
theorem rending_any (r p : Nat) (s : ByteArray) (a : Int) (P : Pk) (vc vw vs vf : Value) (w : World) (h : RdAt r s a w) (hp : PbAt p P vc (.slice none 0 0) vw vs vf w) (hc0 : P.code = 0) (hl0 : P.props = []) (hs : s.size ≤ 140737488351232) (hT : ∀ W, G2 r p w W → Tabs W) (hrp : r ≠ p) :
    Calls Tryz.prog 105 #[.pointer (some ⟨r, 0, none⟩), .pointer (some ⟨p, 0, none⟩)] w (EdP r p s P vc vw vs vf w (PK.rdEnd s a P.kind)) := by
  have CE : Hid (∀ a W, RdAt r s a W → Calls Tryz.prog 61 #[.pointer (some ⟨r, 0, none⟩)] W fun e w' => e = .returned (.bool (a == (s.size : Int))) ∧ Below W.heap.size W w') := fun a W hW => ended_any r s a W hW
  have C1 : Hid (∀ W, RdAt r s a W → Calls Tryz.prog 95 #[.pointer (some ⟨r, 0, none⟩)] W (RdP r s W (.int .u8 (PK.rdC s a).1) (PK.rdC s a).2.1 (PK.rdC s a).2.2)) := fun W hW => rreason_any r s a W hW hs
  have C2 : Hid (∀ a W, G2 r p w W → RdAt r s a W → Calls Tryz.prog 96 #[.pointer (some ⟨r, 0, none⟩), .int .i64 P.kind] W (RdPP r s W (PK.rdPr s a P.kind).1 (PK.rdPr s a P.kind).2.1 (PK.rdPr s a P.kind).2.2)) := fun a W hg hW => rprops_any r s a P.kind W hW hs (hT W hg)
  have HP := Lib.hid hp
  have HRd := Lib.hid h
  have hlr := lt_heap h
  have hlp := lt_heap hp
  have hpr : p ≠ r := fun e => hrp e.symm
  have D0 := Lib.hid (CE.out a w h)
  obtain ⟨X, hX⟩ : ∃ X, X = PK.rdEnd s a P.kind := ⟨_, rfl⟩
  rw [← hX]
  have HX := Lib.hid hX
  have EP0 : Hid ({ P with code := 0, props := [] } = P) := Lib.hid (by cases P; simp only at hc0 hl0; subst hc0 hl0; rfl)
  have EP1 : Hid (∀ n, { P with code := n, props := [] } = { P with code := n }) := Lib.hid (by intro n; cases P; simp only at hl0; subst hl0; rfl)
  clear h hp hT hX hc0 hl0
  by_cases he : a = (s.size : Int)
  · have e1 : (a == (s.size : Int)) = true := by simp [he]
    have E : Hid (X = ((0, []), a, 0)) := Lib.hid (by rw [HX.out]; unfold PK.rdEnd; rw [if_pos he])
    rw [e1] at D0
    have HE := Lib.hid e1
    clear he e1 C1 C2 HX
    go_enter Tryz.func105, Tryz.ntmps105
    go_wp2_with fail
    refine D0.out.mono ?_
    rintro e w1 ⟨rfl, b1⟩
    have R1 := Lib.hid (HRd.out.below b1)
    have P1 : Hid (PbAt p P vc (.slice none 0 0) vw vs vf w1) := Lib.hid (HP.out.gr (Gr.of_below (r := r) b1) hpr)
    have G1 : Hid (G2 r p w w1) := Lib.hid (G2.of_gr (Gr.of_below b1))
    have D1 := CE.out a w1 R1.out
    rw [HE.out] at D1
    have HD1 := Lib.hid D1
    clear b1 D0 D1 CE
    go_wp2_with fail
    refine HD1.out.mono ?_
    rintro e w2 ⟨rfl, b2⟩
    have R2 := Lib.hid (R1.out.below b2)
    have P2 : Hid (PbAt p P vc (.slice none 0 0) vw vs vf w2) := Lib.hid (P1.out.gr (Gr.of_below (r := r) b2) hpr)
    have G2' : Hid (G2 r p w w2) := Lib.hid (G1.out.trans (G2.of_gr (Gr.of_below b2)))
    clear b2 HD1
    go_wp2
    go_end0
    rw [E.out]
    exact ⟨fun _ => ⟨_, rfl, own_nil _ _ _ _, R2.out, by simp only; rw [EP0.out]; exact P2.out, G2'.out⟩, fun h => absurd rfl h⟩
  · have e1 : (a == (s.size : Int)) = false := by rw [beq_eq_false_iff_ne]; exact he
    rw [e1] at D0
    have HX2 : Hid (X = if (PK.rdC s a).2.2 ≠ 0 then ((0, []), 0, (PK.rdC s a).2.2) else if (PK.rdC s a).2.1 = (s.size : Int) then (((PK.rdC s a).1, []), (PK.rdC s a).2.1, 0) else (((PK.rdC s a).1, (PK.rdPr s (PK.rdC s a).2.1 P.kind).1), (PK.rdPr s (PK.rdC s a).2.1 P.kind).2.1, (PK.rdPr s (PK.rdC s a).2.1 P.kind).2.2)) := Lib.hid (by rw [HX.out]; unfold PK.rdEnd; rw [if_neg he])
    clear he e1 HX
    generalize PK.rdC s a = Y at *
    obtain ⟨n, a1, c1⟩ := Y
    simp only at C1 HX2
    go_enter Tryz.func105, Tryz.ntmps105
    go_wp2_with fail
    refine D0.out.mono ?_
    rintro e w1 ⟨rfl, b1⟩
    have r1 := HRd.out.below b1
    have P1 : Hid (PbAt p P vc (.slice none 0 0) vw vs vf w1) := Lib.hid (HP.out.gr (Gr.of_below (r := r) b1) hpr)
    have G1 : Hid (G2 r p w w1) := Lib.hid (G2.of_gr (Gr.of_below b1))
    have D1 := Lib.hid (C1.out w1 r1)
    clear b1 D0 C1 r1
    go_wp2_with fail
    refine D1.out.mono ?_
    rintro e w2 hR
    by_cases h1 : c1 = 0
    · obtain ⟨rfl, r2, g2⟩ := hR.1 h1
      have p2 := P1.out.gr g2 hpr
      have z7 : w2.cell? ⟨p, 7, none⟩ = some (.int .u8 P.code) := by rw [cell_heap p2]; rfl
      have f7 : w2.frozen? ⟨p, 7, none⟩ = false := frozen_heap p2
      have z0 : w2.cell? ⟨p, 0, none⟩ = some (.int .i64 P.kind) := by rw [cell_heap p2]; rfl
      have P3 : Hid (PbAt p { P with code := n } vc (.slice none 0 0) vw vs vf (w2.setCell ⟨p, 7, none⟩ (.int .u8 n))) := Lib.hid (set_block p2 rfl)
      have r3 : RdAt r s a1 (w2.setCell ⟨p, 7, none⟩ (.int .u8 n)) := r2.setOther hrp _ _
      have G3 : Hid (G2 r p w (w2.setCell ⟨p, 7, none⟩ (.int .u8 n))) := Lib.hid ((G1.out.trans (G2.of_gr g2)).setCell 7 _)
      have D3 := CE.out a1 _ r3
      have R3 := Lib.hid r3
      have H1 := Lib.hid h1
      clear hR r2 g2 p2 D1 r3 CE h1
      by_cases h2 : a1 = (s.size : Int)
      · have e2 : (a1 == (s.size : Int)) = true := by simp [h2]
        have E : Hid (X = ((n, []), a1, 0)) := Lib.hid (by rw [HX2.out, if_neg (by simp [H1.out]), if_pos h2])
        rw [e2] at D3
        have HD3 := Lib.hid D3
        clear D3 e2 h2 HX2 C2
        go_wp2_with fail
        refine HD3.out.mono ?_
        rintro e w4 ⟨rfl, b4⟩
        have R4 := Lib.hid (R3.out.below b4)
        have P4 : Hid (PbAt p { P with code := n } vc (.slice none 0 0) vw vs vf w4) := Lib.hid (P3.out.gr (Gr.of_below (r := r) b4) hpr)
        have G4 : Hid (G2 r p w w4) := Lib.hid (G3.out.trans (G2.of_gr (Gr.of_below b4)))
        clear b4 HD3
        go_wp2
        go_end0
        rw [E.out]
        exact ⟨fun _ => ⟨_, rfl, own_nil _ _ _ _, R4.out, by simp only; rw [EP1.out]; exact P4.out, G4.out⟩, fun h => absurd rfl h⟩
      · have e2 : (a1 == (s.size : Int)) = false := by rw [beq_eq_false_iff_ne]; exact h2
        rw [e2] at D3
        have HD3 := Lib.hid D3
        have E0 : Hid (X = ((n, (PK.rdPr s a1 P.kind).1), (PK.rdPr s a1 P.kind).2.1, (PK.rdPr s a1 P.kind).2.2)) := Lib.hid (by rw [HX2.out, if_neg (by simp [H1.out]), if_neg h2])
        have E2 := C2.out a1
        generalize PK.rdPr s a1 P.kind = Z at *
        obtain ⟨l, a2, c2⟩ := Z
        simp only at E2 E0
        have HE2 := Lib.hid E2
        clear D3 e2 h2 HX2 C2 E2
        go_wp2_with fail
        refine HD3.out.mono ?_
        rintro e w4 ⟨rfl, b4⟩
        have r4 := R3.out.below b4
        have p4 := P3.out.gr (Gr.of_below (r := r) b4) hpr
        have G4 : Hid (G2 r p w w4) := Lib.hid (G3.out.trans (G2.of_gr (Gr.of_below b4)))
        have z0' : w4.cell? ⟨p, 0, none⟩ = some (.int .i64 P.kind) := by rw [cell_heap p4]; rfl
        have D5 := Lib.hid (HE2.out w4 G4.out r4)
        have P4 := Lib.hid p4
        clear b4 HD3 HE2 r4 p4
        go_wp2_with fail
        refine D5.out.mono ?_
        rintro e w5 hR
        by_cases h3 : c2 = 0
        · obtain ⟨v, rfl, o5, r5, g5⟩ := hR.1 h3
          have p5 := P4.out.gr g5 hpr
          have z9 : w5.cell? ⟨p, 9, none⟩ = some (.slice none 0 0) := by rw [cell_heap p5]; rfl
          have f9 : w5.frozen? ⟨p, 9, none⟩ = false := frozen_heap p5
          obtain ⟨A, cap, rfl⟩ := own_form o5
          have o6 : w5.ownsRow w.heap.size 163 4 (.slice A l.length cap) l.length (flatP l) := own_base' o5 G4.out.size
          have O6 : Hid ((w5.setCell ⟨p, 9, none⟩ (.slice A l.length cap)).ownsRow w.heap.size 163 4 (.slice A l.length cap) l.length (flatP l)) := Lib.hid (own_set o6 (row_ne o6 hlp))
          have P6 : Hid (PbAt p { P with code := n, props := l } vc (.slice A l.length cap) vw vs vf (w5.setCell ⟨p, 9, none⟩ (.slice A l.length cap))) := Lib.hid (set_block p5 rfl)
          have R6 : Hid (RdAt r s a2 (w5.setCell ⟨p, 9, none⟩ (.slice A l.length cap))) := Lib.hid (r5.setOther hrp _ _)
          have G6 : Hid (G2 r p w (w5.setCell ⟨p, 9, none⟩ (.slice A l.length cap))) := Lib.hid ((G4.out.trans (G2.of_gr g5)).setCell 9 _)
          have E : Hid (X = ((n, l), a2, 0)) := Lib.hid (by rw [E0.out, h3])
          clear hR o5 r5 g5 p5 o6 D5 h3 E0
          go_wp2
          go_end0
          rw [E.out]
          exact ⟨fun _ => ⟨_, rfl, O6.out, R6.out, P6.out, G6.out⟩, fun h => absurd rfl h⟩
        · obtain ⟨rfl, g5⟩ := hR.2 h3
          exact ⟨rfl, by rw [E0.out]; exact ⟨fun h => absurd h h3, fun _ => ⟨rfl, G4.out.trans (G2.of_gr g5)⟩⟩⟩
    · obtain ⟨rfl, g2⟩ := hR.2 h1
      have E : X = ((0, []), 0, c1) := by rw [HX2.out, if_pos h1]
      exact ⟨rfl, by rw [E]; exact ⟨fun h => absurd h h1, fun _ => ⟨rfl, G1.out.trans (G2.of_gr g2)⟩⟩⟩
end Go.Proofs.YtjajandjdclifaaGreatDoor
namespace Go.Proofs.YtjajandjdclifaaGreatDoor
open Go.RowKit

theorem G2.setR {r p : Nat} {w w' : World} (h : G2 r p w w') (j : Nat) (u : Value) : G2 r p w (w'.setCell ⟨r, j, none⟩ u) :=
  ⟨h.os, h.tape, h.output, by simp [World.setCell]; exact h.size, fun i hi h1 h2 => (Below.heap_setCell _ _ _ _ (fun e => h1 (by simpa using e))).trans (h.block i hi h1 h2)⟩
namespace PK
/-- The identifier, where there is one. -/
def rdI (s : ByteArray) (a q i : Int) : Int × Int × Int := if 0 < q then rdId s a else (i, a, 0)
/-- A topic, an identifier where there is one, properties, and all that is left. -/
def rdPub (s : ByteArray) (a k q i : Int) : (ByteArray × Int × List Pr × ByteArray) × Int × Int :=
  (((rdT s a).1, (rdI s (rdT s a).2.1 q i).1, (rdPr s (rdI s (rdT s a).2.1 q i).2.1 k).1, s.extract (rdPr s (rdI s (rdT s a).2.1 q i).2.1 k).2.1.toNat s.size), (s.size : Int),
    thn (rdT s a).2.2 (thn (rdI s (rdT s a).2.1 q i).2.2 (rdPr s (rdI s (rdT s a).2.1 q i).2.1 k).2.2))
theorem getL_at (s : ByteArray) (a : Int) (h : (PR.getL s a).2.2 = 0) : ∃ q : Nat, (PR.getL s a).2.1 = q ∧ q ≤ s.size := by
  by_cases h0 : (VP.get s a).2.2 = 0
  · obtain ⟨m, f, hg, hf⟩ := PR.get_at s a h0
    by_cases hl : (s.size : Int) - f < m
    · rw [PR.getL_few s a m f hg hl] at h; exact absurd h (by simp)
    · have hx := PR.getL_in s a m f hg hl rfl
      by_cases hz : (PR.gl (s.extract f (f + m)) 66 0 []).2 ≠ 0
      · rw [if_pos hz] at hx; rw [hx] at h; exact absurd h hz
      · rw [if_neg hz] at hx; rw [hx]; exact ⟨f + m, by simp, by omega⟩
  · rw [PR.getL_bad s a h0] at h; exact absurd h h0
theorem cm_zero {c : Int} (h : cm c = 0) : c = 0 := by
  unfold cm at h
  split at h
  · exact absurd h (by decide)
  · exact h
theorem rdPr_at (s : ByteArray) (a k : Int) (h : (rdPr s a k).2.2 = 0) : ∃ q : Nat, (rdPr s a k).2.1 = q ∧ q ≤ s.size := by
  have hc : cm (PR.getL s a).2.2 = 0 := by
    by_cases hz : cm (PR.getL s a).2.2 = 0
    · exact hz
    · exfalso
      have : (rdPr s a k).2.2 = cm (PR.getL s a).2.2 := thn_bad hz _
      exact hz (this.symm.trans h)
  exact getL_at s a (cm_zero hc)
end PK
/-- What the reader's publish answers. -/
def PubP (r p : Nat) (s : ByteArray) (P : Pk) (vc vw vs vf : Value) (w : World) (X : (ByteArray × Int × List Pr × ByteArray) × Int × Int) (e : Ending) (w' : World) : Prop :=
  (X.2.2 = 0 → ∃ v, e = .returned (.tuple #[]) ∧ w'.ownsRow w.heap.size 163 4 v X.1.2.2.1.length (flatP X.1.2.2.1) ∧ RdAt r s X.2.1 w' ∧ PbAt p { P with topic := X.1.1, id := X.1.2.1, props := X.1.2.2.1, pay := X.1.2.2.2 } vc v vw vs vf w' ∧ G2 r p w w') ∧ (X.2.2 ≠ 0 → e = leftBy X.2.2 ∧ G2 r p w w')

set_option maxRecDepth 100000 in
set_option maxHeartbeats 4000000 in
theorem rpublish_any (r p : Nat) (s : ByteArray) (a : Int) (P : Pk) (vc vp vw vs vf : Value) (w : World) (h : RdAt r s a w) (hp : PbAt p P vc vp vw vs vf w) (hs : s.size ≤ 140737488351232) (hT : ∀ W, G2 r p w W → Tabs W) (hrp : r ≠ p) :
    Calls Tryz.prog 97 #[.pointer (some ⟨r, 0, none⟩), .pointer (some ⟨p, 0, none⟩)] w (PubP r p s P vc vw vs vf w (PK.rdPub s a P.kind P.qos P.id)) := by
  have C1 : Hid (Calls Tryz.prog 102 #[.pointer (some ⟨r, 0, none⟩)] w (RdP r s w (.string (PK.rdT s a).1) (PK.rdT s a).2.1 (PK.rdT s a).2.2)) := rtext_any r s a w h hs (hT w (G2.refl _ _ _))
  have CI : Hid (∀ a W, RdAt r s a W → Calls Tryz.prog 104 #[.pointer (some ⟨r, 0, none⟩)] W (RdP r s W (.int .i64 (PK.rdId s a).1) (PK.rdId s a).2.1 (PK.rdId s a).2.2)) := fun a W hW => rid_any r s a W hW hs
  have C2 : Hid (∀ a W, G2 r p w W → RdAt r s a W → Calls Tryz.prog 96 #[.pointer (some ⟨r, 0, none⟩), .int .i64 P.kind] W (RdPP r s W (PK.rdPr s a P.kind).1 (PK.rdPr s a P.kind).2.1 (PK.rdPr s a P.kind).2.2)) := fun a W hg hW => rprops_any r s a P.kind W hW hs (hT W hg)
  have AT : Hid (∀ a, (PK.rdPr s a P.kind).2.2 = 0 → ∃ q : Nat, (PK.rdPr s a P.kind).2.1 = q ∧ q ≤ s.size) := Lib.hid (fun a => PK.rdPr_at s a P.kind)
  have CC : Hid (∀ (q : Nat) W, Calls Tryz.prog 52 #[.string (s.extract q s.size)] W fun e w' => e = .returned (.string (s.extract q s.size)) ∧ Below W.heap.size W w') := Lib.hid (fun q W => clone_any _ W (by rw [ByteArray.size_extract]; omega))
  have HP := Lib.hid hp
  have hlr := lt_heap h
  have hlp := lt_heap hp
  have hpr : p ≠ r := fun e => hrp e.symm
  obtain ⟨X, hX⟩ : ∃ X, X = PK.rdPub s a P.kind P.qos P.id := ⟨_, rfl⟩
  rw [← hX]
  unfold PK.rdPub at hX
  have HX := Lib.hid hX
  clear h hp hT hX
  generalize PK.rdT s a = Y at *
  obtain ⟨tp, a1, c1⟩ := Y
  simp only at C1 HX
  by_cases h1 : c1 = 0
  · have H1 := Lib.hid h1
    clear h1
    by_cases hq : 0 < P.qos
    · have E0 : Hid (PK.rdI s a1 P.qos P.id = PK.rdId s a1) := Lib.hid (by unfold PK.rdI; rw [if_pos hq])
      rw [E0.out] at HX
      have D1 := CI.out a1
      generalize PK.rdId s a1 = Y at *
      obtain ⟨n, a2, c2⟩ := Y
      simp only at HX D1
      have HD1 := Lib.hid D1
      clear E0 D1 CI
      have HQ := Lib.hid hq
      go_enter Tryz.func97, Tryz.ntmps97
      go_wp2_with fail
      refine C1.out.mono ?_
      rintro e w1 hR
      obtain ⟨rfl, r1, g1⟩ := hR.1 H1.out
      have p1 := HP.out.gr g1 hpr
      have z5 : w1.cell? ⟨p, 5, none⟩ = some (.string P.topic) := by rw [cell_heap p1]; rfl
      have f5 : w1.frozen? ⟨p, 5, none⟩ = false := frozen_heap p1
      have z3 : w1.cell? ⟨p, 3, none⟩ = some (.int .i64 P.qos) := by rw [cell_heap p1]; rfl
      have y0 : w1.cell? ⟨p, 0, none⟩ = some (.int .i64 P.kind) := by rw [cell_heap p1]; rfl
      have P2 : Hid (PbAt p { P with topic := tp } vc vp vw vs vf (w1.setCell ⟨p, 5, none⟩ (.string tp))) := Lib.hid (set_block p1 rfl)
      have R2 : Hid (RdAt r s a1 (w1.setCell ⟨p, 5, none⟩ (.string tp))) := Lib.hid (r1.setOther hrp _ _)
      have GG2 : Hid (G2 r p w (w1.setCell ⟨p, 5, none⟩ (.string tp))) := Lib.hid ((G2.of_gr g1).setCell 5 _)
      clear hR r1 g1 C1 p1 HP
      go_wp2_with fail
      refine (HD1.out _ R2.out).mono ?_
      rintro e w3 hR
      by_cases h2 : c2 = 0
      · obtain ⟨rfl, r3, g3⟩ := hR.1 h2
        have p3 := P2.out.gr g3 hpr
        have z4 : w3.cell? ⟨p, 4, none⟩ = some (.int .i64 P.id) := by rw [cell_heap p3]; rfl
        have f4 : w3.frozen? ⟨p, 4, none⟩ = false := frozen_heap p3
        have z0 : w3.cell? ⟨p, 0, none⟩ = some (.int .i64 P.kind) := by rw [cell_heap p3]; rfl
        have P4 : Hid (PbAt p { P with topic := tp, id := n } vc vp vw vs vf (w3.setCell ⟨p, 4, none⟩ (.int .i64 n))) := Lib.hid (set_block p3 rfl)
        have R4 : RdAt r s a2 (w3.setCell ⟨p, 4, none⟩ (.int .i64 n)) := r3.setOther hrp _ _
        have G4 : Hid (G2 r p w (w3.setCell ⟨p, 4, none⟩ (.int .i64 n))) := Lib.hid ((GG2.out.trans (G2.of_gr g3)).setCell 4 _)
        have HX4 : Hid (X = ((tp, n, (PK.rdPr s a2 P.kind).1, s.extract (PK.rdPr s a2 P.kind).2.1.toNat s.size), (s.size : Int), (PK.rdPr s a2 P.kind).2.2)) := Lib.hid (by rw [HX.out, PK.thn_ok H1.out, PK.thn_ok h2])
        have D4 := C2.out a2
        have AT4 := AT.out a2
        generalize PK.rdPr s a2 P.kind = Z at *
        obtain ⟨l, a3, c3⟩ := Z
        simp only at D4 HX4 AT4
        have E4 := Lib.hid (D4 _ G4.out R4)
        have HAT := Lib.hid AT4
        clear hR r3 g3 p3 HD1 R2 P2 GG2 D4 AT4 C2 AT HX h2 R4
        go_wp2_with fail
        refine E4.out.mono ?_
        rintro e w5 hR
        by_cases h3 : c3 = 0
        · obtain ⟨v, rfl, o5, r5, g5⟩ := hR.1 h3
          obtain ⟨q, hq3, hqs⟩ := HAT.out h3
          have p5 := P4.out.gr g5 hpr
          have z9 : w5.cell? ⟨p, 9, none⟩ = some vp := by rw [cell_heap p5]; rfl
          have f9 : w5.frozen? ⟨p, 9, none⟩ = false := frozen_heap p5
          obtain ⟨A, cap, rfl⟩ := own_form o5
          have o6 : w5.ownsRow w.heap.size 163 4 (.slice A l.length cap) l.length (flatP l) := own_base' o5 G4.out.size
          have o7 : (w5.setCell ⟨p, 9, none⟩ (.slice A l.length cap)).ownsRow w.heap.size 163 4 (.slice A l.length cap) l.length (flatP l) := own_set o6 (row_ne o6 hlp)
          have P7 : Hid (PbAt p { P with topic := tp, id := n, props := l } vc (.slice A l.length cap) vw vs vf (w5.setCell ⟨p, 9, none⟩ (.slice A l.length cap))) := Lib.hid (set_block p5 rfl)
          have R7 : Hid (RdAt r s a3 (w5.setCell ⟨p, 9, none⟩ (.slice A l.length cap))) := Lib.hid (r5.setOther hrp _ _)
          have G7 : Hid (G2 r p w (w5.setCell ⟨p, 9, none⟩ (.slice A l.length cap))) := Lib.hid ((G4.out.trans (G2.of_gr g5)).setCell 9 _)
          have O7 := Lib.hid o7
          have hlp7 : p < (w5.setCell ⟨p, 9, none⟩ (.slice A l.length cap)).heap.size := lt_heap P7.out
          have hlr7 : r < (w5.setCell ⟨p, 9, none⟩ (.slice A l.length cap)).heap.size := lt_heap R7.out
          have EX : Hid (X = ((tp, n, l, s.extract q s.size), (s.size : Int), 0)) := Lib.hid (by rw [HX4.out, h3, hq3]; rfl)
          subst hq3
          have hsl : ∀ W, (Instr.slice 9 (.string s) (some (.int .i64 (q : Int))) none none).run Tryz.prog W = .ok (.string (s.extract q s.size)) W := fun W => slice_from s q hqs W
          have CC1 := Lib.hid (CC.out q)
          generalize s.extract q s.size = pay at *
          clear hR o5 r5 g5 p5 o6 o7 E4 h3 HX4 HAT CC P4 G4
          go_wp2_with fail
          generalize w5.setCell ⟨p, 9, none⟩ (.slice A l.length cap) = w7 at *
          have q0 : w7.cell? ⟨r, 0, none⟩ = some (.string s) := by rw [cell_heap R7.out]; rfl
          have q1 : w7.cell? ⟨r, 1, none⟩ = some (.int .i64 (q : Int)) := by rw [cell_heap R7.out]; rfl
          clear z9 f9 z5 f5 z3 y0
          go_region_held3 (fun w' => w'.cell? ⟨r, 0, none⟩ = some (.string s) ∧ w'.cell? ⟨r, 1, none⟩ = some (.int .i64 (q : Int)))
            (first | exact ⟨q0, q1⟩ | exact ⟨p0, p1⟩ | exact ⟨u0, u1⟩)
            (first
              | (go_at_call 52
                 refine (CC1.out _).mono ?_
                 rintro e w8 ⟨rfl, b8⟩
                 have hr8 : RdAt r s q w8 := (show RdAt r s q w7.drew from R7.out).below b8
                 have hp8 : PbAt p { P with topic := tp, id := n, props := l } vc (.slice A l.length cap) vw vs vf w8 := (show PbAt p { P with topic := tp, id := n, props := l } vc (.slice A l.length cap) vw vs vf w7.drew from P7.out).gr (Gr.of_below (r := r) b8) hpr
                 have p0 : w8.cell? ⟨r, 0, none⟩ = some (.string s) := by rw [cell_heap hr8]; rfl
                 have p1 : w8.cell? ⟨r, 1, none⟩ = some (.int .i64 (q : Int)) := by rw [cell_heap hr8]; rfl
                 have z6 : w8.cell? ⟨p, 6, none⟩ = some (.string P.pay) := by rw [cell_heap hp8]; rfl
                 have f6 : w8.frozen? ⟨p, 6, none⟩ = false := frozen_heap hp8
                 have hr9 : RdAt r s q (w8.setCell ⟨p, 6, none⟩ (.string pay)) := hr8.setOther hrp _ _
                 have u0 : (w8.setCell ⟨p, 6, none⟩ (.string pay)).cell? ⟨r, 0, none⟩ = some (.string s) := by rw [cell_heap hr9]; rfl
                 have u1 : (w8.setCell ⟨p, 6, none⟩ (.string pay)).cell? ⟨r, 1, none⟩ = some (.int .i64 (q : Int)) := by rw [cell_heap hr9]; rfl))
          have P9 : PbAt p { P with topic := tp, id := n, props := l, pay := pay } vc (.slice A l.length cap) vw vs vf (w8.setCell ⟨p, 6, none⟩ (.string pay)) := set_block hp8 rfl
          have R9 := Lib.hid hr9
          have hG8 : G2 r p w w8 := G7.out.trans (G2.of_gr (Gr.of_drew (Gr.of_below b8)))
          have f1 : (w8.setCell ⟨p, 6, none⟩ (.string pay)).frozen? ⟨r, 1, none⟩ = false := frozen_heap hr9
          have RA : Hid (RdAt r s (s.size : Int) ((w8.setCell ⟨p, 6, none⟩ (.string pay)).setCell ⟨r, 1, none⟩ (.int .i64 (s.size : Int)))) := Lib.hid (set_block hr9 rfl)
          have PA : Hid (PbAt p { P with topic := tp, id := n, props := l, pay := pay } vc (.slice A l.length cap) vw vs vf ((w8.setCell ⟨p, 6, none⟩ (.string pay)).setCell ⟨r, 1, none⟩ (.int .i64 (s.size : Int)))) := Lib.hid ((Below.heap_setCell _ _ _ _ (fun e => hpr (by simpa using e))).trans P9)
          have GA : Hid (G2 r p w ((w8.setCell ⟨p, 6, none⟩ (.string pay)).setCell ⟨r, 1, none⟩ (.int .i64 (s.size : Int)))) := Lib.hid ((hG8.setCell 6 _).setR 1 _)
          have o8 : w8.ownsRow w.heap.size 163 4 (.slice A l.length cap) l.length (flatP l) := own_gr O7.out (Gr.of_drew (Gr.of_below b8)) (row_ne O7.out hlr)
          have o9 : (w8.setCell ⟨p, 6, none⟩ (.string pay)).ownsRow w.heap.size 163 4 (.slice A l.length cap) l.length (flatP l) := own_set o8 (row_ne o8 hlp)
          have OA : Hid (((w8.setCell ⟨p, 6, none⟩ (.string pay)).setCell ⟨r, 1, none⟩ (.int .i64 (s.size : Int))).ownsRow w.heap.size 163 4 (.slice A l.length cap) l.length (flatP l)) := Lib.hid (own_set o9 (row_ne o9 hlr))
          clear P9 hG8 o8 o9 b8 hr8 hp8 O7 P7 R7 G7 hr9 CC1 hsl
          go_wp2
          go_end0
          rw [EX.out]
          exact ⟨fun _ => ⟨_, rfl, OA.out, RA.out, PA.out, GA.out⟩, fun h => absurd rfl h⟩
        · obtain ⟨rfl, g5⟩ := hR.2 h3
          have E : X.2.2 = c3 := by rw [HX4.out]
          exact ⟨rfl, fun h => absurd (E.symm.trans h) h3, fun _ => ⟨by rw [E]; rfl, G4.out.trans (G2.of_gr g5)⟩⟩
      · obtain ⟨rfl, g3⟩ := hR.2 h2
        have E : X.2.2 = c2 := by rw [HX.out]; exact (PK.thn_ok H1.out _).trans (PK.thn_bad h2 _)
        exact ⟨rfl, fun h => absurd (E.symm.trans h) h2, fun _ => ⟨by rw [E]; rfl, GG2.out.trans (G2.of_gr g3)⟩⟩
    · have E0 : Hid (PK.rdI s a1 P.qos P.id = (P.id, a1, 0)) := Lib.hid (by unfold PK.rdI; rw [if_neg hq])
      rw [E0.out] at HX
      simp only at HX
      clear E0 CI
      have HQ := Lib.hid hq
      go_enter Tryz.func97, Tryz.ntmps97
      go_wp2_with fail
      refine C1.out.mono ?_
      rintro e w1 hR
      obtain ⟨rfl, r1, g1⟩ := hR.1 H1.out
      have p1 := HP.out.gr g1 hpr
      have z5 : w1.cell? ⟨p, 5, none⟩ = some (.string P.topic) := by rw [cell_heap p1]; rfl
      have f5 : w1.frozen? ⟨p, 5, none⟩ = false := frozen_heap p1
      have z3 : w1.cell? ⟨p, 3, none⟩ = some (.int .i64 P.qos) := by rw [cell_heap p1]; rfl
      have y0 : w1.cell? ⟨p, 0, none⟩ = some (.int .i64 P.kind) := by rw [cell_heap p1]; rfl
      have P2 : Hid (PbAt p { P with topic := tp } vc vp vw vs vf (w1.setCell ⟨p, 5, none⟩ (.string tp))) := Lib.hid (set_block p1 rfl)
      have R2 : Hid (RdAt r s a1 (w1.setCell ⟨p, 5, none⟩ (.string tp))) := Lib.hid (r1.setOther hrp _ _)
      have GG2 : Hid (G2 r p w (w1.setCell ⟨p, 5, none⟩ (.string tp))) := Lib.hid ((G2.of_gr g1).setCell 5 _)
      clear hR r1 g1 C1 p1 HP
      · have P4 : Hid (PbAt p { P with topic := tp, id := P.id } vc vp vw vs vf (w1.setCell ⟨p, 5, none⟩ (.string tp))) := P2
        have G4 := GG2
        have HX4 : Hid (X = ((tp, P.id, (PK.rdPr s a1 P.kind).1, s.extract (PK.rdPr s a1 P.kind).2.1.toNat s.size), (s.size : Int), (PK.rdPr s a1 P.kind).2.2)) := Lib.hid (by rw [HX.out, PK.thn_ok H1.out, PK.thn_ok rfl])
        have D4 := C2.out a1
        have AT4 := AT.out a1
        generalize PK.rdPr s a1 P.kind = Z at *
        obtain ⟨l, a3, c3⟩ := Z
        simp only at D4 HX4 AT4
        have E4 := Lib.hid (D4 _ G4.out R2.out)
        have HAT := Lib.hid AT4
        have HN : Hid (∃ n, n = P.id) := Lib.hid ⟨_, rfl⟩
        clear R2 P2 GG2 D4 AT4 C2 AT HX
        go_wp2_with fail
        refine E4.out.mono ?_
        rintro e w5 hR
        by_cases h3 : c3 = 0
        · obtain ⟨v, rfl, o5, r5, g5⟩ := hR.1 h3
          obtain ⟨q, hq3, hqs⟩ := HAT.out h3
          have p5 := P4.out.gr g5 hpr
          have z9 : w5.cell? ⟨p, 9, none⟩ = some vp := by rw [cell_heap p5]; rfl
          have f9 : w5.frozen? ⟨p, 9, none⟩ = false := frozen_heap p5
          obtain ⟨A, cap, rfl⟩ := own_form o5
          have o6 : w5.ownsRow w.heap.size 163 4 (.slice A l.length cap) l.length (flatP l) := own_base' o5 G4.out.size
          have o7 : (w5.setCell ⟨p, 9, none⟩ (.slice A l.length cap)).ownsRow w.heap.size 163 4 (.slice A l.length cap) l.length (flatP l) := own_set o6 (row_ne o6 hlp)
          have P7 : Hid (PbAt p { P with topic := tp, id := P.id, props := l } vc (.slice A l.length cap) vw vs vf (w5.setCell ⟨p, 9, none⟩ (.slice A l.length cap))) := Lib.hid (set_block p5 rfl)
          have R7 : Hid (RdAt r s a3 (w5.setCell ⟨p, 9, none⟩ (.slice A l.length cap))) := Lib.hid (r5.setOther hrp _ _)
          have G7 : Hid (G2 r p w (w5.setCell ⟨p, 9, none⟩ (.slice A l.length cap))) := Lib.hid ((G4.out.trans (G2.of_gr g5)).setCell 9 _)
          have O7 := Lib.hid o7
          have hlp7 : p < (w5.setCell ⟨p, 9, none⟩ (.slice A l.length cap)).heap.size := lt_heap P7.out
          have hlr7 : r < (w5.setCell ⟨p, 9, none⟩ (.slice A l.length cap)).heap.size := lt_heap R7.out
          have EX : Hid (X = ((tp, P.id, l, s.extract q s.size), (s.size : Int), 0)) := Lib.hid (by rw [HX4.out, h3, hq3]; rfl)
          subst hq3
          have hsl : ∀ W, (Instr.slice 9 (.string s) (some (.int .i64 (q : Int))) none none).run Tryz.prog W = .ok (.string (s.extract q s.size)) W := fun W => slice_from s q hqs W
          have CC1 := Lib.hid (CC.out q)
          generalize s.extract q s.size = pay at *
          clear hR o5 r5 g5 p5 o6 o7 E4 h3 HX4 HAT CC P4 G4
          go_wp2_with fail
          generalize w5.setCell ⟨p, 9, none⟩ (.slice A l.length cap) = w7 at *
          have q0 : w7.cell? ⟨r, 0, none⟩ = some (.string s) := by rw [cell_heap R7.out]; rfl
          have q1 : w7.cell? ⟨r, 1, none⟩ = some (.int .i64 (q : Int)) := by rw [cell_heap R7.out]; rfl
          clear z9 f9 z5 f5 z3 y0
          go_region_held3 (fun w' => w'.cell? ⟨r, 0, none⟩ = some (.string s) ∧ w'.cell? ⟨r, 1, none⟩ = some (.int .i64 (q : Int)))
            (first | exact ⟨q0, q1⟩ | exact ⟨p0, p1⟩ | exact ⟨u0, u1⟩)
            (first
              | (go_at_call 52
                 refine (CC1.out _).mono ?_
                 rintro e w8 ⟨rfl, b8⟩
                 have hr8 : RdAt r s q w8 := (show RdAt r s q w7.drew from R7.out).below b8
                 have hp8 : PbAt p { P with topic := tp, id := P.id, props := l } vc (.slice A l.length cap) vw vs vf w8 := (show PbAt p { P with topic := tp, id := P.id, props := l } vc (.slice A l.length cap) vw vs vf w7.drew from P7.out).gr (Gr.of_below (r := r) b8) hpr
                 have p0 : w8.cell? ⟨r, 0, none⟩ = some (.string s) := by rw [cell_heap hr8]; rfl
                 have p1 : w8.cell? ⟨r, 1, none⟩ = some (.int .i64 (q : Int)) := by rw [cell_heap hr8]; rfl
                 have z6 : w8.cell? ⟨p, 6, none⟩ = some (.string P.pay) := by rw [cell_heap hp8]; rfl
                 have f6 : w8.frozen? ⟨p, 6, none⟩ = false := frozen_heap hp8
                 have hr9 : RdAt r s q (w8.setCell ⟨p, 6, none⟩ (.string pay)) := hr8.setOther hrp _ _
                 have u0 : (w8.setCell ⟨p, 6, none⟩ (.string pay)).cell? ⟨r, 0, none⟩ = some (.string s) := by rw [cell_heap hr9]; rfl
                 have u1 : (w8.setCell ⟨p, 6, none⟩ (.string pay)).cell? ⟨r, 1, none⟩ = some (.int .i64 (q : Int)) := by rw [cell_heap hr9]; rfl))
          have P9 : PbAt p { P with topic := tp, id := P.id, props := l, pay := pay } vc (.slice A l.length cap) vw vs vf (w8.setCell ⟨p, 6, none⟩ (.string pay)) := set_block hp8 rfl
          have R9 := Lib.hid hr9
          have hG8 : G2 r p w w8 := G7.out.trans (G2.of_gr (Gr.of_drew (Gr.of_below b8)))
          have f1 : (w8.setCell ⟨p, 6, none⟩ (.string pay)).frozen? ⟨r, 1, none⟩ = false := frozen_heap hr9
          have RA : Hid (RdAt r s (s.size : Int) ((w8.setCell ⟨p, 6, none⟩ (.string pay)).setCell ⟨r, 1, none⟩ (.int .i64 (s.size : Int)))) := Lib.hid (set_block hr9 rfl)
          have PA : Hid (PbAt p { P with topic := tp, id := P.id, props := l, pay := pay } vc (.slice A l.length cap) vw vs vf ((w8.setCell ⟨p, 6, none⟩ (.string pay)).setCell ⟨r, 1, none⟩ (.int .i64 (s.size : Int)))) := Lib.hid ((Below.heap_setCell _ _ _ _ (fun e => hpr (by simpa using e))).trans P9)
          have GA : Hid (G2 r p w ((w8.setCell ⟨p, 6, none⟩ (.string pay)).setCell ⟨r, 1, none⟩ (.int .i64 (s.size : Int)))) := Lib.hid ((hG8.setCell 6 _).setR 1 _)
          have o8 : w8.ownsRow w.heap.size 163 4 (.slice A l.length cap) l.length (flatP l) := own_gr O7.out (Gr.of_drew (Gr.of_below b8)) (row_ne O7.out hlr)
          have o9 : (w8.setCell ⟨p, 6, none⟩ (.string pay)).ownsRow w.heap.size 163 4 (.slice A l.length cap) l.length (flatP l) := own_set o8 (row_ne o8 hlp)
          have OA : Hid (((w8.setCell ⟨p, 6, none⟩ (.string pay)).setCell ⟨r, 1, none⟩ (.int .i64 (s.size : Int))).ownsRow w.heap.size 163 4 (.slice A l.length cap) l.length (flatP l)) := Lib.hid (own_set o9 (row_ne o9 hlr))
          clear P9 hG8 o8 o9 b8 hr8 hp8 O7 P7 R7 G7 hr9 CC1 hsl
          go_wp2
          go_end0
          rw [EX.out]
          exact ⟨fun _ => ⟨_, rfl, OA.out, RA.out, PA.out, GA.out⟩, fun h => absurd rfl h⟩
        · obtain ⟨rfl, g5⟩ := hR.2 h3
          have E : X.2.2 = c3 := by rw [HX4.out]
          exact ⟨rfl, fun h => absurd (E.symm.trans h) h3, fun _ => ⟨by rw [E]; rfl, G4.out.trans (G2.of_gr g5)⟩⟩
  · have E : Hid (X.2.2 = c1) := Lib.hid (by rw [HX.out]; exact PK.thn_bad h1 _)
    have H1 := Lib.hid h1
    clear h1 HX
    go_enter Tryz.func97, Tryz.ntmps97
    go_wp2_with fail
    refine C1.out.mono ?_
    rintro e w1 hR
    obtain ⟨rfl, g1⟩ := hR.2 H1.out
    exact ⟨rfl, fun h => absurd (E.out.symm.trans h) H1.out, fun _ => ⟨by rw [E.out]; rfl, G2.of_gr g1⟩⟩
end Go.Proofs.YtjajandjdclifaaGreatDoor
namespace Go.Proofs.YtjajandjdclifaaGreatDoor
open Go.RowKit
attribute [local go_sem ↓] Go.wp_at_zero Go.wp_at_succ

namespace PK
/-- What a Connect's flags tell. -/
def cflPk (P : Pk) (n : Int) : Pk := { P with clean := bits .and .i64 n 2 != 0, hasWill := bits .and .i64 n 4 != 0, wqos := bits .and .i64 (n / 8) 3, wret := bits .and .i64 n 32 != 0, hasPass := bits .and .i64 n 64 != 0, hasUser := bits .and .i64 n 128 != 0 }
def cflC (n : Int) : Int :=
  if (bits .and .i64 n 1 != 0) = true then 129 else if isQ (bits .and .i64 (n / 8) 3) = false then 129
  else if ((bits .and .i64 (n / 8) 3 != 0) || (bits .and .i64 n 32 != 0)) = true ∧ (bits .and .i64 n 4 != 0) = false then 129 else 0
def rdFl (s : ByteArray) (a : Int) : Int × Int × Int := ((VP.rd s a 1).1, (VP.rd s a 1).2.1, thn (cm (VP.rd s a 1).2.2) (cflC (VP.rd s a 1).1))
end PK
/-- What the reader's connectFlags answers. -/
def CfP (r p : Nat) (s : ByteArray) (P : Pk) (vc vp vw vs vf : Value) (w : World) (X : Int × Int × Int) (e : Ending) (w' : World) : Prop :=
  (X.2.2 = 0 → e = .returned (.tuple #[]) ∧ RdAt r s X.2.1 w' ∧ PbAt p (PK.cflPk P X.1) vc vp vw vs vf w' ∧ G2 r p w w') ∧ (X.2.2 ≠ 0 → e = leftBy X.2.2 ∧ G2 r p w w')

set_option maxRecDepth 100000 in
set_option maxHeartbeats 1500000 in
theorem rcflags_any (r p : Nat) (s : ByteArray) (a : Int) (P : Pk) (vc vp vw vs vf : Value) (w : World) (h : RdAt r s a w) (hp : PbAt p P vc vp vw vs vf w) (hs : s.size ≤ 140737488351232) (hrp : r ≠ p) :
    Calls Tryz.prog 121 #[.pointer (some ⟨r, 0, none⟩), .pointer (some ⟨p, 0, none⟩)] w (CfP r p s P vc vp vw vs vf w (PK.rdFl s a)) := by
  have C1 := Lib.hid (rnumber_any r s a 1 w h hs)
  have CQ := Lib.hid isqos_any
  have CL := Lib.hid leave_any
  have HP := Lib.hid hp
  have hlp := lt_heap hp
  have hpr : p ≠ r := fun e => hrp e.symm
  have hn1 := (PK.rd_nn s a 1).1
  have hn2 := PK.rd_1le s a
  unfold PK.rdFl
  generalize VP.rd s a 1 = Y at *
  obtain ⟨n, a1, c1⟩ := Y
  simp only at C1 hn1 hn2 ⊢
  obtain ⟨TC, hTC⟩ : ∃ t, t = PK.thn (cm c1) (PK.cflC n) := ⟨_, rfl⟩
  rw [← hTC]
  have HTC := Lib.hid hTC
  clear hTC h hp
  by_cases h1 : cm c1 = 0
  · have H1 := Lib.hid h1
    have ET : Hid (TC = PK.cflC n) := Lib.hid (by rw [HTC.out, PK.thn_ok h1])
    clear h1 HTC
    go_enter Tryz.func121, Tryz.ntmps121
    go_wp2_with fail
    refine C1.out.mono ?_
    rintro e w1 hR
    obtain ⟨rfl, r1, g1⟩ := hR.1 H1.out
    have p1 := HP.out.gr g1 hpr
    have z11 : w1.cell? ⟨p, 11, none⟩ = some (.bool P.clean) := by rw [cell_heap p1]; rfl
    have f11 : w1.frozen? ⟨p, 11, none⟩ = false := frozen_heap p1
    have z13 : w1.cell? ⟨p, 13, none⟩ = some (.bool P.hasWill) := by rw [cell_heap p1]; rfl
    have f13 : w1.frozen? ⟨p, 13, none⟩ = false := frozen_heap p1
    have z16 : w1.cell? ⟨p, 16, none⟩ = some (.int .i64 P.wqos) := by rw [cell_heap p1]; rfl
    have f16 : w1.frozen? ⟨p, 16, none⟩ = false := frozen_heap p1
    have z17 : w1.cell? ⟨p, 17, none⟩ = some (.bool P.wret) := by rw [cell_heap p1]; rfl
    have f17 : w1.frozen? ⟨p, 17, none⟩ = false := frozen_heap p1
    have z20 : w1.cell? ⟨p, 20, none⟩ = some (.bool P.hasPass) := by rw [cell_heap p1]; rfl
    have f20 : w1.frozen? ⟨p, 20, none⟩ = false := frozen_heap p1
    have z19 : w1.cell? ⟨p, 19, none⟩ = some (.bool P.hasUser) := by rw [cell_heap p1]; rfl
    have f19 : w1.frozen? ⟨p, 19, none⟩ = false := frozen_heap p1
    have P2 : Hid (PbAt p (PK.cflPk P n) vc vp vw vs vf ((((((w1.setCell ⟨p, 11, none⟩ (.bool (bits .and .i64 n 2 != 0))).setCell ⟨p, 13, none⟩ (.bool (bits .and .i64 n 4 != 0))).setCell ⟨p, 16, none⟩ (.int .i64 (bits .and .i64 (n / 8) 3))).setCell ⟨p, 17, none⟩ (.bool (bits .and .i64 n 32 != 0))).setCell ⟨p, 20, none⟩ (.bool (bits .and .i64 n 64 != 0))).setCell ⟨p, 19, none⟩ (.bool (bits .and .i64 n 128 != 0)))) := Lib.hid (set_block (set_block (set_block (set_block (set_block (set_block p1 rfl) rfl) rfl) rfl) rfl) rfl)
    have R2 : Hid (RdAt r s a1 ((((((w1.setCell ⟨p, 11, none⟩ (.bool (bits .and .i64 n 2 != 0))).setCell ⟨p, 13, none⟩ (.bool (bits .and .i64 n 4 != 0))).setCell ⟨p, 16, none⟩ (.int .i64 (bits .and .i64 (n / 8) 3))).setCell ⟨p, 17, none⟩ (.bool (bits .and .i64 n 32 != 0))).setCell ⟨p, 20, none⟩ (.bool (bits .and .i64 n 64 != 0))).setCell ⟨p, 19, none⟩ (.bool (bits .and .i64 n 128 != 0)))) := Lib.hid ((((((r1.setOther hrp _ _).setOther hrp _ _).setOther hrp _ _).setOther hrp _ _).setOther hrp _ _).setOther hrp _ _)
    have GG2 : Hid (G2 r p w ((((((w1.setCell ⟨p, 11, none⟩ (.bool (bits .and .i64 n 2 != 0))).setCell ⟨p, 13, none⟩ (.bool (bits .and .i64 n 4 != 0))).setCell ⟨p, 16, none⟩ (.int .i64 (bits .and .i64 (n / 8) 3))).setCell ⟨p, 17, none⟩ (.bool (bits .and .i64 n 32 != 0))).setCell ⟨p, 20, none⟩ (.bool (bits .and .i64 n 64 != 0))).setCell ⟨p, 19, none⟩ (.bool (bits .and .i64 n 128 != 0)))) := Lib.hid (((((((G2.of_gr g1).setCell 11 _).setCell 13 _).setCell 16 _).setCell 17 _).setCell 20 _).setCell 19 _)
    have hl1 : p < w1.heap.size := lt_heap p1
    clear hR r1 g1 C1 p1 HP
    cases hz : (bits .and .i64 (n / 8) 3 != 0)
    · cases hr : (bits .and .i64 n 32 != 0)
      · rw [hr] at P2 R2 GG2
        cases hb : (bits .and .i64 n 1 != 0)
        · cases hq : PK.isQ (bits .and .i64 (n / 8) 3)
          · have HQ := Lib.hid hq
            have E : Hid (TC = 129) := Lib.hid (by rw [ET.out]; unfold PK.cflC; simp [hb, hq])
            clear ET
            go_wp2_with fail
            refine (CQ.out _ _).mono ?_
            rintro e w' ⟨rfl, rfl⟩
            rw [HQ.out]
            go_wp2_with fail
            refine (CL.out _ _).mono ?_
            rintro e w' ⟨rfl, rfl⟩
            exact ⟨rfl, fun h => absurd (E.out.symm.trans h) (by decide), fun _ => ⟨by rw [E.out]; rfl, GG2.out⟩⟩
          · have HQ := Lib.hid hq
            have E : Hid (TC = 0) := Lib.hid (by rw [ET.out]; unfold PK.cflC; simp [hb, hq, hz, hr])
            clear ET
            go_wp2_with fail
            refine (CQ.out _ _).mono ?_
            rintro e w' ⟨rfl, rfl⟩
            rw [HQ.out]
            go_wp2
            go_end0
            exact ⟨fun _ => ⟨rfl, R2.out, P2.out, GG2.out⟩, fun h => absurd E.out h⟩
        · have E : Hid (TC = 129) := Lib.hid (by rw [ET.out]; unfold PK.cflC; simp [hb])
          clear ET
          go_wp2_with fail
          refine (CL.out _ _).mono ?_
          rintro e w' ⟨rfl, rfl⟩
          exact ⟨rfl, fun h => absurd (E.out.symm.trans h) (by decide), fun _ => ⟨by rw [E.out]; rfl, GG2.out⟩⟩
      · rw [hr] at P2 R2 GG2
        cases hb : (bits .and .i64 n 1 != 0)
        · cases hq : PK.isQ (bits .and .i64 (n / 8) 3)
          · have HQ := Lib.hid hq
            have E : Hid (TC = 129) := Lib.hid (by rw [ET.out]; unfold PK.cflC; simp [hb, hq])
            clear ET
            go_wp2_with fail
            refine (CQ.out _ _).mono ?_
            rintro e w' ⟨rfl, rfl⟩
            rw [HQ.out]
            go_wp2_with fail
            refine (CL.out _ _).mono ?_
            rintro e w' ⟨rfl, rfl⟩
            exact ⟨rfl, fun h => absurd (E.out.symm.trans h) (by decide), fun _ => ⟨by rw [E.out]; rfl, GG2.out⟩⟩
          · have HQ := Lib.hid hq
            cases hw : (bits .and .i64 n 4 != 0)
            · rw [hw] at P2 R2 GG2
              have E : Hid (TC = 129) := Lib.hid (by rw [ET.out]; unfold PK.cflC; simp [hb, hq, hr, hw])
              clear ET
              go_wp2_with fail
              refine (CQ.out _ _).mono ?_
              rintro e w' ⟨rfl, rfl⟩
              rw [HQ.out]
              go_wp2_with fail
              refine (CL.out _ _).mono ?_
              rintro e w' ⟨rfl, rfl⟩
              exact ⟨rfl, fun h => absurd (E.out.symm.trans h) (by decide), fun _ => ⟨by rw [E.out]; rfl, GG2.out⟩⟩
            · rw [hw] at P2 R2 GG2
              have E : Hid (TC = 0) := Lib.hid (by rw [ET.out]; unfold PK.cflC; simp [hb, hq, hw])
              clear ET
              go_wp2_with fail
              refine (CQ.out _ _).mono ?_
              rintro e w' ⟨rfl, rfl⟩
              rw [HQ.out]
              go_wp2
              go_end0
              exact ⟨fun _ => ⟨rfl, R2.out, P2.out, GG2.out⟩, fun h => absurd E.out h⟩
        · have E : Hid (TC = 129) := Lib.hid (by rw [ET.out]; unfold PK.cflC; simp [hb])
          clear ET
          go_wp2_with fail
          refine (CL.out _ _).mono ?_
          rintro e w' ⟨rfl, rfl⟩
          exact ⟨rfl, fun h => absurd (E.out.symm.trans h) (by decide), fun _ => ⟨by rw [E.out]; rfl, GG2.out⟩⟩
    · cases hb : (bits .and .i64 n 1 != 0)
      · cases hq : PK.isQ (bits .and .i64 (n / 8) 3)
        · have HQ := Lib.hid hq
          have E : Hid (TC = 129) := Lib.hid (by rw [ET.out]; unfold PK.cflC; simp [hb, hq])
          clear ET
          go_wp2_with fail
          refine (CQ.out _ _).mono ?_
          rintro e w' ⟨rfl, rfl⟩
          rw [HQ.out]
          go_wp2_with fail
          refine (CL.out _ _).mono ?_
          rintro e w' ⟨rfl, rfl⟩
          exact ⟨rfl, fun h => absurd (E.out.symm.trans h) (by decide), fun _ => ⟨by rw [E.out]; rfl, GG2.out⟩⟩
        · have HQ := Lib.hid hq
          cases hw : (bits .and .i64 n 4 != 0)
          · rw [hw] at P2 R2 GG2
            have E : Hid (TC = 129) := Lib.hid (by rw [ET.out]; unfold PK.cflC; simp [hb, hq, hz, hw])
            clear ET
            go_wp2_with fail
            refine (CQ.out _ _).mono ?_
            rintro e w' ⟨rfl, rfl⟩
            rw [HQ.out]
            go_wp2_with fail
            refine (CL.out _ _).mono ?_
            rintro e w' ⟨rfl, rfl⟩
            exact ⟨rfl, fun h => absurd (E.out.symm.trans h) (by decide), fun _ => ⟨by rw [E.out]; rfl, GG2.out⟩⟩
          · rw [hw] at P2 R2 GG2
            have E : Hid (TC = 0) := Lib.hid (by rw [ET.out]; unfold PK.cflC; simp [hb, hq, hw])
            clear ET
            go_wp2_with fail
            refine (CQ.out _ _).mono ?_
            rintro e w' ⟨rfl, rfl⟩
            rw [HQ.out]
            go_wp2
            go_end0
            exact ⟨fun _ => ⟨rfl, R2.out, P2.out, GG2.out⟩, fun h => absurd E.out h⟩
      · have E : Hid (TC = 129) := Lib.hid (by rw [ET.out]; unfold PK.cflC; simp [hb])
        clear ET
        go_wp2_with fail
        refine (CL.out _ _).mono ?_
        rintro e w' ⟨rfl, rfl⟩
        exact ⟨rfl, fun h => absurd (E.out.symm.trans h) (by decide), fun _ => ⟨by rw [E.out]; rfl, GG2.out⟩⟩
  · have E : Hid (TC = cm c1) := Lib.hid (by rw [HTC.out, PK.thn_bad h1])
    have H1 := Lib.hid h1
    clear h1 HTC
    go_enter Tryz.func121, Tryz.ntmps121
    go_wp2_with fail
    refine C1.out.mono ?_
    rintro e w1 hR
    obtain ⟨rfl, g1⟩ := hR.2 H1.out
    exact ⟨rfl, fun h => absurd (E.out.symm.trans h) H1.out, fun _ => ⟨by rw [E.out]; rfl, G2.of_gr g1⟩⟩
end Go.Proofs.YtjajandjdclifaaGreatDoor
