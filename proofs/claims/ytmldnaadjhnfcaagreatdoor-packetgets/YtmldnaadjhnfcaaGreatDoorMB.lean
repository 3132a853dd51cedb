/- The reader's filters with their options.; The reader's lists. (Written by wip/tools/gen_rlist.py.); The reader at a packet: what stands ahead of a list.; The reader at a packet: endings that may be left out.; The reader at a packet: publish.; The reader at a packet: the flags of a Connect.; The reader at a packet: connect.; The reader at a packet: what follows the length, by kinds (Connect, Publish, the empty ones, Disconnect, Auth).; The reader at a packet: what follows the length, by kinds (the acknowledgements, Connack, the lists).; The reader at a packet: what follows the length: Connack, and all kinds.; What speaks against a length. -/
import Derived.Test.YtmldnaadjhnfcaaGreatDoorMA
import Derived.Test.YtmldnaadjhnfcaaGreatDoorTxBegin
namespace Go.Proofs.YtmldnaadjhnfcaaGreatDoor
open Go.RowKit
attribute [local go_sem ↓] Go.wp_at_zero Go.wp_at_succ

namespace PK
/-- The options that a byte tells. -/
def subOf (f : ByteArray) (n : Int) : Sb := ⟨f, bits .and .i64 n 3, bits .and .i64 n 4 != 0, bits .and .i64 n 8 != 0, bits .and .i64 (n / 16) 3⟩
def subC (n : Int) : Int := if isQ (bits .and .i64 n 3) = false then 129 else if (bits .and .i64 n 192 != 0) = true then 129 else if isQ (bits .and .i64 (n / 16) 3) = false then 130 else 0
def rdSub (s : ByteArray) (a : Int) : Sb × Int × Int :=
  (subOf (TX.getT s a).1 (VP.rd s (TX.getT s a).2.1 1).1, (VP.rd s (TX.getT s a).2.1 1).2.1, thn (cm (TX.getT s a).2.2) (thn (cm (VP.rd s (TX.getT s a).2.1 1).2.2) (subC (VP.rd s (TX.getT s a).2.1 1).1)))
end PK
theorem Gr.setNew {r n : Nat} {w w' : World} (h : Gr r w w') (hn : w.heap.size ≤ n) (j : Nat) (u : Value) : Gr r w (w'.setCell ⟨n, j, none⟩ u) :=
  ⟨h.os, h.tape, h.output, by simp [World.setCell]; exact h.size, fun i hi hne => (Below.heap_setCell _ _ _ _ (fun e => by simp at e; omega)).trans (h.block i hi hne)⟩
theorem Gr.alloc {r : Nat} {w w' : World} (h : Gr r w w') (o : Obj) : Gr r w (w'.alloc o) := h.trans (Gr.of_below ((Below.refl _ _).alloc (Nat.le_refl _) o))
theorem RdAt.setOther {r n : Nat} {s : ByteArray} {a : Int} {w : World} (h : RdAt r s a w) (hn : r ≠ n) (j : Nat) (u : Value) : RdAt r s a (w.setCell ⟨n, j, none⟩ u) := (Below.heap_setCell _ _ _ _ (fun e => hn (by simpa using e))).trans h
theorem RdAt.alloc {r : Nat} {s : ByteArray} {a : Int} {w : World} (h : RdAt r s a w) (o : Obj) : RdAt r s a (w.alloc o) := h.below ((Below.refl _ _).alloc (Nat.le_refl _) o)
theorem Gr.kept {r n : Nat} {w w' : World} {o : Obj} (h : Gr r w w') (hn : n ≠ r) (hb : w.heap[n]? = some o) : w'.heap[n]? = some o := (h.block n (lt_heap hb) (fun e => hn (by injection e))).trans hb

set_option maxRecDepth 100000 in
set_option maxHeartbeats 4000000 in
theorem rsub_any (r : Nat) (s : ByteArray) (a : Int) (w : World) (h : RdAt r s a w) (hs : s.size ≤ 140737488351232) (hT : Tabs w) :
    Calls Tryz.prog 88 #[.pointer (some ⟨r, 0, none⟩)] w (RdP r s w (.agg #[.string (PK.rdSub s a).1.f, .int .i64 (PK.rdSub s a).1.q, .bool (PK.rdSub s a).1.nl, .bool (PK.rdSub s a).1.ap, .int .i64 (PK.rdSub s a).1.h]) (PK.rdSub s a).2.1 (PK.rdSub s a).2.2) := by
  have hal := (Below.refl w.heap.size w).alloc (Nat.le_refl _) (.cells #[.string ⟨#[]⟩, .int .i64 0, .bool false, .bool false, .int .i64 0] 66)
  have hb0 : (w.alloc (.cells #[.string ⟨#[]⟩, .int .i64 0, .bool false, .bool false, .int .i64 0] 66)).heap[w.heap.size]? = some (.cells #[.string ⟨#[]⟩, .int .i64 0, .bool false, .bool false, .int .i64 0] 66 (0, 0)) := heap_alloc_new w _
  have C1 := Lib.hid (rtext_any r s a _ (h.below hal) hs (hT.below hal))
  have C2 : Hid (∀ a W, RdAt r s a W → Calls Tryz.prog 108 #[.pointer (some ⟨r, 0, none⟩), .int .i64 1] W (RdP r s W (.int .i64 (VP.rd s a 1).1) (VP.rd s a 1).2.1 (cm (VP.rd s a 1).2.2))) := fun a W hW => rnumber_any r s a 1 W hW hs
  have CQ := Lib.hid isqos_any
  have CH := Lib.hid ishand_any
  have CL := Lib.hid leave_any
  have hlt := lt_heap h
  have hne : w.heap.size ≠ r := by omega
  have G0 : Hid (Gr r w (w.alloc (.cells #[.string ⟨#[]⟩, .int .i64 0, .bool false, .bool false, .int .i64 0] 66))) := Lib.hid (Gr.of_below hal)
  have B0 := Lib.hid hb0
  have hn1 := PK.rd_nn s (TX.getT s a).2.1 1
  have hn2 := PK.rd_1le s (TX.getT s a).2.1
  unfold PK.rdSub
  generalize TX.getT s a = X at *
  obtain ⟨f, a1, c1⟩ := X
  simp only at C1 hn1 hn2 ⊢
  have D2 := C2.out a1
  generalize VP.rd s a1 1 = Y at *
  obtain ⟨n, a2, c2⟩ := Y
  simp only at D2 hn1 hn2 ⊢
  have HD2 := Lib.hid D2
  obtain ⟨TC, hTC⟩ : ∃ t, t = PK.thn (cm c1) (PK.thn (cm c2) (PK.subC n)) := ⟨_, rfl⟩
  rw [← hTC]
  have HTC := Lib.hid hTC
  have hnn := hn1.1
  clear hTC D2 C2 h hT hal hb0 hn1
  by_cases h1 : cm c1 = 0
  · by_cases h2 : cm c2 = 0
    · have ET : Hid (TC = PK.subC n) := Lib.hid (by rw [HTC.out, PK.thn_ok h1, PK.thn_ok h2])
      have H1 := Lib.hid h1
      have H2 := Lib.hid h2
      clear h1 h2 HTC
      unfold PK.subOf
      simp only
      go_enter Tryz.func88, Tryz.ntmps88
      go_wp2_with fail
      refine C1.out.mono ?_
      rintro e w1 hR
      obtain ⟨rfl, r1, g1⟩ := hR.1 H1.out
      have E2 := Lib.hid (HD2.out w1 r1)
      have G1 : Hid (Gr r w w1) := Lib.hid (G0.out.trans g1)
      have B1 := Lib.hid (g1.kept hne B0.out)
      clear hR r1 g1 C1 HD2
      go_wp2_with fail
      refine E2.out.mono ?_
      rintro e w2 hR
      obtain ⟨rfl, r2, g2⟩ := hR.1 H2.out
      have R2 := Lib.hid r2
      have G2 : Hid (Gr r w w2) := Lib.hid (G1.out.trans g2)
      have b2 := g2.kept hne B1.out
      have z0 : w2.cell? ⟨w.heap.size, 0, none⟩ = some (.string ⟨#[]⟩) := by rw [cell_heap b2]; rfl
      have z1 : w2.cell? ⟨w.heap.size, 1, none⟩ = some (.int .i64 0) := by rw [cell_heap b2]; rfl
      have z2 : w2.cell? ⟨w.heap.size, 2, none⟩ = some (.bool false) := by rw [cell_heap b2]; rfl
      have z3 : w2.cell? ⟨w.heap.size, 3, none⟩ = some (.bool false) := by rw [cell_heap b2]; rfl
      have z4 : w2.cell? ⟨w.heap.size, 4, none⟩ = some (.int .i64 0) := by rw [cell_heap b2]; rfl
      have f0 : w2.frozen? ⟨w.heap.size, 0, none⟩ = false := frozen_heap b2
      have f1 : w2.frozen? ⟨w.heap.size, 1, none⟩ = false := frozen_heap b2
      have f2 : w2.frozen? ⟨w.heap.size, 2, none⟩ = false := frozen_heap b2
      have f3 : w2.frozen? ⟨w.heap.size, 3, none⟩ = false := frozen_heap b2
      have f4 : w2.frozen? ⟨w.heap.size, 4, none⟩ = false := frozen_heap b2
      have hlt2 : w.heap.size < w2.heap.size := lt_heap b2
      have hne2 : w.heap.size ≠ w2.heap.size := by omega
      have hrne : r ≠ w.heap.size := by omega
      clear hR r2 g2 E2 b2
      cases hq : PK.isQ (bits .and .i64 n 3)
      · have E : Hid (TC = 129) := Lib.hid (by rw [ET.out]; unfold PK.subC; rw [if_pos hq])
        have HQ := Lib.hid hq
        clear hq ET
        go_wp2_with fail
        refine (CQ.out _ _).mono ?_
        rintro e w' ⟨rfl, rfl⟩
        rw [HQ.out]
        go_wp2_with fail
        refine (CL.out _ _).mono ?_
        rintro e w' ⟨rfl, rfl⟩
        exact ⟨rfl, fun h => absurd (E.out.symm.trans h) (by decide), fun _ => ⟨by rw [E.out]; rfl, G2.out.alloc _⟩⟩
      · have HQ := Lib.hid hq
        cases hb : (bits .and .i64 n 192 != 0)
        · have HBB := Lib.hid hb
          cases hh : PK.isQ (bits .and .i64 (n / 16) 3)
          · have E : Hid (TC = 130) := Lib.hid (by rw [ET.out]; unfold PK.subC; rw [if_neg (by rw [hq]; decide), if_neg (by rw [hb]; decide), if_pos hh])
            have HH := Lib.hid hh
            clear hq hh ET
            go_wp2_with fail
            refine (CQ.out _ _).mono ?_
            rintro e w' ⟨rfl, rfl⟩
            rw [HQ.out]
            go_wp2_with fail
            refine (CH.out _ _).mono ?_
            rintro e w' ⟨rfl, rfl⟩
            rw [HH.out]
            go_wp2_with fail
            refine (CL.out _ _).mono ?_
            rintro e w' ⟨rfl, rfl⟩
            exact ⟨rfl, fun h => absurd (E.out.symm.trans h) (by decide), fun _ => ⟨by rw [E.out]; rfl, G2.out.alloc _⟩⟩
          · have E : Hid (TC = 0) := Lib.hid (by rw [ET.out]; unfold PK.subC; rw [if_neg (by rw [hq]; decide), if_neg (by rw [hb]; decide), if_neg (by rw [hh]; decide)])
            have HH := Lib.hid hh
            clear hq hh ET
            go_wp2_with fail
            refine (CQ.out _ _).mono ?_
            rintro e w' ⟨rfl, rfl⟩
            rw [HQ.out]
            go_wp2_with fail
            refine (CH.out _ _).mono ?_
            rintro e w' ⟨rfl, rfl⟩
            rw [HH.out]
            go_wp2
            refine bodyPost_ret (v := .agg #[.string f, .int .i64 (bits .and .i64 n 3), .bool (bits .and .i64 n 4 != 0), .bool (bits .and .i64 n 8 != 0), .int .i64 (bits .and .i64 (n / 16) 3)]) (by simp [results, Tryz.results88, go_sem, z0, z1, z2, z3, z4, hlt2]) rfl ⟨fun _ => ⟨rfl, ?_, ?_⟩, fun h => absurd E.out h⟩
            · exact (((((R2.out.setOther hrne _ _).setOther hrne _ _).setOther hrne _ _).setOther hrne _ _).setOther hrne _ _).alloc _
            · exact (((((G2.out.setNew (Nat.le_refl _) _ _).setNew (Nat.le_refl _) _ _).setNew (Nat.le_refl _) _ _).setNew (Nat.le_refl _) _ _).setNew (Nat.le_refl _) _ _).alloc _
        · have E : Hid (TC = 129) := Lib.hid (by rw [ET.out]; unfold PK.subC; rw [if_neg (by rw [hq]; decide), if_pos hb])
          have HBB := Lib.hid hb
          clear hq ET
          go_wp2_with fail
          refine (CQ.out _ _).mono ?_
          rintro e w' ⟨rfl, rfl⟩
          rw [HQ.out]
          go_wp2_with fail
          refine (CL.out _ _).mono ?_
          rintro e w' ⟨rfl, rfl⟩
          exact ⟨rfl, fun h => absurd (E.out.symm.trans h) (by decide), fun _ => ⟨by rw [E.out]; rfl, G2.out.alloc _⟩⟩
    · have E : Hid (TC = cm c2) := Lib.hid (by rw [HTC.out, PK.thn_ok h1, PK.thn_bad h2])
      have H1 := Lib.hid h1
      have H2 := Lib.hid h2
      clear h1 h2 HTC
      go_enter Tryz.func88, Tryz.ntmps88
      go_wp2_with fail
      refine C1.out.mono ?_
      rintro e w1 hR
      obtain ⟨rfl, r1, g1⟩ := hR.1 H1.out
      have E2 := Lib.hid (HD2.out w1 r1)
      have G1 : Hid (Gr r w w1) := Lib.hid (G0.out.trans g1)
      clear hR r1 g1 C1 HD2
      go_wp2_with fail
      refine E2.out.mono ?_
      rintro e w2 hR
      obtain ⟨rfl, g2⟩ := hR.2 H2.out
      exact ⟨rfl, fun h => absurd (E.out.symm.trans h) H2.out, fun _ => ⟨by rw [E.out]; rfl, G1.out.trans g2⟩⟩
  · have E : Hid (TC = cm c1) := Lib.hid (by rw [HTC.out, PK.thn_bad h1])
    have H1 := Lib.hid h1
    clear h1 HTC
    go_enter Tryz.func88, Tryz.ntmps88
    go_wp2_with fail
    refine C1.out.mono ?_
    rintro e w1 hR
    obtain ⟨rfl, g1⟩ := hR.2 H1.out
    exact ⟨rfl, fun h => absurd (E.out.symm.trans h) H1.out, fun _ => ⟨by rw [E.out]; rfl, G0.out.trans g1⟩⟩
end Go.Proofs.YtmldnaadjhnfcaaGreatDoor
namespace Go.Proofs.YtmldnaadjhnfcaaGreatDoor
open Go.RowKit

namespace PK
/-- All that is left, one by one: at least one and at most 64. -/
def lst {α : Type} (rd : Int → α × Int × Int) (sz : Nat) : Nat → Int → List α → List α × Int × Int
  | 0, _, _ => ([], 0, 149)
  | u + 1, a, out => if a = (sz : Int) then (if out = [] then ([], 0, 130) else (out, a, 0)) else if out.length = 64 then ([], 0, 149) else if (rd a).2.2 ≠ 0 then ([], 0, (rd a).2.2) else lst rd sz u (rd a).2.1 (out ++ [(rd a).1])
def rdT (s : ByteArray) (a : Int) : ByteArray × Int × Int := ((TX.getT s a).1, (TX.getT s a).2.1, cm (TX.getT s a).2.2)
def rdC (s : ByteArray) (a : Int) : Int × Int × Int := ((VP.rd s a 1).1, (VP.rd s a 1).2.1, cm (VP.rd s a 1).2.2)
end PK
def flatT (l : List ByteArray) : List Value := l.map Value.string
def flatC (l : List Int) : List Value := l.map (Value.int .u8)
theorem flatT_snoc (l : List ByteArray) (x : ByteArray) : flatT (l ++ [x]) = flatT l ++ [.string x] := by simp [flatT]
theorem flatC_snoc (l : List Int) (x : Int) : flatC (l ++ [x]) = flatC l ++ [.int .u8 x] := by simp [flatC]
def Sb.cells (s : Sb) : List Value := [.string s.f, .int .i64 s.q, .bool s.nl, .bool s.ap, .int .i64 s.h]
def flatB (l : List Sb) : List Value := l.flatMap Sb.cells
theorem flatB_snoc (l : List Sb) (x : Sb) : flatB (l ++ [x]) = flatB l ++ [.string x.f, .int .i64 x.q, .bool x.nl, .bool x.ap, .int .i64 x.h] := by simp [flatB, Sb.cells]
/-- What the reader's list answers: a new row. -/
def LsP {α : Type} (t : TypeId) (size : Nat) (flat : List α → List Value) (r : Nat) (s : ByteArray) (w : World) (X : List α × Int × Int) (e : Ending) (w' : World) : Prop :=
  (X.2.2 = 0 → ∃ v, e = .returned v ∧ w'.ownsRow w.heap.size t size v X.1.length (flat X.1) ∧ RdAt r s X.2.1 w' ∧ Gr r w w') ∧ (X.2.2 ≠ 0 → e = leftBy X.2.2 ∧ Gr r w w')
theorem cInfo : (Tryz.prog.info? 23).map (fun i => (i.zero, i.size, i.bytes)) = some (some (.int .u8 0), 1, 1) := by kernel_rfl
theorem sbInfo : (Tryz.prog.info? 66).map (fun i => (i.zero, i.size, i.bytes)) = some (some (.agg #[.string ⟨#[]⟩, .int .i64 0, .bool false, .bool false, .int .i64 0]), 5, 40) := by kernel_rfl
theorem tInfo : (Tryz.prog.info? 9).map (fun i => (i.zero, i.size, i.bytes)) = some (some (.string ⟨#[]⟩), 1, 16) := by kernel_rfl

set_option maxRecDepth 100000 in
set_option maxHeartbeats 4000000 in
theorem rlistt_any (r : Nat) (s : ByteArray) (a : Int) (w : World) (h : RdAt r s a w) (hs : s.size ≤ 140737488351232) (hT : ∀ W, Gr r w W → Tabs W) :
    Calls Tryz.prog 89 #[.pointer (some ⟨r, 0, none⟩), .func (.func 90) #[.pointer (some ⟨r, 0, none⟩)] #[]] w (LsP 9 1 flatT r s w (PK.lst (PK.rdT s) s.size 66 a [])) := by
  have C1 : Hid (∀ a W, Gr r w W → RdAt r s a W → Calls Tryz.prog 90 #[.pointer (some ⟨r, 0, none⟩)] W (RdP r s W (.string (PK.rdT s a).1) (PK.rdT s a).2.1 (PK.rdT s a).2.2)) := fun a W hg hW => rtext_any r s a W hW hs (hT W hg)
  have CE : Hid (∀ a W, RdAt r s a W → Calls Tryz.prog 49 #[.pointer (some ⟨r, 0, none⟩)] W fun e w' => e = .returned (.bool (a == (s.size : Int))) ∧ Below W.heap.size W w') := fun a W hW => ended_any r s a W hW
  have CL := Lib.hid leave_any
  have H0 := Lib.hid h
  have hlt := lt_heap h
  obtain ⟨i0, hi0, hz0, hz1, hz2⟩ := info_parts tInfo
  have Hi := Lib.hid hi0; have Hz0 := Lib.hid hz0; have Hz1 := Lib.hid hz1; have Hz2 := Lib.hid hz2
  obtain ⟨X, hX⟩ : ∃ X, X = PK.lst (PK.rdT s) s.size 66 a [] := ⟨_, rfl⟩
  rw [← hX]
  have HX := Lib.hid hX
  clear h hT hX hi0 hz0 hz1 hz2
  go_enter Tryz.func89, Tryz.ntmps89
  go_wp2_with fail
  go_loopw [5] (fun lv wr => ∃ (a' : Int) (out : List ByteArray), out.length ≤ 64 ∧ (∃ A cap, lv = .slice A out.length cap) ∧ Hid (RdAt r s a' wr) ∧ Hid (Gr r w wr) ∧ Hid (wr.ownsRow w.heap.size 9 1 lv out.length (flatT out)) ∧ Hid (PK.lst (PK.rdT s) s.size (66 - out.length) a' out = PK.lst (PK.rdT s) s.size 66 a [])) (fun lv _ => 66 - slLen lv)
  case atStart => exact ⟨a, [], by simp, ⟨none, 0, rfl⟩, H0, Lib.hid (Gr.refl _ _), Lib.hid (own_nil _ _ _ _), Lib.hid rfl⟩
  case round =>
    obtain ⟨a', out, hol, ⟨A, cap, rfl⟩, hrd, hgr, hown, heq⟩ := hrel
    obtain ⟨u, hu⟩ : ∃ u, 66 - out.length = u + 1 := ⟨65 - out.length, by omega⟩
    rw [hu] at heq
    have D1 := Lib.hid (CE.out a' wr hrd.out)
    by_cases he : a' = (s.size : Int)
    · have e1 : (a' == (s.size : Int)) = true := by simp [he]
      rw [e1] at D1
      by_cases ho : out = []
      · have E : Hid (X = ([], 0, 130)) := Lib.hid (by rw [HX.out, ← heq.out, PK.lst, if_pos he, if_pos ho])
        have i0 : ((out.length : Int) == 0) = true := by rw [ho]; rfl
        clear he e1 ho heq hu
        go_wp2_with fail
        refine D1.out.mono ?_
        rintro e w1 ⟨rfl, b1⟩
        have G1 : Hid (Gr r w w1) := Lib.hid (hgr.out.trans (Gr.of_below b1))
        clear b1 D1
        go_wp2_with fail
        refine (CL.out _ _).mono ?_
        rintro e w' ⟨rfl, rfl⟩
        exact ⟨rfl, by rw [E.out]; exact ⟨fun h => absurd h (by decide), fun _ => ⟨rfl, G1.out⟩⟩⟩
      · have hlp : 0 < out.length := List.length_pos_iff.2 ho
        have E : Hid (X = (out, a', 0)) := Lib.hid (by rw [HX.out, ← heq.out, PK.lst, if_pos he, if_neg ho])
        have i0 : ((out.length : Int) == 0) = false := by rw [beq_eq_false_iff_ne]; omega
        clear he e1 ho heq hu
        go_wp2_with fail
        refine D1.out.mono ?_
        rintro e w1 ⟨rfl, b1⟩
        have G1 : Hid (Gr r w w1) := Lib.hid (hgr.out.trans (Gr.of_below b1))
        have R1 := Lib.hid (hrd.out.below b1)
        have O1 := Lib.hid (own_below hown.out b1)
        clear b1 D1
        go_wp2
        go_ret
        rw [E.out]
        exact ⟨fun _ => ⟨_, rfl, O1.out, R1.out, G1.out⟩, fun h => absurd rfl h⟩
    · have e1 : (a' == (s.size : Int)) = false := by rw [beq_eq_false_iff_ne]; exact he
      rw [e1] at D1
      by_cases h64 : out.length = 64
      · have E : Hid (X = ([], 0, 149)) := Lib.hid (by rw [HX.out, ← heq.out, PK.lst, if_neg he, if_pos h64])
        have i0 : ((out.length : Int) == 64) = true := by rw [h64]; rfl
        clear he e1 h64 heq hu
        go_wp2_with fail
        refine D1.out.mono ?_
        rintro e w1 ⟨rfl, b1⟩
        have G1 : Hid (Gr r w w1) := Lib.hid (hgr.out.trans (Gr.of_below b1))
        clear b1 D1
        go_wp2_with fail
        refine (CL.out _ _).mono ?_
        rintro e w' ⟨rfl, rfl⟩
        exact ⟨rfl, by rw [E.out]; exact ⟨fun h => absurd h (by decide), fun _ => ⟨rfl, G1.out⟩⟩⟩
      · have i0 : ((out.length : Int) == 64) = false := by rw [beq_eq_false_iff_ne]; omega
        by_cases hc : (PK.rdT s a').2.2 = 0
        · have E : Hid (PK.lst (PK.rdT s) s.size u (PK.rdT s a').2.1 (out ++ [(PK.rdT s a').1]) = PK.lst (PK.rdT s) s.size 66 a []) := Lib.hid (by rw [← heq.out, PK.lst, if_neg he, if_neg h64, if_neg (by simp [hc])])
          have HC := Lib.hid hc
          have hu2 : 66 - (out ++ [(PK.rdT s a').1]).length = u := by rw [List.length_append, List.length_singleton]; omega
          have Hu2 := Lib.hid hu2
          clear he e1 heq hu hc hu2
          go_wp2_with fail
          refine D1.out.mono ?_
          rintro e w1 ⟨rfl, b1⟩
          have G1 : Hid (Gr r w w1) := Lib.hid (hgr.out.trans (Gr.of_below b1))
          have D2 := Lib.hid (C1.out a' w1 G1.out (hrd.out.below b1))
          have O1 := Lib.hid (own_below hown.out b1)
          clear b1 D1 hgr hrd hown
          go_wp2_with fail
          refine D2.out.mono ?_
          rintro e w2 hR
          obtain ⟨rfl, r2, g2⟩ := hR.1 HC.out
          have G2 : Hid (Gr r w w2) := Lib.hid (G1.out.trans g2)
          have o2 := own_gr O1.out g2 (row_ne O1.out hlt)
          obtain ⟨v5, w5, hr5, hown5, hgr5, hb5⟩ := app1 Tryz.underlying29 Hi.out Hz0.out Hz1.out Hz2.out rfl (by omega) (by omega) w.heap.size (.slice A out.length cap) out.length _ w2 o2 (by have := G2.out.size; omega) #[.string (PK.rdT s a').1] rfl (by simp [Value.oneCell']) (by omega)
          have R5 : Hid (RdAt r s (PK.rdT s a').2.1 w5) := Lib.hid ((hb5.block r hlt).trans r2)
          have G5 : Hid (Gr r w w5) := Lib.hid ⟨hb5.os.trans G2.out.os, hb5.tape.trans G2.out.tape, hb5.output.trans G2.out.output, Nat.le_trans G2.out.size hb5.size, fun i hi hne => (hb5.block i hi).trans (G2.out.block i hi hne)⟩
          have hl5 : (out ++ [(PK.rdT s a').1]).length = out.length + 1 := by rw [List.length_append, List.length_singleton]
          have O5 : Hid (w5.ownsRow w.heap.size 9 1 v5 (out ++ [(PK.rdT s a').1]).length (flatT (out ++ [(PK.rdT s a').1]))) := Lib.hid (by rw [hl5, flatT_snoc]; simpa using hown5)
          obtain ⟨A5, c5, hv5⟩ := own_form hown5
          subst hv5
          have Hl5 := Lib.hid hl5
          clear hR r2 g2 o2 D2 O1 hown5 hgr5 hb5 hl5 C1 CE
          go_wp2_with (at_builtin; refine wpList_run (by rfl) (.tmp 13) (.tmp 16) _ _ (by rfl) (by rfl) (by rfl) hr5 ?_; clear hr5)
          go_roundw
          case rel => exact ⟨_, out ++ [(PK.rdT s a').1], by rw [Hl5.out]; omega, ⟨A5, c5, by rw [Hl5.out]⟩, R5, G5, O5, Lib.hid (by rw [Hu2.out]; exact E.out)⟩
          case measure => simp [slLen]; omega
        · have E : Hid (X = ([], 0, (PK.rdT s a').2.2)) := Lib.hid (by rw [HX.out, ← heq.out, PK.lst, if_neg he, if_neg h64, if_pos hc])
          have HC := Lib.hid hc
          clear he e1 heq hu hc
          go_wp2_with fail
          refine D1.out.mono ?_
          rintro e w1 ⟨rfl, b1⟩
          have G1 : Hid (Gr r w w1) := Lib.hid (hgr.out.trans (Gr.of_below b1))
          have D2 := Lib.hid (C1.out a' w1 G1.out (hrd.out.below b1))
          clear b1 D1
          go_wp2_with fail
          refine D2.out.mono ?_
          rintro e w2 hR
          obtain ⟨rfl, g2⟩ := hR.2 HC.out
          exact ⟨rfl, by rw [E.out]; exact ⟨fun h => absurd h HC.out, fun _ => ⟨rfl, G1.out.trans g2⟩⟩⟩

set_option maxRecDepth 100000 in
set_option maxHeartbeats 4000000 in
theorem rlistc_any (r : Nat) (s : ByteArray) (a : Int) (w : World) (h : RdAt r s a w) (hs : s.size ≤ 140737488351232) :
    Calls Tryz.prog 91 #[.pointer (some ⟨r, 0, none⟩), .func (.func 83) #[.pointer (some ⟨r, 0, none⟩)] #[]] w (LsP 23 1 flatC r s w (PK.lst (PK.rdC s) s.size 66 a [])) := by
  have C1 : Hid (∀ a W, Gr r w W → RdAt r s a W → Calls Tryz.prog 83 #[.pointer (some ⟨r, 0, none⟩)] W (RdP r s W (.int .u8 (PK.rdC s a).1) (PK.rdC s a).2.1 (PK.rdC s a).2.2)) := fun a W _ hW => rreason_any r s a W hW hs
  have CE : Hid (∀ a W, RdAt r s a W → Calls Tryz.prog 49 #[.pointer (some ⟨r, 0, none⟩)] W fun e w' => e = .returned (.bool (a == (s.size : Int))) ∧ Below W.heap.size W w') := fun a W hW => ended_any r s a W hW
  have CL := Lib.hid leave_any
  have H0 := Lib.hid h
  have hlt := lt_heap h
  obtain ⟨i0, hi0, hz0, hz1, hz2⟩ := info_parts cInfo
  have Hi := Lib.hid hi0; have Hz0 := Lib.hid hz0; have Hz1 := Lib.hid hz1; have Hz2 := Lib.hid hz2
  obtain ⟨X, hX⟩ : ∃ X, X = PK.lst (PK.rdC s) s.size 66 a [] := ⟨_, rfl⟩
  rw [← hX]
  have HX := Lib.hid hX
  clear h hX hi0 hz0 hz1 hz2
  go_enter Tryz.func91, Tryz.ntmps91
  go_wp2_with fail
  go_loopw [5] (fun lv wr => ∃ (a' : Int) (out : List Int), out.length ≤ 64 ∧ (∃ A cap, lv = .slice A out.length cap) ∧ Hid (RdAt r s a' wr) ∧ Hid (Gr r w wr) ∧ Hid (wr.ownsRow w.heap.size 23 1 lv out.length (flatC out)) ∧ Hid (PK.lst (PK.rdC s) s.size (66 - out.length) a' out = PK.lst (PK.rdC s) s.size 66 a [])) (fun lv _ => 66 - slLen lv)
  case atStart => exact ⟨a, [], by simp, ⟨none, 0, rfl⟩, H0, Lib.hid (Gr.refl _ _), Lib.hid (own_nil _ _ _ _), Lib.hid rfl⟩
  case round =>
    obtain ⟨a', out, hol, ⟨A, cap, rfl⟩, hrd, hgr, hown, heq⟩ := hrel
    obtain ⟨u, hu⟩ : ∃ u, 66 - out.length = u + 1 := ⟨65 - out.length, by omega⟩
    rw [hu] at heq
    have D1 := Lib.hid (CE.out a' wr hrd.out)
    by_cases he : a' = (s.size : Int)
    · have e1 : (a' == (s.size : Int)) = true := by simp [he]
      rw [e1] at D1
      by_cases ho : out = []
      · have E : Hid (X = ([], 0, 130)) := Lib.hid (by rw [HX.out, ← heq.out, PK.lst, if_pos he, if_pos ho])
        have i0 : ((out.length : Int) == 0) = true := by rw [ho]; rfl
        clear he e1 ho heq hu
        go_wp2_with fail
        refine D1.out.mono ?_
        rintro e w1 ⟨rfl, b1⟩
        have G1 : Hid (Gr r w w1) := Lib.hid (hgr.out.trans (Gr.of_below b1))
        clear b1 D1
        go_wp2_with fail
        refine (CL.out _ _).mono ?_
        rintro e w' ⟨rfl, rfl⟩
        exact ⟨rfl, by rw [E.out]; exact ⟨fun h => absurd h (by decide), fun _ => ⟨rfl, G1.out⟩⟩⟩
      · have hlp : 0 < out.length := List.length_pos_iff.2 ho
        have E : Hid (X = (out, a', 0)) := Lib.hid (by rw [HX.out, ← heq.out, PK.lst, if_pos he, if_neg ho])
        have i0 : ((out.length : Int) == 0) = false := by rw [beq_eq_false_iff_ne]; omega
        clear he e1 ho heq hu
        go_wp2_with fail
        refine D1.out.mono ?_
        rintro e w1 ⟨rfl, b1⟩
        have G1 : Hid (Gr r w w1) := Lib.hid (hgr.out.trans (Gr.of_below b1))
        have R1 := Lib.hid (hrd.out.below b1)
        have O1 := Lib.hid (own_below hown.out b1)
        clear b1 D1
        go_wp2
        go_ret
        rw [E.out]
        exact ⟨fun _ => ⟨_, rfl, O1.out, R1.out, G1.out⟩, fun h => absurd rfl h⟩
    · have e1 : (a' == (s.size : Int)) = false := by rw [beq_eq_false_iff_ne]; exact he
      rw [e1] at D1
      by_cases h64 : out.length = 64
      · have E : Hid (X = ([], 0, 149)) := Lib.hid (by rw [HX.out, ← heq.out, PK.lst, if_neg he, if_pos h64])
        have i0 : ((out.length : Int) == 64) = true := by rw [h64]; rfl
        clear he e1 h64 heq hu
        go_wp2_with fail
        refine D1.out.mono ?_
        rintro e w1 ⟨rfl, b1⟩
        have G1 : Hid (Gr r w w1) := Lib.hid (hgr.out.trans (Gr.of_below b1))
        clear b1 D1
        go_wp2_with fail
        refine (CL.out _ _).mono ?_
        rintro e w' ⟨rfl, rfl⟩
        exact ⟨rfl, by rw [E.out]; exact ⟨fun h => absurd h (by decide), fun _ => ⟨rfl, G1.out⟩⟩⟩
      · have i0 : ((out.length : Int) == 64) = false := by rw [beq_eq_false_iff_ne]; omega
        by_cases hc : (PK.rdC s a').2.2 = 0
        · have E : Hid (PK.lst (PK.rdC s) s.size u (PK.rdC s a').2.1 (out ++ [(PK.rdC s a').1]) = PK.lst (PK.rdC s) s.size 66 a []) := Lib.hid (by rw [← heq.out, PK.lst, if_neg he, if_neg h64, if_neg (by simp [hc])])
          have HC := Lib.hid hc
          have hu2 : 66 - (out ++ [(PK.rdC s a').1]).length = u := by rw [List.length_append, List.length_singleton]; omega
          have Hu2 := Lib.hid hu2
          clear he e1 heq hu hc hu2
          go_wp2_with fail
          refine D1.out.mono ?_
          rintro e w1 ⟨rfl, b1⟩
          have G1 : Hid (Gr r w w1) := Lib.hid (hgr.out.trans (Gr.of_below b1))
          have D2 := Lib.hid (C1.out a' w1 G1.out (hrd.out.below b1))
          have O1 := Lib.hid (own_below hown.out b1)
          clear b1 D1 hgr hrd hown
          go_wp2_with fail
          refine D2.out.mono ?_
          rintro e w2 hR
          obtain ⟨rfl, r2, g2⟩ := hR.1 HC.out
          have G2 : Hid (Gr r w w2) := Lib.hid (G1.out.trans g2)
          have o2 := own_gr O1.out g2 (row_ne O1.out hlt)
          obtain ⟨v5, w5, hr5, hown5, hgr5, hb5⟩ := app1 Tryz.underlying24 Hi.out Hz0.out Hz1.out Hz2.out rfl (by omega) (by omega) w.heap.size (.slice A out.length cap) out.length _ w2 o2 (by have := G2.out.size; omega) #[.int .u8 (PK.rdC s a').1] rfl (by simp [Value.oneCell']) (by omega)
          have R5 : Hid (RdAt r s (PK.rdC s a').2.1 w5) := Lib.hid ((hb5.block r hlt).trans r2)
          have G5 : Hid (Gr r w w5) := Lib.hid ⟨hb5.os.trans G2.out.os, hb5.tape.trans G2.out.tape, hb5.output.trans G2.out.output, Nat.le_trans G2.out.size hb5.size, fun i hi hne => (hb5.block i hi).trans (G2.out.block i hi hne)⟩
          have hl5 : (out ++ [(PK.rdC s a').1]).length = out.length + 1 := by rw [List.length_append, List.length_singleton]
          have O5 : Hid (w5.ownsRow w.heap.size 23 1 v5 (out ++ [(PK.rdC s a').1]).length (flatC (out ++ [(PK.rdC s a').1]))) := Lib.hid (by rw [hl5, flatC_snoc]; simpa using hown5)
          obtain ⟨A5, c5, hv5⟩ := own_form hown5
          subst hv5
          have Hl5 := Lib.hid hl5
          clear hR r2 g2 o2 D2 O1 hown5 hgr5 hb5 hl5 C1 CE
          go_wp2_with (at_builtin; refine wpList_run (by rfl) (.tmp 13) (.tmp 16) _ _ (by rfl) (by rfl) (by rfl) hr5 ?_; clear hr5)
          go_roundw
          case rel => exact ⟨_, out ++ [(PK.rdC s a').1], by rw [Hl5.out]; omega, ⟨A5, c5, by rw [Hl5.out]⟩, R5, G5, O5, Lib.hid (by rw [Hu2.out]; exact E.out)⟩
          case measure => simp [slLen]; omega
        · have E : Hid (X = ([], 0, (PK.rdC s a').2.2)) := Lib.hid (by rw [HX.out, ← heq.out, PK.lst, if_neg he, if_neg h64, if_pos hc])
          have HC := Lib.hid hc
          clear he e1 heq hu hc
          go_wp2_with fail
          refine D1.out.mono ?_
          rintro e w1 ⟨rfl, b1⟩
          have G1 : Hid (Gr r w w1) := Lib.hid (hgr.out.trans (Gr.of_below b1))
          have D2 := Lib.hid (C1.out a' w1 G1.out (hrd.out.below b1))
          clear b1 D1
          go_wp2_with fail
          refine D2.out.mono ?_
          rintro e w2 hR
          obtain ⟨rfl, g2⟩ := hR.2 HC.out
          exact ⟨rfl, by rw [E.out]; exact ⟨fun h => absurd h HC.out, fun _ => ⟨rfl, G1.out.trans g2⟩⟩⟩

set_option maxRecDepth 100000 in
set_option maxHeartbeats 4000000 in
theorem rlists_any (r : Nat) (s : ByteArray) (a : Int) (w : World) (h : RdAt r s a w) (hs : s.size ≤ 140737488351232) (hT : ∀ W, Gr r w W → Tabs W) :
    Calls Tryz.prog 87 #[.pointer (some ⟨r, 0, none⟩), .func (.func 88) #[.pointer (some ⟨r, 0, none⟩)] #[]] w (LsP 66 5 flatB r s w (PK.lst (PK.rdSub s) s.size 66 a [])) := by
  have C1 : Hid (∀ a W, Gr r w W → RdAt r s a W → Calls Tryz.prog 88 #[.pointer (some ⟨r, 0, none⟩)] W (RdP r s W (.agg #[.string (PK.rdSub s a).1.f, .int .i64 (PK.rdSub s a).1.q, .bool (PK.rdSub s a).1.nl, .bool (PK.rdSub s a).1.ap, .int .i64 (PK.rdSub s a).1.h]) (PK.rdSub s a).2.1 (PK.rdSub s a).2.2)) := fun a W hg hW => rsub_any r s a W hW hs (hT W hg)
  have CE : Hid (∀ a W, RdAt r s a W → Calls Tryz.prog 49 #[.pointer (some ⟨r, 0, none⟩)] W fun e w' => e = .returned (.bool (a == (s.size : Int))) ∧ Below W.heap.size W w') := fun a W hW => ended_any r s a W hW
  have CL := Lib.hid leave_any
  have H0 := Lib.hid h
  have hlt := lt_heap h
  obtain ⟨i0, hi0, hz0, hz1, hz2⟩ := info_parts sbInfo
  have Hi := Lib.hid hi0; have Hz0 := Lib.hid hz0; have Hz1 := Lib.hid hz1; have Hz2 := Lib.hid hz2
  obtain ⟨X, hX⟩ : ∃ X, X = PK.lst (PK.rdSub s) s.size 66 a [] := ⟨_, rfl⟩
  rw [← hX]
  have HX := Lib.hid hX
  clear h hT hX hi0 hz0 hz1 hz2
  go_enter Tryz.func87, Tryz.ntmps87
  go_wp2_with fail
  go_loopw [5] (fun lv wr => ∃ (a' : Int) (out : List Sb), out.length ≤ 64 ∧ (∃ A cap, lv = .slice A out.length cap) ∧ Hid (RdAt r s a' wr) ∧ Hid (Gr r w wr) ∧ Hid (wr.ownsRow w.heap.size 66 5 lv out.length (flatB out)) ∧ Hid (PK.lst (PK.rdSub s) s.size (66 - out.length) a' out = PK.lst (PK.rdSub s) s.size 66 a [])) (fun lv _ => 66 - slLen lv)
  case atStart => exact ⟨a, [], by simp, ⟨none, 0, rfl⟩, H0, Lib.hid (Gr.refl _ _), Lib.hid (own_nil _ _ _ _), Lib.hid rfl⟩
  case round =>
    obtain ⟨a', out, hol, ⟨A, cap, rfl⟩, hrd, hgr, hown, heq⟩ := hrel
    obtain ⟨u, hu⟩ : ∃ u, 66 - out.length = u + 1 := ⟨65 - out.length, by omega⟩
    rw [hu] at heq
    have D1 := Lib.hid (CE.out a' wr hrd.out)
    by_cases he : a' = (s.size : Int)
    · have e1 : (a' == (s.size : Int)) = true := by simp [he]
      rw [e1] at D1
      by_cases ho : out = []
      · have E : Hid (X = ([], 0, 130)) := Lib.hid (by rw [HX.out, ← heq.out, PK.lst, if_pos he, if_pos ho])
        have i0 : ((out.length : Int) == 0) = true := by rw [ho]; rfl
        clear he e1 ho heq hu
        go_wp2_with fail
        refine D1.out.mono ?_
        rintro e w1 ⟨rfl, b1⟩
        have G1 : Hid (Gr r w w1) := Lib.hid (hgr.out.trans (Gr.of_below b1))
        clear b1 D1
        go_wp2_with fail
        refine (CL.out _ _).mono ?_
        rintro e w' ⟨rfl, rfl⟩
        exact ⟨rfl, by rw [E.out]; exact ⟨fun h => absurd h (by decide), fun _ => ⟨rfl, G1.out⟩⟩⟩
      · have hlp : 0 < out.length := List.length_pos_iff.2 ho
        have E : Hid (X = (out, a', 0)) := Lib.hid (by rw [HX.out, ← heq.out, PK.lst, if_pos he, if_neg ho])
        have i0 : ((out.length : Int) == 0) = false := by rw [beq_eq_false_iff_ne]; omega
        clear he e1 ho heq hu
        go_wp2_with fail
        refine D1.out.mono ?_
        rintro e w1 ⟨rfl, b1⟩
        have G1 : Hid (Gr r w w1) := Lib.hid (hgr.out.trans (Gr.of_below b1))
        have R1 := Lib.hid (hrd.out.below b1)
        have O1 := Lib.hid (own_below hown.out b1)
        clear b1 D1
        go_wp2
        go_ret
        rw [E.out]
        exact ⟨fun _ => ⟨_, rfl, O1.out, R1.out, G1.out⟩, fun h => absurd rfl h⟩
    · have e1 : (a' == (s.size : Int)) = false := by rw [beq_eq_false_iff_ne]; exact he
      rw [e1] at D1
      by_cases h64 : out.length = 64
      · have E : Hid (X = ([], 0, 149)) := Lib.hid (by rw [HX.out, ← heq.out, PK.lst, if_neg he, if_pos h64])
        have i0 : ((out.length : Int) == 64) = true := by rw [h64]; rfl
        clear he e1 h64 heq hu
        go_wp2_with fail
        refine D1.out.mono ?_
        rintro e w1 ⟨rfl, b1⟩
        have G1 : Hid (Gr r w w1) := Lib.hid (hgr.out.trans (Gr.of_below b1))
        clear b1 D1
        go_wp2_with fail
        refine (CL.out _ _).mono ?_
        rintro e w' ⟨rfl, rfl⟩
        exact ⟨rfl, by rw [E.out]; exact ⟨fun h => absurd h (by decide), fun _ => ⟨rfl, G1.out⟩⟩⟩
      · have i0 : ((out.length : Int) == 64) = false := by rw [beq_eq_false_iff_ne]; omega
        by_cases hc : (PK.rdSub s a').2.2 = 0
        · have E : Hid (PK.lst (PK.rdSub s) s.size u (PK.rdSub s a').2.1 (out ++ [(PK.rdSub s a').1]) = PK.lst (PK.rdSub s) s.size 66 a []) := Lib.hid (by rw [← heq.out, PK.lst, if_neg he, if_neg h64, if_neg (by simp [hc])])
          have HC := Lib.hid hc
          have hu2 : 66 - (out ++ [(PK.rdSub s a').1]).length = u := by rw [List.length_append, List.length_singleton]; omega
          have Hu2 := Lib.hid hu2
          clear he e1 heq hu hc hu2
          go_wp2_with fail
          refine D1.out.mono ?_
          rintro e w1 ⟨rfl, b1⟩
          have G1 : Hid (Gr r w w1) := Lib.hid (hgr.out.trans (Gr.of_below b1))
          have D2 := Lib.hid (C1.out a' w1 G1.out (hrd.out.below b1))
          have O1 := Lib.hid (own_below hown.out b1)
          clear b1 D1 hgr hrd hown
          go_wp2_with fail
          refine D2.out.mono ?_
          rintro e w2 hR
          obtain ⟨rfl, r2, g2⟩ := hR.1 HC.out
          have G2 : Hid (Gr r w w2) := Lib.hid (G1.out.trans g2)
          have o2 := own_gr O1.out g2 (row_ne O1.out hlt)
          obtain ⟨v5, w5, hr5, hown5, hgr5, hb5⟩ := app1 Tryz.underlying28 Hi.out Hz0.out Hz1.out Hz2.out rfl (by omega) (by omega) w.heap.size (.slice A out.length cap) out.length _ w2 o2 (by have := G2.out.size; omega) #[.string (PK.rdSub s a').1.f, .int .i64 (PK.rdSub s a').1.q, .bool (PK.rdSub s a').1.nl, .bool (PK.rdSub s a').1.ap, .int .i64 (PK.rdSub s a').1.h] rfl (by simp [Value.oneCell']) (by omega)
          have R5 : Hid (RdAt r s (PK.rdSub s a').2.1 w5) := Lib.hid ((hb5.block r hlt).trans r2)
          have G5 : Hid (Gr r w w5) := Lib.hid ⟨hb5.os.trans G2.out.os, hb5.tape.trans G2.out.tape, hb5.output.trans G2.out.output, Nat.le_trans G2.out.size hb5.size, fun i hi hne => (hb5.block i hi).trans (G2.out.block i hi hne)⟩
          have hl5 : (out ++ [(PK.rdSub s a').1]).length = out.length + 1 := by rw [List.length_append, List.length_singleton]
          have O5 : Hid (w5.ownsRow w.heap.size 66 5 v5 (out ++ [(PK.rdSub s a').1]).length (flatB (out ++ [(PK.rdSub s a').1]))) := Lib.hid (by rw [hl5, flatB_snoc]; simpa using hown5)
          obtain ⟨A5, c5, hv5⟩ := own_form hown5
          subst hv5
          have Hl5 := Lib.hid hl5
          clear hR r2 g2 o2 D2 O1 hown5 hgr5 hb5 hl5 C1 CE
          go_wp2_with (at_builtin; refine wpList_run (by rfl) (.tmp 13) (.tmp 16) _ _ (by rfl) (by rfl) (by rfl) hr5 ?_; clear hr5)
          go_roundw
          case rel => exact ⟨_, out ++ [(PK.rdSub s a').1], by rw [Hl5.out]; omega, ⟨A5, c5, by rw [Hl5.out]⟩, R5, G5, O5, Lib.hid (by rw [Hu2.out]; exact E.out)⟩
          case measure => simp [slLen]; omega
        · have E : Hid (X = ([], 0, (PK.rdSub s a').2.2)) := Lib.hid (by rw [HX.out, ← heq.out, PK.lst, if_neg he, if_neg h64, if_pos hc])
          have HC := Lib.hid hc
          clear he e1 heq hu hc
          go_wp2_with fail
          refine D1.out.mono ?_
          rintro e w1 ⟨rfl, b1⟩
          have G1 : Hid (Gr r w w1) := Lib.hid (hgr.out.trans (Gr.of_below b1))
          have D2 := Lib.hid (C1.out a' w1 G1.out (hrd.out.below b1))
          clear b1 D1
          go_wp2_with fail
          refine D2.out.mono ?_
          rintro e w2 hR
          obtain ⟨rfl, g2⟩ := hR.2 HC.out
          exact ⟨rfl, by rw [E.out]; exact ⟨fun h => absurd h HC.out, fun _ => ⟨rfl, G1.out.trans g2⟩⟩⟩
end Go.Proofs.YtmldnaadjhnfcaaGreatDoor
namespace Go.Proofs.YtmldnaadjhnfcaaGreatDoor
open Go.RowKit

/-- All but the reader's block and the packet's stands. -/
structure G2 (r p : Nat) (w w' : World) : Prop where
  os : w'.os = w.os
  tape : w'.tape = w.tape
  output : w'.output = w.output
  size : w.heap.size ≤ w'.heap.size
  block : ∀ i, i < w.heap.size → i ≠ r → i ≠ p → w'.heap[i]? = w.heap[i]?
theorem G2.refl (r p : Nat) (w : World) : G2 r p w w := ⟨rfl, rfl, rfl, Nat.le_refl _, fun _ _ _ _ => rfl⟩
theorem G2.trans {r p : Nat} {w1 w2 w3 : World} (h : G2 r p w1 w2) (k : G2 r p w2 w3) : G2 r p w1 w3 :=
  ⟨k.os.trans h.os, k.tape.trans h.tape, k.output.trans h.output, Nat.le_trans h.size k.size, fun i hi h1 h2 => (k.block i (Nat.lt_of_lt_of_le hi h.size) h1 h2).trans (h.block i hi h1 h2)⟩
theorem G2.of_gr {r p : Nat} {w w' : World} (h : Gr r w w') : G2 r p w w' := ⟨h.os, h.tape, h.output, h.size, fun i hi h1 _ => h.block i hi (fun e => h1 (by injection e))⟩
theorem G2.setCell {r p : Nat} {w w' : World} (h : G2 r p w w') (j : Nat) (u : Value) : G2 r p w (w'.setCell ⟨p, j, none⟩ u) :=
  ⟨h.os, h.tape, h.output, by simp [World.setCell]; exact h.size, fun i hi h1 h2 => (Below.heap_setCell _ _ _ _ (fun e => h2 (by simpa using e))).trans (h.block i hi h1 h2)⟩
/-- The packet that is read, in block p. -/
def PbAt (p : Nat) (P : Pk) (vc vp vw vs vf : Value) (w : World) : Prop := w.heap[p]? = some (.cells (pkCells P vc vp vw vs vf) 31 (0, 0))
theorem PbAt.gr {r p : Nat} {P : Pk} {vc vp vw vs vf : Value} {w w' : World} (h : PbAt p P vc vp vw vs vf w) (hg : Gr r w w') (hne : p ≠ r) : PbAt p P vc vp vw vs vf w' := hg.kept hne h
namespace PK
/-- An identifier and properties. -/
def rdHd (s : ByteArray) (a k : Int) : (Int × List Pr) × Int × Int := (((rdId s a).1, (rdPr s (rdId s a).2.1 k).1), (rdPr s (rdId s a).2.1 k).2.1, thn (rdId s a).2.2 (rdPr s (rdId s a).2.1 k).2.2)
end PK
/-- What the reader's head answers. -/
def HdP (r p : Nat) (s : ByteArray) (P : Pk) (vc vw vs vf : Value) (w : World) (X : (Int × List Pr) × Int × Int) (e : Ending) (w' : World) : Prop :=
  (X.2.2 = 0 → ∃ v, e = .returned (.tuple #[]) ∧ w'.ownsRow w.heap.size 135 4 v X.1.2.length (flatP X.1.2) ∧ RdAt r s X.2.1 w' ∧ PbAt p { P with id := X.1.1, props := X.1.2 } vc v vw vs vf w' ∧ G2 r p w w') ∧ (X.2.2 ≠ 0 → e = leftBy X.2.2 ∧ G2 r p w w')

set_option maxRecDepth 100000 in
set_option maxHeartbeats 4000000 in
theorem rhead_any (r p : Nat) (s : ByteArray) (a : Int) (P : Pk) (vc vp vw vs vf : Value) (w : World) (h : RdAt r s a w) (hp : PbAt p P vc vp vw vs vf w) (hs : s.size ≤ 140737488351232) (hT : ∀ W, G2 r p w W → Tabs W) (hrp : r ≠ p) :
    Calls Tryz.prog 86 #[.pointer (some ⟨r, 0, none⟩), .pointer (some ⟨p, 0, none⟩)] w (HdP r p s P vc vw vs vf w (PK.rdHd s a P.kind)) := by
  have C1 := Lib.hid (rid_any r s a w h hs)
  have C2 : Hid (∀ a W, G2 r p w W → RdAt r s a W → Calls Tryz.prog 84 #[.pointer (some ⟨r, 0, none⟩), .int .i64 P.kind] W (RdPP r s W (PK.rdPr s a P.kind).1 (PK.rdPr s a P.kind).2.1 (PK.rdPr s a P.kind).2.2)) := fun a W hg hW => rprops_any r s a P.kind W hW hs (hT W hg)
  have HP := Lib.hid hp
  have hlr := lt_heap h
  have hlp := lt_heap hp
  have hpr : p ≠ r := fun e => hrp e.symm
  unfold PK.rdHd
  generalize PK.rdId s a = X at *
  obtain ⟨n, a1, c1⟩ := X
  simp only at C1 ⊢
  have D2 := C2.out a1
  generalize PK.rdPr s a1 P.kind = Y at *
  obtain ⟨l, a2, c2⟩ := Y
  simp only at D2 ⊢
  have HD2 := Lib.hid D2
  obtain ⟨TC, hTC⟩ : ∃ t, t = PK.thn c1 c2 := ⟨_, rfl⟩
  rw [← hTC]
  have HTC := Lib.hid hTC
  clear hTC D2 C2 h hp hT
  by_cases h1 : c1 = 0
  · have H1 := Lib.hid h1
    go_enter Tryz.func86, Tryz.ntmps86
    clear h1
    go_wp2_with fail
    refine C1.out.mono ?_
    rintro e w1 hR
    obtain ⟨rfl, r1, g1⟩ := hR.1 H1.out
    have p1 := HP.out.gr g1 hpr
    have z4 : w1.cell? ⟨p, 4, none⟩ = some (.int .i64 P.id) := by rw [cell_heap p1]; rfl
    have f4 : w1.frozen? ⟨p, 4, none⟩ = false := frozen_heap p1
    have z0 : w1.cell? ⟨p, 0, none⟩ = some (.int .i64 P.kind) := by rw [cell_heap p1]; rfl
    have P2 : Hid (PbAt p { P with id := n } vc vp vw vs vf (w1.setCell ⟨p, 4, none⟩ (.int .i64 n))) := Lib.hid (set_block p1 rfl)
    have R2 : RdAt r s a1 (w1.setCell ⟨p, 4, none⟩ (.int .i64 n)) := r1.setOther hrp _ _
    have G2' : G2 r p w (w1.setCell ⟨p, 4, none⟩ (.int .i64 n)) := (G2.of_gr g1).setCell 4 _
    have E2 := Lib.hid (HD2.out _ G2' R2)
    have HG2 := Lib.hid G2'
    clear hR r1 g1 C1 HD2 p1 R2 G2'
    go_wp2_with fail
    refine E2.out.mono ?_
    rintro e w2 hR
    by_cases h2 : c2 = 0
    · obtain ⟨v, rfl, o2, r2, g2⟩ := hR.1 h2
      have E : Hid (TC = 0) := Lib.hid (by rw [HTC.out, PK.thn_ok H1.out, h2])
      have p2 := P2.out.gr g2 hpr
      have z9 : w2.cell? ⟨p, 9, none⟩ = some vp := by rw [cell_heap p2]; rfl
      have f9 : w2.frozen? ⟨p, 9, none⟩ = false := frozen_heap p2
      obtain ⟨A, cap, rfl⟩ := own_form o2
      have hsz : w.heap.size ≤ (w1.setCell ⟨p, 4, none⟩ (.int .i64 n)).heap.size := HG2.out.size
      have o3 : w2.ownsRow w.heap.size 135 4 (.slice A l.length cap) l.length (flatP l) := own_base' o2 hsz
      have O4 : Hid ((w2.setCell ⟨p, 9, none⟩ (.slice A l.length cap)).ownsRow w.heap.size 135 4 (.slice A l.length cap) l.length (flatP l)) := Lib.hid (own_set o3 (row_ne o3 hlp))
      have P4 : Hid (PbAt p { P with id := n, props := l } vc (.slice A l.length cap) vw vs vf (w2.setCell ⟨p, 9, none⟩ (.slice A l.length cap))) := Lib.hid (set_block p2 rfl)
      have R4 : Hid (RdAt r s a2 (w2.setCell ⟨p, 9, none⟩ (.slice A l.length cap))) := Lib.hid (r2.setOther hrp _ _)
      have G4 : Hid (G2 r p w (w2.setCell ⟨p, 9, none⟩ (.slice A l.length cap))) := Lib.hid ((HG2.out.trans (G2.of_gr g2)).setCell 9 _)
      clear hR o2 r2 g2 p2 o3 E2 h2 HTC
      go_wp2
      go_end0
      exact ⟨fun _ => ⟨_, rfl, O4.out, R4.out, P4.out, G4.out⟩, fun h => absurd E.out h⟩
    · obtain ⟨rfl, g2⟩ := hR.2 h2
      have E : TC = c2 := by rw [HTC.out, PK.thn_ok H1.out]
      exact ⟨rfl, fun h => absurd (E.symm.trans h) h2, fun _ => ⟨by rw [E]; rfl, HG2.out.trans (G2.of_gr g2)⟩⟩
  · have E : Hid (TC = c1) := Lib.hid (by rw [HTC.out, PK.thn_bad h1])
    have H1 := Lib.hid h1
    clear h1 HTC
    go_enter Tryz.func86, Tryz.ntmps86
    go_wp2_with fail
    refine C1.out.mono ?_
    rintro e w1 hR
    obtain ⟨rfl, g1⟩ := hR.2 H1.out
    exact ⟨rfl, fun h => absurd (E.out.symm.trans h) H1.out, fun _ => ⟨by rw [E.out]; rfl, G2.of_gr g1⟩⟩
end Go.Proofs.YtmldnaadjhnfcaaGreatDoor
namespace Go.Proofs.YtmldnaadjhnfcaaGreatDoor
open Go.RowKit

namespace PK
/-- A code and properties, as far as they stand there. -/
def rdEnd (s : ByteArray) (a k : Int) : (Int × List Pr) × Int × Int :=
  if a = (s.size : Int) then ((0, []), a, 0)
  else if (rdC s a).2.2 ≠ 0 then ((0, []), 0, (rdC s a).2.2)
  else if (rdC s a).2.1 = (s.size : Int) then (((rdC s a).1, []), (rdC s a).2.1, 0)
  else (((rdC s a).1, (rdPr s (rdC s a).2.1 k).1), (rdPr s (rdC s a).2.1 k).2.1, (rdPr s (rdC s a).2.1 k).2.2)
end PK
/-- What the reader's ending answers. -/
def EdP (r p : Nat) (s : ByteArray) (P : Pk) (vc vw vs vf : Value) (w : World) (X : (Int × List Pr) × Int × Int) (e : Ending) (w' : World) : Prop :=
  (X.2.2 = 0 → ∃ v, e = .returned (.tuple #[]) ∧ w'.ownsRow w.heap.size 135 4 v X.1.2.length (flatP X.1.2) ∧ RdAt r s X.2.1 w' ∧ PbAt p { P with code := X.1.1, props := X.1.2 } vc v vw vs vf w' ∧ G2 r p w w') ∧ (X.2.2 ≠ 0 → e = leftBy X.2.2 ∧ G2 r p w w')

set_option maxRecDepth 100000 in
set_option maxHeartbeats 4000000 in
theorem rending_any (r p : Nat) (s : ByteArray) (a : Int) (P : Pk) (vc vw vs vf : Value) (w : World) (h : RdAt r s a w) (hp : PbAt p P vc (.slice none 0 0) vw vs vf w) (hc0 : P.code = 0) (hl0 : P.props = []) (hs : s.size ≤ 140737488351232) (hT : ∀ W, G2 r p w W → Tabs W) (hrp : r ≠ p) :
    Calls Tryz.prog 93 #[.pointer (some ⟨r, 0, none⟩), .pointer (some ⟨p, 0, none⟩)] w (EdP r p s P vc vw vs vf w (PK.rdEnd s a P.kind)) := by
  have CE : Hid (∀ a W, RdAt r s a W → Calls Tryz.prog 49 #[.pointer (some ⟨r, 0, none⟩)] W fun e w' => e = .returned (.bool (a == (s.size : Int))) ∧ Below W.heap.size W w') := fun a W hW => ended_any r s a W hW
  have C1 : Hid (∀ W, RdAt r s a W → Calls Tryz.prog 83 #[.pointer (some ⟨r, 0, none⟩)] W (RdP r s W (.int .u8 (PK.rdC s a).1) (PK.rdC s a).2.1 (PK.rdC s a).2.2)) := fun W hW => rreason_any r s a W hW hs
  have C2 : Hid (∀ a W, G2 r p w W → RdAt r s a W → Calls Tryz.prog 84 #[.pointer (some ⟨r, 0, none⟩), .int .i64 P.kind] W (RdPP r s W (PK.rdPr s a P.kind).1 (PK.rdPr s a P.kind).2.1 (PK.rdPr s a P.kind).2.2)) := fun a W hg hW => rprops_any r s a P.kind W hW hs (hT W hg)
  have HP := Lib.hid hp
  have HRd := Lib.hid h
  have hlr := lt_heap h
  have hlp := lt_heap hp
  have hpr : p ≠ r := fun e => hrp e.symm
  have D0 := Lib.hid (CE.out a w h)
  obtain ⟨X, hX⟩ : ∃ X, X = PK.rdEnd s a P.kind := ⟨_, rfl⟩
  rw [← hX]
  have HX := Lib.hid hX
  have EP0 : Hid ({ P with code := 0, props := [] } = P) := Lib.hid (by cases P; simp only at hc0 hl0; subst hc0 hl0; rfl)
  have EP1 : Hid (∀ n, { P with code := n, props := [] } = { P with code := n }) := Lib.hid (by intro n; cases P; simp only at hl0; subst hl0; rfl)
  clear h hp hT hX hc0 hl0
  by_cases he : a = (s.size : Int)
  · have e1 : (a == (s.size : Int)) = true := by simp [he]
    have E : Hid (X = ((0, []), a, 0)) := Lib.hid (by rw [HX.out]; unfold PK.rdEnd; rw [if_pos he])
    rw [e1] at D0
    have HE := Lib.hid e1
    clear he e1 C1 C2 HX
    go_enter Tryz.func93, Tryz.ntmps93
    go_wp2_with fail
    refine D0.out.mono ?_
    rintro e w1 ⟨rfl, b1⟩
    have R1 := Lib.hid (HRd.out.below b1)
    have P1 : Hid (PbAt p P vc (.slice none 0 0) vw vs vf w1) := Lib.hid (HP.out.gr (Gr.of_below (r := r) b1) hpr)
    have G1 : Hid (G2 r p w w1) := Lib.hid (G2.of_gr (Gr.of_below b1))
    have D1 := CE.out a w1 R1.out
    rw [HE.out] at D1
    have HD1 := Lib.hid D1
    clear b1 D0 D1 CE
    go_wp2_with fail
    refine HD1.out.mono ?_
    rintro e w2 ⟨rfl, b2⟩
    have R2 := Lib.hid (R1.out.below b2)
    have P2 : Hid (PbAt p P vc (.slice none 0 0) vw vs vf w2) := Lib.hid (P1.out.gr (Gr.of_below (r := r) b2) hpr)
    have G2' : Hid (G2 r p w w2) := Lib.hid (G1.out.trans (G2.of_gr (Gr.of_below b2)))
    clear b2 HD1
    go_wp2
    go_end0
    rw [E.out]
    exact ⟨fun _ => ⟨_, rfl, own_nil _ _ _ _, R2.out, by simp only; rw [EP0.out]; exact P2.out, G2'.out⟩, fun h => absurd rfl h⟩
  · have e1 : (a == (s.size : Int)) = false := by rw [beq_eq_false_iff_ne]; exact he
    rw [e1] at D0
    have HX2 : Hid (X = if (PK.rdC s a).2.2 ≠ 0 then ((0, []), 0, (PK.rdC s a).2.2) else if (PK.rdC s a).2.1 = (s.size : Int) then (((PK.rdC s a).1, []), (PK.rdC s a).2.1, 0) else (((PK.rdC s a).1, (PK.rdPr s (PK.rdC s a).2.1 P.kind).1), (PK.rdPr s (PK.rdC s a).2.1 P.kind).2.1, (PK.rdPr s (PK.rdC s a).2.1 P.kind).2.2)) := Lib.hid (by rw [HX.out]; unfold PK.rdEnd; rw [if_neg he])
    clear he e1 HX
    generalize PK.rdC s a = Y at *
    obtain ⟨n, a1, c1⟩ := Y
    simp only at C1 HX2
    go_enter Tryz.func93, Tryz.ntmps93
    go_wp2_with fail
    refine D0.out.mono ?_
    rintro e w1 ⟨rfl, b1⟩
    have r1 := HRd.out.below b1
    have P1 : Hid (PbAt p P vc (.slice none 0 0) vw vs vf w1) := Lib.hid (HP.out.gr (Gr.of_below (r := r) b1) hpr)
    have G1 : Hid (G2 r p w w1) := Lib.hid (G2.of_gr (Gr.of_below b1))
    have D1 := Lib.hid (C1.out w1 r1)
    clear b1 D0 C1 r1
    go_wp2_with fail
    refine D1.out.mono ?_
    rintro e w2 hR
    by_cases h1 : c1 = 0
    · obtain ⟨rfl, r2, g2⟩ := hR.1 h1
      have p2 := P1.out.gr g2 hpr
      have z7 : w2.cell? ⟨p, 7, none⟩ = some (.int .u8 P.code) := by rw [cell_heap p2]; rfl
      have f7 : w2.frozen? ⟨p, 7, none⟩ = false := frozen_heap p2
      have z0 : w2.cell? ⟨p, 0, none⟩ = some (.int .i64 P.kind) := by rw [cell_heap p2]; rfl
      have P3 : Hid (PbAt p { P with code := n } vc (.slice none 0 0) vw vs vf (w2.setCell ⟨p, 7, none⟩ (.int .u8 n))) := Lib.hid (set_block p2 rfl)
      have r3 : RdAt r s a1 (w2.setCell ⟨p, 7, none⟩ (.int .u8 n)) := r2.setOther hrp _ _
      have G3 : Hid (G2 r p w (w2.setCell ⟨p, 7, none⟩ (.int .u8 n))) := Lib.hid ((G1.out.trans (G2.of_gr g2)).setCell 7 _)
      have D3 := CE.out a1 _ r3
      have R3 := Lib.hid r3
      have H1 := Lib.hid h1
      clear hR r2 g2 p2 D1 r3 CE h1
      by_cases h2 : a1 = (s.size : Int)
      · have e2 : (a1 == (s.size : Int)) = true := by simp [h2]
        have E : Hid (X = ((n, []), a1, 0)) := Lib.hid (by rw [HX2.out, if_neg (by simp [H1.out]), if_pos h2])
        rw [e2] at D3
        have HD3 := Lib.hid D3
        clear D3 e2 h2 HX2 C2
        go_wp2_with fail
        refine HD3.out.mono ?_
        rintro e w4 ⟨rfl, b4⟩
        have R4 := Lib.hid (R3.out.below b4)
        have P4 : Hid (PbAt p { P with code := n } vc (.slice none 0 0) vw vs vf w4) := Lib.hid (P3.out.gr (Gr.of_below (r := r) b4) hpr)
        have G4 : Hid (G2 r p w w4) := Lib.hid (G3.out.trans (G2.of_gr (Gr.of_below b4)))
        clear b4 HD3
        go_wp2
        go_end0
        rw [E.out]
        exact ⟨fun _ => ⟨_, rfl, own_nil _ _ _ _, R4.out, by simp only; rw [EP1.out]; exact P4.out, G4.out⟩, fun h => absurd rfl h⟩
      · have e2 : (a1 == (s.size : Int)) = false := by rw [beq_eq_false_iff_ne]; exact h2
        rw [e2] at D3
        have HD3 := Lib.hid D3
        have E0 : Hid (X = ((n, (PK.rdPr s a1 P.kind).1), (PK.rdPr s a1 P.kind).2.1, (PK.rdPr s a1 P.kind).2.2)) := Lib.hid (by rw [HX2.out, if_neg (by simp [H1.out]), if_neg h2])
        have E2 := C2.out a1
        generalize PK.rdPr s a1 P.kind = Z at *
        obtain ⟨l, a2, c2⟩ := Z
        simp only at E2 E0
        have HE2 := Lib.hid E2
        clear D3 e2 h2 HX2 C2 E2
        go_wp2_with fail
        refine HD3.out.mono ?_
        rintro e w4 ⟨rfl, b4⟩
        have r4 := R3.out.below b4
        have p4 := P3.out.gr (Gr.of_below (r := r) b4) hpr
        have G4 : Hid (G2 r p w w4) := Lib.hid (G3.out.trans (G2.of_gr (Gr.of_below b4)))
        have z0' : w4.cell? ⟨p, 0, none⟩ = some (.int .i64 P.kind) := by rw [cell_heap p4]; rfl
        have D5 := Lib.hid (HE2.out w4 G4.out r4)
        have P4 := Lib.hid p4
        clear b4 HD3 HE2 r4 p4
        go_wp2_with fail
        refine D5.out.mono ?_
        rintro e w5 hR
        by_cases h3 : c2 = 0
        · obtain ⟨v, rfl, o5, r5, g5⟩ := hR.1 h3
          have p5 := P4.out.gr g5 hpr
          have z9 : w5.cell? ⟨p, 9, none⟩ = some (.slice none 0 0) := by rw [cell_heap p5]; rfl
          have f9 : w5.frozen? ⟨p, 9, none⟩ = false := frozen_heap p5
          obtain ⟨A, cap, rfl⟩ := own_form o5
          have o6 : w5.ownsRow w.heap.size 135 4 (.slice A l.length cap) l.length (flatP l) := own_base' o5 G4.out.size
          have O6 : Hid ((w5.setCell ⟨p, 9, none⟩ (.slice A l.length cap)).ownsRow w.heap.size 135 4 (.slice A l.length cap) l.length (flatP l)) := Lib.hid (own_set o6 (row_ne o6 hlp))
          have P6 : Hid (PbAt p { P with code := n, props := l } vc (.slice A l.length cap) vw vs vf (w5.setCell ⟨p, 9, none⟩ (.slice A l.length cap))) := Lib.hid (set_block p5 rfl)
          have R6 : Hid (RdAt r s a2 (w5.setCell ⟨p, 9, none⟩ (.slice A l.length cap))) := Lib.hid (r5.setOther hrp _ _)
          have G6 : Hid (G2 r p w (w5.setCell ⟨p, 9, none⟩ (.slice A l.length cap))) := Lib.hid ((G4.out.trans (G2.of_gr g5)).setCell 9 _)
          have E : Hid (X = ((n, l), a2, 0)) := Lib.hid (by rw [E0.out, h3])
          clear hR o5 r5 g5 p5 o6 D5 h3 E0
          go_wp2
          go_end0
          rw [E.out]
          exact ⟨fun _ => ⟨_, rfl, O6.out, R6.out, P6.out, G6.out⟩, fun h => absurd rfl h⟩
        · obtain ⟨rfl, g5⟩ := hR.2 h3
          exact ⟨rfl, by rw [E0.out]; exact ⟨fun h => absurd h h3, fun _ => ⟨rfl, G4.out.trans (G2.of_gr g5)⟩⟩⟩
    · obtain ⟨rfl, g2⟩ := hR.2 h1
      have E : X = ((0, []), 0, c1) := by rw [HX2.out, if_pos h1]
      exact ⟨rfl, by rw [E]; exact ⟨fun h => absurd h h1, fun _ => ⟨rfl, G1.out.trans (G2.of_gr g2)⟩⟩⟩
end Go.Proofs.YtmldnaadjhnfcaaGreatDoor
namespace Go.Proofs.YtmldnaadjhnfcaaGreatDoor
open Go.RowKit

theorem G2.setR {r p : Nat} {w w' : World} (h : G2 r p w w') (j : Nat) (u : Value) : G2 r p w (w'.setCell ⟨r, j, none⟩ u) :=
  ⟨h.os, h.tape, h.output, by simp [World.setCell]; exact h.size, fun i hi h1 h2 => (Below.heap_setCell _ _ _ _ (fun e => h1 (by simpa using e))).trans (h.block i hi h1 h2)⟩
namespace PK
/-- The identifier, where there is one. -/
def rdI (s : ByteArray) (a q i : Int) : Int × Int × Int := if 0 < q then rdId s a else (i, a, 0)
/-- A topic, an identifier where there is one, properties, and all that is left. -/
def rdPub (s : ByteArray) (a k q i : Int) : (ByteArray × Int × List Pr × ByteArray) × Int × Int :=
  (((rdT s a).1, (rdI s (rdT s a).2.1 q i).1, (rdPr s (rdI s (rdT s a).2.1 q i).2.1 k).1, s.extract (rdPr s (rdI s (rdT s a).2.1 q i).2.1 k).2.1.toNat s.size), (s.size : Int),
    thn (rdT s a).2.2 (thn (rdI s (rdT s a).2.1 q i).2.2 (rdPr s (rdI s (rdT s a).2.1 q i).2.1 k).2.2))
theorem getL_at (s : ByteArray) (a : Int) (h : (PR.getL s a).2.2 = 0) : ∃ q : Nat, (PR.getL s a).2.1 = q ∧ q ≤ s.size := by
  by_cases h0 : (VP.get s a).2.2 = 0
  · obtain ⟨m, f, hg, hf⟩ := PR.get_at s a h0
    by_cases hl : (s.size : Int) - f < m
    · rw [PR.getL_few s a m f hg hl] at h; exact absurd h (by simp)
    · have hx := PR.getL_in s a m f hg hl rfl
      by_cases hz : (PR.gl (s.extract f (f + m)) 66 0 []).2 ≠ 0
      · rw [if_pos hz] at hx; rw [hx] at h; exact absurd h hz
      · rw [if_neg hz] at hx; rw [hx]; exact ⟨f + m, by simp, by omega⟩
  · rw [PR.getL_bad s a h0] at h; exact absurd h h0
theorem cm_zero {c : Int} (h : cm c = 0) : c = 0 := by
  unfold cm at h
  split at h
  · exact absurd h (by decide)
  · exact h
theorem rdPr_at (s : ByteArray) (a k : Int) (h : (rdPr s a k).2.2 = 0) : ∃ q : Nat, (rdPr s a k).2.1 = q ∧ q ≤ s.size := by
  have hc : cm (PR.getL s a).2.2 = 0 := by
    by_cases hz : cm (PR.getL s a).2.2 = 0
    · exact hz
    · exfalso
      have : (rdPr s a k).2.2 = cm (PR.getL s a).2.2 := thn_bad hz _
      exact hz (this.symm.trans h)
  exact getL_at s a (cm_zero hc)
end PK
/-- What the reader's publish answers. -/
def PubP (r p : Nat) (s : ByteArray) (P : Pk) (vc vw vs vf : Value) (w : World) (X : (ByteArray × Int × List Pr × ByteArray) × Int × Int) (e : Ending) (w' : World) : Prop :=
  (X.2.2 = 0 → ∃ v, e = .returned (.tuple #[]) ∧ w'.ownsRow w.heap.size 135 4 v X.1.2.2.1.length (flatP X.1.2.2.1) ∧ RdAt r s X.2.1 w' ∧ PbAt p { P with topic := X.1.1, id := X.1.2.1, props := X.1.2.2.1, pay := X.1.2.2.2 } vc v vw vs vf w' ∧ G2 r p w w') ∧ (X.2.2 ≠ 0 → e = leftBy X.2.2 ∧ G2 r p w w')

set_option maxRecDepth 100000 in
set_option maxHeartbeats 4000000 in
theorem rpublish_any (r p : Nat) (s : ByteArray) (a : Int) (P : Pk) (vc vp vw vs vf : Value) (w : World) (h : RdAt r s a w) (hp : PbAt p P vc vp vw vs vf w) (hs : s.size ≤ 140737488351232) (hT : ∀ W, G2 r p w W → Tabs W) (hrp : r ≠ p) :
    Calls Tryz.prog 85 #[.pointer (some ⟨r, 0, none⟩), .pointer (some ⟨p, 0, none⟩)] w (PubP r p s P vc vw vs vf w (PK.rdPub s a P.kind P.qos P.id)) := by
  have C1 : Hid (Calls Tryz.prog 90 #[.pointer (some ⟨r, 0, none⟩)] w (RdP r s w (.string (PK.rdT s a).1) (PK.rdT s a).2.1 (PK.rdT s a).2.2)) := rtext_any r s a w h hs (hT w (G2.refl _ _ _))
  have CI : Hid (∀ a W, RdAt r s a W → Calls Tryz.prog 92 #[.pointer (some ⟨r, 0, none⟩)] W (RdP r s W (.int .i64 (PK.rdId s a).1) (PK.rdId s a).2.1 (PK.rdId s a).2.2)) := fun a W hW => rid_any r s a W hW hs
  have C2 : Hid (∀ a W, G2 r p w W → RdAt r s a W → Calls Tryz.prog 84 #[.pointer (some ⟨r, 0, none⟩), .int .i64 P.kind] W (RdPP r s W (PK.rdPr s a P.kind).1 (PK.rdPr s a P.kind).2.1 (PK.rdPr s a P.kind).2.2)) := fun a W hg hW => rprops_any r s a P.kind W hW hs (hT W hg)
  have AT : Hid (∀ a, (PK.rdPr s a P.kind).2.2 = 0 → ∃ q : Nat, (PK.rdPr s a P.kind).2.1 = q ∧ q ≤ s.size) := Lib.hid (fun a => PK.rdPr_at s a P.kind)
  have CC : Hid (∀ (q : Nat) W, Calls Tryz.prog 35 #[.string (s.extract q s.size)] W fun e w' => e = .returned (.string (s.extract q s.size)) ∧ Below W.heap.size W w') := Lib.hid (fun q W => clone_any _ W (by rw [ByteArray.size_extract]; omega))
  have HP := Lib.hid hp
  have hlr := lt_heap h
  have hlp := lt_heap hp
  have hpr : p ≠ r := fun e => hrp e.symm
  obtain ⟨X, hX⟩ : ∃ X, X = PK.rdPub s a P.kind P.qos P.id := ⟨_, rfl⟩
  rw [← hX]
  unfold PK.rdPub at hX
  have HX := Lib.hid hX
  clear h hp hT hX
  generalize PK.rdT s a = Y at *
  obtain ⟨tp, a1, c1⟩ := Y
  simp only at C1 HX
  by_cases h1 : c1 = 0
  · have H1 := Lib.hid h1
    clear h1
    by_cases hq : 0 < P.qos
    · have E0 : Hid (PK.rdI s a1 P.qos P.id = PK.rdId s a1) := Lib.hid (by unfold PK.rdI; rw [if_pos hq])
      rw [E0.out] at HX
      have D1 := CI.out a1
      generalize PK.rdId s a1 = Y at *
      obtain ⟨n, a2, c2⟩ := Y
      simp only at HX D1
      have HD1 := Lib.hid D1
      clear E0 D1 CI
      have HQ := Lib.hid hq
      go_enter Tryz.func85, Tryz.ntmps85
      go_wp2_with fail
      refine C1.out.mono ?_
      rintro e w1 hR
      obtain ⟨rfl, r1, g1⟩ := hR.1 H1.out
      have p1 := HP.out.gr g1 hpr
      have z5 : w1.cell? ⟨p, 5, none⟩ = some (.string P.topic) := by rw [cell_heap p1]; rfl
      have f5 : w1.frozen? ⟨p, 5, none⟩ = false := frozen_heap p1
      have z3 : w1.cell? ⟨p, 3, none⟩ = some (.int .i64 P.qos) := by rw [cell_heap p1]; rfl
      have y0 : w1.cell? ⟨p, 0, none⟩ = some (.int .i64 P.kind) := by rw [cell_heap p1]; rfl
      have P2 : Hid (PbAt p { P with topic := tp } vc vp vw vs vf (w1.setCell ⟨p, 5, none⟩ (.string tp))) := Lib.hid (set_block p1 rfl)
      have R2 : Hid (RdAt r s a1 (w1.setCell ⟨p, 5, none⟩ (.string tp))) := Lib.hid (r1.setOther hrp _ _)
      have GG2 : Hid (G2 r p w (w1.setCell ⟨p, 5, none⟩ (.string tp))) := Lib.hid ((G2.of_gr g1).setCell 5 _)
      clear hR r1 g1 C1 p1 HP
      go_wp2_with fail
      refine (HD1.out _ R2.out).mono ?_
      rintro e w3 hR
      by_cases h2 : c2 = 0
      · obtain ⟨rfl, r3, g3⟩ := hR.1 h2
        have p3 := P2.out.gr g3 hpr
        have z4 : w3.cell? ⟨p, 4, none⟩ = some (.int .i64 P.id) := by rw [cell_heap p3]; rfl
        have f4 : w3.frozen? ⟨p, 4, none⟩ = false := frozen_heap p3
        have z0 : w3.cell? ⟨p, 0, none⟩ = some (.int .i64 P.kind) := by rw [cell_heap p3]; rfl
        have P4 : Hid (PbAt p { P with topic := tp, id := n } vc vp vw vs vf (w3.setCell ⟨p, 4, none⟩ (.int .i64 n))) := Lib.hid (set_block p3 rfl)
        have R4 : RdAt r s a2 (w3.setCell ⟨p, 4, none⟩ (.int .i64 n)) := r3.setOther hrp _ _
        have G4 : Hid (G2 r p w (w3.setCell ⟨p, 4, none⟩ (.int .i64 n))) := Lib.hid ((GG2.out.trans (G2.of_gr g3)).setCell 4 _)
        have HX4 : Hid (X = ((tp, n, (PK.rdPr s a2 P.kind).1, s.extract (PK.rdPr s a2 P.kind).2.1.toNat s.size), (s.size : Int), (PK.rdPr s a2 P.kind).2.2)) := Lib.hid (by rw [HX.out, PK.thn_ok H1.out, PK.thn_ok h2])
        have D4 := C2.out a2
        have AT4 := AT.out a2
        generalize PK.rdPr s a2 P.kind = Z at *
        obtain ⟨l, a3, c3⟩ := Z
        simp only at D4 HX4 AT4
        have E4 := Lib.hid (D4 _ G4.out R4)
        have HAT := Lib.hid AT4
        clear hR r3 g3 p3 HD1 R2 P2 GG2 D4 AT4 C2 AT HX h2 R4
        go_wp2_with fail
        refine E4.out.mono ?_
        rintro e w5 hR
        by_cases h3 : c3 = 0
        · obtain ⟨v, rfl, o5, r5, g5⟩ := hR.1 h3
          obtain ⟨q, hq3, hqs⟩ := HAT.out h3
          have p5 := P4.out.gr g5 hpr
          have z9 : w5.cell? ⟨p, 9, none⟩ = some vp := by rw [cell_heap p5]; rfl
          have f9 : w5.frozen? ⟨p, 9, none⟩ = false := frozen_heap p5
          obtain ⟨A, cap, rfl⟩ := own_form o5
          have o6 : w5.ownsRow w.heap.size 135 4 (.slice A l.length cap) l.length (flatP l) := own_base' o5 G4.out.size
          have o7 : (w5.setCell ⟨p, 9, none⟩ (.slice A l.length cap)).ownsRow w.heap.size 135 4 (.slice A l.length cap) l.length (flatP l) := own_set o6 (row_ne o6 hlp)
          have P7 : Hid (PbAt p { P with topic := tp, id := n, props := l } vc (.slice A l.length cap) vw vs vf (w5.setCell ⟨p, 9, none⟩ (.slice A l.length cap))) := Lib.hid (set_block p5 rfl)
          have R7 : Hid (RdAt r s a3 (w5.setCell ⟨p, 9, none⟩ (.slice A l.length cap))) := Lib.hid (r5.setOther hrp _ _)
          have G7 : Hid (G2 r p w (w5.setCell ⟨p, 9, none⟩ (.slice A l.length cap))) := Lib.hid ((G4.out.trans (G2.of_gr g5)).setCell 9 _)
          have O7 := Lib.hid o7
          have hlp7 : p < (w5.setCell ⟨p, 9, none⟩ (.slice A l.length cap)).heap.size := lt_heap P7.out
          have hlr7 : r < (w5.setCell ⟨p, 9, none⟩ (.slice A l.length cap)).heap.size := lt_heap R7.out
          have EX : Hid (X = ((tp, n, l, s.extract q s.size), (s.size : Int), 0)) := Lib.hid (by rw [HX4.out, h3, hq3]; rfl)
          subst hq3
          have hsl : ∀ W, (Instr.slice 9 (.string s) (some (.int .i64 (q : Int))) none none).run Tryz.prog W = .ok (.string (s.extract q s.size)) W := fun W => slice_from s q hqs W
          have CC1 := Lib.hid (CC.out q)
          generalize s.extract q s.size = pay at *
          clear hR o5 r5 g5 p5 o6 o7 E4 h3 HX4 HAT CC P4 G4
          go_wp2_with fail
          generalize w5.setCell ⟨p, 9, none⟩ (.slice A l.length cap) = w7 at *
          have q0 : w7.cell? ⟨r, 0, none⟩ = some (.string s) := by rw [cell_heap R7.out]; rfl
          have q1 : w7.cell? ⟨r, 1, none⟩ = some (.int .i64 (q : Int)) := by rw [cell_heap R7.out]; rfl
          clear z9 f9 z5 f5 z3 y0
          go_region_held3 (fun w' => w'.cell? ⟨r, 0, none⟩ = some (.string s) ∧ w'.cell? ⟨r, 1, none⟩ = some (.int .i64 (q : Int)))
            (first | exact ⟨q0, q1⟩ | exact ⟨p0, p1⟩ | exact ⟨u0, u1⟩)
            (first
              | (go_at_call 35
                 refine (CC1.out _).mono ?_
                 rintro e w8 ⟨rfl, b8⟩
                 have hr8 : RdAt r s q w8 := (show RdAt r s q w7.drew from R7.out).below b8
                 have hp8 : PbAt p { P with topic := tp, id := n, props := l } vc (.slice A l.length cap) vw vs vf w8 := (show PbAt p { P with topic := tp, id := n, props := l } vc (.slice A l.length cap) vw vs vf w7.drew from P7.out).gr (Gr.of_below (r := r) b8) hpr
                 have p0 : w8.cell? ⟨r, 0, none⟩ = some (.string s) := by rw [cell_heap hr8]; rfl
                 have p1 : w8.cell? ⟨r, 1, none⟩ = some (.int .i64 (q : Int)) := by rw [cell_heap hr8]; rfl
                 have z6 : w8.cell? ⟨p, 6, none⟩ = some (.string P.pay) := by rw [cell_heap hp8]; rfl
                 have f6 : w8.frozen? ⟨p, 6, none⟩ = false := frozen_heap hp8
                 have hr9 : RdAt r s q (w8.setCell ⟨p, 6, none⟩ (.string pay)) := hr8.setOther hrp _ _
                 have u0 : (w8.setCell ⟨p, 6, none⟩ (.string pay)).cell? ⟨r, 0, none⟩ = some (.string s) := by rw [cell_heap hr9]; rfl
                 have u1 : (w8.setCell ⟨p, 6, none⟩ (.string pay)).cell? ⟨r, 1, none⟩ = some (.int .i64 (q : Int)) := by rw [cell_heap hr9]; rfl))
          have P9 : PbAt p { P with topic := tp, id := n, props := l, pay := pay } vc (.slice A l.length cap) vw vs vf (w8.setCell ⟨p, 6, none⟩ (.string pay)) := set_block hp8 rfl
          have R9 := Lib.hid hr9
          have hG8 : G2 r p w w8 := G7.out.trans (G2.of_gr (Gr.of_drew (Gr.of_below b8)))
          have f1 : (w8.setCell ⟨p, 6, none⟩ (.string pay)).frozen? ⟨r, 1, none⟩ = false := frozen_heap hr9
          have RA : Hid (RdAt r s (s.size : Int) ((w8.setCell ⟨p, 6, none⟩ (.string pay)).setCell ⟨r, 1, none⟩ (.int .i64 (s.size : Int)))) := Lib.hid (set_block hr9 rfl)
          have PA : Hid (PbAt p { P with topic := tp, id := n, props := l, pay := pay } vc (.slice A l.length cap) vw vs vf ((w8.setCell ⟨p, 6, none⟩ (.string pay)).setCell ⟨r, 1, none⟩ (.int .i64 (s.size : Int)))) := Lib.hid ((Below.heap_setCell _ _ _ _ (fun e => hpr (by simpa using e))).trans P9)
          have GA : Hid (G2 r p w ((w8.setCell ⟨p, 6, none⟩ (.string pay)).setCell ⟨r, 1, none⟩ (.int .i64 (s.size : Int)))) := Lib.hid ((hG8.setCell 6 _).setR 1 _)
          have o8 : w8.ownsRow w.heap.size 135 4 (.slice A l.length cap) l.length (flatP l) := own_gr O7.out (Gr.of_drew (Gr.of_below b8)) (row_ne O7.out hlr)
          have o9 : (w8.setCell ⟨p, 6, none⟩ (.string pay)).ownsRow w.heap.size 135 4 (.slice A l.length cap) l.length (flatP l) := own_set o8 (row_ne o8 hlp)
          have OA : Hid (((w8.setCell ⟨p, 6, none⟩ (.string pay)).setCell ⟨r, 1, none⟩ (.int .i64 (s.size : Int))).ownsRow w.heap.size 135 4 (.slice A l.length cap) l.length (flatP l)) := Lib.hid (own_set o9 (row_ne o9 hlr))
          clear P9 hG8 o8 o9 b8 hr8 hp8 O7 P7 R7 G7 hr9 CC1 hsl
          go_wp2
          go_end0
          rw [EX.out]
          exact ⟨fun _ => ⟨_, rfl, OA.out, RA.out, PA.out, GA.out⟩, fun h => absurd rfl h⟩
        · obtain ⟨rfl, g5⟩ := hR.2 h3
          have E : X.2.2 = c3 := by rw [HX4.out]
          exact ⟨rfl, fun h => absurd (E.symm.trans h) h3, fun _ => ⟨by rw [E]; rfl, G4.out.trans (G2.of_gr g5)⟩⟩
      · obtain ⟨rfl, g3⟩ := hR.2 h2
        have E : X.2.2 = c2 := by rw [HX.out]; exact (PK.thn_ok H1.out _).trans (PK.thn_bad h2 _)
        exact ⟨rfl, fun h => absurd (E.symm.trans h) h2, fun _ => ⟨by rw [E]; rfl, GG2.out.trans (G2.of_gr g3)⟩⟩
    · have E0 : Hid (PK.rdI s a1 P.qos P.id = (P.id, a1, 0)) := Lib.hid (by unfold PK.rdI; rw [if_neg hq])
      rw [E0.out] at HX
      simp only at HX
      clear E0 CI
      have HQ := Lib.hid hq
      go_enter Tryz.func85, Tryz.ntmps85
      go_wp2_with fail
      refine C1.out.mono ?_
      rintro e w1 hR
      obtain ⟨rfl, r1, g1⟩ := hR.1 H1.out
      have p1 := HP.out.gr g1 hpr
      have z5 : w1.cell? ⟨p, 5, none⟩ = some (.string P.topic) := by rw [cell_heap p1]; rfl
      have f5 : w1.frozen? ⟨p, 5, none⟩ = false := frozen_heap p1
      have z3 : w1.cell? ⟨p, 3, none⟩ = some (.int .i64 P.qos) := by rw [cell_heap p1]; rfl
      have y0 : w1.cell? ⟨p, 0, none⟩ = some (.int .i64 P.kind) := by rw [cell_heap p1]; rfl
      have P2 : Hid (PbAt p { P with topic := tp } vc vp vw vs vf (w1.setCell ⟨p, 5, none⟩ (.string tp))) := Lib.hid (set_block p1 rfl)
      have R2 : Hid (RdAt r s a1 (w1.setCell ⟨p, 5, none⟩ (.string tp))) := Lib.hid (r1.setOther hrp _ _)
      have GG2 : Hid (G2 r p w (w1.setCell ⟨p, 5, none⟩ (.string tp))) := Lib.hid ((G2.of_gr g1).setCell 5 _)
      clear hR r1 g1 C1 p1 HP
      · have P4 : Hid (PbAt p { P with topic := tp, id := P.id } vc vp vw vs vf (w1.setCell ⟨p, 5, none⟩ (.string tp))) := P2
        have G4 := GG2
        have HX4 : Hid (X = ((tp, P.id, (PK.rdPr s a1 P.kind).1, s.extract (PK.rdPr s a1 P.kind).2.1.toNat s.size), (s.size : Int), (PK.rdPr s a1 P.kind).2.2)) := Lib.hid (by rw [HX.out, PK.thn_ok H1.out, PK.thn_ok rfl])
        have D4 := C2.out a1
        have AT4 := AT.out a1
        generalize PK.rdPr s a1 P.kind = Z at *
        obtain ⟨l, a3, c3⟩ := Z
        simp only at D4 HX4 AT4
        have E4 := Lib.hid (D4 _ G4.out R2.out)
        have HAT := Lib.hid AT4
        have HN : Hid (∃ n, n = P.id) := Lib.hid ⟨_, rfl⟩
        clear R2 P2 GG2 D4 AT4 C2 AT HX
        go_wp2_with fail
        refine E4.out.mono ?_
        rintro e w5 hR
        by_cases h3 : c3 = 0
        · obtain ⟨v, rfl, o5, r5, g5⟩ := hR.1 h3
          obtain ⟨q, hq3, hqs⟩ := HAT.out h3
          have p5 := P4.out.gr g5 hpr
          have z9 : w5.cell? ⟨p, 9, none⟩ = some vp := by rw [cell_heap p5]; rfl
          have f9 : w5.frozen? ⟨p, 9, none⟩ = false := frozen_heap p5
          obtain ⟨A, cap, rfl⟩ := own_form o5
          have o6 : w5.ownsRow w.heap.size 135 4 (.slice A l.length cap) l.length (flatP l) := own_base' o5 G4.out.size
          have o7 : (w5.setCell ⟨p, 9, none⟩ (.slice A l.length cap)).ownsRow w.heap.size 135 4 (.slice A l.length cap) l.length (flatP l) := own_set o6 (row_ne o6 hlp)
          have P7 : Hid (PbAt p { P with topic := tp, id := P.id, props := l } vc (.slice A l.length cap) vw vs vf (w5.setCell ⟨p, 9, none⟩ (.slice A l.length cap))) := Lib.hid (set_block p5 rfl)
          have R7 : Hid (RdAt r s a3 (w5.setCell ⟨p, 9, none⟩ (.slice A l.length cap))) := Lib.hid (r5.setOther hrp _ _)
          have G7 : Hid (G2 r p w (w5.setCell ⟨p, 9, none⟩ (.slice A l.length cap))) := Lib.hid ((G4.out.trans (G2.of_gr g5)).setCell 9 _)
          have O7 := Lib.hid o7
          have hlp7 : p < (w5.setCell ⟨p, 9, none⟩ (.slice A l.length cap)).heap.size := lt_heap P7.out
          have hlr7 : r < (w5.setCell ⟨p, 9, none⟩ (.slice A l.length cap)).heap.size := lt_heap R7.out
          have EX : Hid (X = ((tp, P.id, l, s.extract q s.size), (s.size : Int), 0)) := Lib.hid (by rw [HX4.out, h3, hq3]; rfl)
          subst hq3
          have hsl : ∀ W, (Instr.slice 9 (.string s) (some (.int .i64 (q : Int))) none none).run Tryz.prog W = .ok (.string (s.extract q s.size)) W := fun W => slice_from s q hqs W
          have CC1 := Lib.hid (CC.out q)
          generalize s.extract q s.size = pay at *
          clear hR o5 r5 g5 p5 o6 o7 E4 h3 HX4 HAT CC P4 G4
          go_wp2_with fail
          generalize w5.setCell ⟨p, 9, none⟩ (.slice A l.length cap) = w7 at *
          have q0 : w7.cell? ⟨r, 0, none⟩ = some (.string s) := by rw [cell_heap R7.out]; rfl
          have q1 : w7.cell? ⟨r, 1, none⟩ = some (.int .i64 (q : Int)) := by rw [cell_heap R7.out]; rfl
          clear z9 f9 z5 f5 z3 y0
          go_region_held3 (fun w' => w'.cell? ⟨r, 0, none⟩ = some (.string s) ∧ w'.cell? ⟨r, 1, none⟩ = some (.int .i64 (q : Int)))
            (first | exact ⟨q0, q1⟩ | exact ⟨p0, p1⟩ | exact ⟨u0, u1⟩)
            (first
              | (go_at_call 35
                 refine (CC1.out _).mono ?_
                 rintro e w8 ⟨rfl, b8⟩
                 have hr8 : RdAt r s q w8 := (show RdAt r s q w7.drew from R7.out).below b8
                 have hp8 : PbAt p { P with topic := tp, id := P.id, props := l } vc (.slice A l.length cap) vw vs vf w8 := (show PbAt p { P with topic := tp, id := P.id, props := l } vc (.slice A l.length cap) vw vs vf w7.drew from P7.out).gr (Gr.of_below (r := r) b8) hpr
                 have p0 : w8.cell? ⟨r, 0, none⟩ = some (.string s) := by rw [cell_heap hr8]; rfl
                 have p1 : w8.cell? ⟨r, 1, none⟩ = some (.int .i64 (q : Int)) := by rw [cell_heap hr8]; rfl
                 have z6 : w8.cell? ⟨p, 6, none⟩ = some (.string P.pay) := by rw [cell_heap hp8]; rfl
                 have f6 : w8.frozen? ⟨p, 6, none⟩ = false := frozen_heap hp8
                 have hr9 : RdAt r s q (w8.setCell ⟨p, 6, none⟩ (.string pay)) := hr8.setOther hrp _ _
                 have u0 : (w8.setCell ⟨p, 6, none⟩ (.string pay)).cell? ⟨r, 0, none⟩ = some (.string s) := by rw [cell_heap hr9]; rfl
                 have u1 : (w8.setCell ⟨p, 6, none⟩ (.string pay)).cell? ⟨r, 1, none⟩ = some (.int .i64 (q : Int)) := by rw [cell_heap hr9]; rfl))
          have P9 : PbAt p { P with topic := tp, id := P.id, props := l, pay := pay } vc (.slice A l.length cap) vw vs vf (w8.setCell ⟨p, 6, none⟩ (.string pay)) := set_block hp8 rfl
          have R9 := Lib.hid hr9
          have hG8 : G2 r p w w8 := G7.out.trans (G2.of_gr (Gr.of_drew (Gr.of_below b8)))
          have f1 : (w8.setCell ⟨p, 6, none⟩ (.string pay)).frozen? ⟨r, 1, none⟩ = false := frozen_heap hr9
          have RA : Hid (RdAt r s (s.size : Int) ((w8.setCell ⟨p, 6, none⟩ (.string pay)).setCell ⟨r, 1, none⟩ (.int .i64 (s.size : Int)))) := Lib.hid (set_block hr9 rfl)
          have PA : Hid (PbAt p { P with topic := tp, id := P.id, props := l, pay := pay } vc (.slice A l.length cap) vw vs vf ((w8.setCell ⟨p, 6, none⟩ (.string pay)).setCell ⟨r, 1, none⟩ (.int .i64 (s.size : Int)))) := Lib.hid ((Below.heap_setCell _ _ _ _ (fun e => hpr (by simpa using e))).trans P9)
          have GA : Hid (G2 r p w ((w8.setCell ⟨p, 6, none⟩ (.string pay)).setCell ⟨r, 1, none⟩ (.int .i64 (s.size : Int)))) := Lib.hid ((hG8.setCell 6 _).setR 1 _)
          have o8 : w8.ownsRow w.heap.size 135 4 (.slice A l.length cap) l.length (flatP l) := own_gr O7.out (Gr.of_drew (Gr.of_below b8)) (row_ne O7.out hlr)
          have o9 : (w8.setCell ⟨p, 6, none⟩ (.string pay)).ownsRow w.heap.size 135 4 (.slice A l.length cap) l.length (flatP l) := own_set o8 (row_ne o8 hlp)
          have OA : Hid (((w8.setCell ⟨p, 6, none⟩ (.string pay)).setCell ⟨r, 1, none⟩ (.int .i64 (s.size : Int))).ownsRow w.heap.size 135 4 (.slice A l.length cap) l.length (flatP l)) := Lib.hid (own_set o9 (row_ne o9 hlr))
          clear P9 hG8 o8 o9 b8 hr8 hp8 O7 P7 R7 G7 hr9 CC1 hsl
          go_wp2
          go_end0
          rw [EX.out]
          exact ⟨fun _ => ⟨_, rfl, OA.out, RA.out, PA.out, GA.out⟩, fun h => absurd rfl h⟩
        · obtain ⟨rfl, g5⟩ := hR.2 h3
          have E : X.2.2 = c3 := by rw [HX4.out]
          exact ⟨rfl, fun h => absurd (E.symm.trans h) h3, fun _ => ⟨by rw [E]; rfl, G4.out.trans (G2.of_gr g5)⟩⟩
  · have E : Hid (X.2.2 = c1) := Lib.hid (by rw [HX.out]; exact PK.thn_bad h1 _)
    have H1 := Lib.hid h1
    clear h1 HX
    go_enter Tryz.func85, Tryz.ntmps85
    go_wp2_with fail
    refine C1.out.mono ?_
    rintro e w1 hR
    obtain ⟨rfl, g1⟩ := hR.2 H1.out
    exact ⟨rfl, fun h => absurd (E.out.symm.trans h) H1.out, fun _ => ⟨by rw [E.out]; rfl, G2.of_gr g1⟩⟩
end Go.Proofs.YtmldnaadjhnfcaaGreatDoor
namespace Go.Proofs.YtmldnaadjhnfcaaGreatDoor
open Go.RowKit
attribute [local go_sem ↓] Go.wp_at_zero Go.wp_at_succ

namespace PK
/-- What a Connect's flags tell. -/
def cflPk (P : Pk) (n : Int) : Pk := { P with clean := bits .and .i64 n 2 != 0, hasWill := bits .and .i64 n 4 != 0, wqos := bits .and .i64 (n / 8) 3, wret := bits .and .i64 n 32 != 0, hasPass := bits .and .i64 n 64 != 0, hasUser := bits .and .i64 n 128 != 0 }
def cflC (n : Int) : Int :=
  if (bits .and .i64 n 1 != 0) = true then 129 else if isQ (bits .and .i64 (n / 8) 3) = false then 129
  else if ((bits .and .i64 (n / 8) 3 != 0) || (bits .and .i64 n 32 != 0)) = true ∧ (bits .and .i64 n 4 != 0) = false then 129 else 0
def rdFl (s : ByteArray) (a : Int) : Int × Int × Int := ((VP.rd s a 1).1, (VP.rd s a 1).2.1, thn (cm (VP.rd s a 1).2.2) (cflC (VP.rd s a 1).1))
end PK
/-- What the reader's connectFlags answers. -/
def CfP (r p : Nat) (s : ByteArray) (P : Pk) (vc vp vw vs vf : Value) (w : World) (X : Int × Int × Int) (e : Ending) (w' : World) : Prop :=
  (X.2.2 = 0 → e = .returned (.tuple #[]) ∧ RdAt r s X.2.1 w' ∧ PbAt p (PK.cflPk P X.1) vc vp vw vs vf w' ∧ G2 r p w w') ∧ (X.2.2 ≠ 0 → e = leftBy X.2.2 ∧ G2 r p w w')

set_option maxRecDepth 100000 in
set_option maxHeartbeats 1500000 in
theorem rcflags_any (r p : Nat) (s : ByteArray) (a : Int) (P : Pk) (vc vp vw vs vf : Value) (w : World) (h : RdAt r s a w) (hp : PbAt p P vc vp vw vs vf w) (hs : s.size ≤ 140737488351232) (hrp : r ≠ p) :
    Calls Tryz.prog 109 #[.pointer (some ⟨r, 0, none⟩), .pointer (some ⟨p, 0, none⟩)] w (CfP r p s P vc vp vw vs vf w (PK.rdFl s a)) := by
  have C1 := Lib.hid (rnumber_any r s a 1 w h hs)
  have CQ := Lib.hid isqos_any
  have CL := Lib.hid leave_any
  have HP := Lib.hid hp
  have hlp := lt_heap hp
  have hpr : p ≠ r := fun e => hrp e.symm
  have hn1 := (PK.rd_nn s a 1).1
  have hn2 := PK.rd_1le s a
  unfold PK.rdFl
  generalize VP.rd s a 1 = Y at *
  obtain ⟨n, a1, c1⟩ := Y
  simp only at C1 hn1 hn2 ⊢
  obtain ⟨TC, hTC⟩ : ∃ t, t = PK.thn (cm c1) (PK.cflC n) := ⟨_, rfl⟩
  rw [← hTC]
  have HTC := Lib.hid hTC
  clear hTC h hp
  by_cases h1 : cm c1 = 0
  · have H1 := Lib.hid h1
    have ET : Hid (TC = PK.cflC n) := Lib.hid (by rw [HTC.out, PK.thn_ok h1])
    clear h1 HTC
    go_enter Tryz.func109, Tryz.ntmps109
    go_wp2_with fail
    refine C1.out.mono ?_
    rintro e w1 hR
    obtain ⟨rfl, r1, g1⟩ := hR.1 H1.out
    have p1 := HP.out.gr g1 hpr
    have z11 : w1.cell? ⟨p, 11, none⟩ = some (.bool P.clean) := by rw [cell_heap p1]; rfl
    have f11 : w1.frozen? ⟨p, 11, none⟩ = false := frozen_heap p1
    have z13 : w1.cell? ⟨p, 13, none⟩ = some (.bool P.hasWill) := by rw [cell_heap p1]; rfl
    have f13 : w1.frozen? ⟨p, 13, none⟩ = false := frozen_heap p1
    have z16 : w1.cell? ⟨p, 16, none⟩ = some (.int .i64 P.wqos) := by rw [cell_heap p1]; rfl
    have f16 : w1.frozen? ⟨p, 16, none⟩ = false := frozen_heap p1
    have z17 : w1.cell? ⟨p, 17, none⟩ = some (.bool P.wret) := by rw [cell_heap p1]; rfl
    have f17 : w1.frozen? ⟨p, 17, none⟩ = false := frozen_heap p1
    have z20 : w1.cell? ⟨p, 20, none⟩ = some (.bool P.hasPass) := by rw [cell_heap p1]; rfl
    have f20 : w1.frozen? ⟨p, 20, none⟩ = false := frozen_heap p1
    have z19 : w1.cell? ⟨p, 19, none⟩ = some (.bool P.hasUser) := by rw [cell_heap p1]; rfl
    have f19 : w1.frozen? ⟨p, 19, none⟩ = false := frozen_heap p1
    have P2 : Hid (PbAt p (PK.cflPk P n) vc vp vw vs vf ((((((w1.setCell ⟨p, 11, none⟩ (.bool (bits .and .i64 n 2 != 0))).setCell ⟨p, 13, none⟩ (.bool (bits .and .i64 n 4 != 0))).setCell ⟨p, 16, none⟩ (.int .i64 (bits .and .i64 (n / 8) 3))).setCell ⟨p, 17, none⟩ (.bool (bits .and .i64 n 32 != 0))).setCell ⟨p, 20, none⟩ (.bool (bits .and .i64 n 64 != 0))).setCell ⟨p, 19, none⟩ (.bool (bits .and .i64 n 128 != 0)))) := Lib.hid (set_block (set_block (set_block (set_block (set_block (set_block p1 rfl) rfl) rfl) rfl) rfl) rfl)
    have R2 : Hid (RdAt r s a1 ((((((w1.setCell ⟨p, 11, none⟩ (.bool (bits .and .i64 n 2 != 0))).setCell ⟨p, 13, none⟩ (.bool (bits .and .i64 n 4 != 0))).setCell ⟨p, 16, none⟩ (.int .i64 (bits .and .i64 (n / 8) 3))).setCell ⟨p, 17, none⟩ (.bool (bits .and .i64 n 32 != 0))).setCell ⟨p, 20, none⟩ (.bool (bits .and .i64 n 64 != 0))).setCell ⟨p, 19, none⟩ (.bool (bits .and .i64 n 128 != 0)))) := Lib.hid ((((((r1.setOther hrp _ _).setOther hrp _ _).setOther hrp _ _).setOther hrp _ _).setOther hrp _ _).setOther hrp _ _)
    have GG2 : Hid (G2 r p w ((((((w1.setCell ⟨p, 11, none⟩ (.bool (bits .and .i64 n 2 != 0))).setCell ⟨p, 13, none⟩ (.bool (bits .and .i64 n 4 != 0))).setCell ⟨p, 16, none⟩ (.int .i64 (bits .and .i64 (n / 8) 3))).setCell ⟨p, 17, none⟩ (.bool (bits .and .i64 n 32 != 0))).setCell ⟨p, 20, none⟩ (.bool (bits .and .i64 n 64 != 0))).setCell ⟨p, 19, none⟩ (.bool (bits .and .i64 n 128 != 0)))) := Lib.hid (((((((G2.of_gr g1).setCell 11 _).setCell 13 _).setCell 16 _).setCell 17 _).setCell 20 _).setCell 19 _)
    have hl1 : p < w1.heap.size := lt_heap p1
    clear hR r1 g1 C1 p1 HP
    cases hz : (bits .and .i64 (n / 8) 3 != 0)
    · cases hr : (bits .and .i64 n 32 != 0)
      · rw [hr] at P2 R2 GG2
        cases hb : (bits .and .i64 n 1 != 0)
        · cases hq : PK.isQ (bits .and .i64 (n / 8) 3)
          · have HQ := Lib.hid hq
            have E : Hid (TC = 129) := Lib.hid (by rw [ET.out]; unfold PK.cflC; simp [hb, hq])
            clear ET
            go_wp2_with fail
            refine (CQ.out _ _).mono ?_
            rintro e w' ⟨rfl, rfl⟩
            rw [HQ.out]
            go_wp2_with fail
            refine (CL.out _ _).mono ?_
            rintro e w' ⟨rfl, rfl⟩
            exact ⟨rfl, fun h => absurd (E.out.symm.trans h) (by decide), fun _ => ⟨by rw [E.out]; rfl, GG2.out⟩⟩
          · have HQ := Lib.hid hq
            have E : Hid (TC = 0) := Lib.hid (by rw [ET.out]; unfold PK.cflC; simp [hb, hq, hz, hr])
            clear ET
            go_wp2_with fail
            refine (CQ.out _ _).mono ?_
            rintro e w' ⟨rfl, rfl⟩
            rw [HQ.out]
            go_wp2
            go_end0
            exact ⟨fun _ => ⟨rfl, R2.out, P2.out, GG2.out⟩, fun h => absurd E.out h⟩
        · have E : Hid (TC = 129) := Lib.hid (by rw [ET.out]; unfold PK.cflC; simp [hb])
          clear ET
          go_wp2_with fail
          refine (CL.out _ _).mono ?_
          rintro e w' ⟨rfl, rfl⟩
          exact ⟨rfl, fun h => absurd (E.out.symm.trans h) (by decide), fun _ => ⟨by rw [E.out]; rfl, GG2.out⟩⟩
      · rw [hr] at P2 R2 GG2
        cases hb : (bits .and .i64 n 1 != 0)
        · cases hq : PK.isQ (bits .and .i64 (n / 8) 3)
          · have HQ := Lib.hid hq
            have E : Hid (TC = 129) := Lib.hid (by rw [ET.out]; unfold PK.cflC; simp [hb, hq])
            clear ET
            go_wp2_with fail
            refine (CQ.out _ _).mono ?_
            rintro e w' ⟨rfl, rfl⟩
            rw [HQ.out]
            go_wp2_with fail
            refine (CL.out _ _).mono ?_
            rintro e w' ⟨rfl, rfl⟩
            exact ⟨rfl, fun h => absurd (E.out.symm.trans h) (by decide), fun _ => ⟨by rw [E.out]; rfl, GG2.out⟩⟩
          · have HQ := Lib.hid hq
            cases hw : (bits .and .i64 n 4 != 0)
            · rw [hw] at P2 R2 GG2
              have E : Hid (TC = 129) := Lib.hid (by rw [ET.out]; unfold PK.cflC; simp [hb, hq, hr, hw])
              clear ET
              go_wp2_with fail
              refine (CQ.out _ _).mono ?_
              rintro e w' ⟨rfl, rfl⟩
              rw [HQ.out]
              go_wp2_with fail
              refine (CL.out _ _).mono ?_
              rintro e w' ⟨rfl, rfl⟩
              exact ⟨rfl, fun h => absurd (E.out.symm.trans h) (by decide), fun _ => ⟨by rw [E.out]; rfl, GG2.out⟩⟩
            · rw [hw] at P2 R2 GG2
              have E : Hid (TC = 0) := Lib.hid (by rw [ET.out]; unfold PK.cflC; simp [hb, hq, hw])
              clear ET
              go_wp2_with fail
              refine (CQ.out _ _).mono ?_
              rintro e w' ⟨rfl, rfl⟩
              rw [HQ.out]
              go_wp2
              go_end0
              exact ⟨fun _ => ⟨rfl, R2.out, P2.out, GG2.out⟩, fun h => absurd E.out h⟩
        · have E : Hid (TC = 129) := Lib.hid (by rw [ET.out]; unfold PK.cflC; simp [hb])
          clear ET
          go_wp2_with fail
          refine (CL.out _ _).mono ?_
          rintro e w' ⟨rfl, rfl⟩
          exact ⟨rfl, fun h => absurd (E.out.symm.trans h) (by decide), fun _ => ⟨by rw [E.out]; rfl, GG2.out⟩⟩
    · cases hb : (bits .and .i64 n 1 != 0)
      · cases hq : PK.isQ (bits .and .i64 (n / 8) 3)
        · have HQ := Lib.hid hq
          have E : Hid (TC = 129) := Lib.hid (by rw [ET.out]; unfold PK.cflC; simp [hb, hq])
          clear ET
          go_wp2_with fail
          refine (CQ.out _ _).mono ?_
          rintro e w' ⟨rfl, rfl⟩
          rw [HQ.out]
          go_wp2_with fail
          refine (CL.out _ _).mono ?_
          rintro e w' ⟨rfl, rfl⟩
          exact ⟨rfl, fun h => absurd (E.out.symm.trans h) (by decide), fun _ => ⟨by rw [E.out]; rfl, GG2.out⟩⟩
        · have HQ := Lib.hid hq
          cases hw : (bits .and .i64 n 4 != 0)
          · rw [hw] at P2 R2 GG2
            have E : Hid (TC = 129) := Lib.hid (by rw [ET.out]; unfold PK.cflC; simp [hb, hq, hz, hw])
            clear ET
            go_wp2_with fail
            refine (CQ.out _ _).mono ?_
            rintro e w' ⟨rfl, rfl⟩
            rw [HQ.out]
            go_wp2_with fail
            refine (CL.out _ _).mono ?_
            rintro e w' ⟨rfl, rfl⟩
            exact ⟨rfl, fun h => absurd (E.out.symm.trans h) (by decide), fun _ => ⟨by rw [E.out]; rfl, GG2.out⟩⟩
          · rw [hw] at P2 R2 GG2
            have E : Hid (TC = 0) := Lib.hid (by rw [ET.out]; unfold PK.cflC; simp [hb, hq, hw])
            clear ET
            go_wp2_with fail
            refine (CQ.out _ _).mono ?_
            rintro e w' ⟨rfl, rfl⟩
            rw [HQ.out]
            go_wp2
            go_end0
            exact ⟨fun _ => ⟨rfl, R2.out, P2.out, GG2.out⟩, fun h => absurd E.out h⟩
      · have E : Hid (TC = 129) := Lib.hid (by rw [ET.out]; unfold PK.cflC; simp [hb])
        clear ET
        go_wp2_with fail
        refine (CL.out _ _).mono ?_
        rintro e w' ⟨rfl, rfl⟩
        exact ⟨rfl, fun h => absurd (E.out.symm.trans h) (by decide), fun _ => ⟨by rw [E.out]; rfl, GG2.out⟩⟩
  · have E : Hid (TC = cm c1) := Lib.hid (by rw [HTC.out, PK.thn_bad h1])
    have H1 := Lib.hid h1
    clear h1 HTC
    go_enter Tryz.func109, Tryz.ntmps109
    go_wp2_with fail
    refine C1.out.mono ?_
    rintro e w1 hR
    obtain ⟨rfl, g1⟩ := hR.2 H1.out
    exact ⟨rfl, fun h => absurd (E.out.symm.trans h) H1.out, fun _ => ⟨by rw [E.out]; rfl, G2.of_gr g1⟩⟩
end Go.Proofs.YtmldnaadjhnfcaaGreatDoor
namespace Go.Proofs.YtmldnaadjhnfcaaGreatDoor
open Go.RowKit
attribute [local go_sem ↓] Go.wp_at_zero Go.wp_at_succ

namespace PK
def rdN (s : ByteArray) (a wd : Int) : Int × Int × Int := ((VP.rd s a wd).1, (VP.rd s a wd).2.1, cm (VP.rd s a wd).2.2)
def rdD (s : ByteArray) (a : Int) : ByteArray × Int × Int := ((VP.dat s a).1, (VP.dat s a).2.1, cm (VP.dat s a).2.2)
/-- One part, and then the others. -/
def bnd {α : Type} (P : Pk) (x : α × Int × Int) (f : α → Int → Pk × Int × Int) : Pk × Int × Int := if x.2.2 ≠ 0 then (P, 0, x.2.2) else f x.1 x.2.1
theorem bnd_ok {α : Type} {P : Pk} {v : α} {a c : Int} {f : α → Int → Pk × Int × Int} (h : c = 0) : bnd P (v, a, c) f = f v a := by unfold bnd; rw [if_neg (by simp [h])]
theorem bnd_bad {α : Type} {P : Pk} {v : α} {a c : Int} {f : α → Int → Pk × Int × Int} (h : c ≠ 0) : bnd P (v, a, c) f = (P, 0, c) := by unfold bnd; rw [if_pos h]
def rdPass (s : ByteArray) (a : Int) (P : Pk) : Pk × Int × Int := if P.hasPass = true then bnd P (rdD s a) (fun v a => ({ P with pass := v }, a, 0)) else (P, a, 0)
def rdUser (s : ByteArray) (a : Int) (P : Pk) : Pk × Int × Int := if P.hasUser = true then bnd P (rdT s a) (fun v a => rdPass s a { P with user := v }) else rdPass s a P
def rdWill (s : ByteArray) (a : Int) (P : Pk) : Pk × Int × Int :=
  if P.hasWill = true then bnd P (rdPr s a 0) (fun l a => bnd P (rdT s a) (fun t a => bnd P (rdD s a) (fun d a => rdUser s a { P with wprops := l, wtopic := t, wpay := d }))) else rdUser s a P
def rdConn1 (s : ByteArray) (a : Int) (P : Pk) : Pk × Int × Int :=
  bnd P (rdN s a 2) (fun k a => bnd P (rdPr s a P.kind) (fun l a => bnd P (rdT s a) (fun c a => rdWill s a { P with keep := k, props := l, client := c })))
/-- A Connect, behind its length. -/
def rdConn (s : ByteArray) (a : Int) (P : Pk) : Pk × Int × Int :=
  bnd P (rdT s a) (fun m a => if m ≠ ⟨#[77, 81, 84, 84]⟩ then (P, 0, 129) else bnd P (rdN s a 1) (fun v a => if v ≠ 5 then (P, 0, 132) else bnd P (rdFl s a) (fun n a => rdConn1 s a (cflPk P n))))
theorem rdPass_t (s : ByteArray) (a : Int) {P : Pk} (h : P.hasPass = true) : rdPass s a P = bnd P (rdD s a) (fun v a => ({ P with pass := v }, a, 0)) := by unfold rdPass; rw [if_pos h]
theorem rdPass_f (s : ByteArray) (a : Int) {P : Pk} (h : P.hasPass = false) : rdPass s a P = (P, a, 0) := by unfold rdPass; rw [if_neg (by rw [h]; decide)]
theorem rdUser_t (s : ByteArray) (a : Int) {P : Pk} (h : P.hasUser = true) : rdUser s a P = bnd P (rdT s a) (fun v a => rdPass s a { P with user := v }) := by unfold rdUser; rw [if_pos h]
theorem rdUser_f (s : ByteArray) (a : Int) {P : Pk} (h : P.hasUser = false) : rdUser s a P = rdPass s a P := by unfold rdUser; rw [if_neg (by rw [h]; decide)]
theorem rdWill_t (s : ByteArray) (a : Int) {P : Pk} (h : P.hasWill = true) : rdWill s a P = bnd P (rdPr s a 0) (fun l a => bnd P (rdT s a) (fun t a => bnd P (rdD s a) (fun d a => rdUser s a { P with wprops := l, wtopic := t, wpay := d }))) := by unfold rdWill; rw [if_pos h]
theorem rdWill_f (s : ByteArray) (a : Int) {P : Pk} (h : P.hasWill = false) : rdWill s a P = rdUser s a P := by unfold rdWill; rw [if_neg (by rw [h]; decide)]
end PK
/-- What the reader's connect answers. -/
def ConP (r p : Nat) (s : ByteArray) (vc vs vf : Value) (w : World) (X : Pk × Int × Int) (e : Ending) (w' : World) : Prop :=
  (X.2.2 = 0 → ∃ vp vw, e = .returned (.tuple #[]) ∧ w'.ownsRow w.heap.size 135 4 vp X.1.props.length (flatP X.1.props) ∧ w'.ownsRow w.heap.size 135 4 vw X.1.wprops.length (flatP X.1.wprops) ∧ RdAt r s X.2.1 w' ∧ PbAt p X.1 vc vp vw vs vf w' ∧ G2 r p w w') ∧ (X.2.2 ≠ 0 → e = leftBy X.2.2 ∧ G2 r p w w')
theorem ConP.left {r p : Nat} {s : ByteArray} {vc vs vf : Value} {w w' : World} {X : Pk × Int × Int} {P : Pk} {a c : Int} (hX : X = (P, a, c)) (hc : c ≠ 0) (hg : G2 r p w w') : ConP r p s vc vs vf w X (leftBy c) w' := by
  subst hX; exact ⟨fun h => absurd h hc, fun _ => ⟨rfl, hg⟩⟩

set_option maxRecDepth 100000 in
set_option maxHeartbeats 4000000 in
theorem rconn_any (r p : Nat) (s : ByteArray) (a : Int) (P : Pk) (vc vs vf : Value) (w : World) (h : RdAt r s a w) (hp : PbAt p P vc (.slice none 0 0) (.slice none 0 0) vs vf w) (hw0 : P.wprops = []) (hs : s.size ≤ 140737488351232) (hT : ∀ W, G2 r p w W → Tabs W) (hrp : r ≠ p) :
    Calls Tryz.prog 81 #[.pointer (some ⟨r, 0, none⟩), .pointer (some ⟨p, 0, none⟩)] w (ConP r p s vc vs vf w (PK.rdConn s a P)) := by
  have CT : Hid (∀ a W, G2 r p w W → RdAt r s a W → Calls Tryz.prog 90 #[.pointer (some ⟨r, 0, none⟩)] W (RdP r s W (.string (PK.rdT s a).1) (PK.rdT s a).2.1 (PK.rdT s a).2.2)) := fun a W hg hW => rtext_any r s a W hW hs (hT W hg)
  have CN : Hid (∀ wd a W, G2 r p w W → RdAt r s a W → Calls Tryz.prog 108 #[.pointer (some ⟨r, 0, none⟩), .int .i64 wd] W (RdP r s W (.int .i64 (PK.rdN s a wd).1) (PK.rdN s a wd).2.1 (PK.rdN s a wd).2.2)) := fun wd a W _ hW => rnumber_any r s a wd W hW hs
  have CD : Hid (∀ a W, G2 r p w W → RdAt r s a W → Calls Tryz.prog 110 #[.pointer (some ⟨r, 0, none⟩)] W (RdP r s W (.string (PK.rdD s a).1) (PK.rdD s a).2.1 (PK.rdD s a).2.2)) := fun a W _ hW => rdata_any r s a W hW hs
  have CR : Hid (∀ k a W, G2 r p w W → RdAt r s a W → Calls Tryz.prog 84 #[.pointer (some ⟨r, 0, none⟩), .int .i64 k] W (RdPP r s W (PK.rdPr s a k).1 (PK.rdPr s a k).2.1 (PK.rdPr s a k).2.2)) := fun k a W hg hW => rprops_any r s a k W hW hs (hT W hg)
  have CF : Hid (∀ a W, RdAt r s a W → PbAt p P vc (.slice none 0 0) (.slice none 0 0) vs vf W → Calls Tryz.prog 109 #[.pointer (some ⟨r, 0, none⟩), .pointer (some ⟨p, 0, none⟩)] W (CfP r p s P vc (.slice none 0 0) (.slice none 0 0) vs vf W (PK.rdFl s a))) := fun a W hW hP => rcflags_any r p s a P vc _ _ vs vf W hW hP hs hrp
  have CL := Lib.hid leave_any
  have P0 := Lib.hid hp
  have R0 := Lib.hid h
  have G0 : Hid (G2 r p w w) := Lib.hid (G2.refl r p w)
  have hlr := lt_heap h
  have hlp := lt_heap hp
  have hpr : p ≠ r := fun e => hrp e.symm
  have HW0 := Lib.hid hw0
  obtain ⟨X, hX⟩ : ∃ X, X = PK.rdConn s a P := ⟨_, rfl⟩
  rw [← hX]
  unfold PK.rdConn at hX
  have HX0 := Lib.hid hX
  clear h hp hT hX hw0
  go_enter Tryz.func81, Tryz.ntmps81
  have D1 := CT.out a
  generalize PK.rdT s a = Z at *
  obtain ⟨v1, a1, c1⟩ := Z
  simp only at D1
  have E1 := Lib.hid (D1 _ G0.out R0.out)
  clear D1
  go_wp2_with fail
  refine E1.out.mono ?_
  rintro e w1 hR
  clear E1
  by_cases h1 : c1 = 0
  · obtain ⟨rfl, r1, g1⟩ := hR.1 h1
    have X1 := HX0.out
    rw [PK.bnd_ok h1] at X1
    have HX1 := Lib.hid X1
    clear X1 h1 HX0
    have P_1 := Lib.hid (P0.out.gr g1 hpr)
    have R_1 := Lib.hid r1
    have G_1 : Hid (G2 r p w w1) := Lib.hid (G0.out.trans (G2.of_gr g1))
    clear hR r1 g1 P0 R0 G0
    by_cases hm : v1 = ⟨#[77, 81, 84, 84]⟩
    · have Xm := HX1.out
      rw [if_neg (by simp [hm])] at Xm
      have HXm := Lib.hid Xm
      clear HX1 Xm
      subst hm
      have D2 := CN.out 1 a1
      generalize PK.rdN s a1 1 = Z at *
      obtain ⟨v2, a2, c2⟩ := Z
      simp only at D2
      have E2 := Lib.hid (D2 _ G_1.out R_1.out)
      clear D2
      go_wp2_with fail
      refine E2.out.mono ?_
      rintro e w2 hR
      clear E2
      by_cases h2 : c2 = 0
      · obtain ⟨rfl, r2, g2⟩ := hR.1 h2
        have X2 := HXm.out
        rw [PK.bnd_ok h2] at X2
        have HX2 := Lib.hid X2
        clear X2 h2 HXm
        have P_2 := Lib.hid (P_1.out.gr g2 hpr)
        have R_2 := Lib.hid r2
        have G_2 : Hid (G2 r p w w2) := Lib.hid (G_1.out.trans (G2.of_gr g2))
        clear hR r2 g2 P_1 R_1 G_1
        by_cases hv : v2 = 5
        · have Xv := HX2.out
          rw [if_neg (by simp [hv])] at Xv
          have HXv := Lib.hid Xv
          clear HX2 Xv
          subst hv
          have D3 := CF.out a2
          generalize PK.rdFl s a2 = Z at *
          obtain ⟨v3, a3, c3⟩ := Z
          have E3 := Lib.hid (D3 _ R_2.out P_2.out)
          clear D3
          go_wp2_with fail
          refine E3.out.mono ?_
          rintro e w3 hR
          clear E3
          by_cases h3 : c3 = 0
          · obtain ⟨rfl, r3, p3, g3⟩ := hR.1 h3
            have X3 := HXv.out
            rw [PK.bnd_ok h3] at X3
            have HX3 := Lib.hid X3
            clear X3 h3 HXv
            have R_3 := Lib.hid r3
            have P_3 := Lib.hid p3
            have G_3 : Hid (G2 r p w w3) := Lib.hid (G_2.out.trans g3)
            simp only at R_3 P_3
            have HW1 : Hid ((PK.cflPk P v3).wprops = []) := Lib.hid HW0.out
            generalize PK.cflPk P v3 = P1 at *
            have HXc := HX3.out
            unfold PK.rdConn1 at HXc
            have HXs := Lib.hid HXc
            clear HXc HX3 HW0 hR r3 p3 g3 P_2 R_2 G_2
            rename Hid (P1.wprops = []) => HW0
            have D4 := CN.out 2 a3
            generalize PK.rdN s a3 2 = Z at *
            obtain ⟨v4, a4, c4⟩ := Z
            simp only at D4
            have E4 := Lib.hid (D4 _ G_3.out R_3.out)
            clear D4
            go_wp2_with fail
            refine E4.out.mono ?_
            rintro e w4 hR
            clear E4
            by_cases h4 : c4 = 0
            · obtain ⟨rfl, r4, g4⟩ := hR.1 h4
              have X4 := HXs.out
              rw [PK.bnd_ok h4] at X4
              have HX4 := Lib.hid X4
              clear X4 h4 HXs
              have q4 := P_3.out.gr g4 hpr
              have z12 : w4.cell? ⟨p, 12, none⟩ = some (.int .i64 P1.keep) := by rw [cell_heap q4]; rfl
              have f12 : w4.frozen? ⟨p, 12, none⟩ = false := frozen_heap q4
              have z0_4 : w4.cell? ⟨p, 0, none⟩ = some (.int .i64 P1.kind) := by rw [cell_heap q4]; rfl
              have P_4 : Hid (PbAt p ({ P1 with keep := v4 } : Pk) vc (.slice none 0 0) (.slice none 0 0) vs vf (w4.setCell ⟨p, 12, none⟩ (.int .i64 v4))) := Lib.hid (set_block q4 rfl)
              have R_4 : Hid (RdAt r s a4 (w4.setCell ⟨p, 12, none⟩ (.int .i64 v4))) := Lib.hid (r4.setOther hrp _ _)
              have G_4 : Hid (G2 r p w (w4.setCell ⟨p, 12, none⟩ (.int .i64 v4))) := Lib.hid ((G_3.out.trans (G2.of_gr g4)).setCell 12 _)
              clear hR r4 g4 q4 P_3 R_3 G_3
              have D5 := CR.out P1.kind a4
              generalize PK.rdPr s a4 P1.kind = Z at *
              obtain ⟨v5, a5, c5⟩ := Z
              simp only at D5
              have E5 := Lib.hid (D5 _ G_4.out R_4.out)
              clear D5
              go_wp2_with fail
              refine E5.out.mono ?_
              rintro e w5 hR
              clear E5
              by_cases h5 : c5 = 0
              · obtain ⟨V5, rfl, o5, r5, g5⟩ := hR.1 h5
                have X5 := HX4.out
                rw [PK.bnd_ok h5] at X5
                have HX5 := Lib.hid X5
                clear X5 h5 HX4
                have q5 := P_4.out.gr g5 hpr
                obtain ⟨A5, cap5, rfl⟩ := own_form o5
                have z9 : w5.cell? ⟨p, 9, none⟩ = some ((.slice none 0 0)) := by rw [cell_heap q5]; rfl
                have f9 : w5.frozen? ⟨p, 9, none⟩ = false := frozen_heap q5
                have P_5 : Hid (PbAt p ({ P1 with keep := v4, props := v5 } : Pk) vc (.slice A5 v5.length cap5) (.slice none 0 0) vs vf (w5.setCell ⟨p, 9, none⟩ (.slice A5 v5.length cap5))) := Lib.hid (set_block q5 rfl)
                have R_5 : Hid (RdAt r s a5 (w5.setCell ⟨p, 9, none⟩ (.slice A5 v5.length cap5))) := Lib.hid (r5.setOther hrp _ _)
                have G_5 : Hid (G2 r p w (w5.setCell ⟨p, 9, none⟩ (.slice A5 v5.length cap5))) := Lib.hid ((G_4.out.trans (G2.of_gr g5)).setCell 9 _)
                have b5 : w5.ownsRow w.heap.size 135 4 (.slice A5 v5.length cap5) v5.length (flatP v5) := own_base' o5 G_4.out.size
                have O5 : Hid ((w5.setCell ⟨p, 9, none⟩ (.slice A5 v5.length cap5)).ownsRow w.heap.size 135 4 (.slice A5 v5.length cap5) v5.length (flatP v5)) := Lib.hid (own_set b5 (row_ne b5 hlp))
                clear o5 b5
                clear hR r5 g5 q5 P_4 R_4 G_4
                have D6 := CT.out a5
                generalize PK.rdT s a5 = Z at *
                obtain ⟨v6, a6, c6⟩ := Z
                simp only at D6
                have E6 := Lib.hid (D6 _ G_5.out R_5.out)
                clear D6
                go_wp2_with fail
                refine E6.out.mono ?_
                rintro e w6 hR
                clear E6
                by_cases h6 : c6 = 0
                · obtain ⟨rfl, r6, g6⟩ := hR.1 h6
                  have X6 := HX5.out
                  rw [PK.bnd_ok h6] at X6
                  have HX6 := Lib.hid X6
                  clear X6 h6 HX5
                  have q6 := P_5.out.gr g6 hpr
                  have z10 : w6.cell? ⟨p, 10, none⟩ = some (.string P1.client) := by rw [cell_heap q6]; rfl
                  have f10 : w6.frozen? ⟨p, 10, none⟩ = false := frozen_heap q6
                  have z13_6 : w6.cell? ⟨p, 13, none⟩ = some (.bool P1.hasWill) := by rw [cell_heap q6]; rfl
                  have z19_6 : w6.cell? ⟨p, 19, none⟩ = some (.bool P1.hasUser) := by rw [cell_heap q6]; rfl
                  have z20_6 : w6.cell? ⟨p, 20, none⟩ = some (.bool P1.hasPass) := by rw [cell_heap q6]; rfl
                  have P_6 : Hid (PbAt p ({ P1 with keep := v4, props := v5, client := v6 } : Pk) vc (.slice A5 v5.length cap5) (.slice none 0 0) vs vf (w6.setCell ⟨p, 10, none⟩ (.string v6))) := Lib.hid (set_block q6 rfl)
                  have R_6 : Hid (RdAt r s a6 (w6.setCell ⟨p, 10, none⟩ (.string v6))) := Lib.hid (r6.setOther hrp _ _)
                  have G_6 : Hid (G2 r p w (w6.setCell ⟨p, 10, none⟩ (.string v6))) := Lib.hid ((G_5.out.trans (G2.of_gr g6)).setCell 10 _)
                  have mO6 := own_gr O5.out g6 (row_ne O5.out hlr)
                  have O6 : Hid ((w6.setCell ⟨p, 10, none⟩ (.string v6)).ownsRow w.heap.size 135 4 (.slice A5 v5.length cap5) v5.length (flatP v5)) := Lib.hid (own_set mO6 (row_ne mO6 hlp))
                  clear mO6 O5
                  clear hR r6 g6 q6 P_5 R_5 G_5
                  cases hf13 : P1.hasWill
                  · have y13 : w6.cell? ⟨p, 13, none⟩ = some (.bool false) := by rw [z13_6, hf13]
                    have Y13f := HX6.out.trans (PK.rdWill_f s _ (P := ({ P1 with keep := v4, props := v5, client := v6 } : Pk)) hf13)
                    try dsimp only at Y13f
                    have HY13 := Lib.hid Y13f
                    clear Y13f HX6 z13_6 hf13
                    cases hf19 : P1.hasUser
                    · have y19 : w6.cell? ⟨p, 19, none⟩ = some (.bool false) := by rw [z19_6, hf19]
                      have Y19f := HY13.out.trans (PK.rdUser_f s _ (P := ({ P1 with keep := v4, props := v5, client := v6 } : Pk)) hf19)
                      try dsimp only at Y19f
                      have HY19 := Lib.hid Y19f
                      clear Y19f HY13 z19_6 hf19
                      cases hf20 : P1.hasPass
                      · have y20 : w6.cell? ⟨p, 20, none⟩ = some (.bool false) := by rw [z20_6, hf20]
                        have Y20f := HY19.out.trans (PK.rdPass_f s _ (P := ({ P1 with keep := v4, props := v5, client := v6 } : Pk)) hf20)
                        try dsimp only at Y20f
                        have HY20 := Lib.hid Y20f
                        clear Y20f HY19 z20_6 hf20
                        go_wp2
                        go_end0
                        rw [HY20.out]
                        exact ⟨fun _ => ⟨_, _, rfl, O6.out, (by rw [show ({ P1 with keep := v4, props := v5, client := v6 } : Pk).wprops = [] from HW0.out]; exact own_nil _ _ _ _), R_6.out, P_6.out, G_6.out⟩, fun h => absurd rfl h⟩
                      · have y20 : w6.cell? ⟨p, 20, none⟩ = some (.bool true) := by rw [z20_6, hf20]
                        have Y20t := HY19.out.trans (PK.rdPass_t s _ (P := ({ P1 with keep := v4, props := v5, client := v6 } : Pk)) hf20)
                        try dsimp only at Y20t
                        have HY20 := Lib.hid Y20t
                        clear Y20t HY19 z20_6 hf20
                        have D7 := CD.out a6
                        generalize PK.rdD s a6 = Z at *
                        obtain ⟨v7, a7, c7⟩ := Z
                        simp only at D7
                        have E7 := Lib.hid (D7 _ G_6.out R_6.out)
                        clear D7
                        go_wp2_with fail
                        refine E7.out.mono ?_
                        rintro e w7 hR
                        clear E7
                        by_cases h7 : c7 = 0
                        · obtain ⟨rfl, r7, g7⟩ := hR.1 h7
                          have X7 := HY20.out
                          rw [PK.bnd_ok h7] at X7
                          have HX7 := Lib.hid X7
                          clear X7 h7 HY20
                          have q7 := P_6.out.gr g7 hpr
                          have z22 : w7.cell? ⟨p, 22, none⟩ = some (.string P1.pass) := by rw [cell_heap q7]; rfl
                          have f22 : w7.frozen? ⟨p, 22, none⟩ = false := frozen_heap q7
                          have P_7 : Hid (PbAt p ({ P1 with keep := v4, props := v5, client := v6, pass := v7 } : Pk) vc (.slice A5 v5.length cap5) (.slice none 0 0) vs vf (w7.setCell ⟨p, 22, none⟩ (.string v7))) := Lib.hid (set_block q7 rfl)
                          have R_7 : Hid (RdAt r s a7 (w7.setCell ⟨p, 22, none⟩ (.string v7))) := Lib.hid (r7.setOther hrp _ _)
                          have G_7 : Hid (G2 r p w (w7.setCell ⟨p, 22, none⟩ (.string v7))) := Lib.hid ((G_6.out.trans (G2.of_gr g7)).setCell 22 _)
                          have mO7 := own_gr O6.out g7 (row_ne O6.out hlr)
                          have O7 : Hid ((w7.setCell ⟨p, 22, none⟩ (.string v7)).ownsRow w.heap.size 135 4 (.slice A5 v5.length cap5) v5.length (flatP v5)) := Lib.hid (own_set mO7 (row_ne mO7 hlp))
                          clear mO7 O6
                          clear hR r7 g7 q7 P_6 R_6 G_6
                          go_wp2
                          go_end0
                          rw [HX7.out]
                          exact ⟨fun _ => ⟨_, _, rfl, O7.out, (by rw [show ({ P1 with keep := v4, props := v5, client := v6, pass := v7 } : Pk).wprops = [] from HW0.out]; exact own_nil _ _ _ _), R_7.out, P_7.out, G_7.out⟩, fun h => absurd rfl h⟩
                        · obtain ⟨rfl, g7⟩ := hR.2 h7
                          exact ⟨rfl, ConP.left (by rw [HY20.out]; exact PK.bnd_bad h7) h7 (G_6.out.trans (G2.of_gr g7))⟩
                    · have y19 : w6.cell? ⟨p, 19, none⟩ = some (.bool true) := by rw [z19_6, hf19]
                      have Y19t := HY13.out.trans (PK.rdUser_t s _ (P := ({ P1 with keep := v4, props := v5, client := v6 } : Pk)) hf19)
                      try dsimp only at Y19t
                      have HY19 := Lib.hid Y19t
                      clear Y19t HY13 z19_6 hf19
                      have D8 := CT.out a6
                      generalize PK.rdT s a6 = Z at *
                      obtain ⟨v8, a8, c8⟩ := Z
                      simp only at D8
                      have E8 := Lib.hid (D8 _ G_6.out R_6.out)
                      clear D8
                      go_wp2_with fail
                      refine E8.out.mono ?_
                      rintro e w8 hR
                      clear E8
                      by_cases h8 : c8 = 0
                      · obtain ⟨rfl, r8, g8⟩ := hR.1 h8
                        have X8 := HY19.out
                        rw [PK.bnd_ok h8] at X8
                        have HX8 := Lib.hid X8
                        clear X8 h8 HY19
                        have q8 := P_6.out.gr g8 hpr
                        have z21 : w8.cell? ⟨p, 21, none⟩ = some (.string P1.user) := by rw [cell_heap q8]; rfl
                        have f21 : w8.frozen? ⟨p, 21, none⟩ = false := frozen_heap q8
                        have z20_8 : w8.cell? ⟨p, 20, none⟩ = some (.bool P1.hasPass) := by rw [cell_heap q8]; rfl
                        have P_8 : Hid (PbAt p ({ P1 with keep := v4, props := v5, client := v6, user := v8 } : Pk) vc (.slice A5 v5.length cap5) (.slice none 0 0) vs vf (w8.setCell ⟨p, 21, none⟩ (.string v8))) := Lib.hid (set_block q8 rfl)
                        have R_8 : Hid (RdAt r s a8 (w8.setCell ⟨p, 21, none⟩ (.string v8))) := Lib.hid (r8.setOther hrp _ _)
                        have G_8 : Hid (G2 r p w (w8.setCell ⟨p, 21, none⟩ (.string v8))) := Lib.hid ((G_6.out.trans (G2.of_gr g8)).setCell 21 _)
                        have mO8 := own_gr O6.out g8 (row_ne O6.out hlr)
                        have O8 : Hid ((w8.setCell ⟨p, 21, none⟩ (.string v8)).ownsRow w.heap.size 135 4 (.slice A5 v5.length cap5) v5.length (flatP v5)) := Lib.hid (own_set mO8 (row_ne mO8 hlp))
                        clear mO8 O6
                        clear hR r8 g8 q8 P_6 R_6 G_6
                        cases hf20 : P1.hasPass
                        · have y20 : w8.cell? ⟨p, 20, none⟩ = some (.bool false) := by rw [z20_8, hf20]
                          have Y20f := HX8.out.trans (PK.rdPass_f s _ (P := ({ P1 with keep := v4, props := v5, client := v6, user := v8 } : Pk)) hf20)
                          try dsimp only at Y20f
                          have HY20 := Lib.hid Y20f
                          clear Y20f HX8 z20_8 hf20
                          go_wp2
                          go_end0
                          rw [HY20.out]
                          exact ⟨fun _ => ⟨_, _, rfl, O8.out, (by rw [show ({ P1 with keep := v4, props := v5, client := v6, user := v8 } : Pk).wprops = [] from HW0.out]; exact own_nil _ _ _ _), R_8.out, P_8.out, G_8.out⟩, fun h => absurd rfl h⟩
                        · have y20 : w8.cell? ⟨p, 20, none⟩ = some (.bool true) := by rw [z20_8, hf20]
                          have Y20t := HX8.out.trans (PK.rdPass_t s _ (P := ({ P1 with keep := v4, props := v5, client := v6, user := v8 } : Pk)) hf20)
                          try dsimp only at Y20t
                          have HY20 := Lib.hid Y20t
                          clear Y20t HX8 z20_8 hf20
                          have D9 := CD.out a8
                          generalize PK.rdD s a8 = Z at *
                          obtain ⟨v9, a9, c9⟩ := Z
                          simp only at D9
                          have E9 := Lib.hid (D9 _ G_8.out R_8.out)
                          clear D9
                          go_wp2_with fail
                          refine E9.out.mono ?_
                          rintro e w9 hR
                          clear E9
                          by_cases h9 : c9 = 0
                          · obtain ⟨rfl, r9, g9⟩ := hR.1 h9
                            have X9 := HY20.out
                            rw [PK.bnd_ok h9] at X9
                            have HX9 := Lib.hid X9
                            clear X9 h9 HY20
                            have q9 := P_8.out.gr g9 hpr
                            have z22 : w9.cell? ⟨p, 22, none⟩ = some (.string P1.pass) := by rw [cell_heap q9]; rfl
                            have f22 : w9.frozen? ⟨p, 22, none⟩ = false := frozen_heap q9
                            have P_9 : Hid (PbAt p ({ P1 with keep := v4, props := v5, client := v6, user := v8, pass := v9 } : Pk) vc (.slice A5 v5.length cap5) (.slice none 0 0) vs vf (w9.setCell ⟨p, 22, none⟩ (.string v9))) := Lib.hid (set_block q9 rfl)
                            have R_9 : Hid (RdAt r s a9 (w9.setCell ⟨p, 22, none⟩ (.string v9))) := Lib.hid (r9.setOther hrp _ _)
                            have G_9 : Hid (G2 r p w (w9.setCell ⟨p, 22, none⟩ (.string v9))) := Lib.hid ((G_8.out.trans (G2.of_gr g9)).setCell 22 _)
                            have mO9 := own_gr O8.out g9 (row_ne O8.out hlr)
                            have O9 : Hid ((w9.setCell ⟨p, 22, none⟩ (.string v9)).ownsRow w.heap.size 135 4 (.slice A5 v5.length cap5) v5.length (flatP v5)) := Lib.hid (own_set mO9 (row_ne mO9 hlp))
                            clear mO9 O8
                            clear hR r9 g9 q9 P_8 R_8 G_8
                            go_wp2
                            go_end0
                            rw [HX9.out]
                            exact ⟨fun _ => ⟨_, _, rfl, O9.out, (by rw [show ({ P1 with keep := v4, props := v5, client := v6, user := v8, pass := v9 } : Pk).wprops = [] from HW0.out]; exact own_nil _ _ _ _), R_9.out, P_9.out, G_9.out⟩, fun h => absurd rfl h⟩
                          · obtain ⟨rfl, g9⟩ := hR.2 h9
                            exact ⟨rfl, ConP.left (by rw [HY20.out]; exact PK.bnd_bad h9) h9 (G_8.out.trans (G2.of_gr g9))⟩
                      · obtain ⟨rfl, g8⟩ := hR.2 h8
                        exact ⟨rfl, ConP.left (by rw [HY19.out]; exact PK.bnd_bad h8) h8 (G_6.out.trans (G2.of_gr g8))⟩
                  · have y13 : w6.cell? ⟨p, 13, none⟩ = some (.bool true) := by rw [z13_6, hf13]
                    have Y13t := HX6.out.trans (PK.rdWill_t s _ (P := ({ P1 with keep := v4, props := v5, client := v6 } : Pk)) hf13)
                    try dsimp only at Y13t
                    have HY13 := Lib.hid Y13t
                    clear Y13t HX6 z13_6 hf13
                    have D10 := CR.out 0 a6
                    generalize PK.rdPr s a6 0 = Z at *
                    obtain ⟨v10, a10, c10⟩ := Z
                    simp only at D10
                    have E10 := Lib.hid (D10 _ G_6.out R_6.out)
                    clear D10
                    go_wp2_with fail
                    refine E10.out.mono ?_
                    rintro e w10 hR
                    clear E10
                    by_cases h10 : c10 = 0
                    · obtain ⟨V10, rfl, o10, r10, g10⟩ := hR.1 h10
                      have X10 := HY13.out
                      rw [PK.bnd_ok h10] at X10
                      have HX10 := Lib.hid X10
                      clear X10 h10 HY13
                      have q10 := P_6.out.gr g10 hpr
                      obtain ⟨A10, cap10, rfl⟩ := own_form o10
                      have z18 : w10.cell? ⟨p, 18, none⟩ = some ((.slice none 0 0)) := by rw [cell_heap q10]; rfl
                      have f18 : w10.frozen? ⟨p, 18, none⟩ = false := frozen_heap q10
                      have P_10 : Hid (PbAt p ({ P1 with keep := v4, props := v5, client := v6, wprops := v10 } : Pk) vc (.slice A5 v5.length cap5) (.slice A10 v10.length cap10) vs vf (w10.setCell ⟨p, 18, none⟩ (.slice A10 v10.length cap10))) := Lib.hid (set_block q10 rfl)
                      have R_10 : Hid (RdAt r s a10 (w10.setCell ⟨p, 18, none⟩ (.slice A10 v10.length cap10))) := Lib.hid (r10.setOther hrp _ _)
                      have G_10 : Hid (G2 r p w (w10.setCell ⟨p, 18, none⟩ (.slice A10 v10.length cap10))) := Lib.hid ((G_6.out.trans (G2.of_gr g10)).setCell 18 _)
                      have mO10 := own_gr O6.out g10 (row_ne O6.out hlr)
                      have O10 : Hid ((w10.setCell ⟨p, 18, none⟩ (.slice A10 v10.length cap10)).ownsRow w.heap.size 135 4 (.slice A5 v5.length cap5) v5.length (flatP v5)) := Lib.hid (own_set mO10 (row_ne mO10 hlp))
                      clear mO10 O6
                      have b10 : w10.ownsRow w.heap.size 135 4 (.slice A10 v10.length cap10) v10.length (flatP v10) := own_base' o10 G_6.out.size
                      have U10 : Hid ((w10.setCell ⟨p, 18, none⟩ (.slice A10 v10.length cap10)).ownsRow w.heap.size 135 4 (.slice A10 v10.length cap10) v10.length (flatP v10)) := Lib.hid (own_set b10 (row_ne b10 hlp))
                      clear o10 b10
                      clear hR r10 g10 q10 P_6 R_6 G_6
                      have D11 := CT.out a10
                      generalize PK.rdT s a10 = Z at *
                      obtain ⟨v11, a11, c11⟩ := Z
                      simp only at D11
                      have E11 := Lib.hid (D11 _ G_10.out R_10.out)
                      clear D11
                      go_wp2_with fail
                      refine E11.out.mono ?_
                      rintro e w11 hR
                      clear E11
                      by_cases h11 : c11 = 0
                      · obtain ⟨rfl, r11, g11⟩ := hR.1 h11
                        have X11 := HX10.out
                        rw [PK.bnd_ok h11] at X11
                        have HX11 := Lib.hid X11
                        clear X11 h11 HX10
                        have q11 := P_10.out.gr g11 hpr
                        have z14 : w11.cell? ⟨p, 14, none⟩ = some (.string P1.wtopic) := by rw [cell_heap q11]; rfl
                        have f14 : w11.frozen? ⟨p, 14, none⟩ = false := frozen_heap q11
                        have P_11 : Hid (PbAt p ({ P1 with keep := v4, props := v5, client := v6, wprops := v10, wtopic := v11 } : Pk) vc (.slice A5 v5.length cap5) (.slice A10 v10.length cap10) vs vf (w11.setCell ⟨p, 14, none⟩ (.string v11))) := Lib.hid (set_block q11 rfl)
                        have R_11 : Hid (RdAt r s a11 (w11.setCell ⟨p, 14, none⟩ (.string v11))) := Lib.hid (r11.setOther hrp _ _)
                        have G_11 : Hid (G2 r p w (w11.setCell ⟨p, 14, none⟩ (.string v11))) := Lib.hid ((G_10.out.trans (G2.of_gr g11)).setCell 14 _)
                        have mO11 := own_gr O10.out g11 (row_ne O10.out hlr)
                        have O11 : Hid ((w11.setCell ⟨p, 14, none⟩ (.string v11)).ownsRow w.heap.size 135 4 (.slice A5 v5.length cap5) v5.length (flatP v5)) := Lib.hid (own_set mO11 (row_ne mO11 hlp))
                        clear mO11 O10
                        have mU11 := own_gr U10.out g11 (row_ne U10.out hlr)
                        have U11 : Hid ((w11.setCell ⟨p, 14, none⟩ (.string v11)).ownsRow w.heap.size 135 4 (.slice A10 v10.length cap10) v10.length (flatP v10)) := Lib.hid (own_set mU11 (row_ne mU11 hlp))
                        clear mU11 U10
                        clear hR r11 g11 q11 P_10 R_10 G_10
                        have D12 := CD.out a11
                        generalize PK.rdD s a11 = Z at *
                        obtain ⟨v12, a12, c12⟩ := Z
                        simp only at D12
                        have E12 := Lib.hid (D12 _ G_11.out R_11.out)
                        clear D12
                        go_wp2_with fail
                        refine E12.out.mono ?_
                        rintro e w12 hR
                        clear E12
                        by_cases h12 : c12 = 0
                        · obtain ⟨rfl, r12, g12⟩ := hR.1 h12
                          have X12 := HX11.out
                          rw [PK.bnd_ok h12] at X12
                          have HX12 := Lib.hid X12
                          clear X12 h12 HX11
                          have q12 := P_11.out.gr g12 hpr
                          have z15 : w12.cell? ⟨p, 15, none⟩ = some (.string P1.wpay) := by rw [cell_heap q12]; rfl
                          have f15 : w12.frozen? ⟨p, 15, none⟩ = false := frozen_heap q12
                          have z19_12 : w12.cell? ⟨p, 19, none⟩ = some (.bool P1.hasUser) := by rw [cell_heap q12]; rfl
                          have z20_12 : w12.cell? ⟨p, 20, none⟩ = some (.bool P1.hasPass) := by rw [cell_heap q12]; rfl
                          have P_12 : Hid (PbAt p ({ P1 with keep := v4, props := v5, client := v6, wprops := v10, wtopic := v11, wpay := v12 } : Pk) vc (.slice A5 v5.length cap5) (.slice A10 v10.length cap10) vs vf (w12.setCell ⟨p, 15, none⟩ (.string v12))) := Lib.hid (set_block q12 rfl)
                          have R_12 : Hid (RdAt r s a12 (w12.setCell ⟨p, 15, none⟩ (.string v12))) := Lib.hid (r12.setOther hrp _ _)
                          have G_12 : Hid (G2 r p w (w12.setCell ⟨p, 15, none⟩ (.string v12))) := Lib.hid ((G_11.out.trans (G2.of_gr g12)).setCell 15 _)
                          have mO12 := own_gr O11.out g12 (row_ne O11.out hlr)
                          have O12 : Hid ((w12.setCell ⟨p, 15, none⟩ (.string v12)).ownsRow w.heap.size 135 4 (.slice A5 v5.length cap5) v5.length (flatP v5)) := Lib.hid (own_set mO12 (row_ne mO12 hlp))
                          clear mO12 O11
                          have mU12 := own_gr U11.out g12 (row_ne U11.out hlr)
                          have U12 : Hid ((w12.setCell ⟨p, 15, none⟩ (.string v12)).ownsRow w.heap.size 135 4 (.slice A10 v10.length cap10) v10.length (flatP v10)) := Lib.hid (own_set mU12 (row_ne mU12 hlp))
                          clear mU12 U11
                          clear hR r12 g12 q12 P_11 R_11 G_11
                          cases hf19 : P1.hasUser
                          · have y19 : w12.cell? ⟨p, 19, none⟩ = some (.bool false) := by rw [z19_12, hf19]
                            have Y19f := HX12.out.trans (PK.rdUser_f s _ (P := ({ P1 with keep := v4, props := v5, client := v6, wprops := v10, wtopic := v11, wpay := v12 } : Pk)) hf19)
                            try dsimp only at Y19f
                            have HY19 := Lib.hid Y19f
                            clear Y19f HX12 z19_12 hf19
                            cases hf20 : P1.hasPass
                            · have y20 : w12.cell? ⟨p, 20, none⟩ = some (.bool false) := by rw [z20_12, hf20]
                              have Y20f := HY19.out.trans (PK.rdPass_f s _ (P := ({ P1 with keep := v4, props := v5, client := v6, wprops := v10, wtopic := v11, wpay := v12 } : Pk)) hf20)
                              try dsimp only at Y20f
                              have HY20 := Lib.hid Y20f
                              clear Y20f HY19 z20_12 hf20
                              go_wp2
                              go_end0
                              rw [HY20.out]
                              exact ⟨fun _ => ⟨_, _, rfl, O12.out, U12.out, R_12.out, P_12.out, G_12.out⟩, fun h => absurd rfl h⟩
                            · have y20 : w12.cell? ⟨p, 20, none⟩ = some (.bool true) := by rw [z20_12, hf20]
                              have Y20t := HY19.out.trans (PK.rdPass_t s _ (P := ({ P1 with keep := v4, props := v5, client := v6, wprops := v10, wtopic := v11, wpay := v12 } : Pk)) hf20)
                              try dsimp only at Y20t
                              have HY20 := Lib.hid Y20t
                              clear Y20t HY19 z20_12 hf20
                              have D13 := CD.out a12
                              generalize PK.rdD s a12 = Z at *
                              obtain ⟨v13, a13, c13⟩ := Z
                              simp only at D13
                              have E13 := Lib.hid (D13 _ G_12.out R_12.out)
                              clear D13
                              go_wp2_with fail
                              refine E13.out.mono ?_
                              rintro e w13 hR
                              clear E13
                              by_cases h13 : c13 = 0
                              · obtain ⟨rfl, r13, g13⟩ := hR.1 h13
                                have X13 := HY20.out
                                rw [PK.bnd_ok h13] at X13
                                have HX13 := Lib.hid X13
                                clear X13 h13 HY20
                                have q13 := P_12.out.gr g13 hpr
                                have z22 : w13.cell? ⟨p, 22, none⟩ = some (.string P1.pass) := by rw [cell_heap q13]; rfl
                                have f22 : w13.frozen? ⟨p, 22, none⟩ = false := frozen_heap q13
                                have P_13 : Hid (PbAt p ({ P1 with keep := v4, props := v5, client := v6, wprops := v10, wtopic := v11, wpay := v12, pass := v13 } : Pk) vc (.slice A5 v5.length cap5) (.slice A10 v10.length cap10) vs vf (w13.setCell ⟨p, 22, none⟩ (.string v13))) := Lib.hid (set_block q13 rfl)
                                have R_13 : Hid (RdAt r s a13 (w13.setCell ⟨p, 22, none⟩ (.string v13))) := Lib.hid (r13.setOther hrp _ _)
                                have G_13 : Hid (G2 r p w (w13.setCell ⟨p, 22, none⟩ (.string v13))) := Lib.hid ((G_12.out.trans (G2.of_gr g13)).setCell 22 _)
                                have mO13 := own_gr O12.out g13 (row_ne O12.out hlr)
                                have O13 : Hid ((w13.setCell ⟨p, 22, none⟩ (.string v13)).ownsRow w.heap.size 135 4 (.slice A5 v5.length cap5) v5.length (flatP v5)) := Lib.hid (own_set mO13 (row_ne mO13 hlp))
                                clear mO13 O12
                                have mU13 := own_gr U12.out g13 (row_ne U12.out hlr)
                                have U13 : Hid ((w13.setCell ⟨p, 22, none⟩ (.string v13)).ownsRow w.heap.size 135 4 (.slice A10 v10.length cap10) v10.length (flatP v10)) := Lib.hid (own_set mU13 (row_ne mU13 hlp))
                                clear mU13 U12
                                clear hR r13 g13 q13 P_12 R_12 G_12
                                go_wp2
                                go_end0
                                rw [HX13.out]
                                exact ⟨fun _ => ⟨_, _, rfl, O13.out, U13.out, R_13.out, P_13.out, G_13.out⟩, fun h => absurd rfl h⟩
                              · obtain ⟨rfl, g13⟩ := hR.2 h13
                                exact ⟨rfl, ConP.left (by rw [HY20.out]; exact PK.bnd_bad h13) h13 (G_12.out.trans (G2.of_gr g13))⟩
                          · have y19 : w12.cell? ⟨p, 19, none⟩ = some (.bool true) := by rw [z19_12, hf19]
                            have Y19t := HX12.out.trans (PK.rdUser_t s _ (P := ({ P1 with keep := v4, props := v5, client := v6, wprops := v10, wtopic := v11, wpay := v12 } : Pk)) hf19)
                            try dsimp only at Y19t
                            have HY19 := Lib.hid Y19t
                            clear Y19t HX12 z19_12 hf19
                            have D14 := CT.out a12
                            generalize PK.rdT s a12 = Z at *
                            obtain ⟨v14, a14, c14⟩ := Z
                            simp only at D14
                            have E14 := Lib.hid (D14 _ G_12.out R_12.out)
                            clear D14
                            go_wp2_with fail
                            refine E14.out.mono ?_
                            rintro e w14 hR
                            clear E14
                            by_cases h14 : c14 = 0
                            · obtain ⟨rfl, r14, g14⟩ := hR.1 h14
                              have X14 := HY19.out
                              rw [PK.bnd_ok h14] at X14
                              have HX14 := Lib.hid X14
                              clear X14 h14 HY19
                              have q14 := P_12.out.gr g14 hpr
                              have z21 : w14.cell? ⟨p, 21, none⟩ = some (.string P1.user) := by rw [cell_heap q14]; rfl
                              have f21 : w14.frozen? ⟨p, 21, none⟩ = false := frozen_heap q14
                              have z20_14 : w14.cell? ⟨p, 20, none⟩ = some (.bool P1.hasPass) := by rw [cell_heap q14]; rfl
                              have P_14 : Hid (PbAt p ({ P1 with keep := v4, props := v5, client := v6, wprops := v10, wtopic := v11, wpay := v12, user := v14 } : Pk) vc (.slice A5 v5.length cap5) (.slice A10 v10.length cap10) vs vf (w14.setCell ⟨p, 21, none⟩ (.string v14))) := Lib.hid (set_block q14 rfl)
                              have R_14 : Hid (RdAt r s a14 (w14.setCell ⟨p, 21, none⟩ (.string v14))) := Lib.hid (r14.setOther hrp _ _)
                              have G_14 : Hid (G2 r p w (w14.setCell ⟨p, 21, none⟩ (.string v14))) := Lib.hid ((G_12.out.trans (G2.of_gr g14)).setCell 21 _)
                              have mO14 := own_gr O12.out g14 (row_ne O12.out hlr)
                              have O14 : Hid ((w14.setCell ⟨p, 21, none⟩ (.string v14)).ownsRow w.heap.size 135 4 (.slice A5 v5.length cap5) v5.length (flatP v5)) := Lib.hid (own_set mO14 (row_ne mO14 hlp))
                              clear mO14 O12
                              have mU14 := own_gr U12.out g14 (row_ne U12.out hlr)
                              have U14 : Hid ((w14.setCell ⟨p, 21, none⟩ (.string v14)).ownsRow w.heap.size 135 4 (.slice A10 v10.length cap10) v10.length (flatP v10)) := Lib.hid (own_set mU14 (row_ne mU14 hlp))
                              clear mU14 U12
                              clear hR r14 g14 q14 P_12 R_12 G_12
                              cases hf20 : P1.hasPass
                              · have y20 : w14.cell? ⟨p, 20, none⟩ = some (.bool false) := by rw [z20_14, hf20]
                                have Y20f := HX14.out.trans (PK.rdPass_f s _ (P := ({ P1 with keep := v4, props := v5, client := v6, wprops := v10, wtopic := v11, wpay := v12, user := v14 } : Pk)) hf20)
                                try dsimp only at Y20f
                                have HY20 := Lib.hid Y20f
                                clear Y20f HX14 z20_14 hf20
                                go_wp2
                                go_end0
                                rw [HY20.out]
                                exact ⟨fun _ => ⟨_, _, rfl, O14.out, U14.out, R_14.out, P_14.out, G_14.out⟩, fun h => absurd rfl h⟩
                              · have y20 : w14.cell? ⟨p, 20, none⟩ = some (.bool true) := by rw [z20_14, hf20]
                                have Y20t := HX14.out.trans (PK.rdPass_t s _ (P := ({ P1 with keep := v4, props := v5, client := v6, wprops := v10, wtopic := v11, wpay := v12, user := v14 } : Pk)) hf20)
                                try dsimp only at Y20t
                                have HY20 := Lib.hid Y20t
                                clear Y20t HX14 z20_14 hf20
                                have D15 := CD.out a14
                                generalize PK.rdD s a14 = Z at *
                                obtain ⟨v15, a15, c15⟩ := Z
                                simp only at D15
                                have E15 := Lib.hid (D15 _ G_14.out R_14.out)
                                clear D15
                                go_wp2_with fail
                                refine E15.out.mono ?_
                                rintro e w15 hR
                                clear E15
                                by_cases h15 : c15 = 0
                                · obtain ⟨rfl, r15, g15⟩ := hR.1 h15
                                  have X15 := HY20.out
                                  rw [PK.bnd_ok h15] at X15
                                  have HX15 := Lib.hid X15
                                  clear X15 h15 HY20
                                  have q15 := P_14.out.gr g15 hpr
                                  have z22 : w15.cell? ⟨p, 22, none⟩ = some (.string P1.pass) := by rw [cell_heap q15]; rfl
                                  have f22 : w15.frozen? ⟨p, 22, none⟩ = false := frozen_heap q15
                                  have P_15 : Hid (PbAt p ({ P1 with keep := v4, props := v5, client := v6, wprops := v10, wtopic := v11, wpay := v12, user := v14, pass := v15 } : Pk) vc (.slice A5 v5.length cap5) (.slice A10 v10.length cap10) vs vf (w15.setCell ⟨p, 22, none⟩ (.string v15))) := Lib.hid (set_block q15 rfl)
                                  have R_15 : Hid (RdAt r s a15 (w15.setCell ⟨p, 22, none⟩ (.string v15))) := Lib.hid (r15.setOther hrp _ _)
                                  have G_15 : Hid (G2 r p w (w15.setCell ⟨p, 22, none⟩ (.string v15))) := Lib.hid ((G_14.out.trans (G2.of_gr g15)).setCell 22 _)
                                  have mO15 := own_gr O14.out g15 (row_ne O14.out hlr)
                                  have O15 : Hid ((w15.setCell ⟨p, 22, none⟩ (.string v15)).ownsRow w.heap.size 135 4 (.slice A5 v5.length cap5) v5.length (flatP v5)) := Lib.hid (own_set mO15 (row_ne mO15 hlp))
                                  clear mO15 O14
                                  have mU15 := own_gr U14.out g15 (row_ne U14.out hlr)
                                  have U15 : Hid ((w15.setCell ⟨p, 22, none⟩ (.string v15)).ownsRow w.heap.size 135 4 (.slice A10 v10.length cap10) v10.length (flatP v10)) := Lib.hid (own_set mU15 (row_ne mU15 hlp))
                                  clear mU15 U14
                                  clear hR r15 g15 q15 P_14 R_14 G_14
                                  go_wp2
                                  go_end0
                                  rw [HX15.out]
                                  exact ⟨fun _ => ⟨_, _, rfl, O15.out, U15.out, R_15.out, P_15.out, G_15.out⟩, fun h => absurd rfl h⟩
                                · obtain ⟨rfl, g15⟩ := hR.2 h15
                                  exact ⟨rfl, ConP.left (by rw [HY20.out]; exact PK.bnd_bad h15) h15 (G_14.out.trans (G2.of_gr g15))⟩
                            · obtain ⟨rfl, g14⟩ := hR.2 h14
                              exact ⟨rfl, ConP.left (by rw [HY19.out]; exact PK.bnd_bad h14) h14 (G_12.out.trans (G2.of_gr g14))⟩
                        · obtain ⟨rfl, g12⟩ := hR.2 h12
                          exact ⟨rfl, ConP.left (by rw [HX11.out]; exact PK.bnd_bad h12) h12 (G_11.out.trans (G2.of_gr g12))⟩
                      · obtain ⟨rfl, g11⟩ := hR.2 h11
                        exact ⟨rfl, ConP.left (by rw [HX10.out]; exact PK.bnd_bad h11) h11 (G_10.out.trans (G2.of_gr g11))⟩
                    · obtain ⟨rfl, g10⟩ := hR.2 h10
                      exact ⟨rfl, ConP.left (by rw [HY13.out]; exact PK.bnd_bad h10) h10 (G_6.out.trans (G2.of_gr g10))⟩
                · obtain ⟨rfl, g6⟩ := hR.2 h6
                  exact ⟨rfl, ConP.left (by rw [HX5.out]; exact PK.bnd_bad h6) h6 (G_5.out.trans (G2.of_gr g6))⟩
              · obtain ⟨rfl, g5⟩ := hR.2 h5
                exact ⟨rfl, ConP.left (by rw [HX4.out]; exact PK.bnd_bad h5) h5 (G_4.out.trans (G2.of_gr g5))⟩
            · obtain ⟨rfl, g4⟩ := hR.2 h4
              exact ⟨rfl, ConP.left (by rw [HXs.out]; exact PK.bnd_bad h4) h4 (G_3.out.trans (G2.of_gr g4))⟩
          · obtain ⟨rfl, g3⟩ := hR.2 h3
            exact ⟨rfl, ConP.left (by rw [HXv.out]; exact PK.bnd_bad h3) h3 (G_2.out.trans g3)⟩
        · have Y : Hid (X = (P, 0, 132)) := Lib.hid (by have := HX2.out; rw [if_pos hv] at this; exact this)
          have hv2 : (v2 == 5) = false := by rw [beq_eq_false_iff_ne]; exact hv
          clear HX2
          go_wp2_with fail
          refine (CL.out _ _).mono ?_
          rintro e w' ⟨rfl, rfl⟩
          exact ⟨rfl, ConP.left Y.out (by decide) G_2.out⟩
      · obtain ⟨rfl, g2⟩ := hR.2 h2
        exact ⟨rfl, ConP.left (by rw [HXm.out]; exact PK.bnd_bad h2) h2 (G_1.out.trans (G2.of_gr g2))⟩
    · have Y : Hid (X = (P, 0, 129)) := Lib.hid (by have := HX1.out; rw [if_pos hm] at this; exact this)
      have hv2 : (v1.toList == [77, 81, 84, 84]) = false := by
        rw [beq_eq_false_iff_ne]
        intro e
        exact hm (toList_same (e.trans (by rw [ByteArray.toList_eq])))
      clear HX1
      go_wp2_with fail
      refine (CL.out _ _).mono ?_
      rintro e w' ⟨rfl, rfl⟩
      exact ⟨rfl, ConP.left Y.out (by decide) G_1.out⟩
  · obtain ⟨rfl, g1⟩ := hR.2 h1
    exact ⟨rfl, ConP.left (by rw [HX0.out]; exact PK.bnd_bad h1) h1 (G0.out.trans (G2.of_gr g1))⟩
end Go.Proofs.YtmldnaadjhnfcaaGreatDoor
namespace Go.Proofs.YtmldnaadjhnfcaaGreatDoor
open Go.RowKit
attribute [local go_sem ↓] Go.wp_at_zero Go.wp_at_succ

namespace PK
def rdEndP (s : ByteArray) (a k : Int) (P : Pk) : Pk × Int × Int := ({ P with code := (rdEnd s a k).1.1, props := (rdEnd s a k).1.2 }, (rdEnd s a k).2.1, (rdEnd s a k).2.2)
/-- What follows the length of a packet of kind k. -/
def partsK (k : Int) (s : ByteArray) (a : Int) (P : Pk) : Pk × Int × Int :=
  if k = 1 then rdConn s a P
  else if k = 2 then bnd P (rdSes s a) (fun v a => bnd P (rdC s a) (fun c a => bnd P (rdPr s a k) (fun l a => ({ P with session := v, code := c, props := l }, a, 0))))
  else if k = 3 then ({ P with topic := (rdPub s a k P.qos P.id).1.1, id := (rdPub s a k P.qos P.id).1.2.1, props := (rdPub s a k P.qos P.id).1.2.2.1, pay := (rdPub s a k P.qos P.id).1.2.2.2 }, (rdPub s a k P.qos P.id).2.1, (rdPub s a k P.qos P.id).2.2)
  else if k = 8 then bnd P (rdHd s a k) (fun h a => bnd P (lst (rdSub s) s.size 66 a []) (fun l a => ({ P with id := h.1, props := h.2, subs := l }, a, 0)))
  else if k = 10 then bnd P (rdHd s a k) (fun h a => bnd P (lst (rdT s) s.size 66 a []) (fun l a => ({ P with id := h.1, props := h.2, filters := l }, a, 0)))
  else if k = 9 ∨ k = 11 then bnd P (rdHd s a k) (fun h a => bnd P (lst (rdC s) s.size 66 a []) (fun l a => ({ P with id := h.1, props := h.2, codes := l }, a, 0)))
  else if k = 4 ∨ k = 5 ∨ k = 6 ∨ k = 7 then bnd P (rdId s a) (fun i a => rdEndP s a k { P with id := i })
  else if k = 14 ∨ k = 15 then rdEndP s a k P
  else (P, a, 0)
end PK
namespace PK
def Same3 (P Q : Pk) : Prop := Q.codes = P.codes ∧ Q.subs = P.subs ∧ Q.filters = P.filters
theorem bnd_keeps {α : Type} {P P0 : Pk} {x : α × Int × Int} {f : α → Int → Pk × Int × Int} (h0 : Same3 P0 P) (h : ∀ v a, Same3 P0 (f v a).1) : Same3 P0 (bnd P x f).1 := by
  unfold bnd; split
  · exact h0
  · exact h _ _
theorem rdPass_keeps {P0 : Pk} (s : ByteArray) (a : Int) (P : Pk) (h : Same3 P0 P) : Same3 P0 (rdPass s a P).1 := by
  unfold rdPass; split
  · exact bnd_keeps h (fun _ _ => h)
  · exact h
theorem rdUser_keeps {P0 : Pk} (s : ByteArray) (a : Int) (P : Pk) (h : Same3 P0 P) : Same3 P0 (rdUser s a P).1 := by
  unfold rdUser; split
  · exact bnd_keeps h (fun _ _ => rdPass_keeps _ _ _ h)
  · exact rdPass_keeps _ _ _ h
theorem rdWill_keeps {P0 : Pk} (s : ByteArray) (a : Int) (P : Pk) (h : Same3 P0 P) : Same3 P0 (rdWill s a P).1 := by
  unfold rdWill; split
  · exact bnd_keeps h (fun _ _ => bnd_keeps h (fun _ _ => bnd_keeps h (fun _ _ => rdUser_keeps _ _ _ h)))
  · exact rdUser_keeps _ _ _ h
theorem rdConn_keeps (s : ByteArray) (a : Int) (P : Pk) : Same3 P (rdConn s a P).1 := by
  have h : Same3 P P := ⟨rfl, rfl, rfl⟩
  have h2 : ∀ n, Same3 P (cflPk P n) := fun _ => ⟨rfl, rfl, rfl⟩
  unfold rdConn
  refine bnd_keeps h (fun _ _ => ?_)
  split
  · exact h
  · refine bnd_keeps h (fun _ _ => ?_)
    split
    · exact h
    · refine bnd_keeps h (fun _ _ => ?_)
      unfold rdConn1
      exact bnd_keeps (h2 _) (fun _ _ => bnd_keeps (h2 _) (fun _ _ => bnd_keeps (h2 _) (fun _ _ => rdWill_keeps _ _ _ ⟨rfl, rfl, rfl⟩)))
end PK
/-- A packet as begin lays it: nothing but what its first byte tells. -/
structure Bare (P : Pk) : Prop where
  code : P.code = 0
  codes : P.codes = []
  props : P.props = []
  wprops : P.wprops = []
  subs : P.subs = []
  filters : P.filters = []
/-- The five rows of a packet that was read. -/
structure Own5 (B : Nat) (P : Pk) (vc vp vw vs vf : Value) (w : World) : Prop where
  codes : w.ownsRow B 23 1 vc P.codes.length (flatC P.codes)
  props : w.ownsRow B 135 4 vp P.props.length (flatP P.props)
  wprops : w.ownsRow B 135 4 vw P.wprops.length (flatP P.wprops)
  subs : w.ownsRow B 66 5 vs P.subs.length (flatB P.subs)
  filters : w.ownsRow B 9 1 vf P.filters.length (flatT P.filters)
/-- What the reader's parts answers. -/
def PtP (r p : Nat) (s : ByteArray) (w : World) (X : Pk × Int × Int) (e : Ending) (w' : World) : Prop :=
  (X.2.2 = 0 → ∃ vc vp vw vs vf, e = .returned (.tuple #[]) ∧ Own5 w.heap.size X.1 vc vp vw vs vf w' ∧ RdAt r s X.2.1 w' ∧ PbAt p X.1 vc vp vw vs vf w' ∧ G2 r p w w') ∧ (X.2.2 ≠ 0 → e = leftBy X.2.2 ∧ G2 r p w w')
theorem PtP.left {r p : Nat} {s : ByteArray} {w w' : World} {X : Pk × Int × Int} {c : Int} (hX : X.2.2 = c) (hc : c ≠ 0) (hg : G2 r p w w') : PtP r p s w X (leftBy c) w' := by
  subst hX; exact ⟨fun h => absurd h hc, fun _ => ⟨rfl, hg⟩⟩

set_option maxRecDepth 100000 in
set_option maxHeartbeats 2000000 in
theorem rparts_1 (r p : Nat) (s : ByteArray) (a : Int) (P : Pk) (w : World) (hk : P.kind = 1) (hB : Bare P) (h : RdAt r s a w) (hp : PbAt p P (.slice none 0 0) (.slice none 0 0) (.slice none 0 0) (.slice none 0 0) (.slice none 0 0) w) (hs : s.size ≤ 140737488351232) (hT : ∀ W, G2 r p w W → Tabs W) (hrp : r ≠ p) :
    Calls Tryz.prog 48 #[.pointer (some ⟨r, 0, none⟩), .pointer (some ⟨p, 0, none⟩)] w (PtP r p s w (PK.partsK P.kind s a P)) := by
  have z0 : w.cell? ⟨p, 0, none⟩ = some (.int .i64 1) := by rw [cell_heap hp]; exact congrArg (fun x => some (Value.int .i64 x)) hk
  have HB := Lib.hid hB
  have HP := Lib.hid hp
  have HR := Lib.hid h
  have C : Hid (Calls Tryz.prog 81 #[.pointer (some ⟨r, 0, none⟩), .pointer (some ⟨p, 0, none⟩)] w (ConP r p s (.slice none 0 0) (.slice none 0 0) (.slice none 0 0) w (PK.rdConn s a P))) := rconn_any r p s a P _ _ _ w h hp hB.wprops hs hT hrp
  obtain ⟨X, hX⟩ : ∃ X, X = PK.partsK P.kind s a P := ⟨_, rfl⟩
  rw [← hX]
  rw [hk] at hX
  have e0 : PK.partsK 1 s a P = PK.rdConn s a P := rfl
  have KC := Lib.hid (PK.rdConn_keeps s a P)
  rw [e0] at hX
  rw [← hX] at C KC
  have HX := Lib.hid hX
  clear hX h hp hT hB hk
  go_enter Tryz.func48, Tryz.ntmps48
  go_wp2_with fail
  refine C.out.mono ?_
  rintro e w1 hR
  by_cases hc : X.2.2 = 0
  · obtain ⟨vp, vw, rfl, o1, o2, r1, p1, g1⟩ := hR.1 hc
    have O1 := Lib.hid o1
    have O2 := Lib.hid o2
    have R1 := Lib.hid r1
    have P1 := Lib.hid p1
    have G1 := Lib.hid g1
    have HC := Lib.hid hc
    clear hR o1 o2 r1 p1 g1 hc
    go_wp2
    go_end0
    obtain ⟨k1, k2, k3⟩ := KC.out
    exact ⟨fun _ => ⟨_, _, _, _, _, rfl, ⟨by rw [k1, HB.out.codes]; exact own_nil _ _ _ _, O1.out, O2.out, by rw [k2, HB.out.subs]; exact own_nil _ _ _ _, by rw [k3, HB.out.filters]; exact own_nil _ _ _ _⟩, R1.out, P1.out, G1.out⟩, fun h => absurd HC.out h⟩
  · obtain ⟨rfl, g1⟩ := hR.2 hc
    exact ⟨rfl, PtP.left rfl hc g1⟩

set_option maxRecDepth 100000 in
set_option maxHeartbeats 2000000 in
theorem rparts_3 (r p : Nat) (s : ByteArray) (a : Int) (P : Pk) (w : World) (hk : P.kind = 3) (hB : Bare P) (h : RdAt r s a w) (hp : PbAt p P (.slice none 0 0) (.slice none 0 0) (.slice none 0 0) (.slice none 0 0) (.slice none 0 0) w) (hs : s.size ≤ 140737488351232) (hT : ∀ W, G2 r p w W → Tabs W) (hrp : r ≠ p) :
    Calls Tryz.prog 48 #[.pointer (some ⟨r, 0, none⟩), .pointer (some ⟨p, 0, none⟩)] w (PtP r p s w (PK.partsK P.kind s a P)) := by
  have z0 : w.cell? ⟨p, 0, none⟩ = some (.int .i64 3) := by rw [cell_heap hp]; exact congrArg (fun x => some (Value.int .i64 x)) hk
  have HB := Lib.hid hB
  have HP := Lib.hid hp
  have HR := Lib.hid h
  have C : Hid (Calls Tryz.prog 85 #[.pointer (some ⟨r, 0, none⟩), .pointer (some ⟨p, 0, none⟩)] w (PubP r p s P (.slice none 0 0) (.slice none 0 0) (.slice none 0 0) (.slice none 0 0) w (PK.rdPub s a P.kind P.qos P.id))) := rpublish_any r p s a P _ _ _ _ _ w h hp hs hT hrp
  rw [hk] at C
  obtain ⟨X, hX⟩ : ∃ X, X = PK.partsK P.kind s a P := ⟨_, rfl⟩
  rw [← hX]
  rw [hk] at hX
  have e0 : PK.partsK 3 s a P = ({ P with topic := (PK.rdPub s a 3 P.qos P.id).1.1, id := (PK.rdPub s a 3 P.qos P.id).1.2.1, props := (PK.rdPub s a 3 P.qos P.id).1.2.2.1, pay := (PK.rdPub s a 3 P.qos P.id).1.2.2.2 }, (PK.rdPub s a 3 P.qos P.id).2.1, (PK.rdPub s a 3 P.qos P.id).2.2) := rfl
  rw [e0] at hX
  clear e0
  generalize PK.rdPub s a 3 P.qos P.id = Y at *
  have HX := Lib.hid hX
  clear hX h hp hT hB hk
  go_enter Tryz.func48, Tryz.ntmps48
  go_wp2_with fail
  refine C.out.mono ?_
  rintro e w1 hR
  by_cases hc : Y.2.2 = 0
  · obtain ⟨v, rfl, o1, r1, p1, g1⟩ := hR.1 hc
    have O1 := Lib.hid o1
    have R1 := Lib.hid r1
    have P1 := Lib.hid p1
    have G1 := Lib.hid g1
    have HC := Lib.hid hc
    clear hR o1 r1 p1 g1 hc
    go_wp2
    go_end0
    rw [HX.out]
    exact ⟨fun _ => ⟨_, _, _, _, _, rfl, ⟨by simp only; rw [HB.out.codes]; exact own_nil _ _ _ _, O1.out, by simp only; rw [HB.out.wprops]; exact own_nil _ _ _ _, by simp only; rw [HB.out.subs]; exact own_nil _ _ _ _, by simp only; rw [HB.out.filters]; exact own_nil _ _ _ _⟩, R1.out, P1.out, G1.out⟩, fun h => absurd HC.out h⟩
  · obtain ⟨rfl, g1⟩ := hR.2 hc
    exact ⟨rfl, PtP.left (by rw [HX.out]) hc g1⟩

set_option maxRecDepth 100000 in
set_option maxHeartbeats 2000000 in
theorem rparts_14 (r p : Nat) (s : ByteArray) (a : Int) (P : Pk) (w : World) (hk : P.kind = 14) (hB : Bare P) (h : RdAt r s a w) (hp : PbAt p P (.slice none 0 0) (.slice none 0 0) (.slice none 0 0) (.slice none 0 0) (.slice none 0 0) w) (hs : s.size ≤ 140737488351232) (hT : ∀ W, G2 r p w W → Tabs W) (hrp : r ≠ p) :
    Calls Tryz.prog 48 #[.pointer (some ⟨r, 0, none⟩), .pointer (some ⟨p, 0, none⟩)] w (PtP r p s w (PK.partsK P.kind s a P)) := by
  have z0 : w.cell? ⟨p, 0, none⟩ = some (.int .i64 14) := by rw [cell_heap hp]; exact congrArg (fun x => some (Value.int .i64 x)) hk
  have HB := Lib.hid hB
  have HP := Lib.hid hp
  have HR := Lib.hid h
  have C : Hid (Calls Tryz.prog 93 #[.pointer (some ⟨r, 0, none⟩), .pointer (some ⟨p, 0, none⟩)] w (EdP r p s P (.slice none 0 0) (.slice none 0 0) (.slice none 0 0) (.slice none 0 0) w (PK.rdEnd s a P.kind))) := rending_any r p s a P _ _ _ _ w h hp hB.code hB.props hs hT hrp
  rw [hk] at C
  obtain ⟨X, hX⟩ : ∃ X, X = PK.partsK P.kind s a P := ⟨_, rfl⟩
  rw [← hX]
  rw [hk] at hX
  have e0 : PK.partsK 14 s a P = ({ P with code := (PK.rdEnd s a 14).1.1, props := (PK.rdEnd s a 14).1.2 }, (PK.rdEnd s a 14).2.1, (PK.rdEnd s a 14).2.2) := rfl
  rw [e0] at hX
  clear e0
  generalize PK.rdEnd s a 14 = Y at *
  have HX := Lib.hid hX
  clear hX h hp hT hB hk
  go_enter Tryz.func48, Tryz.ntmps48
  go_wp2_with fail
  refine C.out.mono ?_
  rintro e w1 hR
  by_cases hc : Y.2.2 = 0
  · obtain ⟨v, rfl, o1, r1, p1, g1⟩ := hR.1 hc
    have O1 := Lib.hid o1
    have R1 := Lib.hid r1
    have P1 := Lib.hid p1
    have G1 := Lib.hid g1
    have HC := Lib.hid hc
    clear hR o1 r1 p1 g1 hc
    go_wp2
    go_end0
    rw [HX.out]
    exact ⟨fun _ => ⟨_, _, _, _, _, rfl, ⟨by simp only; rw [HB.out.codes]; exact own_nil _ _ _ _, O1.out, by simp only; rw [HB.out.wprops]; exact own_nil _ _ _ _, by simp only; rw [HB.out.subs]; exact own_nil _ _ _ _, by simp only; rw [HB.out.filters]; exact own_nil _ _ _ _⟩, R1.out, P1.out, G1.out⟩, fun h => absurd HC.out h⟩
  · obtain ⟨rfl, g1⟩ := hR.2 hc
    exact ⟨rfl, PtP.left (by rw [HX.out]) hc g1⟩

set_option maxRecDepth 100000 in
set_option maxHeartbeats 2000000 in
theorem rparts_15 (r p : Nat) (s : ByteArray) (a : Int) (P : Pk) (w : World) (hk : P.kind = 15) (hB : Bare P) (h : RdAt r s a w) (hp : PbAt p P (.slice none 0 0) (.slice none 0 0) (.slice none 0 0) (.slice none 0 0) (.slice none 0 0) w) (hs : s.size ≤ 140737488351232) (hT : ∀ W, G2 r p w W → Tabs W) (hrp : r ≠ p) :
    Calls Tryz.prog 48 #[.pointer (some ⟨r, 0, none⟩), .pointer (some ⟨p, 0, none⟩)] w (PtP r p s w (PK.partsK P.kind s a P)) := by
  have z0 : w.cell? ⟨p, 0, none⟩ = some (.int .i64 15) := by rw [cell_heap hp]; exact congrArg (fun x => some (Value.int .i64 x)) hk
  have HB := Lib.hid hB
  have HP := Lib.hid hp
  have HR := Lib.hid h
  have C : Hid (Calls Tryz.prog 93 #[.pointer (some ⟨r, 0, none⟩), .pointer (some ⟨p, 0, none⟩)] w (EdP r p s P (.slice none 0 0) (.slice none 0 0) (.slice none 0 0) (.slice none 0 0) w (PK.rdEnd s a P.kind))) := rending_any r p s a P _ _ _ _ w h hp hB.code hB.props hs hT hrp
  rw [hk] at C
  obtain ⟨X, hX⟩ : ∃ X, X = PK.partsK P.kind s a P := ⟨_, rfl⟩
  rw [← hX]
  rw [hk] at hX
  have e0 : PK.partsK 15 s a P = ({ P with code := (PK.rdEnd s a 15).1.1, props := (PK.rdEnd s a 15).1.2 }, (PK.rdEnd s a 15).2.1, (PK.rdEnd s a 15).2.2) := rfl
  rw [e0] at hX
  clear e0
  generalize PK.rdEnd s a 15 = Y at *
  have HX := Lib.hid hX
  clear hX h hp hT hB hk
  go_enter Tryz.func48, Tryz.ntmps48
  go_wp2_with fail
  refine C.out.mono ?_
  rintro e w1 hR
  by_cases hc : Y.2.2 = 0
  · obtain ⟨v, rfl, o1, r1, p1, g1⟩ := hR.1 hc
    have O1 := Lib.hid o1
    have R1 := Lib.hid r1
    have P1 := Lib.hid p1
    have G1 := Lib.hid g1
    have HC := Lib.hid hc
    clear hR o1 r1 p1 g1 hc
    go_wp2
    go_end0
    rw [HX.out]
    exact ⟨fun _ => ⟨_, _, _, _, _, rfl, ⟨by simp only; rw [HB.out.codes]; exact own_nil _ _ _ _, O1.out, by simp only; rw [HB.out.wprops]; exact own_nil _ _ _ _, by simp only; rw [HB.out.subs]; exact own_nil _ _ _ _, by simp only; rw [HB.out.filters]; exact own_nil _ _ _ _⟩, R1.out, P1.out, G1.out⟩, fun h => absurd HC.out h⟩
  · obtain ⟨rfl, g1⟩ := hR.2 hc
    exact ⟨rfl, PtP.left (by rw [HX.out]) hc g1⟩

set_option maxRecDepth 100000 in
set_option maxHeartbeats 2000000 in
theorem rparts_12 (r p : Nat) (s : ByteArray) (a : Int) (P : Pk) (w : World) (hk : P.kind = 12) (hB : Bare P) (h : RdAt r s a w) (hp : PbAt p P (.slice none 0 0) (.slice none 0 0) (.slice none 0 0) (.slice none 0 0) (.slice none 0 0) w) (_hs : s.size ≤ 140737488351232) (_hT : ∀ W, G2 r p w W → Tabs W) (_hrp : r ≠ p) :
    Calls Tryz.prog 48 #[.pointer (some ⟨r, 0, none⟩), .pointer (some ⟨p, 0, none⟩)] w (PtP r p s w (PK.partsK P.kind s a P)) := by
  have z0 : w.cell? ⟨p, 0, none⟩ = some (.int .i64 12) := by rw [cell_heap hp]; exact congrArg (fun x => some (Value.int .i64 x)) hk
  have HB := Lib.hid hB
  have HP := Lib.hid hp
  have HR := Lib.hid h
  obtain ⟨X, hX⟩ : ∃ X, X = PK.partsK P.kind s a P := ⟨_, rfl⟩
  rw [← hX]
  rw [hk] at hX
  have e0 : PK.partsK 12 s a P = (P, a, 0) := rfl
  rw [e0] at hX
  have HX := Lib.hid hX
  clear e0 hX h hp hB hk
  go_enter Tryz.func48, Tryz.ntmps48
  go_wp2
  go_end0
  rw [HX.out]
  exact ⟨fun _ => ⟨_, _, _, _, _, rfl, ⟨by simp only; rw [HB.out.codes]; exact own_nil _ _ _ _, by simp only; rw [HB.out.props]; exact own_nil _ _ _ _, by simp only; rw [HB.out.wprops]; exact own_nil _ _ _ _, by simp only; rw [HB.out.subs]; exact own_nil _ _ _ _, by simp only; rw [HB.out.filters]; exact own_nil _ _ _ _⟩, HR.out, HP.out, G2.refl r p w⟩, fun h => absurd rfl h⟩

set_option maxRecDepth 100000 in
set_option maxHeartbeats 2000000 in
theorem rparts_13 (r p : Nat) (s : ByteArray) (a : Int) (P : Pk) (w : World) (hk : P.kind = 13) (hB : Bare P) (h : RdAt r s a w) (hp : PbAt p P (.slice none 0 0) (.slice none 0 0) (.slice none 0 0) (.slice none 0 0) (.slice none 0 0) w) (_hs : s.size ≤ 140737488351232) (_hT : ∀ W, G2 r p w W → Tabs W) (_hrp : r ≠ p) :
    Calls Tryz.prog 48 #[.pointer (some ⟨r, 0, none⟩), .pointer (some ⟨p, 0, none⟩)] w (PtP r p s w (PK.partsK P.kind s a P)) := by
  have z0 : w.cell? ⟨p, 0, none⟩ = some (.int .i64 13) := by rw [cell_heap hp]; exact congrArg (fun x => some (Value.int .i64 x)) hk
  have HB := Lib.hid hB
  have HP := Lib.hid hp
  have HR := Lib.hid h
  obtain ⟨X, hX⟩ : ∃ X, X = PK.partsK P.kind s a P := ⟨_, rfl⟩
  rw [← hX]
  rw [hk] at hX
  have e0 : PK.partsK 13 s a P = (P, a, 0) := rfl
  rw [e0] at hX
  have HX := Lib.hid hX
  clear e0 hX h hp hB hk
  go_enter Tryz.func48, Tryz.ntmps48
  go_wp2
  go_end0
  rw [HX.out]
  exact ⟨fun _ => ⟨_, _, _, _, _, rfl, ⟨by simp only; rw [HB.out.codes]; exact own_nil _ _ _ _, by simp only; rw [HB.out.props]; exact own_nil _ _ _ _, by simp only; rw [HB.out.wprops]; exact own_nil _ _ _ _, by simp only; rw [HB.out.subs]; exact own_nil _ _ _ _, by simp only; rw [HB.out.filters]; exact own_nil _ _ _ _⟩, HR.out, HP.out, G2.refl r p w⟩, fun h => absurd rfl h⟩
end Go.Proofs.YtmldnaadjhnfcaaGreatDoor
namespace Go.Proofs.YtmldnaadjhnfcaaGreatDoor
open Go.RowKit
attribute [local go_sem ↓] Go.wp_at_zero Go.wp_at_succ

set_option maxRecDepth 100000 in
set_option maxHeartbeats 2000000 in
theorem rparts_4 (r p : Nat) (s : ByteArray) (a : Int) (P : Pk) (w : World) (hk : P.kind = 4) (hB : Bare P) (h : RdAt r s a w) (hp : PbAt p P (.slice none 0 0) (.slice none 0 0) (.slice none 0 0) (.slice none 0 0) (.slice none 0 0) w) (hs : s.size ≤ 140737488351232) (hT : ∀ W, G2 r p w W → Tabs W) (hrp : r ≠ p) :
    Calls Tryz.prog 48 #[.pointer (some ⟨r, 0, none⟩), .pointer (some ⟨p, 0, none⟩)] w (PtP r p s w (PK.partsK P.kind s a P)) := by
  have z0 : w.cell? ⟨p, 0, none⟩ = some (.int .i64 4) := by rw [cell_heap hp]; exact congrArg (fun x => some (Value.int .i64 x)) hk
  have HB := Lib.hid hB
  have HP := Lib.hid hp
  have C1 := Lib.hid (rid_any r s a w h hs)
  obtain ⟨X, hX⟩ : ∃ X, X = PK.partsK P.kind s a P := ⟨_, rfl⟩
  rw [← hX]
  rw [hk] at hX
  have e0 : PK.partsK 4 s a P = PK.bnd P (PK.rdId s a) (fun i a => PK.rdEndP s a 4 { P with id := i }) := rfl
  rw [e0] at hX
  have HX := Lib.hid hX
  have HT := Lib.hid hT
  have HK := Lib.hid hk
  have hpr : p ≠ r := fun e => hrp e.symm
  clear e0 hX h hp hT hB hk
  go_enter Tryz.func48, Tryz.ntmps48
  generalize PK.rdId s a = Y at *
  obtain ⟨n, a1, c1⟩ := Y
  simp only at C1 HX
  go_wp2_with fail
  refine C1.out.mono ?_
  rintro e w1 hR
  by_cases h1 : c1 = 0
  · obtain ⟨rfl, r1, g1⟩ := hR.1 h1
    have X1 := HX.out
    rw [PK.bnd_ok h1] at X1
    have p1 := HP.out.gr g1 hpr
    have z4 : w1.cell? ⟨p, 4, none⟩ = some (.int .i64 P.id) := by rw [cell_heap p1]; rfl
    have f4 : w1.frozen? ⟨p, 4, none⟩ = false := frozen_heap p1
    have P2 : PbAt p { P with id := n } (.slice none 0 0) (.slice none 0 0) (.slice none 0 0) (.slice none 0 0) (.slice none 0 0) (w1.setCell ⟨p, 4, none⟩ (.int .i64 n)) := set_block p1 rfl
    have R2 : RdAt r s a1 (w1.setCell ⟨p, 4, none⟩ (.int .i64 n)) := r1.setOther hrp _ _
    have G1 : G2 r p w (w1.setCell ⟨p, 4, none⟩ (.int .i64 n)) := (G2.of_gr g1).setCell 4 _
    have C2 : Hid (Calls Tryz.prog 93 #[.pointer (some ⟨r, 0, none⟩), .pointer (some ⟨p, 0, none⟩)] (w1.setCell ⟨p, 4, none⟩ (.int .i64 n)) (EdP r p s { P with id := n } (.slice none 0 0) (.slice none 0 0) (.slice none 0 0) (.slice none 0 0) (w1.setCell ⟨p, 4, none⟩ (.int .i64 n)) (PK.rdEnd s a1 P.kind))) := rending_any r p s a1 { P with id := n } _ _ _ _ _ R2 P2 HB.out.code HB.out.props hs (fun W hW => HT.out W (G1.trans hW)) hrp
    have e1 : PK.rdEnd s a1 P.kind = PK.rdEnd s a1 4 := by rw [HK.out]
    rw [e1] at C2
    unfold PK.rdEndP at X1
    have HX1 := Lib.hid X1
    have HG1 := Lib.hid G1
    clear hR r1 g1 p1 P2 R2 G1 C1 HX X1 h1 HP HT HK e1
    generalize PK.rdEnd s a1 4 = Y at *
    go_wp2_with fail
    refine C2.out.mono ?_
    rintro e w2 hR
    by_cases h2 : Y.2.2 = 0
    · obtain ⟨v, rfl, o2, r2, p2, g2⟩ := hR.1 h2
      have O2 := Lib.hid (own_base' o2 HG1.out.size)
      have HR2 := Lib.hid r2
      have HP2 := Lib.hid p2
      have HG2 := Lib.hid (HG1.out.trans g2)
      have H2 := Lib.hid h2
      clear hR o2 r2 p2 g2 h2 C2
      go_wp2
      go_end0
      rw [HX1.out]
      exact ⟨fun _ => ⟨_, _, _, _, _, rfl, ⟨by simp only; rw [HB.out.codes]; exact own_nil _ _ _ _, O2.out, by simp only; rw [HB.out.wprops]; exact own_nil _ _ _ _, by simp only; rw [HB.out.subs]; exact own_nil _ _ _ _, by simp only; rw [HB.out.filters]; exact own_nil _ _ _ _⟩, HR2.out, HP2.out, HG2.out⟩, fun h => absurd H2.out h⟩
    · obtain ⟨rfl, g2⟩ := hR.2 h2
      exact ⟨rfl, PtP.left (by rw [HX1.out]) h2 (HG1.out.trans g2)⟩
  · obtain ⟨rfl, g1⟩ := hR.2 h1
    exact ⟨rfl, PtP.left (by rw [HX.out, PK.bnd_bad h1]) h1 (G2.of_gr g1)⟩

set_option maxRecDepth 100000 in
set_option maxHeartbeats 2000000 in
theorem rparts_5 (r p : Nat) (s : ByteArray) (a : Int) (P : Pk) (w : World) (hk : P.kind = 5) (hB : Bare P) (h : RdAt r s a w) (hp : PbAt p P (.slice none 0 0) (.slice none 0 0) (.slice none 0 0) (.slice none 0 0) (.slice none 0 0) w) (hs : s.size ≤ 140737488351232) (hT : ∀ W, G2 r p w W → Tabs W) (hrp : r ≠ p) :
    Calls Tryz.prog 48 #[.pointer (some ⟨r, 0, none⟩), .pointer (some ⟨p, 0, none⟩)] w (PtP r p s w (PK.partsK P.kind s a P)) := by
  have z0 : w.cell? ⟨p, 0, none⟩ = some (.int .i64 5) := by rw [cell_heap hp]; exact congrArg (fun x => some (Value.int .i64 x)) hk
  have HB := Lib.hid hB
  have HP := Lib.hid hp
  have C1 := Lib.hid (rid_any r s a w h hs)
  obtain ⟨X, hX⟩ : ∃ X, X = PK.partsK P.kind s a P := ⟨_, rfl⟩
  rw [← hX]
  rw [hk] at hX
  have e0 : PK.partsK 5 s a P = PK.bnd P (PK.rdId s a) (fun i a => PK.rdEndP s a 5 { P with id := i }) := rfl
  rw [e0] at hX
  have HX := Lib.hid hX
  have HT := Lib.hid hT
  have HK := Lib.hid hk
  have hpr : p ≠ r := fun e => hrp e.symm
  clear e0 hX h hp hT hB hk
  go_enter Tryz.func48, Tryz.ntmps48
  generalize PK.rdId s a = Y at *
  obtain ⟨n, a1, c1⟩ := Y
  simp only at C1 HX
  go_wp2_with fail
  refine C1.out.mono ?_
  rintro e w1 hR
  by_cases h1 : c1 = 0
  · obtain ⟨rfl, r1, g1⟩ := hR.1 h1
    have X1 := HX.out
    rw [PK.bnd_ok h1] at X1
    have p1 := HP.out.gr g1 hpr
    have z4 : w1.cell? ⟨p, 4, none⟩ = some (.int .i64 P.id) := by rw [cell_heap p1]; rfl
    have f4 : w1.frozen? ⟨p, 4, none⟩ = false := frozen_heap p1
    have P2 : PbAt p { P with id := n } (.slice none 0 0) (.slice none 0 0) (.slice none 0 0) (.slice none 0 0) (.slice none 0 0) (w1.setCell ⟨p, 4, none⟩ (.int .i64 n)) := set_block p1 rfl
    have R2 : RdAt r s a1 (w1.setCell ⟨p, 4, none⟩ (.int .i64 n)) := r1.setOther hrp _ _
    have G1 : G2 r p w (w1.setCell ⟨p, 4, none⟩ (.int .i64 n)) := (G2.of_gr g1).setCell 4 _
    have C2 : Hid (Calls Tryz.prog 93 #[.pointer (some ⟨r, 0, none⟩), .pointer (some ⟨p, 0, none⟩)] (w1.setCell ⟨p, 4, none⟩ (.int .i64 n)) (EdP r p s { P with id := n } (.slice none 0 0) (.slice none 0 0) (.slice none 0 0) (.slice none 0 0) (w1.setCell ⟨p, 4, none⟩ (.int .i64 n)) (PK.rdEnd s a1 P.kind))) := rending_any r p s a1 { P with id := n } _ _ _ _ _ R2 P2 HB.out.code HB.out.props hs (fun W hW => HT.out W (G1.trans hW)) hrp
    have e1 : PK.rdEnd s a1 P.kind = PK.rdEnd s a1 5 := by rw [HK.out]
    rw [e1] at C2
    unfold PK.rdEndP at X1
    have HX1 := Lib.hid X1
    have HG1 := Lib.hid G1
    clear hR r1 g1 p1 P2 R2 G1 C1 HX X1 h1 HP HT HK e1
    generalize PK.rdEnd s a1 5 = Y at *
    go_wp2_with fail
    refine C2.out.mono ?_
    rintro e w2 hR
    by_cases h2 : Y.2.2 = 0
    · obtain ⟨v, rfl, o2, r2, p2, g2⟩ := hR.1 h2
      have O2 := Lib.hid (own_base' o2 HG1.out.size)
      have HR2 := Lib.hid r2
      have HP2 := Lib.hid p2
      have HG2 := Lib.hid (HG1.out.trans g2)
      have H2 := Lib.hid h2
      clear hR o2 r2 p2 g2 h2 C2
      go_wp2
      go_end0
      rw [HX1.out]
      exact ⟨fun _ => ⟨_, _, _, _, _, rfl, ⟨by simp only; rw [HB.out.codes]; exact own_nil _ _ _ _, O2.out, by simp only; rw [HB.out.wprops]; exact own_nil _ _ _ _, by simp only; rw [HB.out.subs]; exact own_nil _ _ _ _, by simp only; rw [HB.out.filters]; exact own_nil _ _ _ _⟩, HR2.out, HP2.out, HG2.out⟩, fun h => absurd H2.out h⟩
    · obtain ⟨rfl, g2⟩ := hR.2 h2
      exact ⟨rfl, PtP.left (by rw [HX1.out]) h2 (HG1.out.trans g2)⟩
  · obtain ⟨rfl, g1⟩ := hR.2 h1
    exact ⟨rfl, PtP.left (by rw [HX.out, PK.bnd_bad h1]) h1 (G2.of_gr g1)⟩

set_option maxRecDepth 100000 in
set_option maxHeartbeats 2000000 in
theorem rparts_6 (r p : Nat) (s : ByteArray) (a : Int) (P : Pk) (w : World) (hk : P.kind = 6) (hB : Bare P) (h : RdAt r s a w) (hp : PbAt p P (.slice none 0 0) (.slice none 0 0) (.slice none 0 0) (.slice none 0 0) (.slice none 0 0) w) (hs : s.size ≤ 140737488351232) (hT : ∀ W, G2 r p w W → Tabs W) (hrp : r ≠ p) :
    Calls Tryz.prog 48 #[.pointer (some ⟨r, 0, none⟩), .pointer (some ⟨p, 0, none⟩)] w (PtP r p s w (PK.partsK P.kind s a P)) := by
  have z0 : w.cell? ⟨p, 0, none⟩ = some (.int .i64 6) := by rw [cell_heap hp]; exact congrArg (fun x => some (Value.int .i64 x)) hk
  have HB := Lib.hid hB
  have HP := Lib.hid hp
  have C1 := Lib.hid (rid_any r s a w h hs)
  obtain ⟨X, hX⟩ : ∃ X, X = PK.partsK P.kind s a P := ⟨_, rfl⟩
  rw [← hX]
  rw [hk] at hX
  have e0 : PK.partsK 6 s a P = PK.bnd P (PK.rdId s a) (fun i a => PK.rdEndP s a 6 { P with id := i }) := rfl
  rw [e0] at hX
  have HX := Lib.hid hX
  have HT := Lib.hid hT
  have HK := Lib.hid hk
  have hpr : p ≠ r := fun e => hrp e.symm
  clear e0 hX h hp hT hB hk
  go_enter Tryz.func48, Tryz.ntmps48
  generalize PK.rdId s a = Y at *
  obtain ⟨n, a1, c1⟩ := Y
  simp only at C1 HX
  go_wp2_with fail
  refine C1.out.mono ?_
  rintro e w1 hR
  by_cases h1 : c1 = 0
  · obtain ⟨rfl, r1, g1⟩ := hR.1 h1
    have X1 := HX.out
    rw [PK.bnd_ok h1] at X1
    have p1 := HP.out.gr g1 hpr
    have z4 : w1.cell? ⟨p, 4, none⟩ = some (.int .i64 P.id) := by rw [cell_heap p1]; rfl
    have f4 : w1.frozen? ⟨p, 4, none⟩ = false := frozen_heap p1
    have P2 : PbAt p { P with id := n } (.slice none 0 0) (.slice none 0 0) (.slice none 0 0) (.slice none 0 0) (.slice none 0 0) (w1.setCell ⟨p, 4, none⟩ (.int .i64 n)) := set_block p1 rfl
    have R2 : RdAt r s a1 (w1.setCell ⟨p, 4, none⟩ (.int .i64 n)) := r1.setOther hrp _ _
    have G1 : G2 r p w (w1.setCell ⟨p, 4, none⟩ (.int .i64 n)) := (G2.of_gr g1).setCell 4 _
    have C2 : Hid (Calls Tryz.prog 93 #[.pointer (some ⟨r, 0, none⟩), .pointer (some ⟨p, 0, none⟩)] (w1.setCell ⟨p, 4, none⟩ (.int .i64 n)) (EdP r p s { P with id := n } (.slice none 0 0) (.slice none 0 0) (.slice none 0 0) (.slice none 0 0) (w1.setCell ⟨p, 4, none⟩ (.int .i64 n)) (PK.rdEnd s a1 P.kind))) := rending_any r p s a1 { P with id := n } _ _ _ _ _ R2 P2 HB.out.code HB.out.props hs (fun W hW => HT.out W (G1.trans hW)) hrp
    have e1 : PK.rdEnd s a1 P.kind = PK.rdEnd s a1 6 := by rw [HK.out]
    rw [e1] at C2
    unfold PK.rdEndP at X1
    have HX1 := Lib.hid X1
    have HG1 := Lib.hid G1
    clear hR r1 g1 p1 P2 R2 G1 C1 HX X1 h1 HP HT HK e1
    generalize PK.rdEnd s a1 6 = Y at *
    go_wp2_with fail
    refine C2.out.mono ?_
    rintro e w2 hR
    by_cases h2 : Y.2.2 = 0
    · obtain ⟨v, rfl, o2, r2, p2, g2⟩ := hR.1 h2
      have O2 := Lib.hid (own_base' o2 HG1.out.size)
      have HR2 := Lib.hid r2
      have HP2 := Lib.hid p2
      have HG2 := Lib.hid (HG1.out.trans g2)
      have H2 := Lib.hid h2
      clear hR o2 r2 p2 g2 h2 C2
      go_wp2
      go_end0
      rw [HX1.out]
      exact ⟨fun _ => ⟨_, _, _, _, _, rfl, ⟨by simp only; rw [HB.out.codes]; exact own_nil _ _ _ _, O2.out, by simp only; rw [HB.out.wprops]; exact own_nil _ _ _ _, by simp only; rw [HB.out.subs]; exact own_nil _ _ _ _, by simp only; rw [HB.out.filters]; exact own_nil _ _ _ _⟩, HR2.out, HP2.out, HG2.out⟩, fun h => absurd H2.out h⟩
    · obtain ⟨rfl, g2⟩ := hR.2 h2
      exact ⟨rfl, PtP.left (by rw [HX1.out]) h2 (HG1.out.trans g2)⟩
  · obtain ⟨rfl, g1⟩ := hR.2 h1
    exact ⟨rfl, PtP.left (by rw [HX.out, PK.bnd_bad h1]) h1 (G2.of_gr g1)⟩

set_option maxRecDepth 100000 in
set_option maxHeartbeats 2000000 in
theorem rparts_7 (r p : Nat) (s : ByteArray) (a : Int) (P : Pk) (w : World) (hk : P.kind = 7) (hB : Bare P) (h : RdAt r s a w) (hp : PbAt p P (.slice none 0 0) (.slice none 0 0) (.slice none 0 0) (.slice none 0 0) (.slice none 0 0) w) (hs : s.size ≤ 140737488351232) (hT : ∀ W, G2 r p w W → Tabs W) (hrp : r ≠ p) :
    Calls Tryz.prog 48 #[.pointer (some ⟨r, 0, none⟩), .pointer (some ⟨p, 0, none⟩)] w (PtP r p s w (PK.partsK P.kind s a P)) := by
  have z0 : w.cell? ⟨p, 0, none⟩ = some (.int .i64 7) := by rw [cell_heap hp]; exact congrArg (fun x => some (Value.int .i64 x)) hk
  have HB := Lib.hid hB
  have HP := Lib.hid hp
  have C1 := Lib.hid (rid_any r s a w h hs)
  obtain ⟨X, hX⟩ : ∃ X, X = PK.partsK P.kind s a P := ⟨_, rfl⟩
  rw [← hX]
  rw [hk] at hX
  have e0 : PK.partsK 7 s a P = PK.bnd P (PK.rdId s a) (fun i a => PK.rdEndP s a 7 { P with id := i }) := rfl
  rw [e0] at hX
  have HX := Lib.hid hX
  have HT := Lib.hid hT
  have HK := Lib.hid hk
  have hpr : p ≠ r := fun e => hrp e.symm
  clear e0 hX h hp hT hB hk
  go_enter Tryz.func48, Tryz.ntmps48
  generalize PK.rdId s a = Y at *
  obtain ⟨n, a1, c1⟩ := Y
  simp only at C1 HX
  go_wp2_with fail
  refine C1.out.mono ?_
  rintro e w1 hR
  by_cases h1 : c1 = 0
  · obtain ⟨rfl, r1, g1⟩ := hR.1 h1
    have X1 := HX.out
    rw [PK.bnd_ok h1] at X1
    have p1 := HP.out.gr g1 hpr
    have z4 : w1.cell? ⟨p, 4, none⟩ = some (.int .i64 P.id) := by rw [cell_heap p1]; rfl
    have f4 : w1.frozen? ⟨p, 4, none⟩ = false := frozen_heap p1
    have P2 : PbAt p { P with id := n } (.slice none 0 0) (.slice none 0 0) (.slice none 0 0) (.slice none 0 0) (.slice none 0 0) (w1.setCell ⟨p, 4, none⟩ (.int .i64 n)) := set_block p1 rfl
    have R2 : RdAt r s a1 (w1.setCell ⟨p, 4, none⟩ (.int .i64 n)) := r1.setOther hrp _ _
    have G1 : G2 r p w (w1.setCell ⟨p, 4, none⟩ (.int .i64 n)) := (G2.of_gr g1).setCell 4 _
    have C2 : Hid (Calls Tryz.prog 93 #[.pointer (some ⟨r, 0, none⟩), .pointer (some ⟨p, 0, none⟩)] (w1.setCell ⟨p, 4, none⟩ (.int .i64 n)) (EdP r p s { P with id := n } (.slice none 0 0) (.slice none 0 0) (.slice none 0 0) (.slice none 0 0) (w1.setCell ⟨p, 4, none⟩ (.int .i64 n)) (PK.rdEnd s a1 P.kind))) := rending_any r p s a1 { P with id := n } _ _ _ _ _ R2 P2 HB.out.code HB.out.props hs (fun W hW => HT.out W (G1.trans hW)) hrp
    have e1 : PK.rdEnd s a1 P.kind = PK.rdEnd s a1 7 := by rw [HK.out]
    rw [e1] at C2
    unfold PK.rdEndP at X1
    have HX1 := Lib.hid X1
    have HG1 := Lib.hid G1
    clear hR r1 g1 p1 P2 R2 G1 C1 HX X1 h1 HP HT HK e1
    generalize PK.rdEnd s a1 7 = Y at *
    go_wp2_with fail
    refine C2.out.mono ?_
    rintro e w2 hR
    by_cases h2 : Y.2.2 = 0
    · obtain ⟨v, rfl, o2, r2, p2, g2⟩ := hR.1 h2
      have O2 := Lib.hid (own_base' o2 HG1.out.size)
      have HR2 := Lib.hid r2
      have HP2 := Lib.hid p2
      have HG2 := Lib.hid (HG1.out.trans g2)
      have H2 := Lib.hid h2
      clear hR o2 r2 p2 g2 h2 C2
      go_wp2
      go_end0
      rw [HX1.out]
      exact ⟨fun _ => ⟨_, _, _, _, _, rfl, ⟨by simp only; rw [HB.out.codes]; exact own_nil _ _ _ _, O2.out, by simp only; rw [HB.out.wprops]; exact own_nil _ _ _ _, by simp only; rw [HB.out.subs]; exact own_nil _ _ _ _, by simp only; rw [HB.out.filters]; exact own_nil _ _ _ _⟩, HR2.out, HP2.out, HG2.out⟩, fun h => absurd H2.out h⟩
    · obtain ⟨rfl, g2⟩ := hR.2 h2
      exact ⟨rfl, PtP.left (by rw [HX1.out]) h2 (HG1.out.trans g2)⟩
  · obtain ⟨rfl, g1⟩ := hR.2 h1
    exact ⟨rfl, PtP.left (by rw [HX.out, PK.bnd_bad h1]) h1 (G2.of_gr g1)⟩

set_option maxRecDepth 100000 in
set_option maxHeartbeats 2000000 in
theorem rparts_8 (r p : Nat) (s : ByteArray) (a : Int) (P : Pk) (w : World) (hk : P.kind = 8) (hB : Bare P) (h : RdAt r s a w) (hp : PbAt p P (.slice none 0 0) (.slice none 0 0) (.slice none 0 0) (.slice none 0 0) (.slice none 0 0) w) (hs : s.size ≤ 140737488351232) (hT : ∀ W, G2 r p w W → Tabs W) (hrp : r ≠ p) :
    Calls Tryz.prog 48 #[.pointer (some ⟨r, 0, none⟩), .pointer (some ⟨p, 0, none⟩)] w (PtP r p s w (PK.partsK P.kind s a P)) := by
  have z0 : w.cell? ⟨p, 0, none⟩ = some (.int .i64 8) := by rw [cell_heap hp]; exact congrArg (fun x => some (Value.int .i64 x)) hk
  have HB := Lib.hid hB
  have C1 : Hid (Calls Tryz.prog 86 #[.pointer (some ⟨r, 0, none⟩), .pointer (some ⟨p, 0, none⟩)] w (HdP r p s P (.slice none 0 0) (.slice none 0 0) (.slice none 0 0) (.slice none 0 0) w (PK.rdHd s a P.kind))) := rhead_any r p s a P _ _ _ _ _ w h hp hs hT hrp
  rw [hk] at C1
  obtain ⟨X, hX⟩ : ∃ X, X = PK.partsK P.kind s a P := ⟨_, rfl⟩
  rw [← hX]
  rw [hk] at hX
  have e0 : PK.partsK 8 s a P = PK.bnd P (PK.rdHd s a 8) (fun h a => PK.bnd P (PK.lst (PK.rdSub s) s.size 66 a []) (fun l a => ({ P with id := h.1, props := h.2, subs := l }, a, 0))) := rfl
  rw [e0] at hX
  have HX := Lib.hid hX
  have HT := Lib.hid hT
  have hlr := lt_heap h
  have hlp := lt_heap hp
  have hpr : p ≠ r := fun e => hrp e.symm
  have hmf : ∀ (fn : Fn) (first cap : Array Value) (w : World), (Instr.makeFunc fn first cap).run Tryz.prog w = .ok (.func fn first cap) w := fun _ _ _ _ => rfl
  clear e0 hX h hp hT hB hk
  go_enter Tryz.func48, Tryz.ntmps48
  generalize PK.rdHd s a 8 = Y at *
  obtain ⟨⟨n, q⟩, a1, c1⟩ := Y
  go_wp2_with fail
  refine C1.out.mono ?_
  rintro e w1 hR
  by_cases h1 : c1 = 0
  · obtain ⟨v, rfl, o1, r1, p1, g1⟩ := hR.1 h1
    have X1 := HX.out
    rw [PK.bnd_ok h1] at X1
    simp only at X1 o1 r1 p1
    have C2 : Hid (Calls Tryz.prog 87 #[.pointer (some ⟨r, 0, none⟩), .func (.func 88) #[.pointer (some ⟨r, 0, none⟩)] #[]] w1 (LsP 66 5 flatB r s w1 (PK.lst (PK.rdSub s) s.size 66 a1 []))) := rlists_any r s a1 w1 r1 hs (fun W hW => HT.out W (g1.trans (G2.of_gr hW)))
    generalize PK.lst (PK.rdSub s) s.size 66 a1 [] = Z at *
    obtain ⟨l, a2, c2⟩ := Z
    have HX1 := Lib.hid X1
    have HP1 := Lib.hid p1
    have HG1 := Lib.hid g1
    have HO1 := Lib.hid o1
    clear hR o1 r1 p1 g1 C1 HX X1 h1 HT
    go_wp2_with fail
    refine C2.out.mono ?_
    rintro e w2 hR
    by_cases h2 : c2 = 0
    · obtain ⟨v2, rfl, o2, r2, g2⟩ := hR.1 h2
      have p2 := HP1.out.gr g2 hpr
      have zc : w2.cell? ⟨p, 24, none⟩ = some (.slice none 0 0) := by rw [cell_heap p2]; rfl
      have fc : w2.frozen? ⟨p, 24, none⟩ = false := frozen_heap p2
      obtain ⟨A, cap, rfl⟩ := own_form o2
      simp only at o2 zc p2 r2
      have o3 : w2.ownsRow w.heap.size 66 5 (.slice A l.length cap) l.length (flatB l) := own_base' o2 HG1.out.size
      have L4 : Hid ((w2.setCell ⟨p, 24, none⟩ (.slice A l.length cap)).ownsRow w.heap.size 66 5 (.slice A l.length cap) l.length (flatB l)) := Lib.hid (own_set o3 (row_ne o3 hlp))
      have m2 := own_gr HO1.out g2 (row_ne HO1.out hlr)
      have O4 : Hid ((w2.setCell ⟨p, 24, none⟩ (.slice A l.length cap)).ownsRow w.heap.size 135 4 v q.length (flatP q)) := Lib.hid (own_set m2 (row_ne m2 hlp))
      have P4 : Hid (PbAt p { P with id := n, props := q, subs := l } (.slice none 0 0) v (.slice none 0 0) (.slice A l.length cap) (.slice none 0 0) (w2.setCell ⟨p, 24, none⟩ (.slice A l.length cap))) := Lib.hid (set_block p2 rfl)
      have R4 : Hid (RdAt r s a2 (w2.setCell ⟨p, 24, none⟩ (.slice A l.length cap))) := Lib.hid (r2.setOther hrp _ _)
      have G4 : Hid (G2 r p w (w2.setCell ⟨p, 24, none⟩ (.slice A l.length cap))) := Lib.hid ((HG1.out.trans (G2.of_gr g2)).setCell 24 _)
      have E : Hid (X = ({ P with id := n, props := q, subs := l }, a2, 0)) := Lib.hid (by rw [HX1.out, PK.bnd_ok h2])
      clear hR o2 r2 g2 p2 o3 m2 h2 C2 HX1 HP1 HG1 HO1
      go_wp2
      go_end0
      rw [E.out]
      exact ⟨fun _ => ⟨_, _, _, _, _, rfl, ⟨by simp only; rw [HB.out.codes]; exact own_nil _ _ _ _, O4.out, by simp only; rw [HB.out.wprops]; exact own_nil _ _ _ _, L4.out, by simp only; rw [HB.out.filters]; exact own_nil _ _ _ _⟩, R4.out, P4.out, G4.out⟩, fun h => absurd rfl h⟩
    · obtain ⟨rfl, g2⟩ := hR.2 h2
      exact ⟨rfl, PtP.left (by rw [HX1.out, PK.bnd_bad h2]) h2 (HG1.out.trans (G2.of_gr g2))⟩
  · obtain ⟨rfl, g1⟩ := hR.2 h1
    exact ⟨rfl, PtP.left (by rw [HX.out, PK.bnd_bad h1]) h1 g1⟩

set_option maxRecDepth 100000 in
set_option maxHeartbeats 2000000 in
theorem rparts_10 (r p : Nat) (s : ByteArray) (a : Int) (P : Pk) (w : World) (hk : P.kind = 10) (hB : Bare P) (h : RdAt r s a w) (hp : PbAt p P (.slice none 0 0) (.slice none 0 0) (.slice none 0 0) (.slice none 0 0) (.slice none 0 0) w) (hs : s.size ≤ 140737488351232) (hT : ∀ W, G2 r p w W → Tabs W) (hrp : r ≠ p) :
    Calls Tryz.prog 48 #[.pointer (some ⟨r, 0, none⟩), .pointer (some ⟨p, 0, none⟩)] w (PtP r p s w (PK.partsK P.kind s a P)) := by
  have z0 : w.cell? ⟨p, 0, none⟩ = some (.int .i64 10) := by rw [cell_heap hp]; exact congrArg (fun x => some (Value.int .i64 x)) hk
  have HB := Lib.hid hB
  have C1 : Hid (Calls Tryz.prog 86 #[.pointer (some ⟨r, 0, none⟩), .pointer (some ⟨p, 0, none⟩)] w (HdP r p s P (.slice none 0 0) (.slice none 0 0) (.slice none 0 0) (.slice none 0 0) w (PK.rdHd s a P.kind))) := rhead_any r p s a P _ _ _ _ _ w h hp hs hT hrp
  rw [hk] at C1
  obtain ⟨X, hX⟩ : ∃ X, X = PK.partsK P.kind s a P := ⟨_, rfl⟩
  rw [← hX]
  rw [hk] at hX
  have e0 : PK.partsK 10 s a P = PK.bnd P (PK.rdHd s a 10) (fun h a => PK.bnd P (PK.lst (PK.rdT s) s.size 66 a []) (fun l a => ({ P with id := h.1, props := h.2, filters := l }, a, 0))) := rfl
  rw [e0] at hX
  have HX := Lib.hid hX
  have HT := Lib.hid hT
  have hlr := lt_heap h
  have hlp := lt_heap hp
  have hpr : p ≠ r := fun e => hrp e.symm
  have hmf : ∀ (fn : Fn) (first cap : Array Value) (w : World), (Instr.makeFunc fn first cap).run Tryz.prog w = .ok (.func fn first cap) w := fun _ _ _ _ => rfl
  clear e0 hX h hp hT hB hk
  go_enter Tryz.func48, Tryz.ntmps48
  generalize PK.rdHd s a 10 = Y at *
  obtain ⟨⟨n, q⟩, a1, c1⟩ := Y
  go_wp2_with fail
  refine C1.out.mono ?_
  rintro e w1 hR
  by_cases h1 : c1 = 0
  · obtain ⟨v, rfl, o1, r1, p1, g1⟩ := hR.1 h1
    have X1 := HX.out
    rw [PK.bnd_ok h1] at X1
    simp only at X1 o1 r1 p1
    have C2 : Hid (Calls Tryz.prog 89 #[.pointer (some ⟨r, 0, none⟩), .func (.func 90) #[.pointer (some ⟨r, 0, none⟩)] #[]] w1 (LsP 9 1 flatT r s w1 (PK.lst (PK.rdT s) s.size 66 a1 []))) := rlistt_any r s a1 w1 r1 hs (fun W hW => HT.out W (g1.trans (G2.of_gr hW)))
    generalize PK.lst (PK.rdT s) s.size 66 a1 [] = Z at *
    obtain ⟨l, a2, c2⟩ := Z
    have HX1 := Lib.hid X1
    have HP1 := Lib.hid p1
    have HG1 := Lib.hid g1
    have HO1 := Lib.hid o1
    clear hR o1 r1 p1 g1 C1 HX X1 h1 HT
    go_wp2_with fail
    refine C2.out.mono ?_
    rintro e w2 hR
    by_cases h2 : c2 = 0
    · obtain ⟨v2, rfl, o2, r2, g2⟩ := hR.1 h2
      have p2 := HP1.out.gr g2 hpr
      have zc : w2.cell? ⟨p, 25, none⟩ = some (.slice none 0 0) := by rw [cell_heap p2]; rfl
      have fc : w2.frozen? ⟨p, 25, none⟩ = false := frozen_heap p2
      obtain ⟨A, cap, rfl⟩ := own_form o2
      simp only at o2 zc p2 r2
      have o3 : w2.ownsRow w.heap.size 9 1 (.slice A l.length cap) l.length (flatT l) := own_base' o2 HG1.out.size
      have L4 : Hid ((w2.setCell ⟨p, 25, none⟩ (.slice A l.length cap)).ownsRow w.heap.size 9 1 (.slice A l.length cap) l.length (flatT l)) := Lib.hid (own_set o3 (row_ne o3 hlp))
      have m2 := own_gr HO1.out g2 (row_ne HO1.out hlr)
      have O4 : Hid ((w2.setCell ⟨p, 25, none⟩ (.slice A l.length cap)).ownsRow w.heap.size 135 4 v q.length (flatP q)) := Lib.hid (own_set m2 (row_ne m2 hlp))
      have P4 : Hid (PbAt p { P with id := n, props := q, filters := l } (.slice none 0 0) v (.slice none 0 0) (.slice none 0 0) (.slice A l.length cap) (w2.setCell ⟨p, 25, none⟩ (.slice A l.length cap))) := Lib.hid (set_block p2 rfl)
      have R4 : Hid (RdAt r s a2 (w2.setCell ⟨p, 25, none⟩ (.slice A l.length cap))) := Lib.hid (r2.setOther hrp _ _)
      have G4 : Hid (G2 r p w (w2.setCell ⟨p, 25, none⟩ (.slice A l.length cap))) := Lib.hid ((HG1.out.trans (G2.of_gr g2)).setCell 25 _)
      have E : Hid (X = ({ P with id := n, props := q, filters := l }, a2, 0)) := Lib.hid (by rw [HX1.out, PK.bnd_ok h2])
      clear hR o2 r2 g2 p2 o3 m2 h2 C2 HX1 HP1 HG1 HO1
      go_wp2
      go_end0
      rw [E.out]
      exact ⟨fun _ => ⟨_, _, _, _, _, rfl, ⟨by simp only; rw [HB.out.codes]; exact own_nil _ _ _ _, O4.out, by simp only; rw [HB.out.wprops]; exact own_nil _ _ _ _, by simp only; rw [HB.out.subs]; exact own_nil _ _ _ _, L4.out⟩, R4.out, P4.out, G4.out⟩, fun h => absurd rfl h⟩
    · obtain ⟨rfl, g2⟩ := hR.2 h2
      exact ⟨rfl, PtP.left (by rw [HX1.out, PK.bnd_bad h2]) h2 (HG1.out.trans (G2.of_gr g2))⟩
  · obtain ⟨rfl, g1⟩ := hR.2 h1
    exact ⟨rfl, PtP.left (by rw [HX.out, PK.bnd_bad h1]) h1 g1⟩

set_option maxRecDepth 100000 in
set_option maxHeartbeats 2000000 in
theorem rparts_9 (r p : Nat) (s : ByteArray) (a : Int) (P : Pk) (w : World) (hk : P.kind = 9) (hB : Bare P) (h : RdAt r s a w) (hp : PbAt p P (.slice none 0 0) (.slice none 0 0) (.slice none 0 0) (.slice none 0 0) (.slice none 0 0) w) (hs : s.size ≤ 140737488351232) (hT : ∀ W, G2 r p w W → Tabs W) (hrp : r ≠ p) :
    Calls Tryz.prog 48 #[.pointer (some ⟨r, 0, none⟩), .pointer (some ⟨p, 0, none⟩)] w (PtP r p s w (PK.partsK P.kind s a P)) := by
  have z0 : w.cell? ⟨p, 0, none⟩ = some (.int .i64 9) := by rw [cell_heap hp]; exact congrArg (fun x => some (Value.int .i64 x)) hk
  have HB := Lib.hid hB
  have C1 : Hid (Calls Tryz.prog 86 #[.pointer (some ⟨r, 0, none⟩), .pointer (some ⟨p, 0, none⟩)] w (HdP r p s P (.slice none 0 0) (.slice none 0 0) (.slice none 0 0) (.slice none 0 0) w (PK.rdHd s a P.kind))) := rhead_any r p s a P _ _ _ _ _ w h hp hs hT hrp
  rw [hk] at C1
  obtain ⟨X, hX⟩ : ∃ X, X = PK.partsK P.kind s a P := ⟨_, rfl⟩
  rw [← hX]
  rw [hk] at hX
  have e0 : PK.partsK 9 s a P = PK.bnd P (PK.rdHd s a 9) (fun h a => PK.bnd P (PK.lst (PK.rdC s) s.size 66 a []) (fun l a => ({ P with id := h.1, props := h.2, codes := l }, a, 0))) := rfl
  rw [e0] at hX
  have HX := Lib.hid hX
  have hlr := lt_heap h
  have hlp := lt_heap hp
  have hpr : p ≠ r := fun e => hrp e.symm
  have hmf : ∀ (fn : Fn) (first cap : Array Value) (w : World), (Instr.makeFunc fn first cap).run Tryz.prog w = .ok (.func fn first cap) w := fun _ _ _ _ => rfl
  clear e0 hX h hp hT hB hk
  go_enter Tryz.func48, Tryz.ntmps48
  generalize PK.rdHd s a 9 = Y at *
  obtain ⟨⟨n, q⟩, a1, c1⟩ := Y
  go_wp2_with fail
  refine C1.out.mono ?_
  rintro e w1 hR
  by_cases h1 : c1 = 0
  · obtain ⟨v, rfl, o1, r1, p1, g1⟩ := hR.1 h1
    have X1 := HX.out
    rw [PK.bnd_ok h1] at X1
    simp only at X1 o1 r1 p1
    have C2 : Hid (Calls Tryz.prog 91 #[.pointer (some ⟨r, 0, none⟩), .func (.func 83) #[.pointer (some ⟨r, 0, none⟩)] #[]] w1 (LsP 23 1 flatC r s w1 (PK.lst (PK.rdC s) s.size 66 a1 []))) := rlistc_any r s a1 w1 r1 hs
    generalize PK.lst (PK.rdC s) s.size 66 a1 [] = Z at *
    obtain ⟨l, a2, c2⟩ := Z
    have HX1 := Lib.hid X1
    have HP1 := Lib.hid p1
    have HG1 := Lib.hid g1
    have HO1 := Lib.hid o1
    clear hR o1 r1 p1 g1 C1 HX X1 h1
    go_wp2_with fail
    refine C2.out.mono ?_
    rintro e w2 hR
    by_cases h2 : c2 = 0
    · obtain ⟨v2, rfl, o2, r2, g2⟩ := hR.1 h2
      have p2 := HP1.out.gr g2 hpr
      have zc : w2.cell? ⟨p, 8, none⟩ = some (.slice none 0 0) := by rw [cell_heap p2]; rfl
      have fc : w2.frozen? ⟨p, 8, none⟩ = false := frozen_heap p2
      obtain ⟨A, cap, rfl⟩ := own_form o2
      simp only at o2 zc p2 r2
      have o3 : w2.ownsRow w.heap.size 23 1 (.slice A l.length cap) l.length (flatC l) := own_base' o2 HG1.out.size
      have L4 : Hid ((w2.setCell ⟨p, 8, none⟩ (.slice A l.length cap)).ownsRow w.heap.size 23 1 (.slice A l.length cap) l.length (flatC l)) := Lib.hid (own_set o3 (row_ne o3 hlp))
      have m2 := own_gr HO1.out g2 (row_ne HO1.out hlr)
      have O4 : Hid ((w2.setCell ⟨p, 8, none⟩ (.slice A l.length cap)).ownsRow w.heap.size 135 4 v q.length (flatP q)) := Lib.hid (own_set m2 (row_ne m2 hlp))
      have P4 : Hid (PbAt p { P with id := n, props := q, codes := l } (.slice A l.length cap) v (.slice none 0 0) (.slice none 0 0) (.slice none 0 0) (w2.setCell ⟨p, 8, none⟩ (.slice A l.length cap))) := Lib.hid (set_block p2 rfl)
      have R4 : Hid (RdAt r s a2 (w2.setCell ⟨p, 8, none⟩ (.slice A l.length cap))) := Lib.hid (r2.setOther hrp _ _)
      have G4 : Hid (G2 r p w (w2.setCell ⟨p, 8, none⟩ (.slice A l.length cap))) := Lib.hid ((HG1.out.trans (G2.of_gr g2)).setCell 8 _)
      have E : Hid (X = ({ P with id := n, props := q, codes := l }, a2, 0)) := Lib.hid (by rw [HX1.out, PK.bnd_ok h2])
      clear hR o2 r2 g2 p2 o3 m2 h2 C2 HX1 HP1 HG1 HO1
      go_wp2
      go_end0
      rw [E.out]
      exact ⟨fun _ => ⟨_, _, _, _, _, rfl, ⟨L4.out, O4.out, by simp only; rw [HB.out.wprops]; exact own_nil _ _ _ _, by simp only; rw [HB.out.subs]; exact own_nil _ _ _ _, by simp only; rw [HB.out.filters]; exact own_nil _ _ _ _⟩, R4.out, P4.out, G4.out⟩, fun h => absurd rfl h⟩
    · obtain ⟨rfl, g2⟩ := hR.2 h2
      exact ⟨rfl, PtP.left (by rw [HX1.out, PK.bnd_bad h2]) h2 (HG1.out.trans (G2.of_gr g2))⟩
  · obtain ⟨rfl, g1⟩ := hR.2 h1
    exact ⟨rfl, PtP.left (by rw [HX.out, PK.bnd_bad h1]) h1 g1⟩

set_option maxRecDepth 100000 in
set_option maxHeartbeats 2000000 in
theorem rparts_11 (r p : Nat) (s : ByteArray) (a : Int) (P : Pk) (w : World) (hk : P.kind = 11) (hB : Bare P) (h : RdAt r s a w) (hp : PbAt p P (.slice none 0 0) (.slice none 0 0) (.slice none 0 0) (.slice none 0 0) (.slice none 0 0) w) (hs : s.size ≤ 140737488351232) (hT : ∀ W, G2 r p w W → Tabs W) (hrp : r ≠ p) :
    Calls Tryz.prog 48 #[.pointer (some ⟨r, 0, none⟩), .pointer (some ⟨p, 0, none⟩)] w (PtP r p s w (PK.partsK P.kind s a P)) := by
  have z0 : w.cell? ⟨p, 0, none⟩ = some (.int .i64 11) := by rw [cell_heap hp]; exact congrArg (fun x => some (Value.int .i64 x)) hk
  have HB := Lib.hid hB
  have C1 : Hid (Calls Tryz.prog 86 #[.pointer (some ⟨r, 0, none⟩), .pointer (some ⟨p, 0, none⟩)] w (HdP r p s P (.slice none 0 0) (.slice none 0 0) (.slice none 0 0) (.slice none 0 0) w (PK.rdHd s a P.kind))) := rhead_any r p s a P _ _ _ _ _ w h hp hs hT hrp
  rw [hk] at C1
  obtain ⟨X, hX⟩ : ∃ X, X = PK.partsK P.kind s a P := ⟨_, rfl⟩
  rw [← hX]
  rw [hk] at hX
  have e0 : PK.partsK 11 s a P = PK.bnd P (PK.rdHd s a 11) (fun h a => PK.bnd P (PK.lst (PK.rdC s) s.size 66 a []) (fun l a => ({ P with id := h.1, props := h.2, codes := l }, a, 0))) := rfl
  rw [e0] at hX
  have HX := Lib.hid hX
  have hlr := lt_heap h
  have hlp := lt_heap hp
  have hpr : p ≠ r := fun e => hrp e.symm
  have hmf : ∀ (fn : Fn) (first cap : Array Value) (w : World), (Instr.makeFunc fn first cap).run Tryz.prog w = .ok (.func fn first cap) w := fun _ _ _ _ => rfl
  clear e0 hX h hp hT hB hk
  go_enter Tryz.func48, Tryz.ntmps48
  generalize PK.rdHd s a 11 = Y at *
  obtain ⟨⟨n, q⟩, a1, c1⟩ := Y
  go_wp2_with fail
  refine C1.out.mono ?_
  rintro e w1 hR
  by_cases h1 : c1 = 0
  · obtain ⟨v, rfl, o1, r1, p1, g1⟩ := hR.1 h1
    have X1 := HX.out
    rw [PK.bnd_ok h1] at X1
    simp only at X1 o1 r1 p1
    have C2 : Hid (Calls Tryz.prog 91 #[.pointer (some ⟨r, 0, none⟩), .func (.func 83) #[.pointer (some ⟨r, 0, none⟩)] #[]] w1 (LsP 23 1 flatC r s w1 (PK.lst (PK.rdC s) s.size 66 a1 []))) := rlistc_any r s a1 w1 r1 hs
    generalize PK.lst (PK.rdC s) s.size 66 a1 [] = Z at *
    obtain ⟨l, a2, c2⟩ := Z
    have HX1 := Lib.hid X1
    have HP1 := Lib.hid p1
    have HG1 := Lib.hid g1
    have HO1 := Lib.hid o1
    clear hR o1 r1 p1 g1 C1 HX X1 h1
    go_wp2_with fail
    refine C2.out.mono ?_
    rintro e w2 hR
    by_cases h2 : c2 = 0
    · obtain ⟨v2, rfl, o2, r2, g2⟩ := hR.1 h2
      have p2 := HP1.out.gr g2 hpr
      have zc : w2.cell? ⟨p, 8, none⟩ = some (.slice none 0 0) := by rw [cell_heap p2]; rfl
      have fc : w2.frozen? ⟨p, 8, none⟩ = false := frozen_heap p2
      obtain ⟨A, cap, rfl⟩ := own_form o2
      simp only at o2 zc p2 r2
      have o3 : w2.ownsRow w.heap.size 23 1 (.slice A l.length cap) l.length (flatC l) := own_base' o2 HG1.out.size
      have L4 : Hid ((w2.setCell ⟨p, 8, none⟩ (.slice A l.length cap)).ownsRow w.heap.size 23 1 (.slice A l.length cap) l.length (flatC l)) := Lib.hid (own_set o3 (row_ne o3 hlp))
      have m2 := own_gr HO1.out g2 (row_ne HO1.out hlr)
      have O4 : Hid ((w2.setCell ⟨p, 8, none⟩ (.slice A l.length cap)).ownsRow w.heap.size 135 4 v q.length (flatP q)) := Lib.hid (own_set m2 (row_ne m2 hlp))
      have P4 : Hid (PbAt p { P with id := n, props := q, codes := l } (.slice A l.length cap) v (.slice none 0 0) (.slice none 0 0) (.slice none 0 0) (w2.setCell ⟨p, 8, none⟩ (.slice A l.length cap))) := Lib.hid (set_block p2 rfl)
      have R4 : Hid (RdAt r s a2 (w2.setCell ⟨p, 8, none⟩ (.slice A l.length cap))) := Lib.hid (r2.setOther hrp _ _)
      have G4 : Hid (G2 r p w (w2.setCell ⟨p, 8, none⟩ (.slice A l.length cap))) := Lib.hid ((HG1.out.trans (G2.of_gr g2)).setCell 8 _)
      have E : Hid (X = ({ P with id := n, props := q, codes := l }, a2, 0)) := Lib.hid (by rw [HX1.out, PK.bnd_ok h2])
      clear hR o2 r2 g2 p2 o3 m2 h2 C2 HX1 HP1 HG1 HO1
      go_wp2
      go_end0
      rw [E.out]
      exact ⟨fun _ => ⟨_, _, _, _, _, rfl, ⟨L4.out, O4.out, by simp only; rw [HB.out.wprops]; exact own_nil _ _ _ _, by simp only; rw [HB.out.subs]; exact own_nil _ _ _ _, by simp only; rw [HB.out.filters]; exact own_nil _ _ _ _⟩, R4.out, P4.out, G4.out⟩, fun h => absurd rfl h⟩
    · obtain ⟨rfl, g2⟩ := hR.2 h2
      exact ⟨rfl, PtP.left (by rw [HX1.out, PK.bnd_bad h2]) h2 (HG1.out.trans (G2.of_gr g2))⟩
  · obtain ⟨rfl, g1⟩ := hR.2 h1
    exact ⟨rfl, PtP.left (by rw [HX.out, PK.bnd_bad h1]) h1 g1⟩
end Go.Proofs.YtmldnaadjhnfcaaGreatDoor
namespace Go.Proofs.YtmldnaadjhnfcaaGreatDoor
open Go.RowKit
attribute [local go_sem ↓] Go.wp_at_zero Go.wp_at_succ

set_option maxRecDepth 100000 in
set_option maxHeartbeats 2000000 in
theorem rparts_2 (r p : Nat) (s : ByteArray) (a : Int) (P : Pk) (w : World) (hk : P.kind = 2) (hB : Bare P) (h : RdAt r s a w) (hp : PbAt p P (.slice none 0 0) (.slice none 0 0) (.slice none 0 0) (.slice none 0 0) (.slice none 0 0) w) (hs : s.size ≤ 140737488351232) (hT : ∀ W, G2 r p w W → Tabs W) (hrp : r ≠ p) :
    Calls Tryz.prog 48 #[.pointer (some ⟨r, 0, none⟩), .pointer (some ⟨p, 0, none⟩)] w (PtP r p s w (PK.partsK P.kind s a P)) := by
  have z0 : w.cell? ⟨p, 0, none⟩ = some (.int .i64 2) := by rw [cell_heap hp]; exact congrArg (fun x => some (Value.int .i64 x)) hk
  have HB := Lib.hid hB
  have HP := Lib.hid hp
  have C1 := Lib.hid (rsession_any r s a w h hs)
  have CC : Hid (∀ a W, RdAt r s a W → Calls Tryz.prog 83 #[.pointer (some ⟨r, 0, none⟩)] W (RdP r s W (.int .u8 (PK.rdC s a).1) (PK.rdC s a).2.1 (PK.rdC s a).2.2)) := fun a W hW => rreason_any r s a W hW hs
  have CR : Hid (∀ a W, G2 r p w W → RdAt r s a W → Calls Tryz.prog 84 #[.pointer (some ⟨r, 0, none⟩), .int .i64 2] W (RdPP r s W (PK.rdPr s a 2).1 (PK.rdPr s a 2).2.1 (PK.rdPr s a 2).2.2)) := fun a W hg hW => rprops_any r s a 2 W hW hs (hT W hg)
  obtain ⟨X, hX⟩ : ∃ X, X = PK.partsK P.kind s a P := ⟨_, rfl⟩
  rw [← hX]
  rw [hk] at hX
  have e0 : PK.partsK 2 s a P = PK.bnd P (PK.rdSes s a) (fun v a => PK.bnd P (PK.rdC s a) (fun c a => PK.bnd P (PK.rdPr s a 2) (fun l a => ({ P with session := v, code := c, props := l }, a, 0)))) := rfl
  rw [e0] at hX
  have HX := Lib.hid hX
  have HK := Lib.hid hk
  have hlp := lt_heap hp
  have hpr : p ≠ r := fun e => hrp e.symm
  clear e0 hX h hp hT hB hk
  go_enter Tryz.func48, Tryz.ntmps48
  generalize PK.rdSes s a = Y at *
  obtain ⟨b, a1, c1⟩ := Y
  simp only at C1
  go_wp2_with fail
  refine C1.out.mono ?_
  rintro e w1 hR
  by_cases h1 : c1 = 0
  · obtain ⟨rfl, r1, g1⟩ := hR.1 h1
    have X1 := HX.out
    rw [PK.bnd_ok h1] at X1
    have p1 := HP.out.gr g1 hpr
    have z23 : w1.cell? ⟨p, 23, none⟩ = some (.bool P.session) := by rw [cell_heap p1]; rfl
    have f23 : w1.frozen? ⟨p, 23, none⟩ = false := frozen_heap p1
    have P2 : Hid (PbAt p { P with session := b } (.slice none 0 0) (.slice none 0 0) (.slice none 0 0) (.slice none 0 0) (.slice none 0 0) (w1.setCell ⟨p, 23, none⟩ (.bool b))) := Lib.hid (set_block p1 rfl)
    have r2 : RdAt r s a1 (w1.setCell ⟨p, 23, none⟩ (.bool b)) := r1.setOther hrp _ _
    have HG2 : Hid (G2 r p w (w1.setCell ⟨p, 23, none⟩ (.bool b))) := Lib.hid ((G2.of_gr g1).setCell 23 _)
    have D2 := CC.out a1 _ r2
    generalize PK.rdC s a1 = Y at *
    obtain ⟨c, a2, c2⟩ := Y
    simp only at D2
    have E2 := Lib.hid D2
    have HX1 := Lib.hid X1
    clear hR r1 g1 p1 r2 D2 X1 HX C1 CC h1 HP
    go_wp2_with fail
    refine E2.out.mono ?_
    rintro e w3 hR
    by_cases h2 : c2 = 0
    · obtain ⟨rfl, r3, g3⟩ := hR.1 h2
      have X2 := HX1.out
      rw [PK.bnd_ok h2] at X2
      have p3 := P2.out.gr g3 hpr
      have z7 : w3.cell? ⟨p, 7, none⟩ = some (.int .u8 P.code) := by rw [cell_heap p3]; rfl
      have f7 : w3.frozen? ⟨p, 7, none⟩ = false := frozen_heap p3
      have y0 : w3.cell? ⟨p, 0, none⟩ = some (.int .i64 2) := by rw [cell_heap p3]; exact congrArg (fun x => some (Value.int .i64 x)) HK.out
      have P4 : Hid (PbAt p { P with session := b, code := c } (.slice none 0 0) (.slice none 0 0) (.slice none 0 0) (.slice none 0 0) (.slice none 0 0) (w3.setCell ⟨p, 7, none⟩ (.int .u8 c))) := Lib.hid (set_block p3 rfl)
      have r4 : RdAt r s a2 (w3.setCell ⟨p, 7, none⟩ (.int .u8 c)) := r3.setOther hrp _ _
      have HG4 : Hid (G2 r p w (w3.setCell ⟨p, 7, none⟩ (.int .u8 c))) := Lib.hid ((HG2.out.trans (G2.of_gr g3)).setCell 7 _)
      have D4 := CR.out a2 _ HG4.out r4
      generalize PK.rdPr s a2 2 = Y at *
      obtain ⟨l, a3, c3⟩ := Y
      simp only at D4
      have E4 := Lib.hid D4
      have HX2 := Lib.hid X2
      clear hR r3 g3 p3 r4 D4 X2 HX1 E2 CR h2 P2 HG2 HK
      go_wp2_with fail
      refine E4.out.mono ?_
      rintro e w5 hR
      by_cases h3 : c3 = 0
      · obtain ⟨v, rfl, o5, r5, g5⟩ := hR.1 h3
        have p5 := P4.out.gr g5 hpr
        have z9 : w5.cell? ⟨p, 9, none⟩ = some (.slice none 0 0) := by rw [cell_heap p5]; rfl
        have f9 : w5.frozen? ⟨p, 9, none⟩ = false := frozen_heap p5
        obtain ⟨A, cap, rfl⟩ := own_form o5
        have o6 : w5.ownsRow w.heap.size 135 4 (.slice A l.length cap) l.length (flatP l) := own_base' o5 HG4.out.size
        have O6 : Hid ((w5.setCell ⟨p, 9, none⟩ (.slice A l.length cap)).ownsRow w.heap.size 135 4 (.slice A l.length cap) l.length (flatP l)) := Lib.hid (own_set o6 (row_ne o6 hlp))
        have P6 : Hid (PbAt p { P with session := b, code := c, props := l } (.slice none 0 0) (.slice A l.length cap) (.slice none 0 0) (.slice none 0 0) (.slice none 0 0) (w5.setCell ⟨p, 9, none⟩ (.slice A l.length cap))) := Lib.hid (set_block p5 rfl)
        have R6 : Hid (RdAt r s a3 (w5.setCell ⟨p, 9, none⟩ (.slice A l.length cap))) := Lib.hid (r5.setOther hrp _ _)
        have G6 : Hid (G2 r p w (w5.setCell ⟨p, 9, none⟩ (.slice A l.length cap))) := Lib.hid ((HG4.out.trans (G2.of_gr g5)).setCell 9 _)
        have E : Hid (X = ({ P with session := b, code := c, props := l }, a3, 0)) := Lib.hid (by rw [HX2.out, PK.bnd_ok h3])
        clear hR o5 r5 g5 p5 o6 E4 h3 HX2 P4 HG4
        go_wp2
        go_end0
        rw [E.out]
        exact ⟨fun _ => ⟨_, _, _, _, _, rfl, ⟨by simp only; rw [HB.out.codes]; exact own_nil _ _ _ _, O6.out, by simp only; rw [HB.out.wprops]; exact own_nil _ _ _ _, by simp only; rw [HB.out.subs]; exact own_nil _ _ _ _, by simp only; rw [HB.out.filters]; exact own_nil _ _ _ _⟩, R6.out, P6.out, G6.out⟩, fun h => absurd rfl h⟩
      · obtain ⟨rfl, g5⟩ := hR.2 h3
        exact ⟨rfl, PtP.left (by rw [HX2.out, PK.bnd_bad h3]) h3 (HG4.out.trans (G2.of_gr g5))⟩
    · obtain ⟨rfl, g3⟩ := hR.2 h2
      exact ⟨rfl, PtP.left (by rw [HX1.out, PK.bnd_bad h2]) h2 (HG2.out.trans (G2.of_gr g3))⟩
  · obtain ⟨rfl, g1⟩ := hR.2 h1
    exact ⟨rfl, PtP.left (by rw [HX.out, PK.bnd_bad h1]) h1 (G2.of_gr g1)⟩
theorem rparts_any (r p : Nat) (s : ByteArray) (a : Int) (P : Pk) (w : World) (hk1 : 1 ≤ P.kind) (hk2 : P.kind ≤ 15) (hB : Bare P) (h : RdAt r s a w) (hp : PbAt p P (.slice none 0 0) (.slice none 0 0) (.slice none 0 0) (.slice none 0 0) (.slice none 0 0) w) (hs : s.size ≤ 140737488351232) (hT : ∀ W, G2 r p w W → Tabs W) (hrp : r ≠ p) :
    Calls Tryz.prog 48 #[.pointer (some ⟨r, 0, none⟩), .pointer (some ⟨p, 0, none⟩)] w (PtP r p s w (PK.partsK P.kind s a P)) := by
  have hc : P.kind = 1 ∨ P.kind = 2 ∨ P.kind = 3 ∨ P.kind = 4 ∨ P.kind = 5 ∨ P.kind = 6 ∨ P.kind = 7 ∨ P.kind = 8 ∨ P.kind = 9 ∨ P.kind = 10 ∨ P.kind = 11 ∨ P.kind = 12 ∨ P.kind = 13 ∨ P.kind = 14 ∨ P.kind = 15 := by omega
  rcases hc with hc | hc | hc | hc | hc | hc | hc | hc | hc | hc | hc | hc | hc | hc | hc
  · exact rparts_1 r p s a P w hc hB h hp hs hT hrp
  · exact rparts_2 r p s a P w hc hB h hp hs hT hrp
  · exact rparts_3 r p s a P w hc hB h hp hs hT hrp
  · exact rparts_4 r p s a P w hc hB h hp hs hT hrp
  · exact rparts_5 r p s a P w hc hB h hp hs hT hrp
  · exact rparts_6 r p s a P w hc hB h hp hs hT hrp
  · exact rparts_7 r p s a P w hc hB h hp hs hT hrp
  · exact rparts_8 r p s a P w hc hB h hp hs hT hrp
  · exact rparts_9 r p s a P w hc hB h hp hs hT hrp
  · exact rparts_10 r p s a P w hc hB h hp hs hT hrp
  · exact rparts_11 r p s a P w hc hB h hp hs hT hrp
  · exact rparts_12 r p s a P w hc hB h hp hs hT hrp
  · exact rparts_13 r p s a P w hc hB h hp hs hT hrp
  · exact rparts_14 r p s a P w hc hB h hp hs hT hrp
  · exact rparts_15 r p s a P w hc hB h hp hs hT hrp
end Go.Proofs.YtmldnaadjhnfcaaGreatDoor
namespace Go.Proofs.YtmldnaadjhnfcaaGreatDoor
open Go.RowKit
attribute [local go_sem ↓] Go.wp_at_zero Go.wp_at_succ

namespace PK
def lenC (n m : Int) : Int := if 65536 < n then 149 else if m < n then 242 else if n < m then 129 else 0
end PK
theorem lencode_any (n m : Int) (w : World) : Calls Tryz.prog 20 #[.int .i64 n, .int .i64 m] w fun e w' => e = .returned (.int .u8 (PK.lenC n m)) ∧ w = w' := by
  obtain ⟨X, hX⟩ : ∃ X, X = PK.lenC n m := ⟨_, rfl⟩
  rw [← hX]
  unfold PK.lenC at hX
  have HX := Lib.hid hX
  clear hX
  by_cases h1 : 65536 < n
  · have E : Hid (X = 149) := Lib.hid (by rw [HX.out, if_pos h1])
    clear HX
    go_enter Tryz.func20, Tryz.ntmps20
    go_wp2
    go_ret
    exact ⟨by rw [E.out]; rfl, rfl⟩
  · by_cases h2 : m < n
    · have E : Hid (X = 242) := Lib.hid (by rw [HX.out, if_neg h1, if_pos h2])
      clear HX
      go_enter Tryz.func20, Tryz.ntmps20
      go_wp2
      go_ret
      exact ⟨by rw [E.out]; rfl, rfl⟩
    · by_cases h3 : n < m
      · have E : Hid (X = 129) := Lib.hid (by rw [HX.out, if_neg h1, if_neg h2, if_pos h3])
        clear HX
        go_enter Tryz.func20, Tryz.ntmps20
        go_wp2
        go_ret
        exact ⟨by rw [E.out]; rfl, rfl⟩
      · have E : Hid (X = 0) := Lib.hid (by rw [HX.out, if_neg h1, if_neg h2, if_neg h3])
        clear HX
        go_enter Tryz.func20, Tryz.ntmps20
        go_wp2
        go_ret
        exact ⟨by rw [E.out]; rfl, rfl⟩
end Go.Proofs.YtmldnaadjhnfcaaGreatDoor
