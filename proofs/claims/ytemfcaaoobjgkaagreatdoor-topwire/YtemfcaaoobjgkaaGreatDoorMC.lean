/- The reader at a packet: publish.; The reader at a packet: the flags of a Connect.; The reader at a packet: connect.; The reader at a packet: what follows the length, by kinds (Connect, Publish, the empty ones, Disconnect, Auth). -/
import Derived.Test.YtemfcaaoobjgkaaGreatDoorMB
import Derived.Test.YtemfcaaoobjgkaaGreatDoorTxBegin
namespace Go.Proofs.YtemfcaaoobjgkaaGreatDoor
open Go.RowKit

theorem G2.setR {r p : Nat} {w w' : World} (h : G2 r p w w') (j : Nat) (u : Value) : G2 r p w (w'.setCell ⟨r, j, none⟩ u) :=
  ⟨h.os, h.tape, h.output, by simp [World.setCell]; exact h.size, fun i hi h1 h2 => (Below.heap_setCell _ _ _ _ (fun e => h1 (by simpa using e))).trans (h.block i hi h1 h2)⟩
namespace PK
/-- The identifier, where there is one. -/
def rdI (s : ByteArray) (a q i : Int) : Int × Int × Int := if 0 < q then rdId s a else (i, a, 0)
/-- A topic, an identifier where there is one, properties, and all that is left. -/
def rdPub (s : ByteArray) (a k q i : Int) : (ByteArray × Int × List Pr × ByteArray) × Int × Int :=
  (((rdT s a).1, (rdI s (rdT s a).2.1 q i).1, (rdPr s (rdI s (rdT s a).2.1 q i).2.1 k).1, s.extract (rdPr s (rdI s (rdT s a).2.1 q i).2.1 k).2.1.toNat s.size), (s.size : Int),
    thn (rdT s a).2.2 (thn (rdI s (rdT s a).2.1 q i).2.2 (rdPr s (rdI s (rdT s a).2.1 q i).2.1 k).2.2))
theorem getL_at (s : ByteArray) (a : Int) (h : (PR.getL s a).2.2 = 0) : ∃ q : Nat, (PR.getL s a).2.1 = q ∧ q ≤ s.size := by
  by_cases h0 : (VP.get s a).2.2 = 0
  · obtain ⟨m, f, hg, hf⟩ := PR.get_at s a h0
    by_cases hl : (s.size : Int) - f < m
    · rw [PR.getL_few s a m f hg hl] at h; exact absurd h (by simp)
    · have hx := PR.getL_in s a m f hg hl rfl
      by_cases hz : (PR.gl (s.extract f (f + m)) 66 0 []).2 ≠ 0
      · rw [if_pos hz] at hx; rw [hx] at h; exact absurd h hz
      · rw [if_neg hz] at hx; rw [hx]; exact ⟨f + m, by simp, by omega⟩
  · rw [PR.getL_bad s a h0] at h; exact absurd h h0
theorem cm_zero {c : Int} (h : cm c = 0) : c = 0 := by
  unfold cm at h
  split at h
  · exact absurd h (by decide)
  · exact h
theorem rdPr_at (s : ByteArray) (a k : Int) (h : (rdPr s a k).2.2 = 0) : ∃ q : Nat, (rdPr s a k).2.1 = q ∧ q ≤ s.size := by
  have hc : cm (PR.getL s a).2.2 = 0 := by
    by_cases hz : cm (PR.getL s a).2.2 = 0
    · exact hz
    · exfalso
      have : (rdPr s a k).2.2 = cm (PR.getL s a).2.2 := thn_bad hz _
      exact hz (this.symm.trans h)
  exact getL_at s a (cm_zero hc)
end PK
/-- What the reader's publish answers. -/
def PubP (r p : Nat) (s : ByteArray) (P : Pk) (vc vw vs vf : Value) (w : World) (X : (ByteArray × Int × List Pr × ByteArray) × Int × Int) (e : Ending) (w' : World) : Prop :=
  (X.2.2 = 0 → ∃ v, e = .returned (.tuple #[]) ∧ w'.ownsRow w.heap.size 116 4 v X.1.2.2.1.length (flatP X.1.2.2.1) ∧ RdAt r s X.2.1 w' ∧ PbAt p { P with topic := X.1.1, id := X.1.2.1, props := X.1.2.2.1, pay := X.1.2.2.2 } vc v vw vs vf w' ∧ G2 r p w w') ∧ (X.2.2 ≠ 0 → e = leftBy X.2.2 ∧ G2 r p w w')

set_option maxRecDepth 100000 in
set_option maxHeartbeats 4000000 in
theorem rpublish_any (r p : Nat) (s : ByteArray) (a : Int) (P : Pk) (vc vp vw vs vf : Value) (w : World) (h : RdAt r s a w) (hp : PbAt p P vc vp vw vs vf w) (hs : s.size ≤ 140737488351232) (hT : ∀ W, G2 r p w W → Tabs W) (hrp : r ≠ p) :
    Calls Tryz.prog 90 #[.pointer (some ⟨r, 0, none⟩), .pointer (some ⟨p, 0, none⟩)] w (PubP r p s P vc vw vs vf w (PK.rdPub s a P.kind P.qos P.id)) := by
  have C1 : Hid (Calls Tryz.prog 95 #[.pointer (some ⟨r, 0, none⟩)] w (RdP r s w (.string (PK.rdT s a).1) (PK.rdT s a).2.1 (PK.rdT s a).2.2)) := rtext_any r s a w h hs (hT w (G2.refl _ _ _))
  have CI : Hid (∀ a W, RdAt r s a W → Calls Tryz.prog 97 #[.pointer (some ⟨r, 0, none⟩)] W (RdP r s W (.int .i64 (PK.rdId s a).1) (PK.rdId s a).2.1 (PK.rdId s a).2.2)) := fun a W hW => rid_any r s a W hW hs
  have C2 : Hid (∀ a W, G2 r p w W → RdAt r s a W → Calls Tryz.prog 89 #[.pointer (some ⟨r, 0, none⟩), .int .i64 P.kind] W (RdPP r s W (PK.rdPr s a P.kind).1 (PK.rdPr s a P.kind).2.1 (PK.rdPr s a P.kind).2.2)) := fun a W hg hW => rprops_any r s a P.kind W hW hs (hT W hg)
  have AT : Hid (∀ a, (PK.rdPr s a P.kind).2.2 = 0 → ∃ q : Nat, (PK.rdPr s a P.kind).2.1 = q ∧ q ≤ s.size) := Lib.hid (fun a => PK.rdPr_at s a P.kind)
  have CC : Hid (∀ (q : Nat) W, Calls Tryz.prog 22 #[.string (s.extract q s.size)] W fun e w' => e = .returned (.string (s.extract q s.size)) ∧ Below W.heap.size W w') := Lib.hid (fun q W => clone_any _ W (by rw [ByteArray.size_extract]; omega))
  have HP := Lib.hid hp
  have hlr := lt_heap h
  have hlp := lt_heap hp
  have hpr : p ≠ r := fun e => hrp e.symm
  obtain ⟨X, hX⟩ : ∃ X, X = PK.rdPub s a P.kind P.qos P.id := ⟨_, rfl⟩
  rw [← hX]
  unfold PK.rdPub at hX
  have HX := Lib.hid hX
  clear h hp hT hX
  generalize PK.rdT s a = Y at *
  obtain ⟨tp, a1, c1⟩ := Y
  simp only at C1 HX
  by_cases h1 : c1 = 0
  · have H1 := Lib.hid h1
    clear h1
    by_cases hq : 0 < P.qos
    · have E0 : Hid (PK.rdI s a1 P.qos P.id = PK.rdId s a1) := Lib.hid (by unfold PK.rdI; rw [if_pos hq])
      rw [E0.out] at HX
      have D1 := CI.out a1
      generalize PK.rdId s a1 = Y at *
      obtain ⟨n, a2, c2⟩ := Y
      simp only at HX D1
      have HD1 := Lib.hid D1
      clear E0 D1 CI
      have HQ := Lib.hid hq
      go_enter Tryz.func90, Tryz.ntmps90
      go_wp2_with fail
      refine C1.out.mono ?_
      rintro e w1 hR
      obtain ⟨rfl, r1, g1⟩ := hR.1 H1.out
      have p1 := HP.out.gr g1 hpr
      have z5 : w1.cell? ⟨p, 5, none⟩ = some (.string P.topic) := by rw [cell_heap p1]; rfl
      have f5 : w1.frozen? ⟨p, 5, none⟩ = false := frozen_heap p1
      have z3 : w1.cell? ⟨p, 3, none⟩ = some (.int .i64 P.qos) := by rw [cell_heap p1]; rfl
      have y0 : w1.cell? ⟨p, 0, none⟩ = some (.int .i64 P.kind) := by rw [cell_heap p1]; rfl
      have P2 : Hid (PbAt p { P with topic := tp } vc vp vw vs vf (w1.setCell ⟨p, 5, none⟩ (.string tp))) := Lib.hid (set_block p1 rfl)
      have R2 : Hid (RdAt r s a1 (w1.setCell ⟨p, 5, none⟩ (.string tp))) := Lib.hid (r1.setOther hrp _ _)
      have GG2 : Hid (G2 r p w (w1.setCell ⟨p, 5, none⟩ (.string tp))) := Lib.hid ((G2.of_gr g1).setCell 5 _)
      clear hR r1 g1 C1 p1 HP
      go_wp2_with fail
      refine (HD1.out _ R2.out).mono ?_
      rintro e w3 hR
      by_cases h2 : c2 = 0
      · obtain ⟨rfl, r3, g3⟩ := hR.1 h2
        have p3 := P2.out.gr g3 hpr
        have z4 : w3.cell? ⟨p, 4, none⟩ = some (.int .i64 P.id) := by rw [cell_heap p3]; rfl
        have f4 : w3.frozen? ⟨p, 4, none⟩ = false := frozen_heap p3
        have z0 : w3.cell? ⟨p, 0, none⟩ = some (.int .i64 P.kind) := by rw [cell_heap p3]; rfl
        have P4 : Hid (PbAt p { P with topic := tp, id := n } vc vp vw vs vf (w3.setCell ⟨p, 4, none⟩ (.int .i64 n))) := Lib.hid (set_block p3 rfl)
        have R4 : RdAt r s a2 (w3.setCell ⟨p, 4, none⟩ (.int .i64 n)) := r3.setOther hrp _ _
        have G4 : Hid (G2 r p w (w3.setCell ⟨p, 4, none⟩ (.int .i64 n))) := Lib.hid ((GG2.out.trans (G2.of_gr g3)).setCell 4 _)
        have HX4 : Hid (X = ((tp, n, (PK.rdPr s a2 P.kind).1, s.extract (PK.rdPr s a2 P.kind).2.1.toNat s.size), (s.size : Int), (PK.rdPr s a2 P.kind).2.2)) := Lib.hid (by rw [HX.out, PK.thn_ok H1.out, PK.thn_ok h2])
        have D4 := C2.out a2
        have AT4 := AT.out a2
        generalize PK.rdPr s a2 P.kind = Z at *
        obtain ⟨l, a3, c3⟩ := Z
        simp only at D4 HX4 AT4
        have E4 := Lib.hid (D4 _ G4.out R4)
        have HAT := Lib.hid AT4
        clear hR r3 g3 p3 HD1 R2 P2 GG2 D4 AT4 C2 AT HX h2 R4
        go_wp2_with fail
        refine E4.out.mono ?_
        rintro e w5 hR
        by_cases h3 : c3 = 0
        · obtain ⟨v, rfl, o5, r5, g5⟩ := hR.1 h3
          obtain ⟨q, hq3, hqs⟩ := HAT.out h3
          have p5 := P4.out.gr g5 hpr
          have z9 : w5.cell? ⟨p, 9, none⟩ = some vp := by rw [cell_heap p5]; rfl
          have f9 : w5.frozen? ⟨p, 9, none⟩ = false := frozen_heap p5
          obtain ⟨A, cap, rfl⟩ := own_form o5
          have o6 : w5.ownsRow w.heap.size 116 4 (.slice A l.length cap) l.length (flatP l) := own_base' o5 G4.out.size
          have o7 : (w5.setCell ⟨p, 9, none⟩ (.slice A l.length cap)).ownsRow w.heap.size 116 4 (.slice A l.length cap) l.length (flatP l) := own_set o6 (row_ne o6 hlp)
          have P7 : Hid (PbAt p { P with topic := tp, id := n, props := l } vc (.slice A l.length cap) vw vs vf (w5.setCell ⟨p, 9, none⟩ (.slice A l.length cap))) := Lib.hid (set_block p5 rfl)
          have R7 : Hid (RdAt r s a3 (w5.setCell ⟨p, 9, none⟩ (.slice A l.length cap))) := Lib.hid (r5.setOther hrp _ _)
          have G7 : Hid (G2 r p w (w5.setCell ⟨p, 9, none⟩ (.slice A l.length cap))) := Lib.hid ((G4.out.trans (G2.of_gr g5)).setCell 9 _)
          have O7 := Lib.hid o7
          have hlp7 : p < (w5.setCell ⟨p, 9, none⟩ (.slice A l.length cap)).heap.size := lt_heap P7.out
          have hlr7 : r < (w5.setCell ⟨p, 9, none⟩ (.slice A l.length cap)).heap.size := lt_heap R7.out
          have EX : Hid (X = ((tp, n, l, s.extract q s.size), (s.size : Int), 0)) := Lib.hid (by rw [HX4.out, h3, hq3]; rfl)
          subst hq3
          have hsl : ∀ W, (Instr.slice 9 (.string s) (some (.int .i64 (q : Int))) none none).run Tryz.prog W = .ok (.string (s.extract q s.size)) W := fun W => slice_from s q hqs W
          have CC1 := Lib.hid (CC.out q)
          generalize s.extract q s.size = pay at *
          clear hR o5 r5 g5 p5 o6 o7 E4 h3 HX4 HAT CC P4 G4
          go_wp2_with fail
          generalize w5.setCell ⟨p, 9, none⟩ (.slice A l.length cap) = w7 at *
          have q0 : w7.cell? ⟨r, 0, none⟩ = some (.string s) := by rw [cell_heap R7.out]; rfl
          have q1 : w7.cell? ⟨r, 1, none⟩ = some (.int .i64 (q : Int)) := by rw [cell_heap R7.out]; rfl
          clear z9 f9 z5 f5 z3 y0
          go_region_held3 (fun w' => w'.cell? ⟨r, 0, none⟩ = some (.string s) ∧ w'.cell? ⟨r, 1, none⟩ = some (.int .i64 (q : Int)))
            (first | exact ⟨q0, q1⟩ | exact ⟨p0, p1⟩ | exact ⟨u0, u1⟩)
            (first
              | (go_at_call 22
                 refine (CC1.out _).mono ?_
                 rintro e w8 ⟨rfl, b8⟩
                 have hr8 : RdAt r s q w8 := (show RdAt r s q w7.drew from R7.out).below b8
                 have hp8 : PbAt p { P with topic := tp, id := n, props := l } vc (.slice A l.length cap) vw vs vf w8 := (show PbAt p { P with topic := tp, id := n, props := l } vc (.slice A l.length cap) vw vs vf w7.drew from P7.out).gr (Gr.of_below (r := r) b8) hpr
                 have p0 : w8.cell? ⟨r, 0, none⟩ = some (.string s) := by rw [cell_heap hr8]; rfl
                 have p1 : w8.cell? ⟨r, 1, none⟩ = some (.int .i64 (q : Int)) := by rw [cell_heap hr8]; rfl
                 have z6 : w8.cell? ⟨p, 6, none⟩ = some (.string P.pay) := by rw [cell_heap hp8]; rfl
                 have f6 : w8.frozen? ⟨p, 6, none⟩ = false := frozen_heap hp8
                 have hr9 : RdAt r s q (w8.setCell ⟨p, 6, none⟩ (.string pay)) := hr8.setOther hrp _ _
                 have u0 : (w8.setCell ⟨p, 6, none⟩ (.string pay)).cell? ⟨r, 0, none⟩ = some (.string s) := by rw [cell_heap hr9]; rfl
                 have u1 : (w8.setCell ⟨p, 6, none⟩ (.string pay)).cell? ⟨r, 1, none⟩ = some (.int .i64 (q : Int)) := by rw [cell_heap hr9]; rfl))
          have P9 : PbAt p { P with topic := tp, id := n, props := l, pay := pay } vc (.slice A l.length cap) vw vs vf (w8.setCell ⟨p, 6, none⟩ (.string pay)) := set_block hp8 rfl
          have R9 := Lib.hid hr9
          have hG8 : G2 r p w w8 := G7.out.trans (G2.of_gr (Gr.of_drew (Gr.of_below b8)))
          have f1 : (w8.setCell ⟨p, 6, none⟩ (.string pay)).frozen? ⟨r, 1, none⟩ = false := frozen_heap hr9
          have RA : Hid (RdAt r s (s.size : Int) ((w8.setCell ⟨p, 6, none⟩ (.string pay)).setCell ⟨r, 1, none⟩ (.int .i64 (s.size : Int)))) := Lib.hid (set_block hr9 rfl)
          have PA : Hid (PbAt p { P with topic := tp, id := n, props := l, pay := pay } vc (.slice A l.length cap) vw vs vf ((w8.setCell ⟨p, 6, none⟩ (.string pay)).setCell ⟨r, 1, none⟩ (.int .i64 (s.size : Int)))) := Lib.hid ((Below.heap_setCell _ _ _ _ (fun e => hpr (by simpa using e))).trans P9)
          have GA : Hid (G2 r p w ((w8.setCell ⟨p, 6, none⟩ (.string pay)).setCell ⟨r, 1, none⟩ (.int .i64 (s.size : Int)))) := Lib.hid ((hG8.setCell 6 _).setR 1 _)
          have o8 : w8.ownsRow w.heap.size 116 4 (.slice A l.length cap) l.length (flatP l) := own_gr O7.out (Gr.of_drew (Gr.of_below b8)) (row_ne O7.out hlr)
          have o9 : (w8.setCell ⟨p, 6, none⟩ (.string pay)).ownsRow w.heap.size 116 4 (.slice A l.length cap) l.length (flatP l) := own_set o8 (row_ne o8 hlp)
          have OA : Hid (((w8.setCell ⟨p, 6, none⟩ (.string pay)).setCell ⟨r, 1, none⟩ (.int .i64 (s.size : Int))).ownsRow w.heap.size 116 4 (.slice A l.length cap) l.length (flatP l)) := Lib.hid (own_set o9 (row_ne o9 hlr))
          clear P9 hG8 o8 o9 b8 hr8 hp8 O7 P7 R7 G7 hr9 CC1 hsl
          go_wp2
          go_end0
          rw [EX.out]
          exact ⟨fun _ => ⟨_, rfl, OA.out, RA.out, PA.out, GA.out⟩, fun h => absurd rfl h⟩
        · obtain ⟨rfl, g5⟩ := hR.2 h3
          have E : X.2.2 = c3 := by rw [HX4.out]
          exact ⟨rfl, fun h => absurd (E.symm.trans h) h3, fun _ => ⟨by rw [E]; rfl, G4.out.trans (G2.of_gr g5)⟩⟩
      · obtain ⟨rfl, g3⟩ := hR.2 h2
        have E : X.2.2 = c2 := by rw [HX.out]; exact (PK.thn_ok H1.out _).trans (PK.thn_bad h2 _)
        exact ⟨rfl, fun h => absurd (E.symm.trans h) h2, fun _ => ⟨by rw [E]; rfl, GG2.out.trans (G2.of_gr g3)⟩⟩
    · have E0 : Hid (PK.rdI s a1 P.qos P.id = (P.id, a1, 0)) := Lib.hid (by unfold PK.rdI; rw [if_neg hq])
      rw [E0.out] at HX
      simp only at HX
      clear E0 CI
      have HQ := Lib.hid hq
      go_enter Tryz.func90, Tryz.ntmps90
      go_wp2_with fail
      refine C1.out.mono ?_
      rintro e w1 hR
      obtain ⟨rfl, r1, g1⟩ := hR.1 H1.out
      have p1 := HP.out.gr g1 hpr
      have z5 : w1.cell? ⟨p, 5, none⟩ = some (.string P.topic) := by rw [cell_heap p1]; rfl
      have f5 : w1.frozen? ⟨p, 5, none⟩ = false := frozen_heap p1
      have z3 : w1.cell? ⟨p, 3, none⟩ = some (.int .i64 P.qos) := by rw [cell_heap p1]; rfl
      have y0 : w1.cell? ⟨p, 0, none⟩ = some (.int .i64 P.kind) := by rw [cell_heap p1]; rfl
      have P2 : Hid (PbAt p { P with topic := tp } vc vp vw vs vf (w1.setCell ⟨p, 5, none⟩ (.string tp))) := Lib.hid (set_block p1 rfl)
      have R2 : Hid (RdAt r s a1 (w1.setCell ⟨p, 5, none⟩ (.string tp))) := Lib.hid (r1.setOther hrp _ _)
      have GG2 : Hid (G2 r p w (w1.setCell ⟨p, 5, none⟩ (.string tp))) := Lib.hid ((G2.of_gr g1).setCell 5 _)
      clear hR r1 g1 C1 p1 HP
      · have P4 : Hid (PbAt p { P with topic := tp, id := P.id } vc vp vw vs vf (w1.setCell ⟨p, 5, none⟩ (.string tp))) := P2
        have G4 := GG2
        have HX4 : Hid (X = ((tp, P.id, (PK.rdPr s a1 P.kind).1, s.extract (PK.rdPr s a1 P.kind).2.1.toNat s.size), (s.size : Int), (PK.rdPr s a1 P.kind).2.2)) := Lib.hid (by rw [HX.out, PK.thn_ok H1.out, PK.thn_ok rfl])
        have D4 := C2.out a1
        have AT4 := AT.out a1
        generalize PK.rdPr s a1 P.kind = Z at *
        obtain ⟨l, a3, c3⟩ := Z
        simp only at D4 HX4 AT4
        have E4 := Lib.hid (D4 _ G4.out R2.out)
        have HAT := Lib.hid AT4
        have HN : Hid (∃ n, n = P.id) := Lib.hid ⟨_, rfl⟩
        clear R2 P2 GG2 D4 AT4 C2 AT HX
        go_wp2_with fail
        refine E4.out.mono ?_
        rintro e w5 hR
        by_cases h3 : c3 = 0
        · obtain ⟨v, rfl, o5, r5, g5⟩ := hR.1 h3
          obtain ⟨q, hq3, hqs⟩ := HAT.out h3
          have p5 := P4.out.gr g5 hpr
          have z9 : w5.cell? ⟨p, 9, none⟩ = some vp := by rw [cell_heap p5]; rfl
          have f9 : w5.frozen? ⟨p, 9, none⟩ = false := frozen_heap p5
          obtain ⟨A, cap, rfl⟩ := own_form o5
          have o6 : w5.ownsRow w.heap.size 116 4 (.slice A l.length cap) l.length (flatP l) := own_base' o5 G4.out.size
          have o7 : (w5.setCell ⟨p, 9, none⟩ (.slice A l.length cap)).ownsRow w.heap.size 116 4 (.slice A l.length cap) l.length (flatP l) := own_set o6 (row_ne o6 hlp)
          have P7 : Hid (PbAt p { P with topic := tp, id := P.id, props := l } vc (.slice A l.length cap) vw vs vf (w5.setCell ⟨p, 9, none⟩ (.slice A l.length cap))) := Lib.hid (set_block p5 rfl)
          have R7 : Hid (RdAt r s a3 (w5.setCell ⟨p, 9, none⟩ (.slice A l.length cap))) := Lib.hid (r5.setOther hrp _ _)
          have G7 : Hid (G2 r p w (w5.setCell ⟨p, 9, none⟩ (.slice A l.length cap))) := Lib.hid ((G4.out.trans (G2.of_gr g5)).setCell 9 _)
          have O7 := Lib.hid o7
          have hlp7 : p < (w5.setCell ⟨p, 9, none⟩ (.slice A l.length cap)).heap.size := lt_heap P7.out
          have hlr7 : r < (w5.setCell ⟨p, 9, none⟩ (.slice A l.length cap)).heap.size := lt_heap R7.out
          have EX : Hid (X = ((tp, P.id, l, s.extract q s.size), (s.size : Int), 0)) := Lib.hid (by rw [HX4.out, h3, hq3]; rfl)
          subst hq3
          have hsl : ∀ W, (Instr.slice 9 (.string s) (some (.int .i64 (q : Int))) none none).run Tryz.prog W = .ok (.string (s.extract q s.size)) W := fun W => slice_from s q hqs W
          have CC1 := Lib.hid (CC.out q)
          generalize s.extract q s.size = pay at *
          clear hR o5 r5 g5 p5 o6 o7 E4 h3 HX4 HAT CC P4 G4
          go_wp2_with fail
          generalize w5.setCell ⟨p, 9, none⟩ (.slice A l.length cap) = w7 at *
          have q0 : w7.cell? ⟨r, 0, none⟩ = some (.string s) := by rw [cell_heap R7.out]; rfl
          have q1 : w7.cell? ⟨r, 1, none⟩ = some (.int .i64 (q : Int)) := by rw [cell_heap R7.out]; rfl
          clear z9 f9 z5 f5 z3 y0
          go_region_held3 (fun w' => w'.cell? ⟨r, 0, none⟩ = some (.string s) ∧ w'.cell? ⟨r, 1, none⟩ = some (.int .i64 (q : Int)))
            (first | exact ⟨q0, q1⟩ | exact ⟨p0, p1⟩ | exact ⟨u0, u1⟩)
            (first
              | (go_at_call 22
                 refine (CC1.out _).mono ?_
                 rintro e w8 ⟨rfl, b8⟩
                 have hr8 : RdAt r s q w8 := (show RdAt r s q w7.drew from R7.out).below b8
                 have hp8 : PbAt p { P with topic := tp, id := P.id, props := l } vc (.slice A l.length cap) vw vs vf w8 := (show PbAt p { P with topic := tp, id := P.id, props := l } vc (.slice A l.length cap) vw vs vf w7.drew from P7.out).gr (Gr.of_below (r := r) b8) hpr
                 have p0 : w8.cell? ⟨r, 0, none⟩ = some (.string s) := by rw [cell_heap hr8]; rfl
                 have p1 : w8.cell? ⟨r, 1, none⟩ = some (.int .i64 (q : Int)) := by rw [cell_heap hr8]; rfl
                 have z6 : w8.cell? ⟨p, 6, none⟩ = some (.string P.pay) := by rw [cell_heap hp8]; rfl
                 have f6 : w8.frozen? ⟨p, 6, none⟩ = false := frozen_heap hp8
                 have hr9 : RdAt r s q (w8.setCell ⟨p, 6, none⟩ (.string pay)) := hr8.setOther hrp _ _
                 have u0 : (w8.setCell ⟨p, 6, none⟩ (.string pay)).cell? ⟨r, 0, none⟩ = some (.string s) := by rw [cell_heap hr9]; rfl
                 have u1 : (w8.setCell ⟨p, 6, none⟩ (.string pay)).cell? ⟨r, 1, none⟩ = some (.int .i64 (q : Int)) := by rw [cell_heap hr9]; rfl))
          have P9 : PbAt p { P with topic := tp, id := P.id, props := l, pay := pay } vc (.slice A l.length cap) vw vs vf (w8.setCell ⟨p, 6, none⟩ (.string pay)) := set_block hp8 rfl
          have R9 := Lib.hid hr9
          have hG8 : G2 r p w w8 := G7.out.trans (G2.of_gr (Gr.of_drew (Gr.of_below b8)))
          have f1 : (w8.setCell ⟨p, 6, none⟩ (.string pay)).frozen? ⟨r, 1, none⟩ = false := frozen_heap hr9
          have RA : Hid (RdAt r s (s.size : Int) ((w8.setCell ⟨p, 6, none⟩ (.string pay)).setCell ⟨r, 1, none⟩ (.int .i64 (s.size : Int)))) := Lib.hid (set_block hr9 rfl)
          have PA : Hid (PbAt p { P with topic := tp, id := P.id, props := l, pay := pay } vc (.slice A l.length cap) vw vs vf ((w8.setCell ⟨p, 6, none⟩ (.string pay)).setCell ⟨r, 1, none⟩ (.int .i64 (s.size : Int)))) := Lib.hid ((Below.heap_setCell _ _ _ _ (fun e => hpr (by simpa using e))).trans P9)
          have GA : Hid (G2 r p w ((w8.setCell ⟨p, 6, none⟩ (.string pay)).setCell ⟨r, 1, none⟩ (.int .i64 (s.size : Int)))) := Lib.hid ((hG8.setCell 6 _).setR 1 _)
          have o8 : w8.ownsRow w.heap.size 116 4 (.slice A l.length cap) l.length (flatP l) := own_gr O7.out (Gr.of_drew (Gr.of_below b8)) (row_ne O7.out hlr)
          have o9 : (w8.setCell ⟨p, 6, none⟩ (.string pay)).ownsRow w.heap.size 116 4 (.slice A l.length cap) l.length (flatP l) := own_set o8 (row_ne o8 hlp)
          have OA : Hid (((w8.setCell ⟨p, 6, none⟩ (.string pay)).setCell ⟨r, 1, none⟩ (.int .i64 (s.size : Int))).ownsRow w.heap.size 116 4 (.slice A l.length cap) l.length (flatP l)) := Lib.hid (own_set o9 (row_ne o9 hlr))
          clear P9 hG8 o8 o9 b8 hr8 hp8 O7 P7 R7 G7 hr9 CC1 hsl
          go_wp2
          go_end0
          rw [EX.out]
          exact ⟨fun _ => ⟨_, rfl, OA.out, RA.out, PA.out, GA.out⟩, fun h => absurd rfl h⟩
        · obtain ⟨rfl, g5⟩ := hR.2 h3
          have E : X.2.2 = c3 := by rw [HX4.out]
          exact ⟨rfl, fun h => absurd (E.symm.trans h) h3, fun _ => ⟨by rw [E]; rfl, G4.out.trans (G2.of_gr g5)⟩⟩
  · have E : Hid (X.2.2 = c1) := Lib.hid (by rw [HX.out]; exact PK.thn_bad h1 _)
    have H1 := Lib.hid h1
    clear h1 HX
    go_enter Tryz.func90, Tryz.ntmps90
    go_wp2_with fail
    refine C1.out.mono ?_
    rintro e w1 hR
    obtain ⟨rfl, g1⟩ := hR.2 H1.out
    exact ⟨rfl, fun h => absurd (E.out.symm.trans h) H1.out, fun _ => ⟨by rw [E.out]; rfl, G2.of_gr g1⟩⟩
end Go.Proofs.YtemfcaaoobjgkaaGreatDoor
namespace Go.Proofs.YtemfcaaoobjgkaaGreatDoor
open Go.RowKit
attribute [local go_sem ↓] Go.wp_at_zero Go.wp_at_succ

namespace PK
/-- What a Connect's flags tell. -/
def cflPk (P : Pk) (n : Int) : Pk := { P with clean := bits .and .i64 n 2 != 0, hasWill := bits .and .i64 n 4 != 0, wqos := bits .and .i64 (n / 8) 3, wret := bits .and .i64 n 32 != 0, hasPass := bits .and .i64 n 64 != 0, hasUser := bits .and .i64 n 128 != 0 }
def cflC (n : Int) : Int :=
  if (bits .and .i64 n 1 != 0) = true then 129 else if isQ (bits .and .i64 (n / 8) 3) = false then 129
  else if ((bits .and .i64 (n / 8) 3 != 0) || (bits .and .i64 n 32 != 0)) = true ∧ (bits .and .i64 n 4 != 0) = false then 129 else 0
def rdFl (s : ByteArray) (a : Int) : Int × Int × Int := ((VP.rd s a 1).1, (VP.rd s a 1).2.1, thn (cm (VP.rd s a 1).2.2) (cflC (VP.rd s a 1).1))
end PK
/-- What the reader's connectFlags answers. -/
def CfP (r p : Nat) (s : ByteArray) (P : Pk) (vc vp vw vs vf : Value) (w : World) (X : Int × Int × Int) (e : Ending) (w' : World) : Prop :=
  (X.2.2 = 0 → e = .returned (.tuple #[]) ∧ RdAt r s X.2.1 w' ∧ PbAt p (PK.cflPk P X.1) vc vp vw vs vf w' ∧ G2 r p w w') ∧ (X.2.2 ≠ 0 → e = leftBy X.2.2 ∧ G2 r p w w')

set_option maxRecDepth 100000 in
set_option maxHeartbeats 1500000 in
theorem rcflags_any (r p : Nat) (s : ByteArray) (a : Int) (P : Pk) (vc vp vw vs vf : Value) (w : World) (h : RdAt r s a w) (hp : PbAt p P vc vp vw vs vf w) (hs : s.size ≤ 140737488351232) (hrp : r ≠ p) :
    Calls Tryz.prog 113 #[.pointer (some ⟨r, 0, none⟩), .pointer (some ⟨p, 0, none⟩)] w (CfP r p s P vc vp vw vs vf w (PK.rdFl s a)) := by
  have C1 := Lib.hid (rnumber_any r s a 1 w h hs)
  have CQ := Lib.hid isqos_any
  have CL := Lib.hid leave_any
  have HP := Lib.hid hp
  have hlp := lt_heap hp
  have hpr : p ≠ r := fun e => hrp e.symm
  have hn1 := (PK.rd_nn s a 1).1
  have hn2 := PK.rd_1le s a
  unfold PK.rdFl
  generalize VP.rd s a 1 = Y at *
  obtain ⟨n, a1, c1⟩ := Y
  simp only at C1 hn1 hn2 ⊢
  obtain ⟨TC, hTC⟩ : ∃ t, t = PK.thn (cm c1) (PK.cflC n) := ⟨_, rfl⟩
  rw [← hTC]
  have HTC := Lib.hid hTC
  clear hTC h hp
  by_cases h1 : cm c1 = 0
  · have H1 := Lib.hid h1
    have ET : Hid (TC = PK.cflC n) := Lib.hid (by rw [HTC.out, PK.thn_ok h1])
    clear h1 HTC
    go_enter Tryz.func113, Tryz.ntmps113
    go_wp2_with fail
    refine C1.out.mono ?_
    rintro e w1 hR
    obtain ⟨rfl, r1, g1⟩ := hR.1 H1.out
    have p1 := HP.out.gr g1 hpr
    have z11 : w1.cell? ⟨p, 11, none⟩ = some (.bool P.clean) := by rw [cell_heap p1]; rfl
    have f11 : w1.frozen? ⟨p, 11, none⟩ = false := frozen_heap p1
    have z13 : w1.cell? ⟨p, 13, none⟩ = some (.bool P.hasWill) := by rw [cell_heap p1]; rfl
    have f13 : w1.frozen? ⟨p, 13, none⟩ = false := frozen_heap p1
    have z16 : w1.cell? ⟨p, 16, none⟩ = some (.int .i64 P.wqos) := by rw [cell_heap p1]; rfl
    have f16 : w1.frozen? ⟨p, 16, none⟩ = false := frozen_heap p1
    have z17 : w1.cell? ⟨p, 17, none⟩ = some (.bool P.wret) := by rw [cell_heap p1]; rfl
    have f17 : w1.frozen? ⟨p, 17, none⟩ = false := frozen_heap p1
    have z20 : w1.cell? ⟨p, 20, none⟩ = some (.bool P.hasPass) := by rw [cell_heap p1]; rfl
    have f20 : w1.frozen? ⟨p, 20, none⟩ = false := frozen_heap p1
    have z19 : w1.cell? ⟨p, 19, none⟩ = some (.bool P.hasUser) := by rw [cell_heap p1]; rfl
    have f19 : w1.frozen? ⟨p, 19, none⟩ = false := frozen_heap p1
    have P2 : Hid (PbAt p (PK.cflPk P n) vc vp vw vs vf ((((((w1.setCell ⟨p, 11, none⟩ (.bool (bits .and .i64 n 2 != 0))).setCell ⟨p, 13, none⟩ (.bool (bits .and .i64 n 4 != 0))).setCell ⟨p, 16, none⟩ (.int .i64 (bits .and .i64 (n / 8) 3))).setCell ⟨p, 17, none⟩ (.bool (bits .and .i64 n 32 != 0))).setCell ⟨p, 20, none⟩ (.bool (bits .and .i64 n 64 != 0))).setCell ⟨p, 19, none⟩ (.bool (bits .and .i64 n 128 != 0)))) := Lib.hid (set_block (set_block (set_block (set_block (set_block (set_block p1 rfl) rfl) rfl) rfl) rfl) rfl)
    have R2 : Hid (RdAt r s a1 ((((((w1.setCell ⟨p, 11, none⟩ (.bool (bits .and .i64 n 2 != 0))).setCell ⟨p, 13, none⟩ (.bool (bits .and .i64 n 4 != 0))).setCell ⟨p, 16, none⟩ (.int .i64 (bits .and .i64 (n / 8) 3))).setCell ⟨p, 17, none⟩ (.bool (bits .and .i64 n 32 != 0))).setCell ⟨p, 20, none⟩ (.bool (bits .and .i64 n 64 != 0))).setCell ⟨p, 19, none⟩ (.bool (bits .and .i64 n 128 != 0)))) := Lib.hid ((((((r1.setOther hrp _ _).setOther hrp _ _).setOther hrp _ _).setOther hrp _ _).setOther hrp _ _).setOther hrp _ _)
    have GG2 : Hid (G2 r p w ((((((w1.setCell ⟨p, 11, none⟩ (.bool (bits .and .i64 n 2 != 0))).setCell ⟨p, 13, none⟩ (.bool (bits .and .i64 n 4 != 0))).setCell ⟨p, 16, none⟩ (.int .i64 (bits .and .i64 (n / 8) 3))).setCell ⟨p, 17, none⟩ (.bool (bits .and .i64 n 32 != 0))).setCell ⟨p, 20, none⟩ (.bool (bits .and .i64 n 64 != 0))).setCell ⟨p, 19, none⟩ (.bool (bits .and .i64 n 128 != 0)))) := Lib.hid (((((((G2.of_gr g1).setCell 11 _).setCell 13 _).setCell 16 _).setCell 17 _).setCell 20 _).setCell 19 _)
    have hl1 : p < w1.heap.size := lt_heap p1
    clear hR r1 g1 C1 p1 HP
    cases hz : (bits .and .i64 (n / 8) 3 != 0)
    · cases hr : (bits .and .i64 n 32 != 0)
      · rw [hr] at P2 R2 GG2
        cases hb : (bits .and .i64 n 1 != 0)
        · cases hq : PK.isQ (bits .and .i64 (n / 8) 3)
          · have HQ := Lib.hid hq
            have E : Hid (TC = 129) := Lib.hid (by rw [ET.out]; unfold PK.cflC; simp [hb, hq])
            clear ET
            go_wp2_with fail
            refine (CQ.out _ _).mono ?_
            rintro e w' ⟨rfl, rfl⟩
            rw [HQ.out]
            go_wp2_with fail
            refine (CL.out _ _).mono ?_
            rintro e w' ⟨rfl, rfl⟩
            exact ⟨rfl, fun h => absurd (E.out.symm.trans h) (by decide), fun _ => ⟨by rw [E.out]; rfl, GG2.out⟩⟩
          · have HQ := Lib.hid hq
            have E : Hid (TC = 0) := Lib.hid (by rw [ET.out]; unfold PK.cflC; simp [hb, hq, hz, hr])
            clear ET
            go_wp2_with fail
            refine (CQ.out _ _).mono ?_
            rintro e w' ⟨rfl, rfl⟩
            rw [HQ.out]
            go_wp2
            go_end0
            exact ⟨fun _ => ⟨rfl, R2.out, P2.out, GG2.out⟩, fun h => absurd E.out h⟩
        · have E : Hid (TC = 129) := Lib.hid (by rw [ET.out]; unfold PK.cflC; simp [hb])
          clear ET
          go_wp2_with fail
          refine (CL.out _ _).mono ?_
          rintro e w' ⟨rfl, rfl⟩
          exact ⟨rfl, fun h => absurd (E.out.symm.trans h) (by decide), fun _ => ⟨by rw [E.out]; rfl, GG2.out⟩⟩
      · rw [hr] at P2 R2 GG2
        cases hb : (bits .and .i64 n 1 != 0)
        · cases hq : PK.isQ (bits .and .i64 (n / 8) 3)
          · have HQ := Lib.hid hq
            have E : Hid (TC = 129) := Lib.hid (by rw [ET.out]; unfold PK.cflC; simp [hb, hq])
            clear ET
            go_wp2_with fail
            refine (CQ.out _ _).mono ?_
            rintro e w' ⟨rfl, rfl⟩
            rw [HQ.out]
            go_wp2_with fail
            refine (CL.out _ _).mono ?_
            rintro e w' ⟨rfl, rfl⟩
            exact ⟨rfl, fun h => absurd (E.out.symm.trans h) (by decide), fun _ => ⟨by rw [E.out]; rfl, GG2.out⟩⟩
          · have HQ := Lib.hid hq
            cases hw : (bits .and .i64 n 4 != 0)
            · rw [hw] at P2 R2 GG2
              have E : Hid (TC = 129) := Lib.hid (by rw [ET.out]; unfold PK.cflC; simp [hb, hq, hr, hw])
              clear ET
              go_wp2_with fail
              refine (CQ.out _ _).mono ?_
              rintro e w' ⟨rfl, rfl⟩
              rw [HQ.out]
              go_wp2_with fail
              refine (CL.out _ _).mono ?_
              rintro e w' ⟨rfl, rfl⟩
              exact ⟨rfl, fun h => absurd (E.out.symm.trans h) (by decide), fun _ => ⟨by rw [E.out]; rfl, GG2.out⟩⟩
            · rw [hw] at P2 R2 GG2
              have E : Hid (TC = 0) := Lib.hid (by rw [ET.out]; unfold PK.cflC; simp [hb, hq, hw])
              clear ET
              go_wp2_with fail
              refine (CQ.out _ _).mono ?_
              rintro e w' ⟨rfl, rfl⟩
              rw [HQ.out]
              go_wp2
              go_end0
              exact ⟨fun _ => ⟨rfl, R2.out, P2.out, GG2.out⟩, fun h => absurd E.out h⟩
        · have E : Hid (TC = 129) := Lib.hid (by rw [ET.out]; unfold PK.cflC; simp [hb])
          clear ET
          go_wp2_with fail
          refine (CL.out _ _).mono ?_
          rintro e w' ⟨rfl, rfl⟩
          exact ⟨rfl, fun h => absurd (E.out.symm.trans h) (by decide), fun _ => ⟨by rw [E.out]; rfl, GG2.out⟩⟩
    · cases hb : (bits .and .i64 n 1 != 0)
      · cases hq : PK.isQ (bits .and .i64 (n / 8) 3)
        · have HQ := Lib.hid hq
          have E : Hid (TC = 129) := Lib.hid (by rw [ET.out]; unfold PK.cflC; simp [hb, hq])
          clear ET
          go_wp2_with fail
          refine (CQ.out _ _).mono ?_
          rintro e w' ⟨rfl, rfl⟩
          rw [HQ.out]
          go_wp2_with fail
          refine (CL.out _ _).mono ?_
          rintro e w' ⟨rfl, rfl⟩
          exact ⟨rfl, fun h => absurd (E.out.symm.trans h) (by decide), fun _ => ⟨by rw [E.out]; rfl, GG2.out⟩⟩
        · have HQ := Lib.hid hq
          cases hw : (bits .and .i64 n 4 != 0)
          · rw [hw] at P2 R2 GG2
            have E : Hid (TC = 129) := Lib.hid (by rw [ET.out]; unfold PK.cflC; simp [hb, hq, hz, hw])
            clear ET
            go_wp2_with fail
            refine (CQ.out _ _).mono ?_
            rintro e w' ⟨rfl, rfl⟩
            rw [HQ.out]
            go_wp2_with fail
            refine (CL.out _ _).mono ?_
            rintro e w' ⟨rfl, rfl⟩
            exact ⟨rfl, fun h => absurd (E.out.symm.trans h) (by decide), fun _ => ⟨by rw [E.out]; rfl, GG2.out⟩⟩
          · rw [hw] at P2 R2 GG2
            have E : Hid (TC = 0) := Lib.hid (by rw [ET.out]; unfold PK.cflC; simp [hb, hq, hw])
            clear ET
            go_wp2_with fail
            refine (CQ.out _ _).mono ?_
            rintro e w' ⟨rfl, rfl⟩
            rw [HQ.out]
            go_wp2
            go_end0
            exact ⟨fun _ => ⟨rfl, R2.out, P2.out, GG2.out⟩, fun h => absurd E.out h⟩
      · have E : Hid (TC = 129) := Lib.hid (by rw [ET.out]; unfold PK.cflC; simp [hb])
        clear ET
        go_wp2_with fail
        refine (CL.out _ _).mono ?_
        rintro e w' ⟨rfl, rfl⟩
        exact ⟨rfl, fun h => absurd (E.out.symm.trans h) (by decide), fun _ => ⟨by rw [E.out]; rfl, GG2.out⟩⟩
  · have E : Hid (TC = cm c1) := Lib.hid (by rw [HTC.out, PK.thn_bad h1])
    have H1 := Lib.hid h1
    clear h1 HTC
    go_enter Tryz.func113, Tryz.ntmps113
    go_wp2_with fail
    refine C1.out.mono ?_
    rintro e w1 hR
    obtain ⟨rfl, g1⟩ := hR.2 H1.out
    exact ⟨rfl, fun h => absurd (E.out.symm.trans h) H1.out, fun _ => ⟨by rw [E.out]; rfl, G2.of_gr g1⟩⟩
end Go.Proofs.YtemfcaaoobjgkaaGreatDoor
namespace Go.Proofs.YtemfcaaoobjgkaaGreatDoor
open Go.RowKit
attribute [local go_sem ↓] Go.wp_at_zero Go.wp_at_succ

namespace PK
def rdN (s : ByteArray) (a wd : Int) : Int × Int × Int := ((VP.rd s a wd).1, (VP.rd s a wd).2.1, cm (VP.rd s a wd).2.2)
def rdD (s : ByteArray) (a : Int) : ByteArray × Int × Int := ((VP.dat s a).1, (VP.dat s a).2.1, cm (VP.dat s a).2.2)
/-- One part, and then the others. -/
def bnd {α : Type} (P : Pk) (x : α × Int × Int) (f : α → Int → Pk × Int × Int) : Pk × Int × Int := if x.2.2 ≠ 0 then (P, 0, x.2.2) else f x.1 x.2.1
theorem bnd_ok {α : Type} {P : Pk} {v : α} {a c : Int} {f : α → Int → Pk × Int × Int} (h : c = 0) : bnd P (v, a, c) f = f v a := by unfold bnd; rw [if_neg (by simp [h])]
theorem bnd_bad {α : Type} {P : Pk} {v : α} {a c : Int} {f : α → Int → Pk × Int × Int} (h : c ≠ 0) : bnd P (v, a, c) f = (P, 0, c) := by unfold bnd; rw [if_pos h]
def rdPass (s : ByteArray) (a : Int) (P : Pk) : Pk × Int × Int := if P.hasPass = true then bnd P (rdD s a) (fun v a => ({ P with pass := v }, a, 0)) else (P, a, 0)
def rdUser (s : ByteArray) (a : Int) (P : Pk) : Pk × Int × Int := if P.hasUser = true then bnd P (rdT s a) (fun v a => rdPass s a { P with user := v }) else rdPass s a P
def rdWill (s : ByteArray) (a : Int) (P : Pk) : Pk × Int × Int :=
  if P.hasWill = true then bnd P (rdPr s a 0) (fun l a => bnd P (rdT s a) (fun t a => bnd P (rdD s a) (fun d a => rdUser s a { P with wprops := l, wtopic := t, wpay := d }))) else rdUser s a P
def rdConn1 (s : ByteArray) (a : Int) (P : Pk) : Pk × Int × Int :=
  bnd P (rdN s a 2) (fun k a => bnd P (rdPr s a P.kind) (fun l a => bnd P (rdT s a) (fun c a => rdWill s a { P with keep := k, props := l, client := c })))
/-- A Connect, behind its length. -/
def rdConn (s : ByteArray) (a : Int) (P : Pk) : Pk × Int × Int :=
  bnd P (rdT s a) (fun m a => if m ≠ ⟨#[77, 81, 84, 84]⟩ then (P, 0, 129) else bnd P (rdN s a 1) (fun v a => if v ≠ 5 then (P, 0, 132) else bnd P (rdFl s a) (fun n a => rdConn1 s a (cflPk P n))))
theorem rdPass_t (s : ByteArray) (a : Int) {P : Pk} (h : P.hasPass = true) : rdPass s a P = bnd P (rdD s a) (fun v a => ({ P with pass := v }, a, 0)) := by unfold rdPass; rw [if_pos h]
theorem rdPass_f (s : ByteArray) (a : Int) {P : Pk} (h : P.hasPass = false) : rdPass s a P = (P, a, 0) := by unfold rdPass; rw [if_neg (by rw [h]; decide)]
theorem rdUser_t (s : ByteArray) (a : Int) {P : Pk} (h : P.hasUser = true) : rdUser s a P = bnd P (rdT s a) (fun v a => rdPass s a { P with user := v }) := by unfold rdUser; rw [if_pos h]
theorem rdUser_f (s : ByteArray) (a : Int) {P : Pk} (h : P.hasUser = false) : rdUser s a P = rdPass s a P := by unfold rdUser; rw [if_neg (by rw [h]; decide)]
theorem rdWill_t (s : ByteArray) (a : Int) {P : Pk} (h : P.hasWill = true) : rdWill s a P = bnd P (rdPr s a 0) (fun l a => bnd P (rdT s a) (fun t a => bnd P (rdD s a) (fun d a => rdUser s a { P with wprops := l, wtopic := t, wpay := d }))) := by unfold rdWill; rw [if_pos h]
theorem rdWill_f (s : ByteArray) (a : Int) {P : Pk} (h : P.hasWill = false) : rdWill s a P = rdUser s a P := by unfold rdWill; rw [if_neg (by rw [h]; decide)]
end PK
/-- What the reader's connect answers. -/
def ConP (r p : Nat) (s : ByteArray) (vc vs vf : Value) (w : World) (X : Pk × Int × Int) (e : Ending) (w' : World) : Prop :=
  (X.2.2 = 0 → ∃ vp vw, e = .returned (.tuple #[]) ∧ w'.ownsRow w.heap.size 116 4 vp X.1.props.length (flatP X.1.props) ∧ w'.ownsRow w.heap.size 116 4 vw X.1.wprops.length (flatP X.1.wprops) ∧ RdAt r s X.2.1 w' ∧ PbAt p X.1 vc vp vw vs vf w' ∧ G2 r p w w') ∧ (X.2.2 ≠ 0 → e = leftBy X.2.2 ∧ G2 r p w w')
theorem ConP.left {r p : Nat} {s : ByteArray} {vc vs vf : Value} {w w' : World} {X : Pk × Int × Int} {P : Pk} {a c : Int} (hX : X = (P, a, c)) (hc : c ≠ 0) (hg : G2 r p w w') : ConP r p s vc vs vf w X (leftBy c) w' := by
  subst hX; exact ⟨fun h => absurd h hc, fun _ => ⟨rfl, hg⟩⟩

set_option maxRecDepth 100000 in
set_option maxHeartbeats 4000000 in
theorem rconn_any (r p : Nat) (s : ByteArray) (a : Int) (P : Pk) (vc vs vf : Value) (w : World) (h : RdAt r s a w) (hp : PbAt p P vc (.slice none 0 0) (.slice none 0 0) vs vf w) (hw0 : P.wprops = []) (hs : s.size ≤ 140737488351232) (hT : ∀ W, G2 r p w W → Tabs W) (hrp : r ≠ p) :
    Calls Tryz.prog 86 #[.pointer (some ⟨r, 0, none⟩), .pointer (some ⟨p, 0, none⟩)] w (ConP r p s vc vs vf w (PK.rdConn s a P)) := by
  have CT : Hid (∀ a W, G2 r p w W → RdAt r s a W → Calls Tryz.prog 95 #[.pointer (some ⟨r, 0, none⟩)] W (RdP r s W (.string (PK.rdT s a).1) (PK.rdT s a).2.1 (PK.rdT s a).2.2)) := fun a W hg hW => rtext_any r s a W hW hs (hT W hg)
  have CN : Hid (∀ wd a W, G2 r p w W → RdAt r s a W → Calls Tryz.prog 112 #[.pointer (some ⟨r, 0, none⟩), .int .i64 wd] W (RdP r s W (.int .i64 (PK.rdN s a wd).1) (PK.rdN s a wd).2.1 (PK.rdN s a wd).2.2)) := fun wd a W _ hW => rnumber_any r s a wd W hW hs
  have CD : Hid (∀ a W, G2 r p w W → RdAt r s a W → Calls Tryz.prog 114 #[.pointer (some ⟨r, 0, none⟩)] W (RdP r s W (.string (PK.rdD s a).1) (PK.rdD s a).2.1 (PK.rdD s a).2.2)) := fun a W _ hW => rdata_any r s a W hW hs
  have CR : Hid (∀ k a W, G2 r p w W → RdAt r s a W → Calls Tryz.prog 89 #[.pointer (some ⟨r, 0, none⟩), .int .i64 k] W (RdPP r s W (PK.rdPr s a k).1 (PK.rdPr s a k).2.1 (PK.rdPr s a k).2.2)) := fun k a W hg hW => rprops_any r s a k W hW hs (hT W hg)
  have CF : Hid (∀ a W, RdAt r s a W → PbAt p P vc (.slice none 0 0) (.slice none 0 0) vs vf W → Calls Tryz.prog 113 #[.pointer (some ⟨r, 0, none⟩), .pointer (some ⟨p, 0, none⟩)] W (CfP r p s P vc (.slice none 0 0) (.slice none 0 0) vs vf W (PK.rdFl s a))) := fun a W hW hP => rcflags_any r p s a P vc _ _ vs vf W hW hP hs hrp
  have CL := Lib.hid leave_any
  have P0 := Lib.hid hp
  have R0 := Lib.hid h
  have G0 : Hid (G2 r p w w) := Lib.hid (G2.refl r p w)
  have hlr := lt_heap h
  have hlp := lt_heap hp
  have hpr : p ≠ r := fun e => hrp e.symm
  have HW0 := Lib.hid hw0
  obtain ⟨X, hX⟩ : ∃ X, X = PK.rdConn s a P := ⟨_, rfl⟩
  rw [← hX]
  unfold PK.rdConn at hX
  have HX0 := Lib.hid hX
  clear h hp hT hX hw0
  go_enter Tryz.func86, Tryz.ntmps86
  have D1 := CT.out a
  generalize PK.rdT s a = Z at *
  obtain ⟨v1, a1, c1⟩ := Z
  simp only at D1
  have E1 := Lib.hid (D1 _ G0.out R0.out)
  clear D1
  go_wp2_with fail
  refine E1.out.mono ?_
  rintro e w1 hR
  clear E1
  by_cases h1 : c1 = 0
  · obtain ⟨rfl, r1, g1⟩ := hR.1 h1
    have X1 := HX0.out
    rw [PK.bnd_ok h1] at X1
    have HX1 := Lib.hid X1
    clear X1 h1 HX0
    have P_1 := Lib.hid (P0.out.gr g1 hpr)
    have R_1 := Lib.hid r1
    have G_1 : Hid (G2 r p w w1) := Lib.hid (G0.out.trans (G2.of_gr g1))
    clear hR r1 g1 P0 R0 G0
    by_cases hm : v1 = ⟨#[77, 81, 84, 84]⟩
    · have Xm := HX1.out
      rw [if_neg (by simp [hm])] at Xm
      have HXm := Lib.hid Xm
      clear HX1 Xm
      subst hm
      have D2 := CN.out 1 a1
      generalize PK.rdN s a1 1 = Z at *
      obtain ⟨v2, a2, c2⟩ := Z
      simp only at D2
      have E2 := Lib.hid (D2 _ G_1.out R_1.out)
      clear D2
      go_wp2_with fail
      refine E2.out.mono ?_
      rintro e w2 hR
      clear E2
      by_cases h2 : c2 = 0
      · obtain ⟨rfl, r2, g2⟩ := hR.1 h2
        have X2 := HXm.out
        rw [PK.bnd_ok h2] at X2
        have HX2 := Lib.hid X2
        clear X2 h2 HXm
        have P_2 := Lib.hid (P_1.out.gr g2 hpr)
        have R_2 := Lib.hid r2
        have G_2 : Hid (G2 r p w w2) := Lib.hid (G_1.out.trans (G2.of_gr g2))
        clear hR r2 g2 P_1 R_1 G_1
        by_cases hv : v2 = 5
        · have Xv := HX2.out
          rw [if_neg (by simp [hv])] at Xv
          have HXv := Lib.hid Xv
          clear HX2 Xv
          subst hv
          have D3 := CF.out a2
          generalize PK.rdFl s a2 = Z at *
          obtain ⟨v3, a3, c3⟩ := Z
          have E3 := Lib.hid (D3 _ R_2.out P_2.out)
          clear D3
          go_wp2_with fail
          refine E3.out.mono ?_
          rintro e w3 hR
          clear E3
          by_cases h3 : c3 = 0
          · obtain ⟨rfl, r3, p3, g3⟩ := hR.1 h3
            have X3 := HXv.out
            rw [PK.bnd_ok h3] at X3
            have HX3 := Lib.hid X3
            clear X3 h3 HXv
            have R_3 := Lib.hid r3
            have P_3 := Lib.hid p3
            have G_3 : Hid (G2 r p w w3) := Lib.hid (G_2.out.trans g3)
            simp only at R_3 P_3
            have HW1 : Hid ((PK.cflPk P v3).wprops = []) := Lib.hid HW0.out
            generalize PK.cflPk P v3 = P1 at *
            have HXc := HX3.out
            unfold PK.rdConn1 at HXc
            have HXs := Lib.hid HXc
            clear HXc HX3 HW0 hR r3 p3 g3 P_2 R_2 G_2
            rename Hid (P1.wprops = []) => HW0
            have D4 := CN.out 2 a3
            generalize PK.rdN s a3 2 = Z at *
            obtain ⟨v4, a4, c4⟩ := Z
            simp only at D4
            have E4 := Lib.hid (D4 _ G_3.out R_3.out)
            clear D4
            go_wp2_with fail
            refine E4.out.mono ?_
            rintro e w4 hR
            clear E4
            by_cases h4 : c4 = 0
            · obtain ⟨rfl, r4, g4⟩ := hR.1 h4
              have X4 := HXs.out
              rw [PK.bnd_ok h4] at X4
              have HX4 := Lib.hid X4
              clear X4 h4 HXs
              have q4 := P_3.out.gr g4 hpr
              have z12 : w4.cell? ⟨p, 12, none⟩ = some (.int .i64 P1.keep) := by rw [cell_heap q4]; rfl
              have f12 : w4.frozen? ⟨p, 12, none⟩ = false := frozen_heap q4
              have z0_4 : w4.cell? ⟨p, 0, none⟩ = some (.int .i64 P1.kind) := by rw [cell_heap q4]; rfl
              have P_4 : Hid (PbAt p ({ P1 with keep := v4 } : Pk) vc (.slice none 0 0) (.slice none 0 0) vs vf (w4.setCell ⟨p, 12, none⟩ (.int .i64 v4))) := Lib.hid (set_block q4 rfl)
              have R_4 : Hid (RdAt r s a4 (w4.setCell ⟨p, 12, none⟩ (.int .i64 v4))) := Lib.hid (r4.setOther hrp _ _)
              have G_4 : Hid (G2 r p w (w4.setCell ⟨p, 12, none⟩ (.int .i64 v4))) := Lib.hid ((G_3.out.trans (G2.of_gr g4)).setCell 12 _)
              clear hR r4 g4 q4 P_3 R_3 G_3
              have D5 := CR.out P1.kind a4
              generalize PK.rdPr s a4 P1.kind = Z at *
              obtain ⟨v5, a5, c5⟩ := Z
              simp only at D5
              have E5 := Lib.hid (D5 _ G_4.out R_4.out)
              clear D5
              go_wp2_with fail
              refine E5.out.mono ?_
              rintro e w5 hR
              clear E5
              by_cases h5 : c5 = 0
              · obtain ⟨V5, rfl, o5, r5, g5⟩ := hR.1 h5
                have X5 := HX4.out
                rw [PK.bnd_ok h5] at X5
                have HX5 := Lib.hid X5
                clear X5 h5 HX4
                have q5 := P_4.out.gr g5 hpr
                obtain ⟨A5, cap5, rfl⟩ := own_form o5
                have z9 : w5.cell? ⟨p, 9, none⟩ = some ((.slice none 0 0)) := by rw [cell_heap q5]; rfl
                have f9 : w5.frozen? ⟨p, 9, none⟩ = false := frozen_heap q5
                have P_5 : Hid (PbAt p ({ P1 with keep := v4, props := v5 } : Pk) vc (.slice A5 v5.length cap5) (.slice none 0 0) vs vf (w5.setCell ⟨p, 9, none⟩ (.slice A5 v5.length cap5))) := Lib.hid (set_block q5 rfl)
                have R_5 : Hid (RdAt r s a5 (w5.setCell ⟨p, 9, none⟩ (.slice A5 v5.length cap5))) := Lib.hid (r5.setOther hrp _ _)
                have G_5 : Hid (G2 r p w (w5.setCell ⟨p, 9, none⟩ (.slice A5 v5.length cap5))) := Lib.hid ((G_4.out.trans (G2.of_gr g5)).setCell 9 _)
                have b5 : w5.ownsRow w.heap.size 116 4 (.slice A5 v5.length cap5) v5.length (flatP v5) := own_base' o5 G_4.out.size
                have O5 : Hid ((w5.setCell ⟨p, 9, none⟩ (.slice A5 v5.length cap5)).ownsRow w.heap.size 116 4 (.slice A5 v5.length cap5) v5.length (flatP v5)) := Lib.hid (own_set b5 (row_ne b5 hlp))
                clear o5 b5
                clear hR r5 g5 q5 P_4 R_4 G_4
                have D6 := CT.out a5
                generalize PK.rdT s a5 = Z at *
                obtain ⟨v6, a6, c6⟩ := Z
                simp only at D6
                have E6 := Lib.hid (D6 _ G_5.out R_5.out)
                clear D6
                go_wp2_with fail
                refine E6.out.mono ?_
                rintro e w6 hR
                clear E6
                by_cases h6 : c6 = 0
                · obtain ⟨rfl, r6, g6⟩ := hR.1 h6
                  have X6 := HX5.out
                  rw [PK.bnd_ok h6] at X6
                  have HX6 := Lib.hid X6
                  clear X6 h6 HX5
                  have q6 := P_5.out.gr g6 hpr
                  have z10 : w6.cell? ⟨p, 10, none⟩ = some (.string P1.client) := by rw [cell_heap q6]; rfl
                  have f10 : w6.frozen? ⟨p, 10, none⟩ = false := frozen_heap q6
                  have z13_6 : w6.cell? ⟨p, 13, none⟩ = some (.bool P1.hasWill) := by rw [cell_heap q6]; rfl
                  have z19_6 : w6.cell? ⟨p, 19, none⟩ = some (.bool P1.hasUser) := by rw [cell_heap q6]; rfl
                  have z20_6 : w6.cell? ⟨p, 20, none⟩ = some (.bool P1.hasPass) := by rw [cell_heap q6]; rfl
                  have P_6 : Hid (PbAt p ({ P1 with keep := v4, props := v5, client := v6 } : Pk) vc (.slice A5 v5.length cap5) (.slice none 0 0) vs vf (w6.setCell ⟨p, 10, none⟩ (.string v6))) := Lib.hid (set_block q6 rfl)
                  have R_6 : Hid (RdAt r s a6 (w6.setCell ⟨p, 10, none⟩ (.string v6))) := Lib.hid (r6.setOther hrp _ _)
                  have G_6 : Hid (G2 r p w (w6.setCell ⟨p, 10, none⟩ (.string v6))) := Lib.hid ((G_5.out.trans (G2.of_gr g6)).setCell 10 _)
                  have mO6 := own_gr O5.out g6 (row_ne O5.out hlr)
                  have O6 : Hid ((w6.setCell ⟨p, 10, none⟩ (.string v6)).ownsRow w.heap.size 116 4 (.slice A5 v5.length cap5) v5.length (flatP v5)) := Lib.hid (own_set mO6 (row_ne mO6 hlp))
                  clear mO6 O5
                  clear hR r6 g6 q6 P_5 R_5 G_5
                  cases hf13 : P1.hasWill
                  · have y13 : w6.cell? ⟨p, 13, none⟩ = some (.bool false) := by rw [z13_6, hf13]
                    have Y13f := HX6.out.trans (PK.rdWill_f s _ (P := ({ P1 with keep := v4, props := v5, client := v6 } : Pk)) hf13)
                    try dsimp only at Y13f
                    have HY13 := Lib.hid Y13f
                    clear Y13f HX6 z13_6 hf13
                    cases hf19 : P1.hasUser
                    · have y19 : w6.cell? ⟨p, 19, none⟩ = some (.bool false) := by rw [z19_6, hf19]
                      have Y19f := HY13.out.trans (PK.rdUser_f s _ (P := ({ P1 with keep := v4, props := v5, client := v6 } : Pk)) hf19)
                      try dsimp only at Y19f
                      have HY19 := Lib.hid Y19f
                      clear Y19f HY13 z19_6 hf19
                      cases hf20 : P1.hasPass
                      · have y20 : w6.cell? ⟨p, 20, none⟩ = some (.bool false) := by rw [z20_6, hf20]
                        have Y20f := HY19.out.trans (PK.rdPass_f s _ (P := ({ P1 with keep := v4, props := v5, client := v6 } : Pk)) hf20)
                        try dsimp only at Y20f
                        have HY20 := Lib.hid Y20f
                        clear Y20f HY19 z20_6 hf20
                        go_wp2
                        go_end0
                        rw [HY20.out]
                        exact ⟨fun _ => ⟨_, _, rfl, O6.out, (by rw [show ({ P1 with keep := v4, props := v5, client := v6 } : Pk).wprops = [] from HW0.out]; exact own_nil _ _ _ _), R_6.out, P_6.out, G_6.out⟩, fun h => absurd rfl h⟩
                      · have y20 : w6.cell? ⟨p, 20, none⟩ = some (.bool true) := by rw [z20_6, hf20]
                        have Y20t := HY19.out.trans (PK.rdPass_t s _ (P := ({ P1 with keep := v4, props := v5, client := v6 } : Pk)) hf20)
                        try dsimp only at Y20t
                        have HY20 := Lib.hid Y20t
                        clear Y20t HY19 z20_6 hf20
                        have D7 := CD.out a6
                        generalize PK.rdD s a6 = Z at *
                        obtain ⟨v7, a7, c7⟩ := Z
                        simp only at D7
                        have E7 := Lib.hid (D7 _ G_6.out R_6.out)
                        clear D7
                        go_wp2_with fail
                        refine E7.out.mono ?_
                        rintro e w7 hR
                        clear E7
                        by_cases h7 : c7 = 0
                        · obtain ⟨rfl, r7, g7⟩ := hR.1 h7
                          have X7 := HY20.out
                          rw [PK.bnd_ok h7] at X7
                          have HX7 := Lib.hid X7
                          clear X7 h7 HY20
                          have q7 := P_6.out.gr g7 hpr
                          have z22 : w7.cell? ⟨p, 22, none⟩ = some (.string P1.pass) := by rw [cell_heap q7]; rfl
                          have f22 : w7.frozen? ⟨p, 22, none⟩ = false := frozen_heap q7
                          have P_7 : Hid (PbAt p ({ P1 with keep := v4, props := v5, client := v6, pass := v7 } : Pk) vc (.slice A5 v5.length cap5) (.slice none 0 0) vs vf (w7.setCell ⟨p, 22, none⟩ (.string v7))) := Lib.hid (set_block q7 rfl)
                          have R_7 : Hid (RdAt r s a7 (w7.setCell ⟨p, 22, none⟩ (.string v7))) := Lib.hid (r7.setOther hrp _ _)
                          have G_7 : Hid (G2 r p w (w7.setCell ⟨p, 22, none⟩ (.string v7))) := Lib.hid ((G_6.out.trans (G2.of_gr g7)).setCell 22 _)
                          have mO7 := own_gr O6.out g7 (row_ne O6.out hlr)
                          have O7 : Hid ((w7.setCell ⟨p, 22, none⟩ (.string v7)).ownsRow w.heap.size 116 4 (.slice A5 v5.length cap5) v5.length (flatP v5)) := Lib.hid (own_set mO7 (row_ne mO7 hlp))
                          clear mO7 O6
                          clear hR r7 g7 q7 P_6 R_6 G_6
                          go_wp2
                          go_end0
                          rw [HX7.out]
                          exact ⟨fun _ => ⟨_, _, rfl, O7.out, (by rw [show ({ P1 with keep := v4, props := v5, client := v6, pass := v7 } : Pk).wprops = [] from HW0.out]; exact own_nil _ _ _ _), R_7.out, P_7.out, G_7.out⟩, fun h => absurd rfl h⟩
                        · obtain ⟨rfl, g7⟩ := hR.2 h7
                          exact ⟨rfl, ConP.left (by rw [HY20.out]; exact PK.bnd_bad h7) h7 (G_6.out.trans (G2.of_gr g7))⟩
                    · have y19 : w6.cell? ⟨p, 19, none⟩ = some (.bool true) := by rw [z19_6, hf19]
                      have Y19t := HY13.out.trans (PK.rdUser_t s _ (P := ({ P1 with keep := v4, props := v5, client := v6 } : Pk)) hf19)
                      try dsimp only at Y19t
                      have HY19 := Lib.hid Y19t
                      clear Y19t HY13 z19_6 hf19
                      have D8 := CT.out a6
                      generalize PK.rdT s a6 = Z at *
                      obtain ⟨v8, a8, c8⟩ := Z
                      simp only at D8
                      have E8 := Lib.hid (D8 _ G_6.out R_6.out)
                      clear D8
                      go_wp2_with fail
                      refine E8.out.mono ?_
                      rintro e w8 hR
                      clear E8
                      by_cases h8 : c8 = 0
                      · obtain ⟨rfl, r8, g8⟩ := hR.1 h8
                        have X8 := HY19.out
                        rw [PK.bnd_ok h8] at X8
                        have HX8 := Lib.hid X8
                        clear X8 h8 HY19
                        have q8 := P_6.out.gr g8 hpr
                        have z21 : w8.cell? ⟨p, 21, none⟩ = some (.string P1.user) := by rw [cell_heap q8]; rfl
                        have f21 : w8.frozen? ⟨p, 21, none⟩ = false := frozen_heap q8
                        have z20_8 : w8.cell? ⟨p, 20, none⟩ = some (.bool P1.hasPass) := by rw [cell_heap q8]; rfl
                        have P_8 : Hid (PbAt p ({ P1 with keep := v4, props := v5, client := v6, user := v8 } : Pk) vc (.slice A5 v5.length cap5) (.slice none 0 0) vs vf (w8.setCell ⟨p, 21, none⟩ (.string v8))) := Lib.hid (set_block q8 rfl)
                        have R_8 : Hid (RdAt r s a8 (w8.setCell ⟨p, 21, none⟩ (.string v8))) := Lib.hid (r8.setOther hrp _ _)
                        have G_8 : Hid (G2 r p w (w8.setCell ⟨p, 21, none⟩ (.string v8))) := Lib.hid ((G_6.out.trans (G2.of_gr g8)).setCell 21 _)
                        have mO8 := own_gr O6.out g8 (row_ne O6.out hlr)
                        have O8 : Hid ((w8.setCell ⟨p, 21, none⟩ (.string v8)).ownsRow w.heap.size 116 4 (.slice A5 v5.length cap5) v5.length (flatP v5)) := Lib.hid (own_set mO8 (row_ne mO8 hlp))
                        clear mO8 O6
                        clear hR r8 g8 q8 P_6 R_6 G_6
                        cases hf20 : P1.hasPass
                        · have y20 : w8.cell? ⟨p, 20, none⟩ = some (.bool false) := by rw [z20_8, hf20]
                          have Y20f := HX8.out.trans (PK.rdPass_f s _ (P := ({ P1 with keep := v4, props := v5, client := v6, user := v8 } : Pk)) hf20)
                          try dsimp only at Y20f
                          have HY20 := Lib.hid Y20f
                          clear Y20f HX8 z20_8 hf20
                          go_wp2
                          go_end0
                          rw [HY20.out]
                          exact ⟨fun _ => ⟨_, _, rfl, O8.out, (by rw [show ({ P1 with keep := v4, props := v5, client := v6, user := v8 } : Pk).wprops = [] from HW0.out]; exact own_nil _ _ _ _), R_8.out, P_8.out, G_8.out⟩, fun h => absurd rfl h⟩
                        · have y20 : w8.cell? ⟨p, 20, none⟩ = some (.bool true) := by rw [z20_8, hf20]
                          have Y20t := HX8.out.trans (PK.rdPass_t s _ (P := ({ P1 with keep := v4, props := v5, client := v6, user := v8 } : Pk)) hf20)
                          try dsimp only at Y20t
                          have HY20 := Lib.hid Y20t
                          clear Y20t HX8 z20_8 hf20
                          have D9 := CD.out a8
                          generalize PK.rdD s a8 = Z at *
                          obtain ⟨v9, a9, c9⟩ := Z
                          simp only at D9
                          have E9 := Lib.hid (D9 _ G_8.out R_8.out)
                          clear D9
                          go_wp2_with fail
                          refine E9.out.mono ?_
                          rintro e w9 hR
                          clear E9
                          by_cases h9 : c9 = 0
                          · obtain ⟨rfl, r9, g9⟩ := hR.1 h9
                            have X9 := HY20.out
                            rw [PK.bnd_ok h9] at X9
                            have HX9 := Lib.hid X9
                            clear X9 h9 HY20
                            have q9 := P_8.out.gr g9 hpr
                            have z22 : w9.cell? ⟨p, 22, none⟩ = some (.string P1.pass) := by rw [cell_heap q9]; rfl
                            have f22 : w9.frozen? ⟨p, 22, none⟩ = false := frozen_heap q9
                            have P_9 : Hid (PbAt p ({ P1 with keep := v4, props := v5, client := v6, user := v8, pass := v9 } : Pk) vc (.slice A5 v5.length cap5) (.slice none 0 0) vs vf (w9.setCell ⟨p, 22, none⟩ (.string v9))) := Lib.hid (set_block q9 rfl)
                            have R_9 : Hid (RdAt r s a9 (w9.setCell ⟨p, 22, none⟩ (.string v9))) := Lib.hid (r9.setOther hrp _ _)
                            have G_9 : Hid (G2 r p w (w9.setCell ⟨p, 22, none⟩ (.string v9))) := Lib.hid ((G_8.out.trans (G2.of_gr g9)).setCell 22 _)
                            have mO9 := own_gr O8.out g9 (row_ne O8.out hlr)
                            have O9 : Hid ((w9.setCell ⟨p, 22, none⟩ (.string v9)).ownsRow w.heap.size 116 4 (.slice A5 v5.length cap5) v5.length (flatP v5)) := Lib.hid (own_set mO9 (row_ne mO9 hlp))
                            clear mO9 O8
                            clear hR r9 g9 q9 P_8 R_8 G_8
                            go_wp2
                            go_end0
                            rw [HX9.out]
                            exact ⟨fun _ => ⟨_, _, rfl, O9.out, (by rw [show ({ P1 with keep := v4, props := v5, client := v6, user := v8, pass := v9 } : Pk).wprops = [] from HW0.out]; exact own_nil _ _ _ _), R_9.out, P_9.out, G_9.out⟩, fun h => absurd rfl h⟩
                          · obtain ⟨rfl, g9⟩ := hR.2 h9
                            exact ⟨rfl, ConP.left (by rw [HY20.out]; exact PK.bnd_bad h9) h9 (G_8.out.trans (G2.of_gr g9))⟩
                      · obtain ⟨rfl, g8⟩ := hR.2 h8
                        exact ⟨rfl, ConP.left (by rw [HY19.out]; exact PK.bnd_bad h8) h8 (G_6.out.trans (G2.of_gr g8))⟩
                  · have y13 : w6.cell? ⟨p, 13, none⟩ = some (.bool true) := by rw [z13_6, hf13]
                    have Y13t := HX6.out.trans (PK.rdWill_t s _ (P := ({ P1 with keep := v4, props := v5, client := v6 } : Pk)) hf13)
                    try dsimp only at Y13t
                    have HY13 := Lib.hid Y13t
                    clear Y13t HX6 z13_6 hf13
                    have D10 := CR.out 0 a6
                    generalize PK.rdPr s a6 0 = Z at *
                    obtain ⟨v10, a10, c10⟩ := Z
                    simp only at D10
                    have E10 := Lib.hid (D10 _ G_6.out R_6.out)
                    clear D10
                    go_wp2_with fail
                    refine E10.out.mono ?_
                    rintro e w10 hR
                    clear E10
                    by_cases h10 : c10 = 0
                    · obtain ⟨V10, rfl, o10, r10, g10⟩ := hR.1 h10
                      have X10 := HY13.out
                      rw [PK.bnd_ok h10] at X10
                      have HX10 := Lib.hid X10
                      clear X10 h10 HY13
                      have q10 := P_6.out.gr g10 hpr
                      obtain ⟨A10, cap10, rfl⟩ := own_form o10
                      have z18 : w10.cell? ⟨p, 18, none⟩ = some ((.slice none 0 0)) := by rw [cell_heap q10]; rfl
                      have f18 : w10.frozen? ⟨p, 18, none⟩ = false := frozen_heap q10
                      have P_10 : Hid (PbAt p ({ P1 with keep := v4, props := v5, client := v6, wprops := v10 } : Pk) vc (.slice A5 v5.length cap5) (.slice A10 v10.length cap10) vs vf (w10.setCell ⟨p, 18, none⟩ (.slice A10 v10.length cap10))) := Lib.hid (set_block q10 rfl)
                      have R_10 : Hid (RdAt r s a10 (w10.setCell ⟨p, 18, none⟩ (.slice A10 v10.length cap10))) := Lib.hid (r10.setOther hrp _ _)
                      have G_10 : Hid (G2 r p w (w10.setCell ⟨p, 18, none⟩ (.slice A10 v10.length cap10))) := Lib.hid ((G_6.out.trans (G2.of_gr g10)).setCell 18 _)
                      have mO10 := own_gr O6.out g10 (row_ne O6.out hlr)
                      have O10 : Hid ((w10.setCell ⟨p, 18, none⟩ (.slice A10 v10.length cap10)).ownsRow w.heap.size 116 4 (.slice A5 v5.length cap5) v5.length (flatP v5)) := Lib.hid (own_set mO10 (row_ne mO10 hlp))
                      clear mO10 O6
                      have b10 : w10.ownsRow w.heap.size 116 4 (.slice A10 v10.length cap10) v10.length (flatP v10) := own_base' o10 G_6.out.size
                      have U10 : Hid ((w10.setCell ⟨p, 18, none⟩ (.slice A10 v10.length cap10)).ownsRow w.heap.size 116 4 (.slice A10 v10.length cap10) v10.length (flatP v10)) := Lib.hid (own_set b10 (row_ne b10 hlp))
                      clear o10 b10
                      clear hR r10 g10 q10 P_6 R_6 G_6
                      have D11 := CT.out a10
                      generalize PK.rdT s a10 = Z at *
                      obtain ⟨v11, a11, c11⟩ := Z
                      simp only at D11
                      have E11 := Lib.hid (D11 _ G_10.out R_10.out)
                      clear D11
                      go_wp2_with fail
                      refine E11.out.mono ?_
                      rintro e w11 hR
                      clear E11
                      by_cases h11 : c11 = 0
                      · obtain ⟨rfl, r11, g11⟩ := hR.1 h11
                        have X11 := HX10.out
                        rw [PK.bnd_ok h11] at X11
                        have HX11 := Lib.hid X11
                        clear X11 h11 HX10
                        have q11 := P_10.out.gr g11 hpr
                        have z14 : w11.cell? ⟨p, 14, none⟩ = some (.string P1.wtopic) := by rw [cell_heap q11]; rfl
                        have f14 : w11.frozen? ⟨p, 14, none⟩ = false := frozen_heap q11
                        have P_11 : Hid (PbAt p ({ P1 with keep := v4, props := v5, client := v6, wprops := v10, wtopic := v11 } : Pk) vc (.slice A5 v5.length cap5) (.slice A10 v10.length cap10) vs vf (w11.setCell ⟨p, 14, none⟩ (.string v11))) := Lib.hid (set_block q11 rfl)
                        have R_11 : Hid (RdAt r s a11 (w11.setCell ⟨p, 14, none⟩ (.string v11))) := Lib.hid (r11.setOther hrp _ _)
                        have G_11 : Hid (G2 r p w (w11.setCell ⟨p, 14, none⟩ (.string v11))) := Lib.hid ((G_10.out.trans (G2.of_gr g11)).setCell 14 _)
                        have mO11 := own_gr O10.out g11 (row_ne O10.out hlr)
                        have O11 : Hid ((w11.setCell ⟨p, 14, none⟩ (.string v11)).ownsRow w.heap.size 116 4 (.slice A5 v5.length cap5) v5.length (flatP v5)) := Lib.hid (own_set mO11 (row_ne mO11 hlp))
                        clear mO11 O10
                        have mU11 := own_gr U10.out g11 (row_ne U10.out hlr)
                        have U11 : Hid ((w11.setCell ⟨p, 14, none⟩ (.string v11)).ownsRow w.heap.size 116 4 (.slice A10 v10.length cap10) v10.length (flatP v10)) := Lib.hid (own_set mU11 (row_ne mU11 hlp))
                        clear mU11 U10
                        clear hR r11 g11 q11 P_10 R_10 G_10
                        have D12 := CD.out a11
                        generalize PK.rdD s a11 = Z at *
                        obtain ⟨v12, a12, c12⟩ := Z
                        simp only at D12
                        have E12 := Lib.hid (D12 _ G_11.out R_11.out)
                        clear D12
                        go_wp2_with fail
                        refine E12.out.mono ?_
                        rintro e w12 hR
                        clear E12
                        by_cases h12 : c12 = 0
                        · obtain ⟨rfl, r12, g12⟩ := hR.1 h12
                          have X12 := HX11.out
                          rw [PK.bnd_ok h12] at X12
                          have HX12 := Lib.hid X12
                          clear X12 h12 HX11
                          have q12 := P_11.out.gr g12 hpr
                          have z15 : w12.cell? ⟨p, 15, none⟩ = some (.string P1.wpay) := by rw [cell_heap q12]; rfl
                          have f15 : w12.frozen? ⟨p, 15, none⟩ = false := frozen_heap q12
                          have z19_12 : w12.cell? ⟨p, 19, none⟩ = some (.bool P1.hasUser) := by rw [cell_heap q12]; rfl
                          have z20_12 : w12.cell? ⟨p, 20, none⟩ = some (.bool P1.hasPass) := by rw [cell_heap q12]; rfl
                          have P_12 : Hid (PbAt p ({ P1 with keep := v4, props := v5, client := v6, wprops := v10, wtopic := v11, wpay := v12 } : Pk) vc (.slice A5 v5.length cap5) (.slice A10 v10.length cap10) vs vf (w12.setCell ⟨p, 15, none⟩ (.string v12))) := Lib.hid (set_block q12 rfl)
                          have R_12 : Hid (RdAt r s a12 (w12.setCell ⟨p, 15, none⟩ (.string v12))) := Lib.hid (r12.setOther hrp _ _)
                          have G_12 : Hid (G2 r p w (w12.setCell ⟨p, 15, none⟩ (.string v12))) := Lib.hid ((G_11.out.trans (G2.of_gr g12)).setCell 15 _)
                          have mO12 := own_gr O11.out g12 (row_ne O11.out hlr)
                          have O12 : Hid ((w12.setCell ⟨p, 15, none⟩ (.string v12)).ownsRow w.heap.size 116 4 (.slice A5 v5.length cap5) v5.length (flatP v5)) := Lib.hid (own_set mO12 (row_ne mO12 hlp))
                          clear mO12 O11
                          have mU12 := own_gr U11.out g12 (row_ne U11.out hlr)
                          have U12 : Hid ((w12.setCell ⟨p, 15, none⟩ (.string v12)).ownsRow w.heap.size 116 4 (.slice A10 v10.length cap10) v10.length (flatP v10)) := Lib.hid (own_set mU12 (row_ne mU12 hlp))
                          clear mU12 U11
                          clear hR r12 g12 q12 P_11 R_11 G_11
                          cases hf19 : P1.hasUser
                          · have y19 : w12.cell? ⟨p, 19, none⟩ = some (.bool false) := by rw [z19_12, hf19]
                            have Y19f := HX12.out.trans (PK.rdUser_f s _ (P := ({ P1 with keep := v4, props := v5, client := v6, wprops := v10, wtopic := v11, wpay := v12 } : Pk)) hf19)
                            try dsimp only at Y19f
                            have HY19 := Lib.hid Y19f
                            clear Y19f HX12 z19_12 hf19
                            cases hf20 : P1.hasPass
                            · have y20 : w12.cell? ⟨p, 20, none⟩ = some (.bool false) := by rw [z20_12, hf20]
                              have Y20f := HY19.out.trans (PK.rdPass_f s _ (P := ({ P1 with keep := v4, props := v5, client := v6, wprops := v10, wtopic := v11, wpay := v12 } : Pk)) hf20)
                              try dsimp only at Y20f
                              have HY20 := Lib.hid Y20f
                              clear Y20f HY19 z20_12 hf20
                              go_wp2
                              go_end0
                              rw [HY20.out]
                              exact ⟨fun _ => ⟨_, _, rfl, O12.out, U12.out, R_12.out, P_12.out, G_12.out⟩, fun h => absurd rfl h⟩
                            · have y20 : w12.cell? ⟨p, 20, none⟩ = some (.bool true) := by rw [z20_12, hf20]
                              have Y20t := HY19.out.trans (PK.rdPass_t s _ (P := ({ P1 with keep := v4, props := v5, client := v6, wprops := v10, wtopic := v11, wpay := v12 } : Pk)) hf20)
                              try dsimp only at Y20t
                              have HY20 := Lib.hid Y20t
                              clear Y20t HY19 z20_12 hf20
                              have D13 := CD.out a12
                              generalize PK.rdD s a12 = Z at *
                              obtain ⟨v13, a13, c13⟩ := Z
                              simp only at D13
                              have E13 := Lib.hid (D13 _ G_12.out R_12.out)
                              clear D13
                              go_wp2_with fail
                              refine E13.out.mono ?_
                              rintro e w13 hR
                              clear E13
                              by_cases h13 : c13 = 0
                              · obtain ⟨rfl, r13, g13⟩ := hR.1 h13
                                have X13 := HY20.out
                                rw [PK.bnd_ok h13] at X13
                                have HX13 := Lib.hid X13
                                clear X13 h13 HY20
                                have q13 := P_12.out.gr g13 hpr
                                have z22 : w13.cell? ⟨p, 22, none⟩ = some (.string P1.pass) := by rw [cell_heap q13]; rfl
                                have f22 : w13.frozen? ⟨p, 22, none⟩ = false := frozen_heap q13
                                have P_13 : Hid (PbAt p ({ P1 with keep := v4, props := v5, client := v6, wprops := v10, wtopic := v11, wpay := v12, pass := v13 } : Pk) vc (.slice A5 v5.length cap5) (.slice A10 v10.length cap10) vs vf (w13.setCell ⟨p, 22, none⟩ (.string v13))) := Lib.hid (set_block q13 rfl)
                                have R_13 : Hid (RdAt r s a13 (w13.setCell ⟨p, 22, none⟩ (.string v13))) := Lib.hid (r13.setOther hrp _ _)
                                have G_13 : Hid (G2 r p w (w13.setCell ⟨p, 22, none⟩ (.string v13))) := Lib.hid ((G_12.out.trans (G2.of_gr g13)).setCell 22 _)
                                have mO13 := own_gr O12.out g13 (row_ne O12.out hlr)
                                have O13 : Hid ((w13.setCell ⟨p, 22, none⟩ (.string v13)).ownsRow w.heap.size 116 4 (.slice A5 v5.length cap5) v5.length (flatP v5)) := Lib.hid (own_set mO13 (row_ne mO13 hlp))
                                clear mO13 O12
                                have mU13 := own_gr U12.out g13 (row_ne U12.out hlr)
                                have U13 : Hid ((w13.setCell ⟨p, 22, none⟩ (.string v13)).ownsRow w.heap.size 116 4 (.slice A10 v10.length cap10) v10.length (flatP v10)) := Lib.hid (own_set mU13 (row_ne mU13 hlp))
                                clear mU13 U12
                                clear hR r13 g13 q13 P_12 R_12 G_12
                                go_wp2
                                go_end0
                                rw [HX13.out]
                                exact ⟨fun _ => ⟨_, _, rfl, O13.out, U13.out, R_13.out, P_13.out, G_13.out⟩, fun h => absurd rfl h⟩
                              · obtain ⟨rfl, g13⟩ := hR.2 h13
                                exact ⟨rfl, ConP.left (by rw [HY20.out]; exact PK.bnd_bad h13) h13 (G_12.out.trans (G2.of_gr g13))⟩
                          · have y19 : w12.cell? ⟨p, 19, none⟩ = some (.bool true) := by rw [z19_12, hf19]
                            have Y19t := HX12.out.trans (PK.rdUser_t s _ (P := ({ P1 with keep := v4, props := v5, client := v6, wprops := v10, wtopic := v11, wpay := v12 } : Pk)) hf19)
                            try dsimp only at Y19t
                            have HY19 := Lib.hid Y19t
                            clear Y19t HX12 z19_12 hf19
                            have D14 := CT.out a12
                            generalize PK.rdT s a12 = Z at *
                            obtain ⟨v14, a14, c14⟩ := Z
                            simp only at D14
                            have E14 := Lib.hid (D14 _ G_12.out R_12.out)
                            clear D14
                            go_wp2_with fail
                            refine E14.out.mono ?_
                            rintro e w14 hR
                            clear E14
                            by_cases h14 : c14 = 0
                            · obtain ⟨rfl, r14, g14⟩ := hR.1 h14
                              have X14 := HY19.out
                              rw [PK.bnd_ok h14] at X14
                              have HX14 := Lib.hid X14
                              clear X14 h14 HY19
                              have q14 := P_12.out.gr g14 hpr
                              have z21 : w14.cell? ⟨p, 21, none⟩ = some (.string P1.user) := by rw [cell_heap q14]; rfl
                              have f21 : w14.frozen? ⟨p, 21, none⟩ = false := frozen_heap q14
                              have z20_14 : w14.cell? ⟨p, 20, none⟩ = some (.bool P1.hasPass) := by rw [cell_heap q14]; rfl
                              have P_14 : Hid (PbAt p ({ P1 with keep := v4, props := v5, client := v6, wprops := v10, wtopic := v11, wpay := v12, user := v14 } : Pk) vc (.slice A5 v5.length cap5) (.slice A10 v10.length cap10) vs vf (w14.setCell ⟨p, 21, none⟩ (.string v14))) := Lib.hid (set_block q14 rfl)
                              have R_14 : Hid (RdAt r s a14 (w14.setCell ⟨p, 21, none⟩ (.string v14))) := Lib.hid (r14.setOther hrp _ _)
                              have G_14 : Hid (G2 r p w (w14.setCell ⟨p, 21, none⟩ (.string v14))) := Lib.hid ((G_12.out.trans (G2.of_gr g14)).setCell 21 _)
                              have mO14 := own_gr O12.out g14 (row_ne O12.out hlr)
                              have O14 : Hid ((w14.setCell ⟨p, 21, none⟩ (.string v14)).ownsRow w.heap.size 116 4 (.slice A5 v5.length cap5) v5.length (flatP v5)) := Lib.hid (own_set mO14 (row_ne mO14 hlp))
                              clear mO14 O12
                              have mU14 := own_gr U12.out g14 (row_ne U12.out hlr)
                              have U14 : Hid ((w14.setCell ⟨p, 21, none⟩ (.string v14)).ownsRow w.heap.size 116 4 (.slice A10 v10.length cap10) v10.length (flatP v10)) := Lib.hid (own_set mU14 (row_ne mU14 hlp))
                              clear mU14 U12
                              clear hR r14 g14 q14 P_12 R_12 G_12
                              cases hf20 : P1.hasPass
                              · have y20 : w14.cell? ⟨p, 20, none⟩ = some (.bool false) := by rw [z20_14, hf20]
                                have Y20f := HX14.out.trans (PK.rdPass_f s _ (P := ({ P1 with keep := v4, props := v5, client := v6, wprops := v10, wtopic := v11, wpay := v12, user := v14 } : Pk)) hf20)
                                try dsimp only at Y20f
                                have HY20 := Lib.hid Y20f
                                clear Y20f HX14 z20_14 hf20
                                go_wp2
                                go_end0
                                rw [HY20.out]
                                exact ⟨fun _ => ⟨_, _, rfl, O14.out, U14.out, R_14.out, P_14.out, G_14.out⟩, fun h => absurd rfl h⟩
                              · have y20 : w14.cell? ⟨p, 20, none⟩ = some (.bool true) := by rw [z20_14, hf20]
                                have Y20t := HX14.out.trans (PK.rdPass_t s _ (P := ({ P1 with keep := v4, props := v5, client := v6, wprops := v10, wtopic := v11, wpay := v12, user := v14 } : Pk)) hf20)
                                try dsimp only at Y20t
                                have HY20 := Lib.hid Y20t
                                clear Y20t HX14 z20_14 hf20
                                have D15 := CD.out a14
                                generalize PK.rdD s a14 = Z at *
                                obtain ⟨v15, a15, c15⟩ := Z
                                simp only at D15
                                have E15 := Lib.hid (D15 _ G_14.out R_14.out)
                                clear D15
                                go_wp2_with fail
                                refine E15.out.mono ?_
                                rintro e w15 hR
                                clear E15
                                by_cases h15 : c15 = 0
                                · obtain ⟨rfl, r15, g15⟩ := hR.1 h15
                                  have X15 := HY20.out
                                  rw [PK.bnd_ok h15] at X15
                                  have HX15 := Lib.hid X15
                                  clear X15 h15 HY20
                                  have q15 := P_14.out.gr g15 hpr
                                  have z22 : w15.cell? ⟨p, 22, none⟩ = some (.string P1.pass) := by rw [cell_heap q15]; rfl
                                  have f22 : w15.frozen? ⟨p, 22, none⟩ = false := frozen_heap q15
                                  have P_15 : Hid (PbAt p ({ P1 with keep := v4, props := v5, client := v6, wprops := v10, wtopic := v11, wpay := v12, user := v14, pass := v15 } : Pk) vc (.slice A5 v5.length cap5) (.slice A10 v10.length cap10) vs vf (w15.setCell ⟨p, 22, none⟩ (.string v15))) := Lib.hid (set_block q15 rfl)
                                  have R_15 : Hid (RdAt r s a15 (w15.setCell ⟨p, 22, none⟩ (.string v15))) := Lib.hid (r15.setOther hrp _ _)
                                  have G_15 : Hid (G2 r p w (w15.setCell ⟨p, 22, none⟩ (.string v15))) := Lib.hid ((G_14.out.trans (G2.of_gr g15)).setCell 22 _)
                                  have mO15 := own_gr O14.out g15 (row_ne O14.out hlr)
                                  have O15 : Hid ((w15.setCell ⟨p, 22, none⟩ (.string v15)).ownsRow w.heap.size 116 4 (.slice A5 v5.length cap5) v5.length (flatP v5)) := Lib.hid (own_set mO15 (row_ne mO15 hlp))
                                  clear mO15 O14
                                  have mU15 := own_gr U14.out g15 (row_ne U14.out hlr)
                                  have U15 : Hid ((w15.setCell ⟨p, 22, none⟩ (.string v15)).ownsRow w.heap.size 116 4 (.slice A10 v10.length cap10) v10.length (flatP v10)) := Lib.hid (own_set mU15 (row_ne mU15 hlp))
                                  clear mU15 U14
                                  clear hR r15 g15 q15 P_14 R_14 G_14
                                  go_wp2
                                  go_end0
                                  rw [HX15.out]
                                  exact ⟨fun _ => ⟨_, _, rfl, O15.out, U15.out, R_15.out, P_15.out, G_15.out⟩, fun h => absurd rfl h⟩
                                · obtain ⟨rfl, g15⟩ := hR.2 h15
                                  exact ⟨rfl, ConP.left (by rw [HY20.out]; exact PK.bnd_bad h15) h15 (G_14.out.trans (G2.of_gr g15))⟩
                            · obtain ⟨rfl, g14⟩ := hR.2 h14
                              exact ⟨rfl, ConP.left (by rw [HY19.out]; exact PK.bnd_bad h14) h14 (G_12.out.trans (G2.of_gr g14))⟩
                        · obtain ⟨rfl, g12⟩ := hR.2 h12
                          exact ⟨rfl, ConP.left (by rw [HX11.out]; exact PK.bnd_bad h12) h12 (G_11.out.trans (G2.of_gr g12))⟩
                      · obtain ⟨rfl, g11⟩ := hR.2 h11
                        exact ⟨rfl, ConP.left (by rw [HX10.out]; exact PK.bnd_bad h11) h11 (G_10.out.trans (G2.of_gr g11))⟩
                    · obtain ⟨rfl, g10⟩ := hR.2 h10
                      exact ⟨rfl, ConP.left (by rw [HY13.out]; exact PK.bnd_bad h10) h10 (G_6.out.trans (G2.of_gr g10))⟩
                · obtain ⟨rfl, g6⟩ := hR.2 h6
                  exact ⟨rfl, ConP.left (by rw [HX5.out]; exact PK.bnd_bad h6) h6 (G_5.out.trans (G2.of_gr g6))⟩
              · obtain ⟨rfl, g5⟩ := hR.2 h5
                exact ⟨rfl, ConP.left (by rw [HX4.out]; exact PK.bnd_bad h5) h5 (G_4.out.trans (G2.of_gr g5))⟩
            · obtain ⟨rfl, g4⟩ := hR.2 h4
              exact ⟨rfl, ConP.left (by rw [HXs.out]; exact PK.bnd_bad h4) h4 (G_3.out.trans (G2.of_gr g4))⟩
          · obtain ⟨rfl, g3⟩ := hR.2 h3
            exact ⟨rfl, ConP.left (by rw [HXv.out]; exact PK.bnd_bad h3) h3 (G_2.out.trans g3)⟩
        · have Y : Hid (X = (P, 0, 132)) := Lib.hid (by have := HX2.out; rw [if_pos hv] at this; exact this)
          have hv2 : (v2 == 5) = false := by rw [beq_eq_false_iff_ne]; exact hv
          clear HX2
          go_wp2_with fail
          refine (CL.out _ _).mono ?_
          rintro e w' ⟨rfl, rfl⟩
          exact ⟨rfl, ConP.left Y.out (by decide) G_2.out⟩
      · obtain ⟨rfl, g2⟩ := hR.2 h2
        exact ⟨rfl, ConP.left (by rw [HXm.out]; exact PK.bnd_bad h2) h2 (G_1.out.trans (G2.of_gr g2))⟩
    · have Y : Hid (X = (P, 0, 129)) := Lib.hid (by have := HX1.out; rw [if_pos hm] at this; exact this)
      have hv2 : (v1.toList == [77, 81, 84, 84]) = false := by
        rw [beq_eq_false_iff_ne]
        intro e
        exact hm (toList_same (e.trans (by rw [ByteArray.toList_eq])))
      clear HX1
      go_wp2_with fail
      refine (CL.out _ _).mono ?_
      rintro e w' ⟨rfl, rfl⟩
      exact ⟨rfl, ConP.left Y.out (by decide) G_1.out⟩
  · obtain ⟨rfl, g1⟩ := hR.2 h1
    exact ⟨rfl, ConP.left (by rw [HX0.out]; exact PK.bnd_bad h1) h1 (G0.out.trans (G2.of_gr g1))⟩
end Go.Proofs.YtemfcaaoobjgkaaGreatDoor
namespace Go.Proofs.YtemfcaaoobjgkaaGreatDoor
open Go.RowKit
attribute [local go_sem ↓] Go.wp_at_zero Go.wp_at_succ

namespace PK
def rdEndP (s : ByteArray) (a k : Int) (P : Pk) : Pk × Int × Int := ({ P with code := (rdEnd s a k).1.1, props := (rdEnd s a k).1.2 }, (rdEnd s a k).2.1, (rdEnd s a k).2.2)
/-- What follows the length of a packet of kind k. -/
def partsK (k : Int) (s : ByteArray) (a : Int) (P : Pk) : Pk × Int × Int :=
  if k = 1 then rdConn s a P
  else if k = 2 then bnd P (rdSes s a) (fun v a => bnd P (rdC s a) (fun c a => bnd P (rdPr s a k) (fun l a => ({ P with session := v, code := c, props := l }, a, 0))))
  else if k = 3 then ({ P with topic := (rdPub s a k P.qos P.id).1.1, id := (rdPub s a k P.qos P.id).1.2.1, props := (rdPub s a k P.qos P.id).1.2.2.1, pay := (rdPub s a k P.qos P.id).1.2.2.2 }, (rdPub s a k P.qos P.id).2.1, (rdPub s a k P.qos P.id).2.2)
  else if k = 8 then bnd P (rdHd s a k) (fun h a => bnd P (lst (rdSub s) s.size 66 a []) (fun l a => ({ P with id := h.1, props := h.2, subs := l }, a, 0)))
  else if k = 10 then bnd P (rdHd s a k) (fun h a => bnd P (lst (rdT s) s.size 66 a []) (fun l a => ({ P with id := h.1, props := h.2, filters := l }, a, 0)))
  else if k = 9 ∨ k = 11 then bnd P (rdHd s a k) (fun h a => bnd P (lst (rdC s) s.size 66 a []) (fun l a => ({ P with id := h.1, props := h.2, codes := l }, a, 0)))
  else if k = 4 ∨ k = 5 ∨ k = 6 ∨ k = 7 then bnd P (rdId s a) (fun i a => rdEndP s a k { P with id := i })
  else if k = 14 ∨ k = 15 then rdEndP s a k P
  else (P, a, 0)
end PK
namespace PK
def Same3 (P Q : Pk) : Prop := Q.codes = P.codes ∧ Q.subs = P.subs ∧ Q.filters = P.filters
theorem bnd_keeps {α : Type} {P P0 : Pk} {x : α × Int × Int} {f : α → Int → Pk × Int × Int} (h0 : Same3 P0 P) (h : ∀ v a, Same3 P0 (f v a).1) : Same3 P0 (bnd P x f).1 := by
  unfold bnd; split
  · exact h0
  · exact h _ _
theorem rdPass_keeps {P0 : Pk} (s : ByteArray) (a : Int) (P : Pk) (h : Same3 P0 P) : Same3 P0 (rdPass s a P).1 := by
  unfold rdPass; split
  · exact bnd_keeps h (fun _ _ => h)
  · exact h
theorem rdUser_keeps {P0 : Pk} (s : ByteArray) (a : Int) (P : Pk) (h : Same3 P0 P) : Same3 P0 (rdUser s a P).1 := by
  unfold rdUser; split
  · exact bnd_keeps h (fun _ _ => rdPass_keeps _ _ _ h)
  · exact rdPass_keeps _ _ _ h
theorem rdWill_keeps {P0 : Pk} (s : ByteArray) (a : Int) (P : Pk) (h : Same3 P0 P) : Same3 P0 (rdWill s a P).1 := by
  unfold rdWill; split
  · exact bnd_keeps h (fun _ _ => bnd_keeps h (fun _ _ => bnd_keeps h (fun _ _ => rdUser_keeps _ _ _ h)))
  · exact rdUser_keeps _ _ _ h
theorem rdConn_keeps (s : ByteArray) (a : Int) (P : Pk) : Same3 P (rdConn s a P).1 := by
  have h : Same3 P P := ⟨rfl, rfl, rfl⟩
  have h2 : ∀ n, Same3 P (cflPk P n) := fun _ => ⟨rfl, rfl, rfl⟩
  unfold rdConn
  refine bnd_keeps h (fun _ _ => ?_)
  split
  · exact h
  · refine bnd_keeps h (fun _ _ => ?_)
    split
    · exact h
    · refine bnd_keeps h (fun _ _ => ?_)
      unfold rdConn1
      exact bnd_keeps (h2 _) (fun _ _ => bnd_keeps (h2 _) (fun _ _ => bnd_keeps (h2 _) (fun _ _ => rdWill_keeps _ _ _ ⟨rfl, rfl, rfl⟩)))
end PK
/-- A packet as begin lays it: nothing but what its first byte tells. -/
structure Bare (P : Pk) : Prop where
  code : P.code = 0
  codes : P.codes = []
  props : P.props = []
  wprops : P.wprops = []
  subs : P.subs = []
  filters : P.filters = []
/-- The five rows of a packet that was read. -/
structure Own5 (B : Nat) (P : Pk) (vc vp vw vs vf : Value) (w : World) : Prop where
  codes : w.ownsRow B 30 1 vc P.codes.length (flatC P.codes)
  props : w.ownsRow B 116 4 vp P.props.length (flatP P.props)
  wprops : w.ownsRow B 116 4 vw P.wprops.length (flatP P.wprops)
  subs : w.ownsRow B 61 5 vs P.subs.length (flatB P.subs)
  filters : w.ownsRow B 9 1 vf P.filters.length (flatT P.filters)
/-- What the reader's parts answers. -/
def PtP (r p : Nat) (s : ByteArray) (w : World) (X : Pk × Int × Int) (e : Ending) (w' : World) : Prop :=
  (X.2.2 = 0 → ∃ vc vp vw vs vf, e = .returned (.tuple #[]) ∧ Own5 w.heap.size X.1 vc vp vw vs vf w' ∧ RdAt r s X.2.1 w' ∧ PbAt p X.1 vc vp vw vs vf w' ∧ G2 r p w w') ∧ (X.2.2 ≠ 0 → e = leftBy X.2.2 ∧ G2 r p w w')
theorem PtP.left {r p : Nat} {s : ByteArray} {w w' : World} {X : Pk × Int × Int} {c : Int} (hX : X.2.2 = c) (hc : c ≠ 0) (hg : G2 r p w w') : PtP r p s w X (leftBy c) w' := by
  subst hX; exact ⟨fun h => absurd h hc, fun _ => ⟨rfl, hg⟩⟩

set_option maxRecDepth 100000 in
set_option maxHeartbeats 2000000 in
theorem rparts_1 (r p : Nat) (s : ByteArray) (a : Int) (P : Pk) (w : World) (hk : P.kind = 1) (hB : Bare P) (h : RdAt r s a w) (hp : PbAt p P (.slice none 0 0) (.slice none 0 0) (.slice none 0 0) (.slice none 0 0) (.slice none 0 0) w) (hs : s.size ≤ 140737488351232) (hT : ∀ W, G2 r p w W → Tabs W) (hrp : r ≠ p) :
    Calls Tryz.prog 65 #[.pointer (some ⟨r, 0, none⟩), .pointer (some ⟨p, 0, none⟩)] w (PtP r p s w (PK.partsK P.kind s a P)) := by
  have z0 : w.cell? ⟨p, 0, none⟩ = some (.int .i64 1) := by rw [cell_heap hp]; exact congrArg (fun x => some (Value.int .i64 x)) hk
  have HB := Lib.hid hB
  have HP := Lib.hid hp
  have HR := Lib.hid h
  have C : Hid (Calls Tryz.prog 86 #[.pointer (some ⟨r, 0, none⟩), .pointer (some ⟨p, 0, none⟩)] w (ConP r p s (.slice none 0 0) (.slice none 0 0) (.slice none 0 0) w (PK.rdConn s a P))) := rconn_any r p s a P _ _ _ w h hp hB.wprops hs hT hrp
  obtain ⟨X, hX⟩ : ∃ X, X = PK.partsK P.kind s a P := ⟨_, rfl⟩
  rw [← hX]
  rw [hk] at hX
  have e0 : PK.partsK 1 s a P = PK.rdConn s a P := rfl
  have KC := Lib.hid (PK.rdConn_keeps s a P)
  rw [e0] at hX
  rw [← hX] at C KC
  have HX := Lib.hid hX
  clear hX h hp hT hB hk
  go_enter Tryz.func65, Tryz.ntmps65
  go_wp2_with fail
  refine C.out.mono ?_
  rintro e w1 hR
  by_cases hc : X.2.2 = 0
  · obtain ⟨vp, vw, rfl, o1, o2, r1, p1, g1⟩ := hR.1 hc
    have O1 := Lib.hid o1
    have O2 := Lib.hid o2
    have R1 := Lib.hid r1
    have P1 := Lib.hid p1
    have G1 := Lib.hid g1
    have HC := Lib.hid hc
    clear hR o1 o2 r1 p1 g1 hc
    go_wp2
    go_end0
    obtain ⟨k1, k2, k3⟩ := KC.out
    exact ⟨fun _ => ⟨_, _, _, _, _, rfl, ⟨by rw [k1, HB.out.codes]; exact own_nil _ _ _ _, O1.out, O2.out, by rw [k2, HB.out.subs]; exact own_nil _ _ _ _, by rw [k3, HB.out.filters]; exact own_nil _ _ _ _⟩, R1.out, P1.out, G1.out⟩, fun h => absurd HC.out h⟩
  · obtain ⟨rfl, g1⟩ := hR.2 hc
    exact ⟨rfl, PtP.left rfl hc g1⟩

set_option maxRecDepth 100000 in
set_option maxHeartbeats 2000000 in
theorem rparts_3 (r p : Nat) (s : ByteArray) (a : Int) (P : Pk) (w : World) (hk : P.kind = 3) (hB : Bare P) (h : RdAt r s a w) (hp : PbAt p P (.slice none 0 0) (.slice none 0 0) (.slice none 0 0) (.slice none 0 0) (.slice none 0 0) w) (hs : s.size ≤ 140737488351232) (hT : ∀ W, G2 r p w W → Tabs W) (hrp : r ≠ p) :
    Calls Tryz.prog 65 #[.pointer (some ⟨r, 0, none⟩), .pointer (some ⟨p, 0, none⟩)] w (PtP r p s w (PK.partsK P.kind s a P)) := by
  have z0 : w.cell? ⟨p, 0, none⟩ = some (.int .i64 3) := by rw [cell_heap hp]; exact congrArg (fun x => some (Value.int .i64 x)) hk
  have HB := Lib.hid hB
  have HP := Lib.hid hp
  have HR := Lib.hid h
  have C : Hid (Calls Tryz.prog 90 #[.pointer (some ⟨r, 0, none⟩), .pointer (some ⟨p, 0, none⟩)] w (PubP r p s P (.slice none 0 0) (.slice none 0 0) (.slice none 0 0) (.slice none 0 0) w (PK.rdPub s a P.kind P.qos P.id))) := rpublish_any r p s a P _ _ _ _ _ w h hp hs hT hrp
  rw [hk] at C
  obtain ⟨X, hX⟩ : ∃ X, X = PK.partsK P.kind s a P := ⟨_, rfl⟩
  rw [← hX]
  rw [hk] at hX
  have e0 : PK.partsK 3 s a P = ({ P with topic := (PK.rdPub s a 3 P.qos P.id).1.1, id := (PK.rdPub s a 3 P.qos P.id).1.2.1, props := (PK.rdPub s a 3 P.qos P.id).1.2.2.1, pay := (PK.rdPub s a 3 P.qos P.id).1.2.2.2 }, (PK.rdPub s a 3 P.qos P.id).2.1, (PK.rdPub s a 3 P.qos P.id).2.2) := rfl
  rw [e0] at hX
  clear e0
  generalize PK.rdPub s a 3 P.qos P.id = Y at *
  have HX := Lib.hid hX
  clear hX h hp hT hB hk
  go_enter Tryz.func65, Tryz.ntmps65
  go_wp2_with fail
  refine C.out.mono ?_
  rintro e w1 hR
  by_cases hc : Y.2.2 = 0
  · obtain ⟨v, rfl, o1, r1, p1, g1⟩ := hR.1 hc
    have O1 := Lib.hid o1
    have R1 := Lib.hid r1
    have P1 := Lib.hid p1
    have G1 := Lib.hid g1
    have HC := Lib.hid hc
    clear hR o1 r1 p1 g1 hc
    go_wp2
    go_end0
    rw [HX.out]
    exact ⟨fun _ => ⟨_, _, _, _, _, rfl, ⟨by simp only; rw [HB.out.codes]; exact own_nil _ _ _ _, O1.out, by simp only; rw [HB.out.wprops]; exact own_nil _ _ _ _, by simp only; rw [HB.out.subs]; exact own_nil _ _ _ _, by simp only; rw [HB.out.filters]; exact own_nil _ _ _ _⟩, R1.out, P1.out, G1.out⟩, fun h => absurd HC.out h⟩
  · obtain ⟨rfl, g1⟩ := hR.2 hc
    exact ⟨rfl, PtP.left (by rw [HX.out]) hc g1⟩

set_option maxRecDepth 100000 in
set_option maxHeartbeats 2000000 in
theorem rparts_14 (r p : Nat) (s : ByteArray) (a : Int) (P : Pk) (w : World) (hk : P.kind = 14) (hB : Bare P) (h : RdAt r s a w) (hp : PbAt p P (.slice none 0 0) (.slice none 0 0) (.slice none 0 0) (.slice none 0 0) (.slice none 0 0) w) (hs : s.size ≤ 140737488351232) (hT : ∀ W, G2 r p w W → Tabs W) (hrp : r ≠ p) :
    Calls Tryz.prog 65 #[.pointer (some ⟨r, 0, none⟩), .pointer (some ⟨p, 0, none⟩)] w (PtP r p s w (PK.partsK P.kind s a P)) := by
  have z0 : w.cell? ⟨p, 0, none⟩ = some (.int .i64 14) := by rw [cell_heap hp]; exact congrArg (fun x => some (Value.int .i64 x)) hk
  have HB := Lib.hid hB
  have HP := Lib.hid hp
  have HR := Lib.hid h
  have C : Hid (Calls Tryz.prog 98 #[.pointer (some ⟨r, 0, none⟩), .pointer (some ⟨p, 0, none⟩)] w (EdP r p s P (.slice none 0 0) (.slice none 0 0) (.slice none 0 0) (.slice none 0 0) w (PK.rdEnd s a P.kind))) := rending_any r p s a P _ _ _ _ w h hp hB.code hB.props hs hT hrp
  rw [hk] at C
  obtain ⟨X, hX⟩ : ∃ X, X = PK.partsK P.kind s a P := ⟨_, rfl⟩
  rw [← hX]
  rw [hk] at hX
  have e0 : PK.partsK 14 s a P = ({ P with code := (PK.rdEnd s a 14).1.1, props := (PK.rdEnd s a 14).1.2 }, (PK.rdEnd s a 14).2.1, (PK.rdEnd s a 14).2.2) := rfl
  rw [e0] at hX
  clear e0
  generalize PK.rdEnd s a 14 = Y at *
  have HX := Lib.hid hX
  clear hX h hp hT hB hk
  go_enter Tryz.func65, Tryz.ntmps65
  go_wp2_with fail
  refine C.out.mono ?_
  rintro e w1 hR
  by_cases hc : Y.2.2 = 0
  · obtain ⟨v, rfl, o1, r1, p1, g1⟩ := hR.1 hc
    have O1 := Lib.hid o1
    have R1 := Lib.hid r1
    have P1 := Lib.hid p1
    have G1 := Lib.hid g1
    have HC := Lib.hid hc
    clear hR o1 r1 p1 g1 hc
    go_wp2
    go_end0
    rw [HX.out]
    exact ⟨fun _ => ⟨_, _, _, _, _, rfl, ⟨by simp only; rw [HB.out.codes]; exact own_nil _ _ _ _, O1.out, by simp only; rw [HB.out.wprops]; exact own_nil _ _ _ _, by simp only; rw [HB.out.subs]; exact own_nil _ _ _ _, by simp only; rw [HB.out.filters]; exact own_nil _ _ _ _⟩, R1.out, P1.out, G1.out⟩, fun h => absurd HC.out h⟩
  · obtain ⟨rfl, g1⟩ := hR.2 hc
    exact ⟨rfl, PtP.left (by rw [HX.out]) hc g1⟩

set_option maxRecDepth 100000 in
set_option maxHeartbeats 2000000 in
theorem rparts_15 (r p : Nat) (s : ByteArray) (a : Int) (P : Pk) (w : World) (hk : P.kind = 15) (hB : Bare P) (h : RdAt r s a w) (hp : PbAt p P (.slice none 0 0) (.slice none 0 0) (.slice none 0 0) (.slice none 0 0) (.slice none 0 0) w) (hs : s.size ≤ 140737488351232) (hT : ∀ W, G2 r p w W → Tabs W) (hrp : r ≠ p) :
    Calls Tryz.prog 65 #[.pointer (some ⟨r, 0, none⟩), .pointer (some ⟨p, 0, none⟩)] w (PtP r p s w (PK.partsK P.kind s a P)) := by
  have z0 : w.cell? ⟨p, 0, none⟩ = some (.int .i64 15) := by rw [cell_heap hp]; exact congrArg (fun x => some (Value.int .i64 x)) hk
  have HB := Lib.hid hB
  have HP := Lib.hid hp
  have HR := Lib.hid h
  have C : Hid (Calls Tryz.prog 98 #[.pointer (some ⟨r, 0, none⟩), .pointer (some ⟨p, 0, none⟩)] w (EdP r p s P (.slice none 0 0) (.slice none 0 0) (.slice none 0 0) (.slice none 0 0) w (PK.rdEnd s a P.kind))) := rending_any r p s a P _ _ _ _ w h hp hB.code hB.props hs hT hrp
  rw [hk] at C
  obtain ⟨X, hX⟩ : ∃ X, X = PK.partsK P.kind s a P := ⟨_, rfl⟩
  rw [← hX]
  rw [hk] at hX
  have e0 : PK.partsK 15 s a P = ({ P with code := (PK.rdEnd s a 15).1.1, props := (PK.rdEnd s a 15).1.2 }, (PK.rdEnd s a 15).2.1, (PK.rdEnd s a 15).2.2) := rfl
  rw [e0] at hX
  clear e0
  generalize PK.rdEnd s a 15 = Y at *
  have HX := Lib.hid hX
  clear hX h hp hT hB hk
  go_enter Tryz.func65, Tryz.ntmps65
  go_wp2_with fail
  refine C.out.mono ?_
  rintro e w1 hR
  by_cases hc : Y.2.2 = 0
  · obtain ⟨v, rfl, o1, r1, p1, g1⟩ := hR.1 hc
    have O1 := Lib.hid o1
    have R1 := Lib.hid r1
    have P1 := Lib.hid p1
    have G1 := Lib.hid g1
    have HC := Lib.hid hc
    clear hR o1 r1 p1 g1 hc
    go_wp2
    go_end0
    rw [HX.out]
    exact ⟨fun _ => ⟨_, _, _, _, _, rfl, ⟨by simp only; rw [HB.out.codes]; exact own_nil _ _ _ _, O1.out, by simp only; rw [HB.out.wprops]; exact own_nil _ _ _ _, by simp only; rw [HB.out.subs]; exact own_nil _ _ _ _, by simp only; rw [HB.out.filters]; exact own_nil _ _ _ _⟩, R1.out, P1.out, G1.out⟩, fun h => absurd HC.out h⟩
  · obtain ⟨rfl, g1⟩ := hR.2 hc
    exact ⟨rfl, PtP.left (by rw [HX.out]) hc g1⟩

set_option maxRecDepth 100000 in
set_option maxHeartbeats 2000000 in
theorem rparts_12 (r p : Nat) (s : ByteArray) (a : Int) (P : Pk) (w : World) (hk : P.kind = 12) (hB : Bare P) (h : RdAt r s a w) (hp : PbAt p P (.slice none 0 0) (.slice none 0 0) (.slice none 0 0) (.slice none 0 0) (.slice none 0 0) w) (_hs : s.size ≤ 140737488351232) (_hT : ∀ W, G2 r p w W → Tabs W) (_hrp : r ≠ p) :
    Calls Tryz.prog 65 #[.pointer (some ⟨r, 0, none⟩), .pointer (some ⟨p, 0, none⟩)] w (PtP r p s w (PK.partsK P.kind s a P)) := by
  have z0 : w.cell? ⟨p, 0, none⟩ = some (.int .i64 12) := by rw [cell_heap hp]; exact congrArg (fun x => some (Value.int .i64 x)) hk
  have HB := Lib.hid hB
  have HP := Lib.hid hp
  have HR := Lib.hid h
  obtain ⟨X, hX⟩ : ∃ X, X = PK.partsK P.kind s a P := ⟨_, rfl⟩
  rw [← hX]
  rw [hk] at hX
  have e0 : PK.partsK 12 s a P = (P, a, 0) := rfl
  rw [e0] at hX
  have HX := Lib.hid hX
  clear e0 hX h hp hB hk
  go_enter Tryz.func65, Tryz.ntmps65
  go_wp2
  go_end0
  rw [HX.out]
  exact ⟨fun _ => ⟨_, _, _, _, _, rfl, ⟨by simp only; rw [HB.out.codes]; exact own_nil _ _ _ _, by simp only; rw [HB.out.props]; exact own_nil _ _ _ _, by simp only; rw [HB.out.wprops]; exact own_nil _ _ _ _, by simp only; rw [HB.out.subs]; exact own_nil _ _ _ _, by simp only; rw [HB.out.filters]; exact own_nil _ _ _ _⟩, HR.out, HP.out, G2.refl r p w⟩, fun h => absurd rfl h⟩

set_option maxRecDepth 100000 in
set_option maxHeartbeats 2000000 in
theorem rparts_13 (r p : Nat) (s : ByteArray) (a : Int) (P : Pk) (w : World) (hk : P.kind = 13) (hB : Bare P) (h : RdAt r s a w) (hp : PbAt p P (.slice none 0 0) (.slice none 0 0) (.slice none 0 0) (.slice none 0 0) (.slice none 0 0) w) (_hs : s.size ≤ 140737488351232) (_hT : ∀ W, G2 r p w W → Tabs W) (_hrp : r ≠ p) :
    Calls Tryz.prog 65 #[.pointer (some ⟨r, 0, none⟩), .pointer (some ⟨p, 0, none⟩)] w (PtP r p s w (PK.partsK P.kind s a P)) := by
  have z0 : w.cell? ⟨p, 0, none⟩ = some (.int .i64 13) := by rw [cell_heap hp]; exact congrArg (fun x => some (Value.int .i64 x)) hk
  have HB := Lib.hid hB
  have HP := Lib.hid hp
  have HR := Lib.hid h
  obtain ⟨X, hX⟩ : ∃ X, X = PK.partsK P.kind s a P := ⟨_, rfl⟩
  rw [← hX]
  rw [hk] at hX
  have e0 : PK.partsK 13 s a P = (P, a, 0) := rfl
  rw [e0] at hX
  have HX := Lib.hid hX
  clear e0 hX h hp hB hk
  go_enter Tryz.func65, Tryz.ntmps65
  go_wp2
  go_end0
  rw [HX.out]
  exact ⟨fun _ => ⟨_, _, _, _, _, rfl, ⟨by simp only; rw [HB.out.codes]; exact own_nil _ _ _ _, by simp only; rw [HB.out.props]; exact own_nil _ _ _ _, by simp only; rw [HB.out.wprops]; exact own_nil _ _ _ _, by simp only; rw [HB.out.subs]; exact own_nil _ _ _ _, by simp only; rw [HB.out.filters]; exact own_nil _ _ _ _⟩, HR.out, HP.out, G2.refl r p w⟩, fun h => absurd rfl h⟩
end Go.Proofs.YtemfcaaoobjgkaaGreatDoor
