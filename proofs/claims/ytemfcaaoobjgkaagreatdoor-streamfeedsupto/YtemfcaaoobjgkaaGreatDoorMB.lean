/- The reader at a packet: connect.; The reader at a packet: what follows the length, by kinds (Connect, Publish, the empty ones, Disconnect, Auth).; The reader at a packet: what follows the length, by kinds (the acknowledgements, Connack, the lists).; The reader at a packet: what follows the length: Connack, and all kinds.; What speaks against a length.; The reader: a whole packet.; packet.begin: what a packet's first byte tells.; packet.Get's function that reads a whole packet.; packet.caught: what a reading makes, or the code by which it left.; A number is read back from its bytes, and bytes that are read are just those of the number. No program is named here.; Packets out of bytes: the plain side.; stream.first, and stream.through with whatever function it hands the packets to.; packet.Get.; The document's reader of packets, plainly: it answers what the program's does. (First part: what is read piece by piece, and a Connect.); The document's reader of packets, plainly: pieces, bound one to another; a Connect.; The document's reader of packets, plainly: lists, endings, what follows the length.; The document's reader of packets, plainly: it answers PK.getPk. -/
import Derived.Test.YtemfcaaoobjgkaaGreatDoorMA
import Derived.Laws.Tables
import Derived.Deep.MidRow
import Derived.Deep.CutBlock
import Derived.Defers
import Derived.Recover
import Derived.Test.YtemfcaaoobjgkaaGreatDoorVarPure
import Derived.Laws.BytesArg
import Derived.Laws.DeepStrings4
import Derived.Lib.Hide
import Derived.Below
namespace Go.Proofs.YtemfcaaoobjgkaaGreatDoor
open Go.RowKit
attribute [local go_sem ↓] Go.wp_at_zero Go.wp_at_succ

namespace PK
def rdN (s : ByteArray) (a wd : Int) : Int × Int × Int := ((VP.rd s a wd).1, (VP.rd s a wd).2.1, cm (VP.rd s a wd).2.2)
def rdD (s : ByteArray) (a : Int) : ByteArray × Int × Int := ((VP.dat s a).1, (VP.dat s a).2.1, cm (VP.dat s a).2.2)
/-- One part, and then the others. -/
def bnd {α : Type} (P : Pk) (x : α × Int × Int) (f : α → Int → Pk × Int × Int) : Pk × Int × Int := if x.2.2 ≠ 0 then (P, 0, x.2.2) else f x.1 x.2.1
theorem bnd_ok {α : Type} {P : Pk} {v : α} {a c : Int} {f : α → Int → Pk × Int × Int} (h : c = 0) : bnd P (v, a, c) f = f v a := by unfold bnd; rw [if_neg (by simp [h])]
theorem bnd_bad {α : Type} {P : Pk} {v : α} {a c : Int} {f : α → Int → Pk × Int × Int} (h : c ≠ 0) : bnd P (v, a, c) f = (P, 0, c) := by unfold bnd; rw [if_pos h]
def rdPass (s : ByteArray) (a : Int) (P : Pk) : Pk × Int × Int := if P.hasPass = true then bnd P (rdD s a) (fun v a => ({ P with pass := v }, a, 0)) else (P, a, 0)
def rdUser (s : ByteArray) (a : Int) (P : Pk) : Pk × Int × Int := if P.hasUser = true then bnd P (rdT s a) (fun v a => rdPass s a { P with user := v }) else rdPass s a P
def rdWill (s : ByteArray) (a : Int) (P : Pk) : Pk × Int × Int :=
  if P.hasWill = true then bnd P (rdPr s a 0) (fun l a => bnd P (rdT s a) (fun t a => bnd P (rdD s a) (fun d a => rdUser s a { P with wprops := l, wtopic := t, wpay := d }))) else rdUser s a P
def rdConn1 (s : ByteArray) (a : Int) (P : Pk) : Pk × Int × Int :=
  bnd P (rdN s a 2) (fun k a => bnd P (rdPr s a P.kind) (fun l a => bnd P (rdT s a) (fun c a => rdWill s a { P with keep := k, props := l, client := c })))
/-- A Connect, behind its length. -/
def rdConn (s : ByteArray) (a : Int) (P : Pk) : Pk × Int × Int :=
  bnd P (rdT s a) (fun m a => if m ≠ ⟨#[77, 81, 84, 84]⟩ then (P, 0, 129) else bnd P (rdN s a 1) (fun v a => if v ≠ 5 then (P, 0, 132) else bnd P (rdFl s a) (fun n a => rdConn1 s a (cflPk P n))))
theorem rdPass_t (s : ByteArray) (a : Int) {P : Pk} (h : P.hasPass = true) : rdPass s a P = bnd P (rdD s a) (fun v a => ({ P with pass := v }, a, 0)) := by unfold rdPass; rw [if_pos h]
theorem rdPass_f (s : ByteArray) (a : Int) {P : Pk} (h : P.hasPass = false) : rdPass s a P = (P, a, 0) := by unfold rdPass; rw [if_neg (by rw [h]; decide)]
theorem rdUser_t (s : ByteArray) (a : Int) {P : Pk} (h : P.hasUser = true) : rdUser s a P = bnd P (rdT s a) (fun v a => rdPass s a { P with user := v }) := by unfold rdUser; rw [if_pos h]
theorem rdUser_f (s : ByteArray) (a : Int) {P : Pk} (h : P.hasUser = false) : rdUser s a P = rdPass s a P := by unfold rdUser; rw [if_neg (by rw [h]; decide)]
theorem rdWill_t (s : ByteArray) (a : Int) {P : Pk} (h : P.hasWill = true) : rdWill s a P = bnd P (rdPr s a 0) (fun l a => bnd P (rdT s a) (fun t a => bnd P (rdD s a) (fun d a => rdUser s a { P with wprops := l, wtopic := t, wpay := d }))) := by unfold rdWill; rw [if_pos h]
theorem rdWill_f (s : ByteArray) (a : Int) {P : Pk} (h : P.hasWill = false) : rdWill s a P = rdUser s a P := by unfold rdWill; rw [if_neg (by rw [h]; decide)]
end PK
/-- What the reader's connect answers. -/
def ConP (r p : Nat) (s : ByteArray) (vc vs vf : Value) (w : World) (X : Pk × Int × Int) (e : Ending) (w' : World) : Prop :=
  (X.2.2 = 0 → ∃ vp vw, e = .returned (.tuple #[]) ∧ w'.ownsRow w.heap.size 116 4 vp X.1.props.length (flatP X.1.props) ∧ w'.ownsRow w.heap.size 116 4 vw X.1.wprops.length (flatP X.1.wprops) ∧ RdAt r s X.2.1 w' ∧ PbAt p X.1 vc vp vw vs vf w' ∧ G2 r p w w') ∧ (X.2.2 ≠ 0 → e = leftBy X.2.2 ∧ G2 r p w w')
theorem ConP.left {r p : Nat} {s : ByteArray} {vc vs vf : Value} {w w' : World} {X : Pk × Int × Int} {P : Pk} {a c : Int} (hX : X = (P, a, c)) (hc : c ≠ 0) (hg : G2 r p w w') : ConP r p s vc vs vf w X (leftBy c) w' := by
  subst hX; exact ⟨fun h => absurd h hc, fun _ => ⟨rfl, hg⟩⟩

set_option maxRecDepth 100000 in
set_option maxHeartbeats 4000000 in
theorem rconn_any (r p : Nat) (s : ByteArray) (a : Int) (P : Pk) (vc vs vf : Value) (w : World) (h : RdAt r s a w) (hp : PbAt p P vc (.slice none 0 0) (.slice none 0 0) vs vf w) (hw0 : P.wprops = []) (hs : s.size ≤ 140737488351232) (hT : ∀ W, G2 r p w W → Tabs W) (hrp : r ≠ p) :
    Calls Tryz.prog 86 #[.pointer (some ⟨r, 0, none⟩), .pointer (some ⟨p, 0, none⟩)] w (ConP r p s vc vs vf w (PK.rdConn s a P)) := by
  have CT : Hid (∀ a W, G2 r p w W → RdAt r s a W → Calls Tryz.prog 95 #[.pointer (some ⟨r, 0, none⟩)] W (RdP r s W (.string (PK.rdT s a).1) (PK.rdT s a).2.1 (PK.rdT s a).2.2)) := fun a W hg hW => rtext_any r s a W hW hs (hT W hg)
  have CN : Hid (∀ wd a W, G2 r p w W → RdAt r s a W → Calls Tryz.prog 112 #[.pointer (some ⟨r, 0, none⟩), .int .i64 wd] W (RdP r s W (.int .i64 (PK.rdN s a wd).1) (PK.rdN s a wd).2.1 (PK.rdN s a wd).2.2)) := fun wd a W _ hW => rnumber_any r s a wd W hW hs
  have CD : Hid (∀ a W, G2 r p w W → RdAt r s a W → Calls Tryz.prog 114 #[.pointer (some ⟨r, 0, none⟩)] W (RdP r s W (.string (PK.rdD s a).1) (PK.rdD s a).2.1 (PK.rdD s a).2.2)) := fun a W _ hW => rdata_any r s a W hW hs
  have CR : Hid (∀ k a W, G2 r p w W → RdAt r s a W → Calls Tryz.prog 89 #[.pointer (some ⟨r, 0, none⟩), .int .i64 k] W (RdPP r s W (PK.rdPr s a k).1 (PK.rdPr s a k).2.1 (PK.rdPr s a k).2.2)) := fun k a W hg hW => rprops_any r s a k W hW hs (hT W hg)
  have CF : Hid (∀ a W, RdAt r s a W → PbAt p P vc (.slice none 0 0) (.slice none 0 0) vs vf W → Calls Tryz.prog 113 #[.pointer (some ⟨r, 0, none⟩), .pointer (some ⟨p, 0, none⟩)] W (CfP r p s P vc (.slice none 0 0) (.slice none 0 0) vs vf W (PK.rdFl s a))) := fun a W hW hP => rcflags_any r p s a P vc _ _ vs vf W hW hP hs hrp
  have CL := Lib.hid leave_any
  have P0 := Lib.hid hp
  have R0 := Lib.hid h
  have G0 : Hid (G2 r p w w) := Lib.hid (G2.refl r p w)
  have hlr := lt_heap h
  have hlp := lt_heap hp
  have hpr : p ≠ r := fun e => hrp e.symm
  have HW0 := Lib.hid hw0
  obtain ⟨X, hX⟩ : ∃ X, X = PK.rdConn s a P := ⟨_, rfl⟩
  rw [← hX]
  unfold PK.rdConn at hX
  have HX0 := Lib.hid hX
  clear h hp hT hX hw0
  go_enter Tryz.func86, Tryz.ntmps86
  have D1 := CT.out a
  generalize PK.rdT s a = Z at *
  obtain ⟨v1, a1, c1⟩ := Z
  simp only at D1
  have E1 := Lib.hid (D1 _ G0.out R0.out)
  clear D1
  go_wp2_with fail
  refine E1.out.mono ?_
  rintro e w1 hR
  clear E1
  by_cases h1 : c1 = 0
  · obtain ⟨rfl, r1, g1⟩ := hR.1 h1
    have X1 := HX0.out
    rw [PK.bnd_ok h1] at X1
    have HX1 := Lib.hid X1
    clear X1 h1 HX0
    have P_1 := Lib.hid (P0.out.gr g1 hpr)
    have R_1 := Lib.hid r1
    have G_1 : Hid (G2 r p w w1) := Lib.hid (G0.out.trans (G2.of_gr g1))
    clear hR r1 g1 P0 R0 G0
    by_cases hm : v1 = ⟨#[77, 81, 84, 84]⟩
    · have Xm := HX1.out
      rw [if_neg (by simp [hm])] at Xm
      have HXm := Lib.hid Xm
      clear HX1 Xm
      subst hm
      have D2 := CN.out 1 a1
      generalize PK.rdN s a1 1 = Z at *
      obtain ⟨v2, a2, c2⟩ := Z
      simp only at D2
      have E2 := Lib.hid (D2 _ G_1.out R_1.out)
      clear D2
      go_wp2_with fail
      refine E2.out.mono ?_
      rintro e w2 hR
      clear E2
      by_cases h2 : c2 = 0
      · obtain ⟨rfl, r2, g2⟩ := hR.1 h2
        have X2 := HXm.out
        rw [PK.bnd_ok h2] at X2
        have HX2 := Lib.hid X2
        clear X2 h2 HXm
        have P_2 := Lib.hid (P_1.out.gr g2 hpr)
        have R_2 := Lib.hid r2
        have G_2 : Hid (G2 r p w w2) := Lib.hid (G_1.out.trans (G2.of_gr g2))
        clear hR r2 g2 P_1 R_1 G_1
        by_cases hv : v2 = 5
        · have Xv := HX2.out
          rw [if_neg (by simp [hv])] at Xv
          have HXv := Lib.hid Xv
          clear HX2 Xv
          subst hv
          have D3 := CF.out a2
          generalize PK.rdFl s a2 = Z at *
          obtain ⟨v3, a3, c3⟩ := Z
          have E3 := Lib.hid (D3 _ R_2.out P_2.out)
          clear D3
          go_wp2_with fail
          refine E3.out.mono ?_
          rintro e w3 hR
          clear E3
          by_cases h3 : c3 = 0
          · obtain ⟨rfl, r3, p3, g3⟩ := hR.1 h3
            have X3 := HXv.out
            rw [PK.bnd_ok h3] at X3
            have HX3 := Lib.hid X3
            clear X3 h3 HXv
            have R_3 := Lib.hid r3
            have P_3 := Lib.hid p3
            have G_3 : Hid (G2 r p w w3) := Lib.hid (G_2.out.trans g3)
            simp only at R_3 P_3
            have HW1 : Hid ((PK.cflPk P v3).wprops = []) := Lib.hid HW0.out
            generalize PK.cflPk P v3 = P1 at *
            have HXc := HX3.out
            unfold PK.rdConn1 at HXc
            have HXs := Lib.hid HXc
            clear HXc HX3 HW0 hR r3 p3 g3 P_2 R_2 G_2
            rename Hid (P1.wprops = []) => HW0
            have D4 := CN.out 2 a3
            generalize PK.rdN s a3 2 = Z at *
            obtain ⟨v4, a4, c4⟩ := Z
            simp only at D4
            have E4 := Lib.hid (D4 _ G_3.out R_3.out)
            clear D4
            go_wp2_with fail
            refine E4.out.mono ?_
            rintro e w4 hR
            clear E4
            by_cases h4 : c4 = 0
            · obtain ⟨rfl, r4, g4⟩ := hR.1 h4
              have X4 := HXs.out
              rw [PK.bnd_ok h4] at X4
              have HX4 := Lib.hid X4
              clear X4 h4 HXs
              have q4 := P_3.out.gr g4 hpr
              have z12 : w4.cell? ⟨p, 12, none⟩ = some (.int .i64 P1.keep) := by rw [cell_heap q4]; rfl
              have f12 : w4.frozen? ⟨p, 12, none⟩ = false := frozen_heap q4
              have z0_4 : w4.cell? ⟨p, 0, none⟩ = some (.int .i64 P1.kind) := by rw [cell_heap q4]; rfl
              have P_4 : Hid (PbAt p ({ P1 with keep := v4 } : Pk) vc (.slice none 0 0) (.slice none 0 0) vs vf (w4.setCell ⟨p, 12, none⟩ (.int .i64 v4))) := Lib.hid (set_block q4 rfl)
              have R_4 : Hid (RdAt r s a4 (w4.setCell ⟨p, 12, none⟩ (.int .i64 v4))) := Lib.hid (r4.setOther hrp _ _)
              have G_4 : Hid (G2 r p w (w4.setCell ⟨p, 12, none⟩ (.int .i64 v4))) := Lib.hid ((G_3.out.trans (G2.of_gr g4)).setCell 12 _)
              clear hR r4 g4 q4 P_3 R_3 G_3
              have D5 := CR.out P1.kind a4
              generalize PK.rdPr s a4 P1.kind = Z at *
              obtain ⟨v5, a5, c5⟩ := Z
              simp only at D5
              have E5 := Lib.hid (D5 _ G_4.out R_4.out)
              clear D5
              go_wp2_with fail
              refine E5.out.mono ?_
              rintro e w5 hR
              clear E5
              by_cases h5 : c5 = 0
              · obtain ⟨V5, rfl, o5, r5, g5⟩ := hR.1 h5
                have X5 := HX4.out
                rw [PK.bnd_ok h5] at X5
                have HX5 := Lib.hid X5
                clear X5 h5 HX4
                have q5 := P_4.out.gr g5 hpr
                obtain ⟨A5, cap5, rfl⟩ := own_form o5
                have z9 : w5.cell? ⟨p, 9, none⟩ = some ((.slice none 0 0)) := by rw [cell_heap q5]; rfl
                have f9 : w5.frozen? ⟨p, 9, none⟩ = false := frozen_heap q5
                have P_5 : Hid (PbAt p ({ P1 with keep := v4, props := v5 } : Pk) vc (.slice A5 v5.length cap5) (.slice none 0 0) vs vf (w5.setCell ⟨p, 9, none⟩ (.slice A5 v5.length cap5))) := Lib.hid (set_block q5 rfl)
                have R_5 : Hid (RdAt r s a5 (w5.setCell ⟨p, 9, none⟩ (.slice A5 v5.length cap5))) := Lib.hid (r5.setOther hrp _ _)
                have G_5 : Hid (G2 r p w (w5.setCell ⟨p, 9, none⟩ (.slice A5 v5.length cap5))) := Lib.hid ((G_4.out.trans (G2.of_gr g5)).setCell 9 _)
                have b5 : w5.ownsRow w.heap.size 116 4 (.slice A5 v5.length cap5) v5.length (flatP v5) := own_base' o5 G_4.out.size
                have O5 : Hid ((w5.setCell ⟨p, 9, none⟩ (.slice A5 v5.length cap5)).ownsRow w.heap.size 116 4 (.slice A5 v5.length cap5) v5.length (flatP v5)) := Lib.hid (own_set b5 (row_ne b5 hlp))
                clear o5 b5
                clear hR r5 g5 q5 P_4 R_4 G_4
                have D6 := CT.out a5
                generalize PK.rdT s a5 = Z at *
                obtain ⟨v6, a6, c6⟩ := Z
                simp only at D6
                have E6 := Lib.hid (D6 _ G_5.out R_5.out)
                clear D6
                go_wp2_with fail
                refine E6.out.mono ?_
                rintro e w6 hR
                clear E6
                by_cases h6 : c6 = 0
                · obtain ⟨rfl, r6, g6⟩ := hR.1 h6
                  have X6 := HX5.out
                  rw [PK.bnd_ok h6] at X6
                  have HX6 := Lib.hid X6
                  clear X6 h6 HX5
                  have q6 := P_5.out.gr g6 hpr
                  have z10 : w6.cell? ⟨p, 10, none⟩ = some (.string P1.client) := by rw [cell_heap q6]; rfl
                  have f10 : w6.frozen? ⟨p, 10, none⟩ = false := frozen_heap q6
                  have z13_6 : w6.cell? ⟨p, 13, none⟩ = some (.bool P1.hasWill) := by rw [cell_heap q6]; rfl
                  have z19_6 : w6.cell? ⟨p, 19, none⟩ = some (.bool P1.hasUser) := by rw [cell_heap q6]; rfl
                  have z20_6 : w6.cell? ⟨p, 20, none⟩ = some (.bool P1.hasPass) := by rw [cell_heap q6]; rfl
                  have P_6 : Hid (PbAt p ({ P1 with keep := v4, props := v5, client := v6 } : Pk) vc (.slice A5 v5.length cap5) (.slice none 0 0) vs vf (w6.setCell ⟨p, 10, none⟩ (.string v6))) := Lib.hid (set_block q6 rfl)
                  have R_6 : Hid (RdAt r s a6 (w6.setCell ⟨p, 10, none⟩ (.string v6))) := Lib.hid (r6.setOther hrp _ _)
                  have G_6 : Hid (G2 r p w (w6.setCell ⟨p, 10, none⟩ (.string v6))) := Lib.hid ((G_5.out.trans (G2.of_gr g6)).setCell 10 _)
                  have mO6 := own_gr O5.out g6 (row_ne O5.out hlr)
                  have O6 : Hid ((w6.setCell ⟨p, 10, none⟩ (.string v6)).ownsRow w.heap.size 116 4 (.slice A5 v5.length cap5) v5.length (flatP v5)) := Lib.hid (own_set mO6 (row_ne mO6 hlp))
                  clear mO6 O5
                  clear hR r6 g6 q6 P_5 R_5 G_5
                  cases hf13 : P1.hasWill
                  · have y13 : w6.cell? ⟨p, 13, none⟩ = some (.bool false) := by rw [z13_6, hf13]
                    have Y13f := HX6.out.trans (PK.rdWill_f s _ (P := ({ P1 with keep := v4, props := v5, client := v6 } : Pk)) hf13)
                    try dsimp only at Y13f
                    have HY13 := Lib.hid Y13f
                    clear Y13f HX6 z13_6 hf13
                    cases hf19 : P1.hasUser
                    · have y19 : w6.cell? ⟨p, 19, none⟩ = some (.bool false) := by rw [z19_6, hf19]
                      have Y19f := HY13.out.trans (PK.rdUser_f s _ (P := ({ P1 with keep := v4, props := v5, client := v6 } : Pk)) hf19)
                      try dsimp only at Y19f
                      have HY19 := Lib.hid Y19f
                      clear Y19f HY13 z19_6 hf19
                      cases hf20 : P1.hasPass
                      · have y20 : w6.cell? ⟨p, 20, none⟩ = some (.bool false) := by rw [z20_6, hf20]
                        have Y20f := HY19.out.trans (PK.rdPass_f s _ (P := ({ P1 with keep := v4, props := v5, client := v6 } : Pk)) hf20)
                        try dsimp only at Y20f
                        have HY20 := Lib.hid Y20f
                        clear Y20f HY19 z20_6 hf20
                        go_wp2
                        go_end0
                        rw [HY20.out]
                        exact ⟨fun _ => ⟨_, _, rfl, O6.out, (by rw [show ({ P1 with keep := v4, props := v5, client := v6 } : Pk).wprops = [] from HW0.out]; exact own_nil _ _ _ _), R_6.out, P_6.out, G_6.out⟩, fun h => absurd rfl h⟩
                      · have y20 : w6.cell? ⟨p, 20, none⟩ = some (.bool true) := by rw [z20_6, hf20]
                        have Y20t := HY19.out.trans (PK.rdPass_t s _ (P := ({ P1 with keep := v4, props := v5, client := v6 } : Pk)) hf20)
                        try dsimp only at Y20t
                        have HY20 := Lib.hid Y20t
                        clear Y20t HY19 z20_6 hf20
                        have D7 := CD.out a6
                        generalize PK.rdD s a6 = Z at *
                        obtain ⟨v7, a7, c7⟩ := Z
                        simp only at D7
                        have E7 := Lib.hid (D7 _ G_6.out R_6.out)
                        clear D7
                        go_wp2_with fail
                        refine E7.out.mono ?_
                        rintro e w7 hR
                        clear E7
                        by_cases h7 : c7 = 0
                        · obtain ⟨rfl, r7, g7⟩ := hR.1 h7
                          have X7 := HY20.out
                          rw [PK.bnd_ok h7] at X7
                          have HX7 := Lib.hid X7
                          clear X7 h7 HY20
                          have q7 := P_6.out.gr g7 hpr
                          have z22 : w7.cell? ⟨p, 22, none⟩ = some (.string P1.pass) := by rw [cell_heap q7]; rfl
                          have f22 : w7.frozen? ⟨p, 22, none⟩ = false := frozen_heap q7
                          have P_7 : Hid (PbAt p ({ P1 with keep := v4, props := v5, client := v6, pass := v7 } : Pk) vc (.slice A5 v5.length cap5) (.slice none 0 0) vs vf (w7.setCell ⟨p, 22, none⟩ (.string v7))) := Lib.hid (set_block q7 rfl)
                          have R_7 : Hid (RdAt r s a7 (w7.setCell ⟨p, 22, none⟩ (.string v7))) := Lib.hid (r7.setOther hrp _ _)
                          have G_7 : Hid (G2 r p w (w7.setCell ⟨p, 22, none⟩ (.string v7))) := Lib.hid ((G_6.out.trans (G2.of_gr g7)).setCell 22 _)
                          have mO7 := own_gr O6.out g7 (row_ne O6.out hlr)
                          have O7 : Hid ((w7.setCell ⟨p, 22, none⟩ (.string v7)).ownsRow w.heap.size 116 4 (.slice A5 v5.length cap5) v5.length (flatP v5)) := Lib.hid (own_set mO7 (row_ne mO7 hlp))
                          clear mO7 O6
                          clear hR r7 g7 q7 P_6 R_6 G_6
                          go_wp2
                          go_end0
                          rw [HX7.out]
                          exact ⟨fun _ => ⟨_, _, rfl, O7.out, (by rw [show ({ P1 with keep := v4, props := v5, client := v6, pass := v7 } : Pk).wprops = [] from HW0.out]; exact own_nil _ _ _ _), R_7.out, P_7.out, G_7.out⟩, fun h => absurd rfl h⟩
                        · obtain ⟨rfl, g7⟩ := hR.2 h7
                          exact ⟨rfl, ConP.left (by rw [HY20.out]; exact PK.bnd_bad h7) h7 (G_6.out.trans (G2.of_gr g7))⟩
                    · have y19 : w6.cell? ⟨p, 19, none⟩ = some (.bool true) := by rw [z19_6, hf19]
                      have Y19t := HY13.out.trans (PK.rdUser_t s _ (P := ({ P1 with keep := v4, props := v5, client := v6 } : Pk)) hf19)
                      try dsimp only at Y19t
                      have HY19 := Lib.hid Y19t
                      clear Y19t HY13 z19_6 hf19
                      have D8 := CT.out a6
                      generalize PK.rdT s a6 = Z at *
                      obtain ⟨v8, a8, c8⟩ := Z
                      simp only at D8
                      have E8 := Lib.hid (D8 _ G_6.out R_6.out)
                      clear D8
                      go_wp2_with fail
                      refine E8.out.mono ?_
                      rintro e w8 hR
                      clear E8
                      by_cases h8 : c8 = 0
                      · obtain ⟨rfl, r8, g8⟩ := hR.1 h8
                        have X8 := HY19.out
                        rw [PK.bnd_ok h8] at X8
                        have HX8 := Lib.hid X8
                        clear X8 h8 HY19
                        have q8 := P_6.out.gr g8 hpr
                        have z21 : w8.cell? ⟨p, 21, none⟩ = some (.string P1.user) := by rw [cell_heap q8]; rfl
                        have f21 : w8.frozen? ⟨p, 21, none⟩ = false := frozen_heap q8
                        have z20_8 : w8.cell? ⟨p, 20, none⟩ = some (.bool P1.hasPass) := by rw [cell_heap q8]; rfl
                        have P_8 : Hid (PbAt p ({ P1 with keep := v4, props := v5, client := v6, user := v8 } : Pk) vc (.slice A5 v5.length cap5) (.slice none 0 0) vs vf (w8.setCell ⟨p, 21, none⟩ (.string v8))) := Lib.hid (set_block q8 rfl)
                        have R_8 : Hid (RdAt r s a8 (w8.setCell ⟨p, 21, none⟩ (.string v8))) := Lib.hid (r8.setOther hrp _ _)
                        have G_8 : Hid (G2 r p w (w8.setCell ⟨p, 21, none⟩ (.string v8))) := Lib.hid ((G_6.out.trans (G2.of_gr g8)).setCell 21 _)
                        have mO8 := own_gr O6.out g8 (row_ne O6.out hlr)
                        have O8 : Hid ((w8.setCell ⟨p, 21, none⟩ (.string v8)).ownsRow w.heap.size 116 4 (.slice A5 v5.length cap5) v5.length (flatP v5)) := Lib.hid (own_set mO8 (row_ne mO8 hlp))
                        clear mO8 O6
                        clear hR r8 g8 q8 P_6 R_6 G_6
                        cases hf20 : P1.hasPass
                        · have y20 : w8.cell? ⟨p, 20, none⟩ = some (.bool false) := by rw [z20_8, hf20]
                          have Y20f := HX8.out.trans (PK.rdPass_f s _ (P := ({ P1 with keep := v4, props := v5, client := v6, user := v8 } : Pk)) hf20)
                          try dsimp only at Y20f
                          have HY20 := Lib.hid Y20f
                          clear Y20f HX8 z20_8 hf20
                          go_wp2
                          go_end0
                          rw [HY20.out]
                          exact ⟨fun _ => ⟨_, _, rfl, O8.out, (by rw [show ({ P1 with keep := v4, props := v5, client := v6, user := v8 } : Pk).wprops = [] from HW0.out]; exact own_nil _ _ _ _), R_8.out, P_8.out, G_8.out⟩, fun h => absurd rfl h⟩
                        · have y20 : w8.cell? ⟨p, 20, none⟩ = some (.bool true) := by rw [z20_8, hf20]
                          have Y20t := HX8.out.trans (PK.rdPass_t s _ (P := ({ P1 with keep := v4, props := v5, client := v6, user := v8 } : Pk)) hf20)
                          try dsimp only at Y20t
                          have HY20 := Lib.hid Y20t
                          clear Y20t HX8 z20_8 hf20
                          have D9 := CD.out a8
                          generalize PK.rdD s a8 = Z at *
                          obtain ⟨v9, a9, c9⟩ := Z
                          simp only at D9
                          have E9 := Lib.hid (D9 _ G_8.out R_8.out)
                          clear D9
                          go_wp2_with fail
                          refine E9.out.mono ?_
                          rintro e w9 hR
                          clear E9
                          by_cases h9 : c9 = 0
                          · obtain ⟨rfl, r9, g9⟩ := hR.1 h9
                            have X9 := HY20.out
                            rw [PK.bnd_ok h9] at X9
                            have HX9 := Lib.hid X9
                            clear X9 h9 HY20
                            have q9 := P_8.out.gr g9 hpr
                            have z22 : w9.cell? ⟨p, 22, none⟩ = some (.string P1.pass) := by rw [cell_heap q9]; rfl
                            have f22 : w9.frozen? ⟨p, 22, none⟩ = false := frozen_heap q9
                            have P_9 : Hid (PbAt p ({ P1 with keep := v4, props := v5, client := v6, user := v8, pass := v9 } : Pk) vc (.slice A5 v5.length cap5) (.slice none 0 0) vs vf (w9.setCell ⟨p, 22, none⟩ (.string v9))) := Lib.hid (set_block q9 rfl)
                            have R_9 : Hid (RdAt r s a9 (w9.setCell ⟨p, 22, none⟩ (.string v9))) := Lib.hid (r9.setOther hrp _ _)
                            have G_9 : Hid (G2 r p w (w9.setCell ⟨p, 22, none⟩ (.string v9))) := Lib.hid ((G_8.out.trans (G2.of_gr g9)).setCell 22 _)
                            have mO9 := own_gr O8.out g9 (row_ne O8.out hlr)
                            have O9 : Hid ((w9.setCell ⟨p, 22, none⟩ (.string v9)).ownsRow w.heap.size 116 4 (.slice A5 v5.length cap5) v5.length (flatP v5)) := Lib.hid (own_set mO9 (row_ne mO9 hlp))
                            clear mO9 O8
                            clear hR r9 g9 q9 P_8 R_8 G_8
                            go_wp2
                            go_end0
                            rw [HX9.out]
                            exact ⟨fun _ => ⟨_, _, rfl, O9.out, (by rw [show ({ P1 with keep := v4, props := v5, client := v6, user := v8, pass := v9 } : Pk).wprops = [] from HW0.out]; exact own_nil _ _ _ _), R_9.out, P_9.out, G_9.out⟩, fun h => absurd rfl h⟩
                          · obtain ⟨rfl, g9⟩ := hR.2 h9
                            exact ⟨rfl, ConP.left (by rw [HY20.out]; exact PK.bnd_bad h9) h9 (G_8.out.trans (G2.of_gr g9))⟩
                      · obtain ⟨rfl, g8⟩ := hR.2 h8
                        exact ⟨rfl, ConP.left (by rw [HY19.out]; exact PK.bnd_bad h8) h8 (G_6.out.trans (G2.of_gr g8))⟩
                  · have y13 : w6.cell? ⟨p, 13, none⟩ = some (.bool true) := by rw [z13_6, hf13]
                    have Y13t := HX6.out.trans (PK.rdWill_t s _ (P := ({ P1 with keep := v4, props := v5, client := v6 } : Pk)) hf13)
                    try dsimp only at Y13t
                    have HY13 := Lib.hid Y13t
                    clear Y13t HX6 z13_6 hf13
                    have D10 := CR.out 0 a6
                    generalize PK.rdPr s a6 0 = Z at *
                    obtain ⟨v10, a10, c10⟩ := Z
                    simp only at D10
                    have E10 := Lib.hid (D10 _ G_6.out R_6.out)
                    clear D10
                    go_wp2_with fail
                    refine E10.out.mono ?_
                    rintro e w10 hR
                    clear E10
                    by_cases h10 : c10 = 0
                    · obtain ⟨V10, rfl, o10, r10, g10⟩ := hR.1 h10
                      have X10 := HY13.out
                      rw [PK.bnd_ok h10] at X10
                      have HX10 := Lib.hid X10
                      clear X10 h10 HY13
                      have q10 := P_6.out.gr g10 hpr
                      obtain ⟨A10, cap10, rfl⟩ := own_form o10
                      have z18 : w10.cell? ⟨p, 18, none⟩ = some ((.slice none 0 0)) := by rw [cell_heap q10]; rfl
                      have f18 : w10.frozen? ⟨p, 18, none⟩ = false := frozen_heap q10
                      have P_10 : Hid (PbAt p ({ P1 with keep := v4, props := v5, client := v6, wprops := v10 } : Pk) vc (.slice A5 v5.length cap5) (.slice A10 v10.length cap10) vs vf (w10.setCell ⟨p, 18, none⟩ (.slice A10 v10.length cap10))) := Lib.hid (set_block q10 rfl)
                      have R_10 : Hid (RdAt r s a10 (w10.setCell ⟨p, 18, none⟩ (.slice A10 v10.length cap10))) := Lib.hid (r10.setOther hrp _ _)
                      have G_10 : Hid (G2 r p w (w10.setCell ⟨p, 18, none⟩ (.slice A10 v10.length cap10))) := Lib.hid ((G_6.out.trans (G2.of_gr g10)).setCell 18 _)
                      have mO10 := own_gr O6.out g10 (row_ne O6.out hlr)
                      have O10 : Hid ((w10.setCell ⟨p, 18, none⟩ (.slice A10 v10.length cap10)).ownsRow w.heap.size 116 4 (.slice A5 v5.length cap5) v5.length (flatP v5)) := Lib.hid (own_set mO10 (row_ne mO10 hlp))
                      clear mO10 O6
                      have b10 : w10.ownsRow w.heap.size 116 4 (.slice A10 v10.length cap10) v10.length (flatP v10) := own_base' o10 G_6.out.size
                      have U10 : Hid ((w10.setCell ⟨p, 18, none⟩ (.slice A10 v10.length cap10)).ownsRow w.heap.size 116 4 (.slice A10 v10.length cap10) v10.length (flatP v10)) := Lib.hid (own_set b10 (row_ne b10 hlp))
                      clear o10 b10
                      clear hR r10 g10 q10 P_6 R_6 G_6
                      have D11 := CT.out a10
                      generalize PK.rdT s a10 = Z at *
                      obtain ⟨v11, a11, c11⟩ := Z
                      simp only at D11
                      have E11 := Lib.hid (D11 _ G_10.out R_10.out)
                      clear D11
                      go_wp2_with fail
                      refine E11.out.mono ?_
                      rintro e w11 hR
                      clear E11
                      by_cases h11 : c11 = 0
                      · obtain ⟨rfl, r11, g11⟩ := hR.1 h11
                        have X11 := HX10.out
                        rw [PK.bnd_ok h11] at X11
                        have HX11 := Lib.hid X11
                        clear X11 h11 HX10
                        have q11 := P_10.out.gr g11 hpr
                        have z14 : w11.cell? ⟨p, 14, none⟩ = some (.string P1.wtopic) := by rw [cell_heap q11]; rfl
                        have f14 : w11.frozen? ⟨p, 14, none⟩ = false := frozen_heap q11
                        have P_11 : Hid (PbAt p ({ P1 with keep := v4, props := v5, client := v6, wprops := v10, wtopic := v11 } : Pk) vc (.slice A5 v5.length cap5) (.slice A10 v10.length cap10) vs vf (w11.setCell ⟨p, 14, none⟩ (.string v11))) := Lib.hid (set_block q11 rfl)
                        have R_11 : Hid (RdAt r s a11 (w11.setCell ⟨p, 14, none⟩ (.string v11))) := Lib.hid (r11.setOther hrp _ _)
                        have G_11 : Hid (G2 r p w (w11.setCell ⟨p, 14, none⟩ (.string v11))) := Lib.hid ((G_10.out.trans (G2.of_gr g11)).setCell 14 _)
                        have mO11 := own_gr O10.out g11 (row_ne O10.out hlr)
                        have O11 : Hid ((w11.setCell ⟨p, 14, none⟩ (.string v11)).ownsRow w.heap.size 116 4 (.slice A5 v5.length cap5) v5.length (flatP v5)) := Lib.hid (own_set mO11 (row_ne mO11 hlp))
                        clear mO11 O10
                        have mU11 := own_gr U10.out g11 (row_ne U10.out hlr)
                        have U11 : Hid ((w11.setCell ⟨p, 14, none⟩ (.string v11)).ownsRow w.heap.size 116 4 (.slice A10 v10.length cap10) v10.length (flatP v10)) := Lib.hid (own_set mU11 (row_ne mU11 hlp))
                        clear mU11 U10
                        clear hR r11 g11 q11 P_10 R_10 G_10
                        have D12 := CD.out a11
                        generalize PK.rdD s a11 = Z at *
                        obtain ⟨v12, a12, c12⟩ := Z
                        simp only at D12
                        have E12 := Lib.hid (D12 _ G_11.out R_11.out)
                        clear D12
                        go_wp2_with fail
                        refine E12.out.mono ?_
                        rintro e w12 hR
                        clear E12
                        by_cases h12 : c12 = 0
                        · obtain ⟨rfl, r12, g12⟩ := hR.1 h12
                          have X12 := HX11.out
                          rw [PK.bnd_ok h12] at X12
                          have HX12 := Lib.hid X12
                          clear X12 h12 HX11
                          have q12 := P_11.out.gr g12 hpr
                          have z15 : w12.cell? ⟨p, 15, none⟩ = some (.string P1.wpay) := by rw [cell_heap q12]; rfl
                          have f15 : w12.frozen? ⟨p, 15, none⟩ = false := frozen_heap q12
                          have z19_12 : w12.cell? ⟨p, 19, none⟩ = some (.bool P1.hasUser) := by rw [cell_heap q12]; rfl
                          have z20_12 : w12.cell? ⟨p, 20, none⟩ = some (.bool P1.hasPass) := by rw [cell_heap q12]; rfl
                          have P_12 : Hid (PbAt p ({ P1 with keep := v4, props := v5, client := v6, wprops := v10, wtopic := v11, wpay := v12 } : Pk) vc (.slice A5 v5.length cap5) (.slice A10 v10.length cap10) vs vf (w12.setCell ⟨p, 15, none⟩ (.string v12))) := Lib.hid (set_block q12 rfl)
                          have R_12 : Hid (RdAt r s a12 (w12.setCell ⟨p, 15, none⟩ (.string v12))) := Lib.hid (r12.setOther hrp _ _)
                          have G_12 : Hid (G2 r p w (w12.setCell ⟨p, 15, none⟩ (.string v12))) := Lib.hid ((G_11.out.trans (G2.of_gr g12)).setCell 15 _)
                          have mO12 := own_gr O11.out g12 (row_ne O11.out hlr)
                          have O12 : Hid ((w12.setCell ⟨p, 15, none⟩ (.string v12)).ownsRow w.heap.size 116 4 (.slice A5 v5.length cap5) v5.length (flatP v5)) := Lib.hid (own_set mO12 (row_ne mO12 hlp))
                          clear mO12 O11
                          have mU12 := own_gr U11.out g12 (row_ne U11.out hlr)
                          have U12 : Hid ((w12.setCell ⟨p, 15, none⟩ (.string v12)).ownsRow w.heap.size 116 4 (.slice A10 v10.length cap10) v10.length (flatP v10)) := Lib.hid (own_set mU12 (row_ne mU12 hlp))
                          clear mU12 U11
                          clear hR r12 g12 q12 P_11 R_11 G_11
                          cases hf19 : P1.hasUser
                          · have y19 : w12.cell? ⟨p, 19, none⟩ = some (.bool false) := by rw [z19_12, hf19]
                            have Y19f := HX12.out.trans (PK.rdUser_f s _ (P := ({ P1 with keep := v4, props := v5, client := v6, wprops := v10, wtopic := v11, wpay := v12 } : Pk)) hf19)
                            try dsimp only at Y19f
                            have HY19 := Lib.hid Y19f
                            clear Y19f HX12 z19_12 hf19
                            cases hf20 : P1.hasPass
                            · have y20 : w12.cell? ⟨p, 20, none⟩ = some (.bool false) := by rw [z20_12, hf20]
                              have Y20f := HY19.out.trans (PK.rdPass_f s _ (P := ({ P1 with keep := v4, props := v5, client := v6, wprops := v10, wtopic := v11, wpay := v12 } : Pk)) hf20)
                              try dsimp only at Y20f
                              have HY20 := Lib.hid Y20f
                              clear Y20f HY19 z20_12 hf20
                              go_wp2
                              go_end0
                              rw [HY20.out]
                              exact ⟨fun _ => ⟨_, _, rfl, O12.out, U12.out, R_12.out, P_12.out, G_12.out⟩, fun h => absurd rfl h⟩
                            · have y20 : w12.cell? ⟨p, 20, none⟩ = some (.bool true) := by rw [z20_12, hf20]
                              have Y20t := HY19.out.trans (PK.rdPass_t s _ (P := ({ P1 with keep := v4, props := v5, client := v6, wprops := v10, wtopic := v11, wpay := v12 } : Pk)) hf20)
                              try dsimp only at Y20t
                              have HY20 := Lib.hid Y20t
                              clear Y20t HY19 z20_12 hf20
                              have D13 := CD.out a12
                              generalize PK.rdD s a12 = Z at *
                              obtain ⟨v13, a13, c13⟩ := Z
                              simp only at D13
                              have E13 := Lib.hid (D13 _ G_12.out R_12.out)
                              clear D13
                              go_wp2_with fail
                              refine E13.out.mono ?_
                              rintro e w13 hR
                              clear E13
                              by_cases h13 : c13 = 0
                              · obtain ⟨rfl, r13, g13⟩ := hR.1 h13
                                have X13 := HY20.out
                                rw [PK.bnd_ok h13] at X13
                                have HX13 := Lib.hid X13
                                clear X13 h13 HY20
                                have q13 := P_12.out.gr g13 hpr
                                have z22 : w13.cell? ⟨p, 22, none⟩ = some (.string P1.pass) := by rw [cell_heap q13]; rfl
                                have f22 : w13.frozen? ⟨p, 22, none⟩ = false := frozen_heap q13
                                have P_13 : Hid (PbAt p ({ P1 with keep := v4, props := v5, client := v6, wprops := v10, wtopic := v11, wpay := v12, pass := v13 } : Pk) vc (.slice A5 v5.length cap5) (.slice A10 v10.length cap10) vs vf (w13.setCell ⟨p, 22, none⟩ (.string v13))) := Lib.hid (set_block q13 rfl)
                                have R_13 : Hid (RdAt r s a13 (w13.setCell ⟨p, 22, none⟩ (.string v13))) := Lib.hid (r13.setOther hrp _ _)
                                have G_13 : Hid (G2 r p w (w13.setCell ⟨p, 22, none⟩ (.string v13))) := Lib.hid ((G_12.out.trans (G2.of_gr g13)).setCell 22 _)
                                have mO13 := own_gr O12.out g13 (row_ne O12.out hlr)
                                have O13 : Hid ((w13.setCell ⟨p, 22, none⟩ (.string v13)).ownsRow w.heap.size 116 4 (.slice A5 v5.length cap5) v5.length (flatP v5)) := Lib.hid (own_set mO13 (row_ne mO13 hlp))
                                clear mO13 O12
                                have mU13 := own_gr U12.out g13 (row_ne U12.out hlr)
                                have U13 : Hid ((w13.setCell ⟨p, 22, none⟩ (.string v13)).ownsRow w.heap.size 116 4 (.slice A10 v10.length cap10) v10.length (flatP v10)) := Lib.hid (own_set mU13 (row_ne mU13 hlp))
                                clear mU13 U12
                                clear hR r13 g13 q13 P_12 R_12 G_12
                                go_wp2
                                go_end0
                                rw [HX13.out]
                                exact ⟨fun _ => ⟨_, _, rfl, O13.out, U13.out, R_13.out, P_13.out, G_13.out⟩, fun h => absurd rfl h⟩
                              · obtain ⟨rfl, g13⟩ := hR.2 h13
                                exact ⟨rfl, ConP.left (by rw [HY20.out]; exact PK.bnd_bad h13) h13 (G_12.out.trans (G2.of_gr g13))⟩
                          · have y19 : w12.cell? ⟨p, 19, none⟩ = some (.bool true) := by rw [z19_12, hf19]
                            have Y19t := HX12.out.trans (PK.rdUser_t s _ (P := ({ P1 with keep := v4, props := v5, client := v6, wprops := v10, wtopic := v11, wpay := v12 } : Pk)) hf19)
                            try dsimp only at Y19t
                            have HY19 := Lib.hid Y19t
                            clear Y19t HX12 z19_12 hf19
                            have D14 := CT.out a12
                            generalize PK.rdT s a12 = Z at *
                            obtain ⟨v14, a14, c14⟩ := Z
                            simp only at D14
                            have E14 := Lib.hid (D14 _ G_12.out R_12.out)
                            clear D14
                            go_wp2_with fail
                            refine E14.out.mono ?_
                            rintro e w14 hR
                            clear E14
                            by_cases h14 : c14 = 0
                            · obtain ⟨rfl, r14, g14⟩ := hR.1 h14
                              have X14 := HY19.out
                              rw [PK.bnd_ok h14] at X14
                              have HX14 := Lib.hid X14
                              clear X14 h14 HY19
                              have q14 := P_12.out.gr g14 hpr
                              have z21 : w14.cell? ⟨p, 21, none⟩ = some (.string P1.user) := by rw [cell_heap q14]; rfl
                              have f21 : w14.frozen? ⟨p, 21, none⟩ = false := frozen_heap q14
                              have z20_14 : w14.cell? ⟨p, 20, none⟩ = some (.bool P1.hasPass) := by rw [cell_heap q14]; rfl
                              have P_14 : Hid (PbAt p ({ P1 with keep := v4, props := v5, client := v6, wprops := v10, wtopic := v11, wpay := v12, user := v14 } : Pk) vc (.slice A5 v5.length cap5) (.slice A10 v10.length cap10) vs vf (w14.setCell ⟨p, 21, none⟩ (.string v14))) := Lib.hid (set_block q14 rfl)
                              have R_14 : Hid (RdAt r s a14 (w14.setCell ⟨p, 21, none⟩ (.string v14))) := Lib.hid (r14.setOther hrp _ _)
                              have G_14 : Hid (G2 r p w (w14.setCell ⟨p, 21, none⟩ (.string v14))) := Lib.hid ((G_12.out.trans (G2.of_gr g14)).setCell 21 _)
                              have mO14 := own_gr O12.out g14 (row_ne O12.out hlr)
                              have O14 : Hid ((w14.setCell ⟨p, 21, none⟩ (.string v14)).ownsRow w.heap.size 116 4 (.slice A5 v5.length cap5) v5.length (flatP v5)) := Lib.hid (own_set mO14 (row_ne mO14 hlp))
                              clear mO14 O12
                              have mU14 := own_gr U12.out g14 (row_ne U12.out hlr)
                              have U14 : Hid ((w14.setCell ⟨p, 21, none⟩ (.string v14)).ownsRow w.heap.size 116 4 (.slice A10 v10.length cap10) v10.length (flatP v10)) := Lib.hid (own_set mU14 (row_ne mU14 hlp))
                              clear mU14 U12
                              clear hR r14 g14 q14 P_12 R_12 G_12
                              cases hf20 : P1.hasPass
                              · have y20 : w14.cell? ⟨p, 20, none⟩ = some (.bool false) := by rw [z20_14, hf20]
                                have Y20f := HX14.out.trans (PK.rdPass_f s _ (P := ({ P1 with keep := v4, props := v5, client := v6, wprops := v10, wtopic := v11, wpay := v12, user := v14 } : Pk)) hf20)
                                try dsimp only at Y20f
                                have HY20 := Lib.hid Y20f
                                clear Y20f HX14 z20_14 hf20
                                go_wp2
                                go_end0
                                rw [HY20.out]
                                exact ⟨fun _ => ⟨_, _, rfl, O14.out, U14.out, R_14.out, P_14.out, G_14.out⟩, fun h => absurd rfl h⟩
                              · have y20 : w14.cell? ⟨p, 20, none⟩ = some (.bool true) := by rw [z20_14, hf20]
                                have Y20t := HX14.out.trans (PK.rdPass_t s _ (P := ({ P1 with keep := v4, props := v5, client := v6, wprops := v10, wtopic := v11, wpay := v12, user := v14 } : Pk)) hf20)
                                try dsimp only at Y20t
                                have HY20 := Lib.hid Y20t
                                clear Y20t HX14 z20_14 hf20
                                have D15 := CD.out a14
                                generalize PK.rdD s a14 = Z at *
                                obtain ⟨v15, a15, c15⟩ := Z
                                simp only at D15
                                have E15 := Lib.hid (D15 _ G_14.out R_14.out)
                                clear D15
                                go_wp2_with fail
                                refine E15.out.mono ?_
                                rintro e w15 hR
                                clear E15
                                by_cases h15 : c15 = 0
                                · obtain ⟨rfl, r15, g15⟩ := hR.1 h15
                                  have X15 := HY20.out
                                  rw [PK.bnd_ok h15] at X15
                                  have HX15 := Lib.hid X15
                                  clear X15 h15 HY20
                                  have q15 := P_14.out.gr g15 hpr
                                  have z22 : w15.cell? ⟨p, 22, none⟩ = some (.string P1.pass) := by rw [cell_heap q15]; rfl
                                  have f22 : w15.frozen? ⟨p, 22, none⟩ = false := frozen_heap q15
                                  have P_15 : Hid (PbAt p ({ P1 with keep := v4, props := v5, client := v6, wprops := v10, wtopic := v11, wpay := v12, user := v14, pass := v15 } : Pk) vc (.slice A5 v5.length cap5) (.slice A10 v10.length cap10) vs vf (w15.setCell ⟨p, 22, none⟩ (.string v15))) := Lib.hid (set_block q15 rfl)
                                  have R_15 : Hid (RdAt r s a15 (w15.setCell ⟨p, 22, none⟩ (.string v15))) := Lib.hid (r15.setOther hrp _ _)
                                  have G_15 : Hid (G2 r p w (w15.setCell ⟨p, 22, none⟩ (.string v15))) := Lib.hid ((G_14.out.trans (G2.of_gr g15)).setCell 22 _)
                                  have mO15 := own_gr O14.out g15 (row_ne O14.out hlr)
                                  have O15 : Hid ((w15.setCell ⟨p, 22, none⟩ (.string v15)).ownsRow w.heap.size 116 4 (.slice A5 v5.length cap5) v5.length (flatP v5)) := Lib.hid (own_set mO15 (row_ne mO15 hlp))
                                  clear mO15 O14
                                  have mU15 := own_gr U14.out g15 (row_ne U14.out hlr)
                                  have U15 : Hid ((w15.setCell ⟨p, 22, none⟩ (.string v15)).ownsRow w.heap.size 116 4 (.slice A10 v10.length cap10) v10.length (flatP v10)) := Lib.hid (own_set mU15 (row_ne mU15 hlp))
                                  clear mU15 U14
                                  clear hR r15 g15 q15 P_14 R_14 G_14
                                  go_wp2
                                  go_end0
                                  rw [HX15.out]
                                  exact ⟨fun _ => ⟨_, _, rfl, O15.out, U15.out, R_15.out, P_15.out, G_15.out⟩, fun h => absurd rfl h⟩
                                · obtain ⟨rfl, g15⟩ := hR.2 h15
                                  exact ⟨rfl, ConP.left (by rw [HY20.out]; exact PK.bnd_bad h15) h15 (G_14.out.trans (G2.of_gr g15))⟩
                            · obtain ⟨rfl, g14⟩ := hR.2 h14
                              exact ⟨rfl, ConP.left (by rw [HY19.out]; exact PK.bnd_bad h14) h14 (G_12.out.trans (G2.of_gr g14))⟩
                        · obtain ⟨rfl, g12⟩ := hR.2 h12
                          exact ⟨rfl, ConP.left (by rw [HX11.out]; exact PK.bnd_bad h12) h12 (G_11.out.trans (G2.of_gr g12))⟩
                      · obtain ⟨rfl, g11⟩ := hR.2 h11
                        exact ⟨rfl, ConP.left (by rw [HX10.out]; exact PK.bnd_bad h11) h11 (G_10.out.trans (G2.of_gr g11))⟩
                    · obtain ⟨rfl, g10⟩ := hR.2 h10
                      exact ⟨rfl, ConP.left (by rw [HY13.out]; exact PK.bnd_bad h10) h10 (G_6.out.trans (G2.of_gr g10))⟩
                · obtain ⟨rfl, g6⟩ := hR.2 h6
                  exact ⟨rfl, ConP.left (by rw [HX5.out]; exact PK.bnd_bad h6) h6 (G_5.out.trans (G2.of_gr g6))⟩
              · obtain ⟨rfl, g5⟩ := hR.2 h5
                exact ⟨rfl, ConP.left (by rw [HX4.out]; exact PK.bnd_bad h5) h5 (G_4.out.trans (G2.of_gr g5))⟩
            · obtain ⟨rfl, g4⟩ := hR.2 h4
              exact ⟨rfl, ConP.left (by rw [HXs.out]; exact PK.bnd_bad h4) h4 (G_3.out.trans (G2.of_gr g4))⟩
          · obtain ⟨rfl, g3⟩ := hR.2 h3
            exact ⟨rfl, ConP.left (by rw [HXv.out]; exact PK.bnd_bad h3) h3 (G_2.out.trans g3)⟩
        · have Y : Hid (X = (P, 0, 132)) := Lib.hid (by have := HX2.out; rw [if_pos hv] at this; exact this)
          have hv2 : (v2 == 5) = false := by rw [beq_eq_false_iff_ne]; exact hv
          clear HX2
          go_wp2_with fail
          refine (CL.out _ _).mono ?_
          rintro e w' ⟨rfl, rfl⟩
          exact ⟨rfl, ConP.left Y.out (by decide) G_2.out⟩
      · obtain ⟨rfl, g2⟩ := hR.2 h2
        exact ⟨rfl, ConP.left (by rw [HXm.out]; exact PK.bnd_bad h2) h2 (G_1.out.trans (G2.of_gr g2))⟩
    · have Y : Hid (X = (P, 0, 129)) := Lib.hid (by have := HX1.out; rw [if_pos hm] at this; exact this)
      have hv2 : (v1.toList == [77, 81, 84, 84]) = false := by
        rw [beq_eq_false_iff_ne]
        intro e
        exact hm (toList_same (e.trans (by rw [ByteArray.toList_eq])))
      clear HX1
      go_wp2_with fail
      refine (CL.out _ _).mono ?_
      rintro e w' ⟨rfl, rfl⟩
      exact ⟨rfl, ConP.left Y.out (by decide) G_1.out⟩
  · obtain ⟨rfl, g1⟩ := hR.2 h1
    exact ⟨rfl, ConP.left (by rw [HX0.out]; exact PK.bnd_bad h1) h1 (G0.out.trans (G2.of_gr g1))⟩
end Go.Proofs.YtemfcaaoobjgkaaGreatDoor
namespace Go.Proofs.YtemfcaaoobjgkaaGreatDoor
open Go.RowKit
attribute [local go_sem ↓] Go.wp_at_zero Go.wp_at_succ

namespace PK
def rdEndP (s : ByteArray) (a k : Int) (P : Pk) : Pk × Int × Int := ({ P with code := (rdEnd s a k).1.1, props := (rdEnd s a k).1.2 }, (rdEnd s a k).2.1, (rdEnd s a k).2.2)
/-- What follows the length of a packet of kind k. -/
def partsK (k : Int) (s : ByteArray) (a : Int) (P : Pk) : Pk × Int × Int :=
  if k = 1 then rdConn s a P
  else if k = 2 then bnd P (rdSes s a) (fun v a => bnd P (rdC s a) (fun c a => bnd P (rdPr s a k) (fun l a => ({ P with session := v, code := c, props := l }, a, 0))))
  else if k = 3 then ({ P with topic := (rdPub s a k P.qos P.id).1.1, id := (rdPub s a k P.qos P.id).1.2.1, props := (rdPub s a k P.qos P.id).1.2.2.1, pay := (rdPub s a k P.qos P.id).1.2.2.2 }, (rdPub s a k P.qos P.id).2.1, (rdPub s a k P.qos P.id).2.2)
  else if k = 8 then bnd P (rdHd s a k) (fun h a => bnd P (lst (rdSub s) s.size 66 a []) (fun l a => ({ P with id := h.1, props := h.2, subs := l }, a, 0)))
  else if k = 10 then bnd P (rdHd s a k) (fun h a => bnd P (lst (rdT s) s.size 66 a []) (fun l a => ({ P with id := h.1, props := h.2, filters := l }, a, 0)))
  else if k = 9 ∨ k = 11 then bnd P (rdHd s a k) (fun h a => bnd P (lst (rdC s) s.size 66 a []) (fun l a => ({ P with id := h.1, props := h.2, codes := l }, a, 0)))
  else if k = 4 ∨ k = 5 ∨ k = 6 ∨ k = 7 then bnd P (rdId s a) (fun i a => rdEndP s a k { P with id := i })
  else if k = 14 ∨ k = 15 then rdEndP s a k P
  else (P, a, 0)
end PK
namespace PK
def Same3 (P Q : Pk) : Prop := Q.codes = P.codes ∧ Q.subs = P.subs ∧ Q.filters = P.filters
theorem bnd_keeps {α : Type} {P P0 : Pk} {x : α × Int × Int} {f : α → Int → Pk × Int × Int} (h0 : Same3 P0 P) (h : ∀ v a, Same3 P0 (f v a).1) : Same3 P0 (bnd P x f).1 := by
  unfold bnd; split
  · exact h0
  · exact h _ _
theorem rdPass_keeps {P0 : Pk} (s : ByteArray) (a : Int) (P : Pk) (h : Same3 P0 P) : Same3 P0 (rdPass s a P).1 := by
  unfold rdPass; split
  · exact bnd_keeps h (fun _ _ => h)
  · exact h
theorem rdUser_keeps {P0 : Pk} (s : ByteArray) (a : Int) (P : Pk) (h : Same3 P0 P) : Same3 P0 (rdUser s a P).1 := by
  unfold rdUser; split
  · exact bnd_keeps h (fun _ _ => rdPass_keeps _ _ _ h)
  · exact rdPass_keeps _ _ _ h
theorem rdWill_keeps {P0 : Pk} (s : ByteArray) (a : Int) (P : Pk) (h : Same3 P0 P) : Same3 P0 (rdWill s a P).1 := by
  unfold rdWill; split
  · exact bnd_keeps h (fun _ _ => bnd_keeps h (fun _ _ => bnd_keeps h (fun _ _ => rdUser_keeps _ _ _ h)))
  · exact rdUser_keeps _ _ _ h
theorem rdConn_keeps (s : ByteArray) (a : Int) (P : Pk) : Same3 P (rdConn s a P).1 := by
  have h : Same3 P P := ⟨rfl, rfl, rfl⟩
  have h2 : ∀ n, Same3 P (cflPk P n) := fun _ => ⟨rfl, rfl, rfl⟩
  unfold rdConn
  refine bnd_keeps h (fun _ _ => ?_)
  split
  · exact h
  · refine bnd_keeps h (fun _ _ => ?_)
    split
    · exact h
    · refine bnd_keeps h (fun _ _ => ?_)
      unfold rdConn1
      exact bnd_keeps (h2 _) (fun _ _ => bnd_keeps (h2 _) (fun _ _ => bnd_keeps (h2 _) (fun _ _ => rdWill_keeps _ _ _ ⟨rfl, rfl, rfl⟩)))
end PK
/-- A packet as begin lays it: nothing but what its first byte tells. -/
structure Bare (P : Pk) : Prop where
  code : P.code = 0
  codes : P.codes = []
  props : P.props = []
  wprops : P.wprops = []
  subs : P.subs = []
  filters : P.filters = []
/-- The five rows of a packet that was read. -/
structure Own5 (B : Nat) (P : Pk) (vc vp vw vs vf : Value) (w : World) : Prop where
  codes : w.ownsRow B 30 1 vc P.codes.length (flatC P.codes)
  props : w.ownsRow B 116 4 vp P.props.length (flatP P.props)
  wprops : w.ownsRow B 116 4 vw P.wprops.length (flatP P.wprops)
  subs : w.ownsRow B 61 5 vs P.subs.length (flatB P.subs)
  filters : w.ownsRow B 9 1 vf P.filters.length (flatT P.filters)
/-- What the reader's parts answers. -/
def PtP (r p : Nat) (s : ByteArray) (w : World) (X : Pk × Int × Int) (e : Ending) (w' : World) : Prop :=
  (X.2.2 = 0 → ∃ vc vp vw vs vf, e = .returned (.tuple #[]) ∧ Own5 w.heap.size X.1 vc vp vw vs vf w' ∧ RdAt r s X.2.1 w' ∧ PbAt p X.1 vc vp vw vs vf w' ∧ G2 r p w w') ∧ (X.2.2 ≠ 0 → e = leftBy X.2.2 ∧ G2 r p w w')
theorem PtP.left {r p : Nat} {s : ByteArray} {w w' : World} {X : Pk × Int × Int} {c : Int} (hX : X.2.2 = c) (hc : c ≠ 0) (hg : G2 r p w w') : PtP r p s w X (leftBy c) w' := by
  subst hX; exact ⟨fun h => absurd h hc, fun _ => ⟨rfl, hg⟩⟩

set_option maxRecDepth 100000 in
set_option maxHeartbeats 2000000 in
theorem rparts_1 (r p : Nat) (s : ByteArray) (a : Int) (P : Pk) (w : World) (hk : P.kind = 1) (hB : Bare P) (h : RdAt r s a w) (hp : PbAt p P (.slice none 0 0) (.slice none 0 0) (.slice none 0 0) (.slice none 0 0) (.slice none 0 0) w) (hs : s.size ≤ 140737488351232) (hT : ∀ W, G2 r p w W → Tabs W) (hrp : r ≠ p) :
    Calls Tryz.prog 65 #[.pointer (some ⟨r, 0, none⟩), .pointer (some ⟨p, 0, none⟩)] w (PtP r p s w (PK.partsK P.kind s a P)) := by
  have z0 : w.cell? ⟨p, 0, none⟩ = some (.int .i64 1) := by rw [cell_heap hp]; exact congrArg (fun x => some (Value.int .i64 x)) hk
  have HB := Lib.hid hB
  have HP := Lib.hid hp
  have HR := Lib.hid h
  have C : Hid (Calls Tryz.prog 86 #[.pointer (some ⟨r, 0, none⟩), .pointer (some ⟨p, 0, none⟩)] w (ConP r p s (.slice none 0 0) (.slice none 0 0) (.slice none 0 0) w (PK.rdConn s a P))) := rconn_any r p s a P _ _ _ w h hp hB.wprops hs hT hrp
  obtain ⟨X, hX⟩ : ∃ X, X = PK.partsK P.kind s a P := ⟨_, rfl⟩
  rw [← hX]
  rw [hk] at hX
  have e0 : PK.partsK 1 s a P = PK.rdConn s a P := rfl
  have KC := Lib.hid (PK.rdConn_keeps s a P)
  rw [e0] at hX
  rw [← hX] at C KC
  have HX := Lib.hid hX
  clear hX h hp hT hB hk
  go_enter Tryz.func65, Tryz.ntmps65
  go_wp2_with fail
  refine C.out.mono ?_
  rintro e w1 hR
  by_cases hc : X.2.2 = 0
  · obtain ⟨vp, vw, rfl, o1, o2, r1, p1, g1⟩ := hR.1 hc
    have O1 := Lib.hid o1
    have O2 := Lib.hid o2
    have R1 := Lib.hid r1
    have P1 := Lib.hid p1
    have G1 := Lib.hid g1
    have HC := Lib.hid hc
    clear hR o1 o2 r1 p1 g1 hc
    go_wp2
    go_end0
    obtain ⟨k1, k2, k3⟩ := KC.out
    exact ⟨fun _ => ⟨_, _, _, _, _, rfl, ⟨by rw [k1, HB.out.codes]; exact own_nil _ _ _ _, O1.out, O2.out, by rw [k2, HB.out.subs]; exact own_nil _ _ _ _, by rw [k3, HB.out.filters]; exact own_nil _ _ _ _⟩, R1.out, P1.out, G1.out⟩, fun h => absurd HC.out h⟩
  · obtain ⟨rfl, g1⟩ := hR.2 hc
    exact ⟨rfl, PtP.left rfl hc g1⟩

set_option maxRecDepth 100000 in
set_option maxHeartbeats 2000000 in
theorem rparts_3 (r p : Nat) (s : ByteArray) (a : Int) (P : Pk) (w : World) (hk : P.kind = 3) (hB : Bare P) (h : RdAt r s a w) (hp : PbAt p P (.slice none 0 0) (.slice none 0 0) (.slice none 0 0) (.slice none 0 0) (.slice none 0 0) w) (hs : s.size ≤ 140737488351232) (hT : ∀ W, G2 r p w W → Tabs W) (hrp : r ≠ p) :
    Calls Tryz.prog 65 #[.pointer (some ⟨r, 0, none⟩), .pointer (some ⟨p, 0, none⟩)] w (PtP r p s w (PK.partsK P.kind s a P)) := by
  have z0 : w.cell? ⟨p, 0, none⟩ = some (.int .i64 3) := by rw [cell_heap hp]; exact congrArg (fun x => some (Value.int .i64 x)) hk
  have HB := Lib.hid hB
  have HP := Lib.hid hp
  have HR := Lib.hid h
  have C : Hid (Calls Tryz.prog 90 #[.pointer (some ⟨r, 0, none⟩), .pointer (some ⟨p, 0, none⟩)] w (PubP r p s P (.slice none 0 0) (.slice none 0 0) (.slice none 0 0) (.slice none 0 0) w (PK.rdPub s a P.kind P.qos P.id))) := rpublish_any r p s a P _ _ _ _ _ w h hp hs hT hrp
  rw [hk] at C
  obtain ⟨X, hX⟩ : ∃ X, X = PK.partsK P.kind s a P := ⟨_, rfl⟩
  rw [← hX]
  rw [hk] at hX
  have e0 : PK.partsK 3 s a P = ({ P with topic := (PK.rdPub s a 3 P.qos P.id).1.1, id := (PK.rdPub s a 3 P.qos P.id).1.2.1, props := (PK.rdPub s a 3 P.qos P.id).1.2.2.1, pay := (PK.rdPub s a 3 P.qos P.id).1.2.2.2 }, (PK.rdPub s a 3 P.qos P.id).2.1, (PK.rdPub s a 3 P.qos P.id).2.2) := rfl
  rw [e0] at hX
  clear e0
  generalize PK.rdPub s a 3 P.qos P.id = Y at *
  have HX := Lib.hid hX
  clear hX h hp hT hB hk
  go_enter Tryz.func65, Tryz.ntmps65
  go_wp2_with fail
  refine C.out.mono ?_
  rintro e w1 hR
  by_cases hc : Y.2.2 = 0
  · obtain ⟨v, rfl, o1, r1, p1, g1⟩ := hR.1 hc
    have O1 := Lib.hid o1
    have R1 := Lib.hid r1
    have P1 := Lib.hid p1
    have G1 := Lib.hid g1
    have HC := Lib.hid hc
    clear hR o1 r1 p1 g1 hc
    go_wp2
    go_end0
    rw [HX.out]
    exact ⟨fun _ => ⟨_, _, _, _, _, rfl, ⟨by simp only; rw [HB.out.codes]; exact own_nil _ _ _ _, O1.out, by simp only; rw [HB.out.wprops]; exact own_nil _ _ _ _, by simp only; rw [HB.out.subs]; exact own_nil _ _ _ _, by simp only; rw [HB.out.filters]; exact own_nil _ _ _ _⟩, R1.out, P1.out, G1.out⟩, fun h => absurd HC.out h⟩
  · obtain ⟨rfl, g1⟩ := hR.2 hc
    exact ⟨rfl, PtP.left (by rw [HX.out]) hc g1⟩

set_option maxRecDepth 100000 in
set_option maxHeartbeats 2000000 in
theorem rparts_14 (r p : Nat) (s : ByteArray) (a : Int) (P : Pk) (w : World) (hk : P.kind = 14) (hB : Bare P) (h : RdAt r s a w) (hp : PbAt p P (.slice none 0 0) (.slice none 0 0) (.slice none 0 0) (.slice none 0 0) (.slice none 0 0) w) (hs : s.size ≤ 140737488351232) (hT : ∀ W, G2 r p w W → Tabs W) (hrp : r ≠ p) :
    Calls Tryz.prog 65 #[.pointer (some ⟨r, 0, none⟩), .pointer (some ⟨p, 0, none⟩)] w (PtP r p s w (PK.partsK P.kind s a P)) := by
  have z0 : w.cell? ⟨p, 0, none⟩ = some (.int .i64 14) := by rw [cell_heap hp]; exact congrArg (fun x => some (Value.int .i64 x)) hk
  have HB := Lib.hid hB
  have HP := Lib.hid hp
  have HR := Lib.hid h
  have C : Hid (Calls Tryz.prog 98 #[.pointer (some ⟨r, 0, none⟩), .pointer (some ⟨p, 0, none⟩)] w (EdP r p s P (.slice none 0 0) (.slice none 0 0) (.slice none 0 0) (.slice none 0 0) w (PK.rdEnd s a P.kind))) := rending_any r p s a P _ _ _ _ w h hp hB.code hB.props hs hT hrp
  rw [hk] at C
  obtain ⟨X, hX⟩ : ∃ X, X = PK.partsK P.kind s a P := ⟨_, rfl⟩
  rw [← hX]
  rw [hk] at hX
  have e0 : PK.partsK 14 s a P = ({ P with code := (PK.rdEnd s a 14).1.1, props := (PK.rdEnd s a 14).1.2 }, (PK.rdEnd s a 14).2.1, (PK.rdEnd s a 14).2.2) := rfl
  rw [e0] at hX
  clear e0
  generalize PK.rdEnd s a 14 = Y at *
  have HX := Lib.hid hX
  clear hX h hp hT hB hk
  go_enter Tryz.func65, Tryz.ntmps65
  go_wp2_with fail
  refine C.out.mono ?_
  rintro e w1 hR
  by_cases hc : Y.2.2 = 0
  · obtain ⟨v, rfl, o1, r1, p1, g1⟩ := hR.1 hc
    have O1 := Lib.hid o1
    have R1 := Lib.hid r1
    have P1 := Lib.hid p1
    have G1 := Lib.hid g1
    have HC := Lib.hid hc
    clear hR o1 r1 p1 g1 hc
    go_wp2
    go_end0
    rw [HX.out]
    exact ⟨fun _ => ⟨_, _, _, _, _, rfl, ⟨by simp only; rw [HB.out.codes]; exact own_nil _ _ _ _, O1.out, by simp only; rw [HB.out.wprops]; exact own_nil _ _ _ _, by simp only; rw [HB.out.subs]; exact own_nil _ _ _ _, by simp only; rw [HB.out.filters]; exact own_nil _ _ _ _⟩, R1.out, P1.out, G1.out⟩, fun h => absurd HC.out h⟩
  · obtain ⟨rfl, g1⟩ := hR.2 hc
    exact ⟨rfl, PtP.left (by rw [HX.out]) hc g1⟩

set_option maxRecDepth 100000 in
set_option maxHeartbeats 2000000 in
theorem rparts_15 (r p : Nat) (s : ByteArray) (a : Int) (P : Pk) (w : World) (hk : P.kind = 15) (hB : Bare P) (h : RdAt r s a w) (hp : PbAt p P (.slice none 0 0) (.slice none 0 0) (.slice none 0 0) (.slice none 0 0) (.slice none 0 0) w) (hs : s.size ≤ 140737488351232) (hT : ∀ W, G2 r p w W → Tabs W) (hrp : r ≠ p) :
    Calls Tryz.prog 65 #[.pointer (some ⟨r, 0, none⟩), .pointer (some ⟨p, 0, none⟩)] w (PtP r p s w (PK.partsK P.kind s a P)) := by
  have z0 : w.cell? ⟨p, 0, none⟩ = some (.int .i64 15) := by rw [cell_heap hp]; exact congrArg (fun x => some (Value.int .i64 x)) hk
  have HB := Lib.hid hB
  have HP := Lib.hid hp
  have HR := Lib.hid h
  have C : Hid (Calls Tryz.prog 98 #[.pointer (some ⟨r, 0, none⟩), .pointer (some ⟨p, 0, none⟩)] w (EdP r p s P (.slice none 0 0) (.slice none 0 0) (.slice none 0 0) (.slice none 0 0) w (PK.rdEnd s a P.kind))) := rending_any r p s a P _ _ _ _ w h hp hB.code hB.props hs hT hrp
  rw [hk] at C
  obtain ⟨X, hX⟩ : ∃ X, X = PK.partsK P.kind s a P := ⟨_, rfl⟩
  rw [← hX]
  rw [hk] at hX
  have e0 : PK.partsK 15 s a P = ({ P with code := (PK.rdEnd s a 15).1.1, props := (PK.rdEnd s a 15).1.2 }, (PK.rdEnd s a 15).2.1, (PK.rdEnd s a 15).2.2) := rfl
  rw [e0] at hX
  clear e0
  generalize PK.rdEnd s a 15 = Y at *
  have HX := Lib.hid hX
  clear hX h hp hT hB hk
  go_enter Tryz.func65, Tryz.ntmps65
  go_wp2_with fail
  refine C.out.mono ?_
  rintro e w1 hR
  by_cases hc : Y.2.2 = 0
  · obtain ⟨v, rfl, o1, r1, p1, g1⟩ := hR.1 hc
    have O1 := Lib.hid o1
    have R1 := Lib.hid r1
    have P1 := Lib.hid p1
    have G1 := Lib.hid g1
    have HC := Lib.hid hc
    clear hR o1 r1 p1 g1 hc
    go_wp2
    go_end0
    rw [HX.out]
    exact ⟨fun _ => ⟨_, _, _, _, _, rfl, ⟨by simp only; rw [HB.out.codes]; exact own_nil _ _ _ _, O1.out, by simp only; rw [HB.out.wprops]; exact own_nil _ _ _ _, by simp only; rw [HB.out.subs]; exact own_nil _ _ _ _, by simp only; rw [HB.out.filters]; exact own_nil _ _ _ _⟩, R1.out, P1.out, G1.out⟩, fun h => absurd HC.out h⟩
  · obtain ⟨rfl, g1⟩ := hR.2 hc
    exact ⟨rfl, PtP.left (by rw [HX.out]) hc g1⟩

set_option maxRecDepth 100000 in
set_option maxHeartbeats 2000000 in
theorem rparts_12 (r p : Nat) (s : ByteArray) (a : Int) (P : Pk) (w : World) (hk : P.kind = 12) (hB : Bare P) (h : RdAt r s a w) (hp : PbAt p P (.slice none 0 0) (.slice none 0 0) (.slice none 0 0) (.slice none 0 0) (.slice none 0 0) w) (_hs : s.size ≤ 140737488351232) (_hT : ∀ W, G2 r p w W → Tabs W) (_hrp : r ≠ p) :
    Calls Tryz.prog 65 #[.pointer (some ⟨r, 0, none⟩), .pointer (some ⟨p, 0, none⟩)] w (PtP r p s w (PK.partsK P.kind s a P)) := by
  have z0 : w.cell? ⟨p, 0, none⟩ = some (.int .i64 12) := by rw [cell_heap hp]; exact congrArg (fun x => some (Value.int .i64 x)) hk
  have HB := Lib.hid hB
  have HP := Lib.hid hp
  have HR := Lib.hid h
  obtain ⟨X, hX⟩ : ∃ X, X = PK.partsK P.kind s a P := ⟨_, rfl⟩
  rw [← hX]
  rw [hk] at hX
  have e0 : PK.partsK 12 s a P = (P, a, 0) := rfl
  rw [e0] at hX
  have HX := Lib.hid hX
  clear e0 hX h hp hB hk
  go_enter Tryz.func65, Tryz.ntmps65
  go_wp2
  go_end0
  rw [HX.out]
  exact ⟨fun _ => ⟨_, _, _, _, _, rfl, ⟨by simp only; rw [HB.out.codes]; exact own_nil _ _ _ _, by simp only; rw [HB.out.props]; exact own_nil _ _ _ _, by simp only; rw [HB.out.wprops]; exact own_nil _ _ _ _, by simp only; rw [HB.out.subs]; exact own_nil _ _ _ _, by simp only; rw [HB.out.filters]; exact own_nil _ _ _ _⟩, HR.out, HP.out, G2.refl r p w⟩, fun h => absurd rfl h⟩

set_option maxRecDepth 100000 in
set_option maxHeartbeats 2000000 in
theorem rparts_13 (r p : Nat) (s : ByteArray) (a : Int) (P : Pk) (w : World) (hk : P.kind = 13) (hB : Bare P) (h : RdAt r s a w) (hp : PbAt p P (.slice none 0 0) (.slice none 0 0) (.slice none 0 0) (.slice none 0 0) (.slice none 0 0) w) (_hs : s.size ≤ 140737488351232) (_hT : ∀ W, G2 r p w W → Tabs W) (_hrp : r ≠ p) :
    Calls Tryz.prog 65 #[.pointer (some ⟨r, 0, none⟩), .pointer (some ⟨p, 0, none⟩)] w (PtP r p s w (PK.partsK P.kind s a P)) := by
  have z0 : w.cell? ⟨p, 0, none⟩ = some (.int .i64 13) := by rw [cell_heap hp]; exact congrArg (fun x => some (Value.int .i64 x)) hk
  have HB := Lib.hid hB
  have HP := Lib.hid hp
  have HR := Lib.hid h
  obtain ⟨X, hX⟩ : ∃ X, X = PK.partsK P.kind s a P := ⟨_, rfl⟩
  rw [← hX]
  rw [hk] at hX
  have e0 : PK.partsK 13 s a P = (P, a, 0) := rfl
  rw [e0] at hX
  have HX := Lib.hid hX
  clear e0 hX h hp hB hk
  go_enter Tryz.func65, Tryz.ntmps65
  go_wp2
  go_end0
  rw [HX.out]
  exact ⟨fun _ => ⟨_, _, _, _, _, rfl, ⟨by simp only; rw [HB.out.codes]; exact own_nil _ _ _ _, by simp only; rw [HB.out.props]; exact own_nil _ _ _ _, by simp only; rw [HB.out.wprops]; exact own_nil _ _ _ _, by simp only; rw [HB.out.subs]; exact own_nil _ _ _ _, by simp only; rw [HB.out.filters]; exact own_nil _ _ _ _⟩, HR.out, HP.out, G2.refl r p w⟩, fun h => absurd rfl h⟩
end Go.Proofs.YtemfcaaoobjgkaaGreatDoor
namespace Go.Proofs.YtemfcaaoobjgkaaGreatDoor
open Go.RowKit
attribute [local go_sem ↓] Go.wp_at_zero Go.wp_at_succ

set_option maxRecDepth 100000 in
set_option maxHeartbeats 2000000 in
theorem rparts_4 (r p : Nat) (s : ByteArray) (a : Int) (P : Pk) (w : World) (hk : P.kind = 4) (hB : Bare P) (h : RdAt r s a w) (hp : PbAt p P (.slice none 0 0) (.slice none 0 0) (.slice none 0 0) (.slice none 0 0) (.slice none 0 0) w) (hs : s.size ≤ 140737488351232) (hT : ∀ W, G2 r p w W → Tabs W) (hrp : r ≠ p) :
    Calls Tryz.prog 65 #[.pointer (some ⟨r, 0, none⟩), .pointer (some ⟨p, 0, none⟩)] w (PtP r p s w (PK.partsK P.kind s a P)) := by
  have z0 : w.cell? ⟨p, 0, none⟩ = some (.int .i64 4) := by rw [cell_heap hp]; exact congrArg (fun x => some (Value.int .i64 x)) hk
  have HB := Lib.hid hB
  have HP := Lib.hid hp
  have C1 := Lib.hid (rid_any r s a w h hs)
  obtain ⟨X, hX⟩ : ∃ X, X = PK.partsK P.kind s a P := ⟨_, rfl⟩
  rw [← hX]
  rw [hk] at hX
  have e0 : PK.partsK 4 s a P = PK.bnd P (PK.rdId s a) (fun i a => PK.rdEndP s a 4 { P with id := i }) := rfl
  rw [e0] at hX
  have HX := Lib.hid hX
  have HT := Lib.hid hT
  have HK := Lib.hid hk
  have hpr : p ≠ r := fun e => hrp e.symm
  clear e0 hX h hp hT hB hk
  go_enter Tryz.func65, Tryz.ntmps65
  generalize PK.rdId s a = Y at *
  obtain ⟨n, a1, c1⟩ := Y
  simp only at C1 HX
  go_wp2_with fail
  refine C1.out.mono ?_
  rintro e w1 hR
  by_cases h1 : c1 = 0
  · obtain ⟨rfl, r1, g1⟩ := hR.1 h1
    have X1 := HX.out
    rw [PK.bnd_ok h1] at X1
    have p1 := HP.out.gr g1 hpr
    have z4 : w1.cell? ⟨p, 4, none⟩ = some (.int .i64 P.id) := by rw [cell_heap p1]; rfl
    have f4 : w1.frozen? ⟨p, 4, none⟩ = false := frozen_heap p1
    have P2 : PbAt p { P with id := n } (.slice none 0 0) (.slice none 0 0) (.slice none 0 0) (.slice none 0 0) (.slice none 0 0) (w1.setCell ⟨p, 4, none⟩ (.int .i64 n)) := set_block p1 rfl
    have R2 : RdAt r s a1 (w1.setCell ⟨p, 4, none⟩ (.int .i64 n)) := r1.setOther hrp _ _
    have G1 : G2 r p w (w1.setCell ⟨p, 4, none⟩ (.int .i64 n)) := (G2.of_gr g1).setCell 4 _
    have C2 : Hid (Calls Tryz.prog 98 #[.pointer (some ⟨r, 0, none⟩), .pointer (some ⟨p, 0, none⟩)] (w1.setCell ⟨p, 4, none⟩ (.int .i64 n)) (EdP r p s { P with id := n } (.slice none 0 0) (.slice none 0 0) (.slice none 0 0) (.slice none 0 0) (w1.setCell ⟨p, 4, none⟩ (.int .i64 n)) (PK.rdEnd s a1 P.kind))) := rending_any r p s a1 { P with id := n } _ _ _ _ _ R2 P2 HB.out.code HB.out.props hs (fun W hW => HT.out W (G1.trans hW)) hrp
    have e1 : PK.rdEnd s a1 P.kind = PK.rdEnd s a1 4 := by rw [HK.out]
    rw [e1] at C2
    unfold PK.rdEndP at X1
    have HX1 := Lib.hid X1
    have HG1 := Lib.hid G1
    clear hR r1 g1 p1 P2 R2 G1 C1 HX X1 h1 HP HT HK e1
    generalize PK.rdEnd s a1 4 = Y at *
    go_wp2_with fail
    refine C2.out.mono ?_
    rintro e w2 hR
    by_cases h2 : Y.2.2 = 0
    · obtain ⟨v, rfl, o2, r2, p2, g2⟩ := hR.1 h2
      have O2 := Lib.hid (own_base' o2 HG1.out.size)
      have HR2 := Lib.hid r2
      have HP2 := Lib.hid p2
      have HG2 := Lib.hid (HG1.out.trans g2)
      have H2 := Lib.hid h2
      clear hR o2 r2 p2 g2 h2 C2
      go_wp2
      go_end0
      rw [HX1.out]
      exact ⟨fun _ => ⟨_, _, _, _, _, rfl, ⟨by simp only; rw [HB.out.codes]; exact own_nil _ _ _ _, O2.out, by simp only; rw [HB.out.wprops]; exact own_nil _ _ _ _, by simp only; rw [HB.out.subs]; exact own_nil _ _ _ _, by simp only; rw [HB.out.filters]; exact own_nil _ _ _ _⟩, HR2.out, HP2.out, HG2.out⟩, fun h => absurd H2.out h⟩
    · obtain ⟨rfl, g2⟩ := hR.2 h2
      exact ⟨rfl, PtP.left (by rw [HX1.out]) h2 (HG1.out.trans g2)⟩
  · obtain ⟨rfl, g1⟩ := hR.2 h1
    exact ⟨rfl, PtP.left (by rw [HX.out, PK.bnd_bad h1]) h1 (G2.of_gr g1)⟩

set_option maxRecDepth 100000 in
set_option maxHeartbeats 2000000 in
theorem rparts_5 (r p : Nat) (s : ByteArray) (a : Int) (P : Pk) (w : World) (hk : P.kind = 5) (hB : Bare P) (h : RdAt r s a w) (hp : PbAt p P (.slice none 0 0) (.slice none 0 0) (.slice none 0 0) (.slice none 0 0) (.slice none 0 0) w) (hs : s.size ≤ 140737488351232) (hT : ∀ W, G2 r p w W → Tabs W) (hrp : r ≠ p) :
    Calls Tryz.prog 65 #[.pointer (some ⟨r, 0, none⟩), .pointer (some ⟨p, 0, none⟩)] w (PtP r p s w (PK.partsK P.kind s a P)) := by
  have z0 : w.cell? ⟨p, 0, none⟩ = some (.int .i64 5) := by rw [cell_heap hp]; exact congrArg (fun x => some (Value.int .i64 x)) hk
  have HB := Lib.hid hB
  have HP := Lib.hid hp
  have C1 := Lib.hid (rid_any r s a w h hs)
  obtain ⟨X, hX⟩ : ∃ X, X = PK.partsK P.kind s a P := ⟨_, rfl⟩
  rw [← hX]
  rw [hk] at hX
  have e0 : PK.partsK 5 s a P = PK.bnd P (PK.rdId s a) (fun i a => PK.rdEndP s a 5 { P with id := i }) := rfl
  rw [e0] at hX
  have HX := Lib.hid hX
  have HT := Lib.hid hT
  have HK := Lib.hid hk
  have hpr : p ≠ r := fun e => hrp e.symm
  clear e0 hX h hp hT hB hk
  go_enter Tryz.func65, Tryz.ntmps65
  generalize PK.rdId s a = Y at *
  obtain ⟨n, a1, c1⟩ := Y
  simp only at C1 HX
  go_wp2_with fail
  refine C1.out.mono ?_
  rintro e w1 hR
  by_cases h1 : c1 = 0
  · obtain ⟨rfl, r1, g1⟩ := hR.1 h1
    have X1 := HX.out
    rw [PK.bnd_ok h1] at X1
    have p1 := HP.out.gr g1 hpr
    have z4 : w1.cell? ⟨p, 4, none⟩ = some (.int .i64 P.id) := by rw [cell_heap p1]; rfl
    have f4 : w1.frozen? ⟨p, 4, none⟩ = false := frozen_heap p1
    have P2 : PbAt p { P with id := n } (.slice none 0 0) (.slice none 0 0) (.slice none 0 0) (.slice none 0 0) (.slice none 0 0) (w1.setCell ⟨p, 4, none⟩ (.int .i64 n)) := set_block p1 rfl
    have R2 : RdAt r s a1 (w1.setCell ⟨p, 4, none⟩ (.int .i64 n)) := r1.setOther hrp _ _
    have G1 : G2 r p w (w1.setCell ⟨p, 4, none⟩ (.int .i64 n)) := (G2.of_gr g1).setCell 4 _
    have C2 : Hid (Calls Tryz.prog 98 #[.pointer (some ⟨r, 0, none⟩), .pointer (some ⟨p, 0, none⟩)] (w1.setCell ⟨p, 4, none⟩ (.int .i64 n)) (EdP r p s { P with id := n } (.slice none 0 0) (.slice none 0 0) (.slice none 0 0) (.slice none 0 0) (w1.setCell ⟨p, 4, none⟩ (.int .i64 n)) (PK.rdEnd s a1 P.kind))) := rending_any r p s a1 { P with id := n } _ _ _ _ _ R2 P2 HB.out.code HB.out.props hs (fun W hW => HT.out W (G1.trans hW)) hrp
    have e1 : PK.rdEnd s a1 P.kind = PK.rdEnd s a1 5 := by rw [HK.out]
    rw [e1] at C2
    unfold PK.rdEndP at X1
    have HX1 := Lib.hid X1
    have HG1 := Lib.hid G1
    clear hR r1 g1 p1 P2 R2 G1 C1 HX X1 h1 HP HT HK e1
    generalize PK.rdEnd s a1 5 = Y at *
    go_wp2_with fail
    refine C2.out.mono ?_
    rintro e w2 hR
    by_cases h2 : Y.2.2 = 0
    · obtain ⟨v, rfl, o2, r2, p2, g2⟩ := hR.1 h2
      have O2 := Lib.hid (own_base' o2 HG1.out.size)
      have HR2 := Lib.hid r2
      have HP2 := Lib.hid p2
      have HG2 := Lib.hid (HG1.out.trans g2)
      have H2 := Lib.hid h2
      clear hR o2 r2 p2 g2 h2 C2
      go_wp2
      go_end0
      rw [HX1.out]
      exact ⟨fun _ => ⟨_, _, _, _, _, rfl, ⟨by simp only; rw [HB.out.codes]; exact own_nil _ _ _ _, O2.out, by simp only; rw [HB.out.wprops]; exact own_nil _ _ _ _, by simp only; rw [HB.out.subs]; exact own_nil _ _ _ _, by simp only; rw [HB.out.filters]; exact own_nil _ _ _ _⟩, HR2.out, HP2.out, HG2.out⟩, fun h => absurd H2.out h⟩
    · obtain ⟨rfl, g2⟩ := hR.2 h2
      exact ⟨rfl, PtP.left (by rw [HX1.out]) h2 (HG1.out.trans g2)⟩
  · obtain ⟨rfl, g1⟩ := hR.2 h1
    exact ⟨rfl, PtP.left (by rw [HX.out, PK.bnd_bad h1]) h1 (G2.of_gr g1)⟩

set_option maxRecDepth 100000 in
set_option maxHeartbeats 2000000 in
theorem rparts_6 (r p : Nat) (s : ByteArray) (a : Int) (P : Pk) (w : World) (hk : P.kind = 6) (hB : Bare P) (h : RdAt r s a w) (hp : PbAt p P (.slice none 0 0) (.slice none 0 0) (.slice none 0 0) (.slice none 0 0) (.slice none 0 0) w) (hs : s.size ≤ 140737488351232) (hT : ∀ W, G2 r p w W → Tabs W) (hrp : r ≠ p) :
    Calls Tryz.prog 65 #[.pointer (some ⟨r, 0, none⟩), .pointer (some ⟨p, 0, none⟩)] w (PtP r p s w (PK.partsK P.kind s a P)) := by
  have z0 : w.cell? ⟨p, 0, none⟩ = some (.int .i64 6) := by rw [cell_heap hp]; exact congrArg (fun x => some (Value.int .i64 x)) hk
  have HB := Lib.hid hB
  have HP := Lib.hid hp
  have C1 := Lib.hid (rid_any r s a w h hs)
  obtain ⟨X, hX⟩ : ∃ X, X = PK.partsK P.kind s a P := ⟨_, rfl⟩
  rw [← hX]
  rw [hk] at hX
  have e0 : PK.partsK 6 s a P = PK.bnd P (PK.rdId s a) (fun i a => PK.rdEndP s a 6 { P with id := i }) := rfl
  rw [e0] at hX
  have HX := Lib.hid hX
  have HT := Lib.hid hT
  have HK := Lib.hid hk
  have hpr : p ≠ r := fun e => hrp e.symm
  clear e0 hX h hp hT hB hk
  go_enter Tryz.func65, Tryz.ntmps65
  generalize PK.rdId s a = Y at *
  obtain ⟨n, a1, c1⟩ := Y
  simp only at C1 HX
  go_wp2_with fail
  refine C1.out.mono ?_
  rintro e w1 hR
  by_cases h1 : c1 = 0
  · obtain ⟨rfl, r1, g1⟩ := hR.1 h1
    have X1 := HX.out
    rw [PK.bnd_ok h1] at X1
    have p1 := HP.out.gr g1 hpr
    have z4 : w1.cell? ⟨p, 4, none⟩ = some (.int .i64 P.id) := by rw [cell_heap p1]; rfl
    have f4 : w1.frozen? ⟨p, 4, none⟩ = false := frozen_heap p1
    have P2 : PbAt p { P with id := n } (.slice none 0 0) (.slice none 0 0) (.slice none 0 0) (.slice none 0 0) (.slice none 0 0) (w1.setCell ⟨p, 4, none⟩ (.int .i64 n)) := set_block p1 rfl
    have R2 : RdAt r s a1 (w1.setCell ⟨p, 4, none⟩ (.int .i64 n)) := r1.setOther hrp _ _
    have G1 : G2 r p w (w1.setCell ⟨p, 4, none⟩ (.int .i64 n)) := (G2.of_gr g1).setCell 4 _
    have C2 : Hid (Calls Tryz.prog 98 #[.pointer (some ⟨r, 0, none⟩), .pointer (some ⟨p, 0, none⟩)] (w1.setCell ⟨p, 4, none⟩ (.int .i64 n)) (EdP r p s { P with id := n } (.slice none 0 0) (.slice none 0 0) (.slice none 0 0) (.slice none 0 0) (w1.setCell ⟨p, 4, none⟩ (.int .i64 n)) (PK.rdEnd s a1 P.kind))) := rending_any r p s a1 { P with id := n } _ _ _ _ _ R2 P2 HB.out.code HB.out.props hs (fun W hW => HT.out W (G1.trans hW)) hrp
    have e1 : PK.rdEnd s a1 P.kind = PK.rdEnd s a1 6 := by rw [HK.out]
    rw [e1] at C2
    unfold PK.rdEndP at X1
    have HX1 := Lib.hid X1
    have HG1 := Lib.hid G1
    clear hR r1 g1 p1 P2 R2 G1 C1 HX X1 h1 HP HT HK e1
    generalize PK.rdEnd s a1 6 = Y at *
    go_wp2_with fail
    refine C2.out.mono ?_
    rintro e w2 hR
    by_cases h2 : Y.2.2 = 0
    · obtain ⟨v, rfl, o2, r2, p2, g2⟩ := hR.1 h2
      have O2 := Lib.hid (own_base' o2 HG1.out.size)
      have HR2 := Lib.hid r2
      have HP2 := Lib.hid p2
      have HG2 := Lib.hid (HG1.out.trans g2)
      have H2 := Lib.hid h2
      clear hR o2 r2 p2 g2 h2 C2
      go_wp2
      go_end0
      rw [HX1.out]
      exact ⟨fun _ => ⟨_, _, _, _, _, rfl, ⟨by simp only; rw [HB.out.codes]; exact own_nil _ _ _ _, O2.out, by simp only; rw [HB.out.wprops]; exact own_nil _ _ _ _, by simp only; rw [HB.out.subs]; exact own_nil _ _ _ _, by simp only; rw [HB.out.filters]; exact own_nil _ _ _ _⟩, HR2.out, HP2.out, HG2.out⟩, fun h => absurd H2.out h⟩
    · obtain ⟨rfl, g2⟩ := hR.2 h2
      exact ⟨rfl, PtP.left (by rw [HX1.out]) h2 (HG1.out.trans g2)⟩
  · obtain ⟨rfl, g1⟩ := hR.2 h1
    exact ⟨rfl, PtP.left (by rw [HX.out, PK.bnd_bad h1]) h1 (G2.of_gr g1)⟩

set_option maxRecDepth 100000 in
set_option maxHeartbeats 2000000 in
theorem rparts_7 (r p : Nat) (s : ByteArray) (a : Int) (P : Pk) (w : World) (hk : P.kind = 7) (hB : Bare P) (h : RdAt r s a w) (hp : PbAt p P (.slice none 0 0) (.slice none 0 0) (.slice none 0 0) (.slice none 0 0) (.slice none 0 0) w) (hs : s.size ≤ 140737488351232) (hT : ∀ W, G2 r p w W → Tabs W) (hrp : r ≠ p) :
    Calls Tryz.prog 65 #[.pointer (some ⟨r, 0, none⟩), .pointer (some ⟨p, 0, none⟩)] w (PtP r p s w (PK.partsK P.kind s a P)) := by
  have z0 : w.cell? ⟨p, 0, none⟩ = some (.int .i64 7) := by rw [cell_heap hp]; exact congrArg (fun x => some (Value.int .i64 x)) hk
  have HB := Lib.hid hB
  have HP := Lib.hid hp
  have C1 := Lib.hid (rid_any r s a w h hs)
  obtain ⟨X, hX⟩ : ∃ X, X = PK.partsK P.kind s a P := ⟨_, rfl⟩
  rw [← hX]
  rw [hk] at hX
  have e0 : PK.partsK 7 s a P = PK.bnd P (PK.rdId s a) (fun i a => PK.rdEndP s a 7 { P with id := i }) := rfl
  rw [e0] at hX
  have HX := Lib.hid hX
  have HT := Lib.hid hT
  have HK := Lib.hid hk
  have hpr : p ≠ r := fun e => hrp e.symm
  clear e0 hX h hp hT hB hk
  go_enter Tryz.func65, Tryz.ntmps65
  generalize PK.rdId s a = Y at *
  obtain ⟨n, a1, c1⟩ := Y
  simp only at C1 HX
  go_wp2_with fail
  refine C1.out.mono ?_
  rintro e w1 hR
  by_cases h1 : c1 = 0
  · obtain ⟨rfl, r1, g1⟩ := hR.1 h1
    have X1 := HX.out
    rw [PK.bnd_ok h1] at X1
    have p1 := HP.out.gr g1 hpr
    have z4 : w1.cell? ⟨p, 4, none⟩ = some (.int .i64 P.id) := by rw [cell_heap p1]; rfl
    have f4 : w1.frozen? ⟨p, 4, none⟩ = false := frozen_heap p1
    have P2 : PbAt p { P with id := n } (.slice none 0 0) (.slice none 0 0) (.slice none 0 0) (.slice none 0 0) (.slice none 0 0) (w1.setCell ⟨p, 4, none⟩ (.int .i64 n)) := set_block p1 rfl
    have R2 : RdAt r s a1 (w1.setCell ⟨p, 4, none⟩ (.int .i64 n)) := r1.setOther hrp _ _
    have G1 : G2 r p w (w1.setCell ⟨p, 4, none⟩ (.int .i64 n)) := (G2.of_gr g1).setCell 4 _
    have C2 : Hid (Calls Tryz.prog 98 #[.pointer (some ⟨r, 0, none⟩), .pointer (some ⟨p, 0, none⟩)] (w1.setCell ⟨p, 4, none⟩ (.int .i64 n)) (EdP r p s { P with id := n } (.slice none 0 0) (.slice none 0 0) (.slice none 0 0) (.slice none 0 0) (w1.setCell ⟨p, 4, none⟩ (.int .i64 n)) (PK.rdEnd s a1 P.kind))) := rending_any r p s a1 { P with id := n } _ _ _ _ _ R2 P2 HB.out.code HB.out.props hs (fun W hW => HT.out W (G1.trans hW)) hrp
    have e1 : PK.rdEnd s a1 P.kind = PK.rdEnd s a1 7 := by rw [HK.out]
    rw [e1] at C2
    unfold PK.rdEndP at X1
    have HX1 := Lib.hid X1
    have HG1 := Lib.hid G1
    clear hR r1 g1 p1 P2 R2 G1 C1 HX X1 h1 HP HT HK e1
    generalize PK.rdEnd s a1 7 = Y at *
    go_wp2_with fail
    refine C2.out.mono ?_
    rintro e w2 hR
    by_cases h2 : Y.2.2 = 0
    · obtain ⟨v, rfl, o2, r2, p2, g2⟩ := hR.1 h2
      have O2 := Lib.hid (own_base' o2 HG1.out.size)
      have HR2 := Lib.hid r2
      have HP2 := Lib.hid p2
      have HG2 := Lib.hid (HG1.out.trans g2)
      have H2 := Lib.hid h2
      clear hR o2 r2 p2 g2 h2 C2
      go_wp2
      go_end0
      rw [HX1.out]
      exact ⟨fun _ => ⟨_, _, _, _, _, rfl, ⟨by simp only; rw [HB.out.codes]; exact own_nil _ _ _ _, O2.out, by simp only; rw [HB.out.wprops]; exact own_nil _ _ _ _, by simp only; rw [HB.out.subs]; exact own_nil _ _ _ _, by simp only; rw [HB.out.filters]; exact own_nil _ _ _ _⟩, HR2.out, HP2.out, HG2.out⟩, fun h => absurd H2.out h⟩
    · obtain ⟨rfl, g2⟩ := hR.2 h2
      exact ⟨rfl, PtP.left (by rw [HX1.out]) h2 (HG1.out.trans g2)⟩
  · obtain ⟨rfl, g1⟩ := hR.2 h1
    exact ⟨rfl, PtP.left (by rw [HX.out, PK.bnd_bad h1]) h1 (G2.of_gr g1)⟩

set_option maxRecDepth 100000 in
set_option maxHeartbeats 2000000 in
theorem rparts_8 (r p : Nat) (s : ByteArray) (a : Int) (P : Pk) (w : World) (hk : P.kind = 8) (hB : Bare P) (h : RdAt r s a w) (hp : PbAt p P (.slice none 0 0) (.slice none 0 0) (.slice none 0 0) (.slice none 0 0) (.slice none 0 0) w) (hs : s.size ≤ 140737488351232) (hT : ∀ W, G2 r p w W → Tabs W) (hrp : r ≠ p) :
    Calls Tryz.prog 65 #[.pointer (some ⟨r, 0, none⟩), .pointer (some ⟨p, 0, none⟩)] w (PtP r p s w (PK.partsK P.kind s a P)) := by
  have z0 : w.cell? ⟨p, 0, none⟩ = some (.int .i64 8) := by rw [cell_heap hp]; exact congrArg (fun x => some (Value.int .i64 x)) hk
  have HB := Lib.hid hB
  have C1 : Hid (Calls Tryz.prog 91 #[.pointer (some ⟨r, 0, none⟩), .pointer (some ⟨p, 0, none⟩)] w (HdP r p s P (.slice none 0 0) (.slice none 0 0) (.slice none 0 0) (.slice none 0 0) w (PK.rdHd s a P.kind))) := rhead_any r p s a P _ _ _ _ _ w h hp hs hT hrp
  rw [hk] at C1
  obtain ⟨X, hX⟩ : ∃ X, X = PK.partsK P.kind s a P := ⟨_, rfl⟩
  rw [← hX]
  rw [hk] at hX
  have e0 : PK.partsK 8 s a P = PK.bnd P (PK.rdHd s a 8) (fun h a => PK.bnd P (PK.lst (PK.rdSub s) s.size 66 a []) (fun l a => ({ P with id := h.1, props := h.2, subs := l }, a, 0))) := rfl
  rw [e0] at hX
  have HX := Lib.hid hX
  have HT := Lib.hid hT
  have hlr := lt_heap h
  have hlp := lt_heap hp
  have hpr : p ≠ r := fun e => hrp e.symm
  have hmf : ∀ (fn : Fn) (first cap : Array Value) (w : World), (Instr.makeFunc fn first cap).run Tryz.prog w = .ok (.func fn first cap) w := fun _ _ _ _ => rfl
  clear e0 hX h hp hT hB hk
  go_enter Tryz.func65, Tryz.ntmps65
  generalize PK.rdHd s a 8 = Y at *
  obtain ⟨⟨n, q⟩, a1, c1⟩ := Y
  go_wp2_with fail
  refine C1.out.mono ?_
  rintro e w1 hR
  by_cases h1 : c1 = 0
  · obtain ⟨v, rfl, o1, r1, p1, g1⟩ := hR.1 h1
    have X1 := HX.out
    rw [PK.bnd_ok h1] at X1
    simp only at X1 o1 r1 p1
    have C2 : Hid (Calls Tryz.prog 92 #[.pointer (some ⟨r, 0, none⟩), .func (.func 93) #[.pointer (some ⟨r, 0, none⟩)] #[]] w1 (LsP 61 5 flatB r s w1 (PK.lst (PK.rdSub s) s.size 66 a1 []))) := rlists_any r s a1 w1 r1 hs (fun W hW => HT.out W (g1.trans (G2.of_gr hW)))
    generalize PK.lst (PK.rdSub s) s.size 66 a1 [] = Z at *
    obtain ⟨l, a2, c2⟩ := Z
    have HX1 := Lib.hid X1
    have HP1 := Lib.hid p1
    have HG1 := Lib.hid g1
    have HO1 := Lib.hid o1
    clear hR o1 r1 p1 g1 C1 HX X1 h1 HT
    go_wp2_with fail
    refine C2.out.mono ?_
    rintro e w2 hR
    by_cases h2 : c2 = 0
    · obtain ⟨v2, rfl, o2, r2, g2⟩ := hR.1 h2
      have p2 := HP1.out.gr g2 hpr
      have zc : w2.cell? ⟨p, 24, none⟩ = some (.slice none 0 0) := by rw [cell_heap p2]; rfl
      have fc : w2.frozen? ⟨p, 24, none⟩ = false := frozen_heap p2
      obtain ⟨A, cap, rfl⟩ := own_form o2
      simp only at o2 zc p2 r2
      have o3 : w2.ownsRow w.heap.size 61 5 (.slice A l.length cap) l.length (flatB l) := own_base' o2 HG1.out.size
      have L4 : Hid ((w2.setCell ⟨p, 24, none⟩ (.slice A l.length cap)).ownsRow w.heap.size 61 5 (.slice A l.length cap) l.length (flatB l)) := Lib.hid (own_set o3 (row_ne o3 hlp))
      have m2 := own_gr HO1.out g2 (row_ne HO1.out hlr)
      have O4 : Hid ((w2.setCell ⟨p, 24, none⟩ (.slice A l.length cap)).ownsRow w.heap.size 116 4 v q.length (flatP q)) := Lib.hid (own_set m2 (row_ne m2 hlp))
      have P4 : Hid (PbAt p { P with id := n, props := q, subs := l } (.slice none 0 0) v (.slice none 0 0) (.slice A l.length cap) (.slice none 0 0) (w2.setCell ⟨p, 24, none⟩ (.slice A l.length cap))) := Lib.hid (set_block p2 rfl)
      have R4 : Hid (RdAt r s a2 (w2.setCell ⟨p, 24, none⟩ (.slice A l.length cap))) := Lib.hid (r2.setOther hrp _ _)
      have G4 : Hid (G2 r p w (w2.setCell ⟨p, 24, none⟩ (.slice A l.length cap))) := Lib.hid ((HG1.out.trans (G2.of_gr g2)).setCell 24 _)
      have E : Hid (X = ({ P with id := n, props := q, subs := l }, a2, 0)) := Lib.hid (by rw [HX1.out, PK.bnd_ok h2])
      clear hR o2 r2 g2 p2 o3 m2 h2 C2 HX1 HP1 HG1 HO1
      go_wp2
      go_end0
      rw [E.out]
      exact ⟨fun _ => ⟨_, _, _, _, _, rfl, ⟨by simp only; rw [HB.out.codes]; exact own_nil _ _ _ _, O4.out, by simp only; rw [HB.out.wprops]; exact own_nil _ _ _ _, L4.out, by simp only; rw [HB.out.filters]; exact own_nil _ _ _ _⟩, R4.out, P4.out, G4.out⟩, fun h => absurd rfl h⟩
    · obtain ⟨rfl, g2⟩ := hR.2 h2
      exact ⟨rfl, PtP.left (by rw [HX1.out, PK.bnd_bad h2]) h2 (HG1.out.trans (G2.of_gr g2))⟩
  · obtain ⟨rfl, g1⟩ := hR.2 h1
    exact ⟨rfl, PtP.left (by rw [HX.out, PK.bnd_bad h1]) h1 g1⟩

set_option maxRecDepth 100000 in
set_option maxHeartbeats 2000000 in
theorem rparts_10 (r p : Nat) (s : ByteArray) (a : Int) (P : Pk) (w : World) (hk : P.kind = 10) (hB : Bare P) (h : RdAt r s a w) (hp : PbAt p P (.slice none 0 0) (.slice none 0 0) (.slice none 0 0) (.slice none 0 0) (.slice none 0 0) w) (hs : s.size ≤ 140737488351232) (hT : ∀ W, G2 r p w W → Tabs W) (hrp : r ≠ p) :
    Calls Tryz.prog 65 #[.pointer (some ⟨r, 0, none⟩), .pointer (some ⟨p, 0, none⟩)] w (PtP r p s w (PK.partsK P.kind s a P)) := by
  have z0 : w.cell? ⟨p, 0, none⟩ = some (.int .i64 10) := by rw [cell_heap hp]; exact congrArg (fun x => some (Value.int .i64 x)) hk
  have HB := Lib.hid hB
  have C1 : Hid (Calls Tryz.prog 91 #[.pointer (some ⟨r, 0, none⟩), .pointer (some ⟨p, 0, none⟩)] w (HdP r p s P (.slice none 0 0) (.slice none 0 0) (.slice none 0 0) (.slice none 0 0) w (PK.rdHd s a P.kind))) := rhead_any r p s a P _ _ _ _ _ w h hp hs hT hrp
  rw [hk] at C1
  obtain ⟨X, hX⟩ : ∃ X, X = PK.partsK P.kind s a P := ⟨_, rfl⟩
  rw [← hX]
  rw [hk] at hX
  have e0 : PK.partsK 10 s a P = PK.bnd P (PK.rdHd s a 10) (fun h a => PK.bnd P (PK.lst (PK.rdT s) s.size 66 a []) (fun l a => ({ P with id := h.1, props := h.2, filters := l }, a, 0))) := rfl
  rw [e0] at hX
  have HX := Lib.hid hX
  have HT := Lib.hid hT
  have hlr := lt_heap h
  have hlp := lt_heap hp
  have hpr : p ≠ r := fun e => hrp e.symm
  have hmf : ∀ (fn : Fn) (first cap : Array Value) (w : World), (Instr.makeFunc fn first cap).run Tryz.prog w = .ok (.func fn first cap) w := fun _ _ _ _ => rfl
  clear e0 hX h hp hT hB hk
  go_enter Tryz.func65, Tryz.ntmps65
  generalize PK.rdHd s a 10 = Y at *
  obtain ⟨⟨n, q⟩, a1, c1⟩ := Y
  go_wp2_with fail
  refine C1.out.mono ?_
  rintro e w1 hR
  by_cases h1 : c1 = 0
  · obtain ⟨v, rfl, o1, r1, p1, g1⟩ := hR.1 h1
    have X1 := HX.out
    rw [PK.bnd_ok h1] at X1
    simp only at X1 o1 r1 p1
    have C2 : Hid (Calls Tryz.prog 94 #[.pointer (some ⟨r, 0, none⟩), .func (.func 95) #[.pointer (some ⟨r, 0, none⟩)] #[]] w1 (LsP 9 1 flatT r s w1 (PK.lst (PK.rdT s) s.size 66 a1 []))) := rlistt_any r s a1 w1 r1 hs (fun W hW => HT.out W (g1.trans (G2.of_gr hW)))
    generalize PK.lst (PK.rdT s) s.size 66 a1 [] = Z at *
    obtain ⟨l, a2, c2⟩ := Z
    have HX1 := Lib.hid X1
    have HP1 := Lib.hid p1
    have HG1 := Lib.hid g1
    have HO1 := Lib.hid o1
    clear hR o1 r1 p1 g1 C1 HX X1 h1 HT
    go_wp2_with fail
    refine C2.out.mono ?_
    rintro e w2 hR
    by_cases h2 : c2 = 0
    · obtain ⟨v2, rfl, o2, r2, g2⟩ := hR.1 h2
      have p2 := HP1.out.gr g2 hpr
      have zc : w2.cell? ⟨p, 25, none⟩ = some (.slice none 0 0) := by rw [cell_heap p2]; rfl
      have fc : w2.frozen? ⟨p, 25, none⟩ = false := frozen_heap p2
      obtain ⟨A, cap, rfl⟩ := own_form o2
      simp only at o2 zc p2 r2
      have o3 : w2.ownsRow w.heap.size 9 1 (.slice A l.length cap) l.length (flatT l) := own_base' o2 HG1.out.size
      have L4 : Hid ((w2.setCell ⟨p, 25, none⟩ (.slice A l.length cap)).ownsRow w.heap.size 9 1 (.slice A l.length cap) l.length (flatT l)) := Lib.hid (own_set o3 (row_ne o3 hlp))
      have m2 := own_gr HO1.out g2 (row_ne HO1.out hlr)
      have O4 : Hid ((w2.setCell ⟨p, 25, none⟩ (.slice A l.length cap)).ownsRow w.heap.size 116 4 v q.length (flatP q)) := Lib.hid (own_set m2 (row_ne m2 hlp))
      have P4 : Hid (PbAt p { P with id := n, props := q, filters := l } (.slice none 0 0) v (.slice none 0 0) (.slice none 0 0) (.slice A l.length cap) (w2.setCell ⟨p, 25, none⟩ (.slice A l.length cap))) := Lib.hid (set_block p2 rfl)
      have R4 : Hid (RdAt r s a2 (w2.setCell ⟨p, 25, none⟩ (.slice A l.length cap))) := Lib.hid (r2.setOther hrp _ _)
      have G4 : Hid (G2 r p w (w2.setCell ⟨p, 25, none⟩ (.slice A l.length cap))) := Lib.hid ((HG1.out.trans (G2.of_gr g2)).setCell 25 _)
      have E : Hid (X = ({ P with id := n, props := q, filters := l }, a2, 0)) := Lib.hid (by rw [HX1.out, PK.bnd_ok h2])
      clear hR o2 r2 g2 p2 o3 m2 h2 C2 HX1 HP1 HG1 HO1
      go_wp2
      go_end0
      rw [E.out]
      exact ⟨fun _ => ⟨_, _, _, _, _, rfl, ⟨by simp only; rw [HB.out.codes]; exact own_nil _ _ _ _, O4.out, by simp only; rw [HB.out.wprops]; exact own_nil _ _ _ _, by simp only; rw [HB.out.subs]; exact own_nil _ _ _ _, L4.out⟩, R4.out, P4.out, G4.out⟩, fun h => absurd rfl h⟩
    · obtain ⟨rfl, g2⟩ := hR.2 h2
      exact ⟨rfl, PtP.left (by rw [HX1.out, PK.bnd_bad h2]) h2 (HG1.out.trans (G2.of_gr g2))⟩
  · obtain ⟨rfl, g1⟩ := hR.2 h1
    exact ⟨rfl, PtP.left (by rw [HX.out, PK.bnd_bad h1]) h1 g1⟩

set_option maxRecDepth 100000 in
set_option maxHeartbeats 2000000 in
theorem rparts_9 (r p : Nat) (s : ByteArray) (a : Int) (P : Pk) (w : World) (hk : P.kind = 9) (hB : Bare P) (h : RdAt r s a w) (hp : PbAt p P (.slice none 0 0) (.slice none 0 0) (.slice none 0 0) (.slice none 0 0) (.slice none 0 0) w) (hs : s.size ≤ 140737488351232) (hT : ∀ W, G2 r p w W → Tabs W) (hrp : r ≠ p) :
    Calls Tryz.prog 65 #[.pointer (some ⟨r, 0, none⟩), .pointer (some ⟨p, 0, none⟩)] w (PtP r p s w (PK.partsK P.kind s a P)) := by
  have z0 : w.cell? ⟨p, 0, none⟩ = some (.int .i64 9) := by rw [cell_heap hp]; exact congrArg (fun x => some (Value.int .i64 x)) hk
  have HB := Lib.hid hB
  have C1 : Hid (Calls Tryz.prog 91 #[.pointer (some ⟨r, 0, none⟩), .pointer (some ⟨p, 0, none⟩)] w (HdP r p s P (.slice none 0 0) (.slice none 0 0) (.slice none 0 0) (.slice none 0 0) w (PK.rdHd s a P.kind))) := rhead_any r p s a P _ _ _ _ _ w h hp hs hT hrp
  rw [hk] at C1
  obtain ⟨X, hX⟩ : ∃ X, X = PK.partsK P.kind s a P := ⟨_, rfl⟩
  rw [← hX]
  rw [hk] at hX
  have e0 : PK.partsK 9 s a P = PK.bnd P (PK.rdHd s a 9) (fun h a => PK.bnd P (PK.lst (PK.rdC s) s.size 66 a []) (fun l a => ({ P with id := h.1, props := h.2, codes := l }, a, 0))) := rfl
  rw [e0] at hX
  have HX := Lib.hid hX
  have hlr := lt_heap h
  have hlp := lt_heap hp
  have hpr : p ≠ r := fun e => hrp e.symm
  have hmf : ∀ (fn : Fn) (first cap : Array Value) (w : World), (Instr.makeFunc fn first cap).run Tryz.prog w = .ok (.func fn first cap) w := fun _ _ _ _ => rfl
  clear e0 hX h hp hT hB hk
  go_enter Tryz.func65, Tryz.ntmps65
  generalize PK.rdHd s a 9 = Y at *
  obtain ⟨⟨n, q⟩, a1, c1⟩ := Y
  go_wp2_with fail
  refine C1.out.mono ?_
  rintro e w1 hR
  by_cases h1 : c1 = 0
  · obtain ⟨v, rfl, o1, r1, p1, g1⟩ := hR.1 h1
    have X1 := HX.out
    rw [PK.bnd_ok h1] at X1
    simp only at X1 o1 r1 p1
    have C2 : Hid (Calls Tryz.prog 96 #[.pointer (some ⟨r, 0, none⟩), .func (.func 88) #[.pointer (some ⟨r, 0, none⟩)] #[]] w1 (LsP 30 1 flatC r s w1 (PK.lst (PK.rdC s) s.size 66 a1 []))) := rlistc_any r s a1 w1 r1 hs
    generalize PK.lst (PK.rdC s) s.size 66 a1 [] = Z at *
    obtain ⟨l, a2, c2⟩ := Z
    have HX1 := Lib.hid X1
    have HP1 := Lib.hid p1
    have HG1 := Lib.hid g1
    have HO1 := Lib.hid o1
    clear hR o1 r1 p1 g1 C1 HX X1 h1
    go_wp2_with fail
    refine C2.out.mono ?_
    rintro e w2 hR
    by_cases h2 : c2 = 0
    · obtain ⟨v2, rfl, o2, r2, g2⟩ := hR.1 h2
      have p2 := HP1.out.gr g2 hpr
      have zc : w2.cell? ⟨p, 8, none⟩ = some (.slice none 0 0) := by rw [cell_heap p2]; rfl
      have fc : w2.frozen? ⟨p, 8, none⟩ = false := frozen_heap p2
      obtain ⟨A, cap, rfl⟩ := own_form o2
      simp only at o2 zc p2 r2
      have o3 : w2.ownsRow w.heap.size 30 1 (.slice A l.length cap) l.length (flatC l) := own_base' o2 HG1.out.size
      have L4 : Hid ((w2.setCell ⟨p, 8, none⟩ (.slice A l.length cap)).ownsRow w.heap.size 30 1 (.slice A l.length cap) l.length (flatC l)) := Lib.hid (own_set o3 (row_ne o3 hlp))
      have m2 := own_gr HO1.out g2 (row_ne HO1.out hlr)
      have O4 : Hid ((w2.setCell ⟨p, 8, none⟩ (.slice A l.length cap)).ownsRow w.heap.size 116 4 v q.length (flatP q)) := Lib.hid (own_set m2 (row_ne m2 hlp))
      have P4 : Hid (PbAt p { P with id := n, props := q, codes := l } (.slice A l.length cap) v (.slice none 0 0) (.slice none 0 0) (.slice none 0 0) (w2.setCell ⟨p, 8, none⟩ (.slice A l.length cap))) := Lib.hid (set_block p2 rfl)
      have R4 : Hid (RdAt r s a2 (w2.setCell ⟨p, 8, none⟩ (.slice A l.length cap))) := Lib.hid (r2.setOther hrp _ _)
      have G4 : Hid (G2 r p w (w2.setCell ⟨p, 8, none⟩ (.slice A l.length cap))) := Lib.hid ((HG1.out.trans (G2.of_gr g2)).setCell 8 _)
      have E : Hid (X = ({ P with id := n, props := q, codes := l }, a2, 0)) := Lib.hid (by rw [HX1.out, PK.bnd_ok h2])
      clear hR o2 r2 g2 p2 o3 m2 h2 C2 HX1 HP1 HG1 HO1
      go_wp2
      go_end0
      rw [E.out]
      exact ⟨fun _ => ⟨_, _, _, _, _, rfl, ⟨L4.out, O4.out, by simp only; rw [HB.out.wprops]; exact own_nil _ _ _ _, by simp only; rw [HB.out.subs]; exact own_nil _ _ _ _, by simp only; rw [HB.out.filters]; exact own_nil _ _ _ _⟩, R4.out, P4.out, G4.out⟩, fun h => absurd rfl h⟩
    · obtain ⟨rfl, g2⟩ := hR.2 h2
      exact ⟨rfl, PtP.left (by rw [HX1.out, PK.bnd_bad h2]) h2 (HG1.out.trans (G2.of_gr g2))⟩
  · obtain ⟨rfl, g1⟩ := hR.2 h1
    exact ⟨rfl, PtP.left (by rw [HX.out, PK.bnd_bad h1]) h1 g1⟩

set_option maxRecDepth 100000 in
set_option maxHeartbeats 2000000 in
theorem rparts_11 (r p : Nat) (s : ByteArray) (a : Int) (P : Pk) (w : World) (hk : P.kind = 11) (hB : Bare P) (h : RdAt r s a w) (hp : PbAt p P (.slice none 0 0) (.slice none 0 0) (.slice none 0 0) (.slice none 0 0) (.slice none 0 0) w) (hs : s.size ≤ 140737488351232) (hT : ∀ W, G2 r p w W → Tabs W) (hrp : r ≠ p) :
    Calls Tryz.prog 65 #[.pointer (some ⟨r, 0, none⟩), .pointer (some ⟨p, 0, none⟩)] w (PtP r p s w (PK.partsK P.kind s a P)) := by
  have z0 : w.cell? ⟨p, 0, none⟩ = some (.int .i64 11) := by rw [cell_heap hp]; exact congrArg (fun x => some (Value.int .i64 x)) hk
  have HB := Lib.hid hB
  have C1 : Hid (Calls Tryz.prog 91 #[.pointer (some ⟨r, 0, none⟩), .pointer (some ⟨p, 0, none⟩)] w (HdP r p s P (.slice none 0 0) (.slice none 0 0) (.slice none 0 0) (.slice none 0 0) w (PK.rdHd s a P.kind))) := rhead_any r p s a P _ _ _ _ _ w h hp hs hT hrp
  rw [hk] at C1
  obtain ⟨X, hX⟩ : ∃ X, X = PK.partsK P.kind s a P := ⟨_, rfl⟩
  rw [← hX]
  rw [hk] at hX
  have e0 : PK.partsK 11 s a P = PK.bnd P (PK.rdHd s a 11) (fun h a => PK.bnd P (PK.lst (PK.rdC s) s.size 66 a []) (fun l a => ({ P with id := h.1, props := h.2, codes := l }, a, 0))) := rfl
  rw [e0] at hX
  have HX := Lib.hid hX
  have hlr := lt_heap h
  have hlp := lt_heap hp
  have hpr : p ≠ r := fun e => hrp e.symm
  have hmf : ∀ (fn : Fn) (first cap : Array Value) (w : World), (Instr.makeFunc fn first cap).run Tryz.prog w = .ok (.func fn first cap) w := fun _ _ _ _ => rfl
  clear e0 hX h hp hT hB hk
  go_enter Tryz.func65, Tryz.ntmps65
  generalize PK.rdHd s a 11 = Y at *
  obtain ⟨⟨n, q⟩, a1, c1⟩ := Y
  go_wp2_with fail
  refine C1.out.mono ?_
  rintro e w1 hR
  by_cases h1 : c1 = 0
  · obtain ⟨v, rfl, o1, r1, p1, g1⟩ := hR.1 h1
    have X1 := HX.out
    rw [PK.bnd_ok h1] at X1
    simp only at X1 o1 r1 p1
    have C2 : Hid (Calls Tryz.prog 96 #[.pointer (some ⟨r, 0, none⟩), .func (.func 88) #[.pointer (some ⟨r, 0, none⟩)] #[]] w1 (LsP 30 1 flatC r s w1 (PK.lst (PK.rdC s) s.size 66 a1 []))) := rlistc_any r s a1 w1 r1 hs
    generalize PK.lst (PK.rdC s) s.size 66 a1 [] = Z at *
    obtain ⟨l, a2, c2⟩ := Z
    have HX1 := Lib.hid X1
    have HP1 := Lib.hid p1
    have HG1 := Lib.hid g1
    have HO1 := Lib.hid o1
    clear hR o1 r1 p1 g1 C1 HX X1 h1
    go_wp2_with fail
    refine C2.out.mono ?_
    rintro e w2 hR
    by_cases h2 : c2 = 0
    · obtain ⟨v2, rfl, o2, r2, g2⟩ := hR.1 h2
      have p2 := HP1.out.gr g2 hpr
      have zc : w2.cell? ⟨p, 8, none⟩ = some (.slice none 0 0) := by rw [cell_heap p2]; rfl
      have fc : w2.frozen? ⟨p, 8, none⟩ = false := frozen_heap p2
      obtain ⟨A, cap, rfl⟩ := own_form o2
      simp only at o2 zc p2 r2
      have o3 : w2.ownsRow w.heap.size 30 1 (.slice A l.length cap) l.length (flatC l) := own_base' o2 HG1.out.size
      have L4 : Hid ((w2.setCell ⟨p, 8, none⟩ (.slice A l.length cap)).ownsRow w.heap.size 30 1 (.slice A l.length cap) l.length (flatC l)) := Lib.hid (own_set o3 (row_ne o3 hlp))
      have m2 := own_gr HO1.out g2 (row_ne HO1.out hlr)
      have O4 : Hid ((w2.setCell ⟨p, 8, none⟩ (.slice A l.length cap)).ownsRow w.heap.size 116 4 v q.length (flatP q)) := Lib.hid (own_set m2 (row_ne m2 hlp))
      have P4 : Hid (PbAt p { P with id := n, props := q, codes := l } (.slice A l.length cap) v (.slice none 0 0) (.slice none 0 0) (.slice none 0 0) (w2.setCell ⟨p, 8, none⟩ (.slice A l.length cap))) := Lib.hid (set_block p2 rfl)
      have R4 : Hid (RdAt r s a2 (w2.setCell ⟨p, 8, none⟩ (.slice A l.length cap))) := Lib.hid (r2.setOther hrp _ _)
      have G4 : Hid (G2 r p w (w2.setCell ⟨p, 8, none⟩ (.slice A l.length cap))) := Lib.hid ((HG1.out.trans (G2.of_gr g2)).setCell 8 _)
      have E : Hid (X = ({ P with id := n, props := q, codes := l }, a2, 0)) := Lib.hid (by rw [HX1.out, PK.bnd_ok h2])
      clear hR o2 r2 g2 p2 o3 m2 h2 C2 HX1 HP1 HG1 HO1
      go_wp2
      go_end0
      rw [E.out]
      exact ⟨fun _ => ⟨_, _, _, _, _, rfl, ⟨L4.out, O4.out, by simp only; rw [HB.out.wprops]; exact own_nil _ _ _ _, by simp only; rw [HB.out.subs]; exact own_nil _ _ _ _, by simp only; rw [HB.out.filters]; exact own_nil _ _ _ _⟩, R4.out, P4.out, G4.out⟩, fun h => absurd rfl h⟩
    · obtain ⟨rfl, g2⟩ := hR.2 h2
      exact ⟨rfl, PtP.left (by rw [HX1.out, PK.bnd_bad h2]) h2 (HG1.out.trans (G2.of_gr g2))⟩
  · obtain ⟨rfl, g1⟩ := hR.2 h1
    exact ⟨rfl, PtP.left (by rw [HX.out, PK.bnd_bad h1]) h1 g1⟩
end Go.Proofs.YtemfcaaoobjgkaaGreatDoor
namespace Go.Proofs.YtemfcaaoobjgkaaGreatDoor
open Go.RowKit
attribute [local go_sem ↓] Go.wp_at_zero Go.wp_at_succ

set_option maxRecDepth 100000 in
set_option maxHeartbeats 2000000 in
theorem rparts_2 (r p : Nat) (s : ByteArray) (a : Int) (P : Pk) (w : World) (hk : P.kind = 2) (hB : Bare P) (h : RdAt r s a w) (hp : PbAt p P (.slice none 0 0) (.slice none 0 0) (.slice none 0 0) (.slice none 0 0) (.slice none 0 0) w) (hs : s.size ≤ 140737488351232) (hT : ∀ W, G2 r p w W → Tabs W) (hrp : r ≠ p) :
    Calls Tryz.prog 65 #[.pointer (some ⟨r, 0, none⟩), .pointer (some ⟨p, 0, none⟩)] w (PtP r p s w (PK.partsK P.kind s a P)) := by
  have z0 : w.cell? ⟨p, 0, none⟩ = some (.int .i64 2) := by rw [cell_heap hp]; exact congrArg (fun x => some (Value.int .i64 x)) hk
  have HB := Lib.hid hB
  have HP := Lib.hid hp
  have C1 := Lib.hid (rsession_any r s a w h hs)
  have CC : Hid (∀ a W, RdAt r s a W → Calls Tryz.prog 88 #[.pointer (some ⟨r, 0, none⟩)] W (RdP r s W (.int .u8 (PK.rdC s a).1) (PK.rdC s a).2.1 (PK.rdC s a).2.2)) := fun a W hW => rreason_any r s a W hW hs
  have CR : Hid (∀ a W, G2 r p w W → RdAt r s a W → Calls Tryz.prog 89 #[.pointer (some ⟨r, 0, none⟩), .int .i64 2] W (RdPP r s W (PK.rdPr s a 2).1 (PK.rdPr s a 2).2.1 (PK.rdPr s a 2).2.2)) := fun a W hg hW => rprops_any r s a 2 W hW hs (hT W hg)
  obtain ⟨X, hX⟩ : ∃ X, X = PK.partsK P.kind s a P := ⟨_, rfl⟩
  rw [← hX]
  rw [hk] at hX
  have e0 : PK.partsK 2 s a P = PK.bnd P (PK.rdSes s a) (fun v a => PK.bnd P (PK.rdC s a) (fun c a => PK.bnd P (PK.rdPr s a 2) (fun l a => ({ P with session := v, code := c, props := l }, a, 0)))) := rfl
  rw [e0] at hX
  have HX := Lib.hid hX
  have HK := Lib.hid hk
  have hlp := lt_heap hp
  have hpr : p ≠ r := fun e => hrp e.symm
  clear e0 hX h hp hT hB hk
  go_enter Tryz.func65, Tryz.ntmps65
  generalize PK.rdSes s a = Y at *
  obtain ⟨b, a1, c1⟩ := Y
  simp only at C1
  go_wp2_with fail
  refine C1.out.mono ?_
  rintro e w1 hR
  by_cases h1 : c1 = 0
  · obtain ⟨rfl, r1, g1⟩ := hR.1 h1
    have X1 := HX.out
    rw [PK.bnd_ok h1] at X1
    have p1 := HP.out.gr g1 hpr
    have z23 : w1.cell? ⟨p, 23, none⟩ = some (.bool P.session) := by rw [cell_heap p1]; rfl
    have f23 : w1.frozen? ⟨p, 23, none⟩ = false := frozen_heap p1
    have P2 : Hid (PbAt p { P with session := b } (.slice none 0 0) (.slice none 0 0) (.slice none 0 0) (.slice none 0 0) (.slice none 0 0) (w1.setCell ⟨p, 23, none⟩ (.bool b))) := Lib.hid (set_block p1 rfl)
    have r2 : RdAt r s a1 (w1.setCell ⟨p, 23, none⟩ (.bool b)) := r1.setOther hrp _ _
    have HG2 : Hid (G2 r p w (w1.setCell ⟨p, 23, none⟩ (.bool b))) := Lib.hid ((G2.of_gr g1).setCell 23 _)
    have D2 := CC.out a1 _ r2
    generalize PK.rdC s a1 = Y at *
    obtain ⟨c, a2, c2⟩ := Y
    simp only at D2
    have E2 := Lib.hid D2
    have HX1 := Lib.hid X1
    clear hR r1 g1 p1 r2 D2 X1 HX C1 CC h1 HP
    go_wp2_with fail
    refine E2.out.mono ?_
    rintro e w3 hR
    by_cases h2 : c2 = 0
    · obtain ⟨rfl, r3, g3⟩ := hR.1 h2
      have X2 := HX1.out
      rw [PK.bnd_ok h2] at X2
      have p3 := P2.out.gr g3 hpr
      have z7 : w3.cell? ⟨p, 7, none⟩ = some (.int .u8 P.code) := by rw [cell_heap p3]; rfl
      have f7 : w3.frozen? ⟨p, 7, none⟩ = false := frozen_heap p3
      have y0 : w3.cell? ⟨p, 0, none⟩ = some (.int .i64 2) := by rw [cell_heap p3]; exact congrArg (fun x => some (Value.int .i64 x)) HK.out
      have P4 : Hid (PbAt p { P with session := b, code := c } (.slice none 0 0) (.slice none 0 0) (.slice none 0 0) (.slice none 0 0) (.slice none 0 0) (w3.setCell ⟨p, 7, none⟩ (.int .u8 c))) := Lib.hid (set_block p3 rfl)
      have r4 : RdAt r s a2 (w3.setCell ⟨p, 7, none⟩ (.int .u8 c)) := r3.setOther hrp _ _
      have HG4 : Hid (G2 r p w (w3.setCell ⟨p, 7, none⟩ (.int .u8 c))) := Lib.hid ((HG2.out.trans (G2.of_gr g3)).setCell 7 _)
      have D4 := CR.out a2 _ HG4.out r4
      generalize PK.rdPr s a2 2 = Y at *
      obtain ⟨l, a3, c3⟩ := Y
      simp only at D4
      have E4 := Lib.hid D4
      have HX2 := Lib.hid X2
      clear hR r3 g3 p3 r4 D4 X2 HX1 E2 CR h2 P2 HG2 HK
      go_wp2_with fail
      refine E4.out.mono ?_
      rintro e w5 hR
      by_cases h3 : c3 = 0
      · obtain ⟨v, rfl, o5, r5, g5⟩ := hR.1 h3
        have p5 := P4.out.gr g5 hpr
        have z9 : w5.cell? ⟨p, 9, none⟩ = some (.slice none 0 0) := by rw [cell_heap p5]; rfl
        have f9 : w5.frozen? ⟨p, 9, none⟩ = false := frozen_heap p5
        obtain ⟨A, cap, rfl⟩ := own_form o5
        have o6 : w5.ownsRow w.heap.size 116 4 (.slice A l.length cap) l.length (flatP l) := own_base' o5 HG4.out.size
        have O6 : Hid ((w5.setCell ⟨p, 9, none⟩ (.slice A l.length cap)).ownsRow w.heap.size 116 4 (.slice A l.length cap) l.length (flatP l)) := Lib.hid (own_set o6 (row_ne o6 hlp))
        have P6 : Hid (PbAt p { P with session := b, code := c, props := l } (.slice none 0 0) (.slice A l.length cap) (.slice none 0 0) (.slice none 0 0) (.slice none 0 0) (w5.setCell ⟨p, 9, none⟩ (.slice A l.length cap))) := Lib.hid (set_block p5 rfl)
        have R6 : Hid (RdAt r s a3 (w5.setCell ⟨p, 9, none⟩ (.slice A l.length cap))) := Lib.hid (r5.setOther hrp _ _)
        have G6 : Hid (G2 r p w (w5.setCell ⟨p, 9, none⟩ (.slice A l.length cap))) := Lib.hid ((HG4.out.trans (G2.of_gr g5)).setCell 9 _)
        have E : Hid (X = ({ P with session := b, code := c, props := l }, a3, 0)) := Lib.hid (by rw [HX2.out, PK.bnd_ok h3])
        clear hR o5 r5 g5 p5 o6 E4 h3 HX2 P4 HG4
        go_wp2
        go_end0
        rw [E.out]
        exact ⟨fun _ => ⟨_, _, _, _, _, rfl, ⟨by simp only; rw [HB.out.codes]; exact own_nil _ _ _ _, O6.out, by simp only; rw [HB.out.wprops]; exact own_nil _ _ _ _, by simp only; rw [HB.out.subs]; exact own_nil _ _ _ _, by simp only; rw [HB.out.filters]; exact own_nil _ _ _ _⟩, R6.out, P6.out, G6.out⟩, fun h => absurd rfl h⟩
      · obtain ⟨rfl, g5⟩ := hR.2 h3
        exact ⟨rfl, PtP.left (by rw [HX2.out, PK.bnd_bad h3]) h3 (HG4.out.trans (G2.of_gr g5))⟩
    · obtain ⟨rfl, g3⟩ := hR.2 h2
      exact ⟨rfl, PtP.left (by rw [HX1.out, PK.bnd_bad h2]) h2 (HG2.out.trans (G2.of_gr g3))⟩
  · obtain ⟨rfl, g1⟩ := hR.2 h1
    exact ⟨rfl, PtP.left (by rw [HX.out, PK.bnd_bad h1]) h1 (G2.of_gr g1)⟩
theorem rparts_any (r p : Nat) (s : ByteArray) (a : Int) (P : Pk) (w : World) (hk1 : 1 ≤ P.kind) (hk2 : P.kind ≤ 15) (hB : Bare P) (h : RdAt r s a w) (hp : PbAt p P (.slice none 0 0) (.slice none 0 0) (.slice none 0 0) (.slice none 0 0) (.slice none 0 0) w) (hs : s.size ≤ 140737488351232) (hT : ∀ W, G2 r p w W → Tabs W) (hrp : r ≠ p) :
    Calls Tryz.prog 65 #[.pointer (some ⟨r, 0, none⟩), .pointer (some ⟨p, 0, none⟩)] w (PtP r p s w (PK.partsK P.kind s a P)) := by
  have hc : P.kind = 1 ∨ P.kind = 2 ∨ P.kind = 3 ∨ P.kind = 4 ∨ P.kind = 5 ∨ P.kind = 6 ∨ P.kind = 7 ∨ P.kind = 8 ∨ P.kind = 9 ∨ P.kind = 10 ∨ P.kind = 11 ∨ P.kind = 12 ∨ P.kind = 13 ∨ P.kind = 14 ∨ P.kind = 15 := by omega
  rcases hc with hc | hc | hc | hc | hc | hc | hc | hc | hc | hc | hc | hc | hc | hc | hc
  · exact rparts_1 r p s a P w hc hB h hp hs hT hrp
  · exact rparts_2 r p s a P w hc hB h hp hs hT hrp
  · exact rparts_3 r p s a P w hc hB h hp hs hT hrp
  · exact rparts_4 r p s a P w hc hB h hp hs hT hrp
  · exact rparts_5 r p s a P w hc hB h hp hs hT hrp
  · exact rparts_6 r p s a P w hc hB h hp hs hT hrp
  · exact rparts_7 r p s a P w hc hB h hp hs hT hrp
  · exact rparts_8 r p s a P w hc hB h hp hs hT hrp
  · exact rparts_9 r p s a P w hc hB h hp hs hT hrp
  · exact rparts_10 r p s a P w hc hB h hp hs hT hrp
  · exact rparts_11 r p s a P w hc hB h hp hs hT hrp
  · exact rparts_12 r p s a P w hc hB h hp hs hT hrp
  · exact rparts_13 r p s a P w hc hB h hp hs hT hrp
  · exact rparts_14 r p s a P w hc hB h hp hs hT hrp
  · exact rparts_15 r p s a P w hc hB h hp hs hT hrp
end Go.Proofs.YtemfcaaoobjgkaaGreatDoor
namespace Go.Proofs.YtemfcaaoobjgkaaGreatDoor
open Go.RowKit
attribute [local go_sem ↓] Go.wp_at_zero Go.wp_at_succ

namespace PK
def lenC (n m : Int) : Int := if 65536 < n then 149 else if m < n then 242 else if n < m then 129 else 0
end PK
theorem lencode_any (n m : Int) (w : World) : Calls Tryz.prog 34 #[.int .i64 n, .int .i64 m] w fun e w' => e = .returned (.int .u8 (PK.lenC n m)) ∧ w = w' := by
  obtain ⟨X, hX⟩ : ∃ X, X = PK.lenC n m := ⟨_, rfl⟩
  rw [← hX]
  unfold PK.lenC at hX
  have HX := Lib.hid hX
  clear hX
  by_cases h1 : 65536 < n
  · have E : Hid (X = 149) := Lib.hid (by rw [HX.out, if_pos h1])
    clear HX
    go_enter Tryz.func34, Tryz.ntmps34
    go_wp2
    go_ret
    exact ⟨by rw [E.out]; rfl, rfl⟩
  · by_cases h2 : m < n
    · have E : Hid (X = 242) := Lib.hid (by rw [HX.out, if_neg h1, if_pos h2])
      clear HX
      go_enter Tryz.func34, Tryz.ntmps34
      go_wp2
      go_ret
      exact ⟨by rw [E.out]; rfl, rfl⟩
    · by_cases h3 : n < m
      · have E : Hid (X = 129) := Lib.hid (by rw [HX.out, if_neg h1, if_neg h2, if_pos h3])
        clear HX
        go_enter Tryz.func34, Tryz.ntmps34
        go_wp2
        go_ret
        exact ⟨by rw [E.out]; rfl, rfl⟩
      · have E : Hid (X = 0) := Lib.hid (by rw [HX.out, if_neg h1, if_neg h2, if_neg h3])
        clear HX
        go_enter Tryz.func34, Tryz.ntmps34
        go_wp2
        go_ret
        exact ⟨by rw [E.out]; rfl, rfl⟩
end Go.Proofs.YtemfcaaoobjgkaaGreatDoor
namespace Go.Proofs.YtemfcaaoobjgkaaGreatDoor
open Go.RowKit
attribute [local go_sem ↓] Go.wp_at_zero Go.wp_at_succ

namespace PK
def rdWhole (s : ByteArray) (a : Int) (P : Pk) : Pk × Int := ((partsK P.kind s a P).1, thn (partsK P.kind s a P).2.2 (if (partsK P.kind s a P).2.1 = (s.size : Int) then 0 else 129))
def zeroPk : Pk := ⟨0, false, false, 0, 0, ⟨#[]⟩, ⟨#[]⟩, 0, [], [], ⟨#[]⟩, false, 0, false, ⟨#[]⟩, ⟨#[]⟩, 0, false, [], false, false, ⟨#[]⟩, ⟨#[]⟩, false, [], []⟩
end PK
/-- The cells of a packet without rows. -/
def pkNil (P : Pk) : Array Value := pkCells P (.slice none 0 0) (.slice none 0 0) (.slice none 0 0) (.slice none 0 0) (.slice none 0 0)
/-- What the reader's whole answers. -/
def WhP (r : Nat) (w : World) (X : Pk × Int) (e : Ending) (w' : World) : Prop :=
  (X.2 = 0 → ∃ vc vp vw vs vf, e = .returned (.agg (pkCells X.1 vc vp vw vs vf)) ∧ Own5 w.heap.size X.1 vc vp vw vs vf w' ∧ Gr r w w') ∧ (X.2 ≠ 0 → e = leftBy X.2 ∧ Gr r w w')
theorem Gr.of_g2 {r p : Nat} {w W W' : World} (h : Gr r w W) (hp : w.heap.size ≤ p) (g : G2 r p W W') : Gr r w W' :=
  ⟨g.os.trans h.os, g.tape.trans h.tape, g.output.trans h.output, Nat.le_trans h.size g.size, fun i hi hne => (g.block i (Nat.lt_of_lt_of_le hi h.size) (fun e => hne (by rw [e])) (by omega)).trans (h.block i hi hne)⟩
theorem setRow_heap {w : World} {g : Nat} {old cs : Array Value} {t : TypeId} (h : w.heap[g]? = some (.cells old t (0, 0))) : (w.setRow g cs).heap[g]? = some (.cells cs t (0, 0)) := by
  simp [World.setRow, Array.getElem?_modify, h]
theorem setRow_other {w : World} {g i : Nat} (cs : Array Value) (h : i ≠ g) : (w.setRow g cs).heap[i]? = w.heap[i]? := by
  simp [World.setRow, Array.getElem?_modify, Ne.symm h]
theorem Gr.setRow {r g : Nat} {w w' : World} (h : Gr r w w') (hg : w.heap.size ≤ g) (cs : Array Value) : Gr r w (w'.setRow g cs) :=
  ⟨h.os, h.tape, h.output, by simp [World.setRow]; exact h.size, fun i hi hne => (setRow_other cs (by omega)).trans (h.block i hi hne)⟩
theorem own_setRow {w : World} {g B : Nat} {e : TypeId} {k : Nat} {v : Value} {n : Nat} {xs : List Value} (cs : Array Value) (h : w.ownsRow B e k v n xs) (hne : v.ownBlock ≠ some g) : (w.setRow g cs).ownsRow B e k v n xs :=
  h.kept (row := some g) ⟨rfl, rfl, rfl, by simp [World.setRow], fun i _ hi => setRow_other cs (fun e => hi (by rw [e]))⟩ (.inr hne)
theorem Own5.below {B C : Nat} {P : Pk} {vc vp vw vs vf : Value} {w w' : World} (h : Own5 C P vc vp vw vs vf w) (hb : Below w.heap.size w w') (hC : B ≤ C) : Own5 B P vc vp vw vs vf w' :=
  ⟨own_base' (own_gr h.codes (Gr.of_below (r := w.heap.size) hb) (fun hv => Nat.lt_irrefl _ (h.codes.lt _ hv).2)) hC, own_base' (own_gr h.props (Gr.of_below (r := w.heap.size) hb) (fun hv => Nat.lt_irrefl _ (h.props.lt _ hv).2)) hC, own_base' (own_gr h.wprops (Gr.of_below (r := w.heap.size) hb) (fun hv => Nat.lt_irrefl _ (h.wprops.lt _ hv).2)) hC, own_base' (own_gr h.subs (Gr.of_below (r := w.heap.size) hb) (fun hv => Nat.lt_irrefl _ (h.subs.lt _ hv).2)) hC, own_base' (own_gr h.filters (Gr.of_below (r := w.heap.size) hb) (fun hv => Nat.lt_irrefl _ (h.filters.lt _ hv).2)) hC⟩
theorem pk_one (P : Pk) {B : Nat} {vc vp vw vs vf : Value} {w : World} (h : Own5 B P vc vp vw vs vf w) : (pkCells P vc vp vw vs vf).all (·.oneCell') = true := by
  obtain ⟨A1, n1, rfl⟩ := own_form h.codes
  obtain ⟨A2, n2, rfl⟩ := own_form h.props
  obtain ⟨A3, n3, rfl⟩ := own_form h.wprops
  obtain ⟨A4, n4, rfl⟩ := own_form h.subs
  obtain ⟨A5, n5, rfl⟩ := own_form h.filters
  simp [pkCells, Value.oneCell']
theorem pk_info : (Tryz.prog.info? 45).map (·.size) = some 26 := by kernel_rfl

set_option maxRecDepth 100000 in
set_option maxHeartbeats 2000000 in
theorem rwhole_any (r : Nat) (s : ByteArray) (a : Int) (P : Pk) (w : World) (hk1 : 1 ≤ P.kind) (hk2 : P.kind ≤ 15) (hB : Bare P) (h : RdAt r s a w) (hs : s.size ≤ 140737488351232) (hT : ∀ W, Gr r w W → Tabs W) :
    Calls Tryz.prog 37 #[.pointer (some ⟨r, 0, none⟩), .agg (pkNil P)] w (WhP r w (PK.rdWhole s a P)) := by
  have b1 := (Below.refl w.heap.size w).alloc (Nat.le_refl _) (.cells (pkNil P) 45)
  have b2 := (Below.refl (w.alloc (.cells (pkNil P) 45)).heap.size (w.alloc (.cells (pkNil P) 45))).alloc (Nat.le_refl _) (.cells (pkNil PK.zeroPk) 45)
  have hsz : (w.alloc (.cells (pkNil P) 45)).heap.size = w.heap.size + 1 := by simp
  have B1 : (w.alloc (.cells (pkNil P) 45)).heap[w.heap.size]? = some (.cells (pkNil P) 45 (0, 0)) := heap_alloc_new w _
  have B2 : ((w.alloc (.cells (pkNil P) 45)).alloc (.cells (pkNil PK.zeroPk) 45)).heap[w.heap.size + 1]? = some (.cells (pkNil PK.zeroPk) 45 (0, 0)) := by rw [← hsz]; exact heap_alloc_new _ _
  have hlt := lt_heap h
  have R0 := (h.below b1).below b2
  have P0 : PbAt w.heap.size P (.slice none 0 0) (.slice none 0 0) (.slice none 0 0) (.slice none 0 0) (.slice none 0 0) ((w.alloc (.cells (pkNil P) 45)).alloc (.cells (pkNil PK.zeroPk) 45)) := (b2.block _ (lt_heap B1)).trans B1
  have G0 : Gr r w ((w.alloc (.cells (pkNil P) 45)).alloc (.cells (pkNil PK.zeroPk) 45)) := (Gr.of_below b1).trans (Gr.of_below b2)
  have C1 := Lib.hid (rparts_any r w.heap.size s a P _ hk1 hk2 hB R0 P0 hs (fun W hg => hT W (G0.of_g2 (Nat.le_refl _) hg)) (by omega))
  have CE : Hid (∀ a W, RdAt r s a W → Calls Tryz.prog 66 #[.pointer (some ⟨r, 0, none⟩)] W fun e w' => e = .returned (.bool (a == (s.size : Int))) ∧ Below W.heap.size W w') := fun a W hW => ended_any r s a W hW
  have CL := Lib.hid leave_any
  have HG0 := Lib.hid G0
  have HB2 := Lib.hid B2
  obtain ⟨X, hX⟩ : ∃ X, X = PK.rdWhole s a P := ⟨_, rfl⟩
  rw [← hX]
  unfold PK.rdWhole at hX
  generalize PK.partsK P.kind s a P = Y at *
  obtain ⟨Q, a1, c1⟩ := Y
  simp only at hX
  have HX := Lib.hid hX
  obtain ⟨cs, hcs⟩ : ∃ cs, cs = pkNil P := ⟨_, rfl⟩
  clear b1 b2 B1 B2 R0 P0 G0 hX h hT hk1 hk2 hB
  go_enter Tryz.func37, Tryz.ntmps37
  go_wp2_with fail
  refine C1.out.mono ?_
  rintro e w1 hR
  by_cases h1 : c1 = 0
  · obtain ⟨vc, vp, vw, vs, vf, rfl, o1, r1, p1, g1⟩ := hR.1 h1
    simp only at o1 r1 p1
    have G1 : Hid (Gr r w w1) := Lib.hid (HG0.out.of_g2 (Nat.le_refl _) g1)
    have z1 : w1.heap[w.heap.size + 1]? = some (.cells (pkNil PK.zeroPk) 45 (0, 0)) := (g1.block _ (lt_heap HB2.out) (by omega) (by omega)).trans HB2.out
    have D1 := CE.out a1 w1 r1
    have O1 := Lib.hid o1
    have P1 := Lib.hid p1
    have Z1 := Lib.hid z1
    have X1 := HX.out
    rw [PK.thn_ok h1] at X1
    have HX1 := Lib.hid X1
    clear hR r1 g1 o1 p1 z1 C1 HX X1 h1 CE
    by_cases h2 : a1 = (s.size : Int)
    · have e2 : (a1 == (s.size : Int)) = true := by simp [h2]
      rw [e2] at D1
      have E1 := Lib.hid D1
      have EX : Hid (X = (Q, 0)) := Lib.hid (by rw [HX1.out, if_pos h2])
      clear D1 e2 h2 HX1
      go_wp2_with fail
      refine E1.out.mono ?_
      rintro e w2 ⟨rfl, b2⟩
      have P2 := Lib.hid ((b2.block _ (lt_heap P1.out)).trans P1.out)
      have Z2 := Lib.hid ((b2.block _ (lt_heap Z1.out)).trans Z1.out)
      have G2' : Hid (Gr r w w2) := Lib.hid (G1.out.trans (Gr.of_below b2))
      have hsz2 : w.heap.size ≤ ((w.alloc (.cells (pkNil P) 45)).alloc (.cells (pkNil PK.zeroPk) 45)).heap.size := HG0.out.size
      have hz2 : w.heap.size + 1 < ((w.alloc (.cells (pkNil P) 45)).alloc (.cells (pkNil PK.zeroPk) 45)).heap.size := lt_heap HB2.out
      have o2 := O1.out.below b2 (Nat.le_refl _)
      have O2 := Lib.hid o2
      have W1 := Lib.hid (pk_one Q o2)
      clear b2 o2
      go_wp2_with (first
        | refine wpl_load_pk (by rfl) (.tmp 3) (by rfl) w.heap.size (by rfl) P2.out ?_
        | refine wpList_store_row (by rfl) 45 (.tmp 4) (.tmp 11) (by rfl) (w.heap.size + 1) (pkCells Q vc vp vw vs vf) (by rfl) (by rfl) 45 (pkNil PK.zeroPk) Z2.out pk_info rfl W1.out ?_)
      have Z3 := setRow_heap (cs := pkCells Q vc vp vw vs vf) Z2.out
      refine bodyPost_ret (v := .agg (pkCells Q vc vp vw vs vf)) ?_ rfl ?_
      · have hl : (loadVar 45 ⟨w.heap.size + 1, 0, none⟩).run Tryz.prog (w2.setRow (w.heap.size + 1) (pkCells Q vc vp vw vs vf)) = .ok (.agg (pkCells Q vc vp vw vs vf)) (w2.setRow (w.heap.size + 1) (pkCells Q vc vp vw vs vf)) :=
          run_loadVar_mid _ (w.heap.size + 1) 0 45 (pkCells Q vc vp vw vs vf).toList _ (fun j v hv => by rw [Nat.zero_add, cell_heap Z3, ← hv]; simp) Tryz.underlying45 rfl (by kernel_rfl)
        simp [results, Tryz.results37, Act.put]
        exact hl
      · rw [EX.out]
        refine ⟨fun _ => ⟨_, _, _, _, _, rfl, ?_, G2'.out.setRow (by omega) _⟩, fun h => absurd rfl h⟩
        have n5 := fun {e : TypeId} {k : Nat} {v : Value} {n : Nat} {xs : List Value} (ho : w2.ownsRow ((w.alloc (.cells (pkNil P) 45)).alloc (.cells (pkNil PK.zeroPk) 45)).heap.size e k v n xs) => own_base' (own_setRow (g := w.heap.size + 1) (pkCells Q vc vp vw vs vf) ho (row_ne ho hz2)) hsz2
        exact ⟨n5 O2.out.codes, n5 O2.out.props, n5 O2.out.wprops, n5 O2.out.subs, n5 O2.out.filters⟩
    · have e2 : (a1 == (s.size : Int)) = false := by rw [beq_eq_false_iff_ne]; exact h2
      rw [e2] at D1
      have E1 := Lib.hid D1
      have EX : Hid (X = (Q, 129)) := Lib.hid (by rw [HX1.out, if_neg h2])
      clear D1 e2 h2 HX1
      go_wp2_with fail
      refine E1.out.mono ?_
      rintro e w2 ⟨rfl, b2⟩
      have G2' : Hid (Gr r w w2) := Lib.hid (G1.out.trans (Gr.of_below b2))
      clear b2
      go_wp2_with fail
      refine (CL.out _ _).mono ?_
      rintro e w' ⟨rfl, rfl⟩
      exact ⟨rfl, by rw [EX.out]; exact ⟨fun h => absurd h (show (129 : Int) ≠ 0 by decide), fun _ => ⟨rfl, G2'.out⟩⟩⟩
  · obtain ⟨rfl, g1⟩ := hR.2 h1
    have EX : X = (Q, c1) := by rw [HX.out, PK.thn_bad h1]
    exact ⟨rfl, by rw [EX]; exact ⟨fun h => absurd h h1, fun _ => ⟨rfl, HG0.out.of_g2 (Nat.le_refl _) g1⟩⟩⟩
end Go.Proofs.YtemfcaaoobjgkaaGreatDoor
namespace Go.Proofs.YtemfcaaoobjgkaaGreatDoor
open Go.RowKit
attribute [local go_sem ↓] Go.wp_at_zero Go.wp_at_succ

namespace PK
/-- A packet of which nothing is known but its first byte. -/
def barePk (k : Int) (d r : Bool) (q : Int) : Pk := ⟨k, d, r, q, 0, ⟨#[]⟩, ⟨#[]⟩, 0, [], [], ⟨#[]⟩, false, 0, false, ⟨#[]⟩, ⟨#[]⟩, 0, false, [], false, false, ⟨#[]⟩, ⟨#[]⟩, false, [], []⟩
/-- What a first byte tells of a packet. -/
def begPk (n : Int) : Pk := if n / 16 = 3 then barePk 3 (bits .and .i64 (n % 16) 8 != 0) (bits .and .i64 (n % 16) 1 != 0) (bits .and .i64 (n % 16 / 2) 3) else barePk (n / 16) false false 0
def begOk (n : Int) : Bool := if n / 16 = 3 then canPub (begPk n) else isK (n / 16) && (n % 16 == fixN (n / 16))
end PK
theorem pkNil_one (P : Pk) : (pkNil P).all (·.oneCell') = true := by simp [pkNil, pkCells, Value.oneCell']
theorem below_setRow {n g : Nat} {w w' : World} (h : Below n w w') (hg : n ≤ g) (cs : Array Value) : Below n w (w'.setRow g cs) :=
  ⟨h.os, h.tape, h.output, by simp [World.setRow]; exact h.size, fun i hi => (setRow_other cs (by omega)).trans (h.block i hi)⟩
theorem load_pk_var {w : World} {g : Nat} {P : Pk} {vc vp vw vs vf : Value} (h : w.heap[g]? = some (.cells (pkCells P vc vp vw vs vf) 45 (0, 0))) :
    (loadVar 45 ⟨g, 0, none⟩).run Tryz.prog w = .ok (.agg (pkCells P vc vp vw vs vf)) w :=
  run_loadVar_mid _ g 0 45 (pkCells P vc vp vw vs vf).toList _ (fun j v hv => by rw [Nat.zero_add, cell_heap h, ← hv]; simp) Tryz.underlying45 rfl (by kernel_rfl)
theorem read_two {P : Program} {W : World} {g : Nat} {T : TypeId} {x y : Value} (hl : (loadVar T ⟨g, 0, none⟩).run P W = .ok x W) :
    ((Sem.run P (asAddr (.pointer (some ⟨g, 0, none⟩))) W).andThen fun a w' => (Sem.run P (loadVar T a) w').andThen fun a w' => Result.ok (Value.tuple #[a, y]) w') = .ok (Value.tuple #[x, y]) W := by
  show ((Sem.run P (loadVar T ⟨g, 0, none⟩) W).andThen _) = _
  rw [hl]
  rfl
theorem step_load_pk {ops : Array Oper} {o : Oper} {a : Act} {w : World} {K : Act → World → Prop} {Q : Exit → Act → World → Prop} {E : Prop} (hgd : o.guard = none) (x : Operand) (ho : o.op = .load 45 x)
    (n : Nat) (hx : a.eval x = .pointer (some ⟨n, 0, none⟩)) {p : Pk} {vc vp vw vs vf : Value} (hb : w.heap[n]? = some (.cells (pkCells p vc vp vw vs vf) 45 (0, 0)))
    (h : K (a.put o.dst (.agg (pkCells p vc vp vw vs vf))) w) : if Region.wanted o (yielded ops a.tmps) = true then Oper.wp Tryz.prog o a w K Q else E := by
  rw [if_pos (by simp [Region.wanted, hgd])]
  exact wp_load_mid 45 x ho n 0 hx (pkCells p vc vp vw vs vf).toList _ (fun j v hv => by rw [Nat.zero_add, cell_heap hb, ← hv]; simp) Tryz.underlying45 rfl (by kernel_rfl) h
theorem step_store_pk {ops : Array Oper} {o : Oper} {a : Act} {w : World} {K : Act → World → Prop} {Q : Exit → Act → World → Prop} {E : Prop} (hgd : o.guard = none) (x y : Operand) (ho : o.op = .store 45 x y)
    (g : Nat) (cells : Array Value) (hx : a.eval x = .pointer (some ⟨g, 0, none⟩)) (hy : a.eval y = .agg cells)
    {t : TypeId} {old : Array Value} (hg : w.heap[g]? = some (.cells old t (0, 0))) (hi : (Tryz.prog.info? 45).map (·.size) = some cells.size)
    (hold : old.size = cells.size) (h1 : cells.all (·.oneCell') = true)
    (h : K (a.put o.dst undef) (w.setRow g cells)) : if Region.wanted o (yielded ops a.tmps) = true then Oper.wp Tryz.prog o a w K Q else E := by
  rw [if_pos (by simp [Region.wanted, hgd])]
  exact wp_store_row 45 x y ho g cells hx hy t old hg hi hold h1 h
theorem and15 (n : Int) (h0 : 0 ≤ n) (h1 : n ≤ 255) : bits .and .u8 n 15 = n % 16 := by
  obtain ⟨k, rfl⟩ := Int.eq_ofNat_of_zero_le h0
  have h : ∀ k : Fin 256, bits .and .u8 ((k.val : Nat) : Int) 15 = ((k.val : Nat) : Int) % 16 := by decide +kernel
  exact h ⟨k, by omega⟩

set_option maxRecDepth 100000 in
set_option maxHeartbeats 2000000 in
theorem begin_other (n : Int) (h0 : 0 ≤ n) (h1 : n ≤ 255) (h3 : n / 16 ≠ 3) (w : World) :
    Calls Tryz.prog 32 #[.int .u8 n] w fun e w' => e = .returned (.tuple #[.agg (pkNil (PK.begPk n)), .bool (PK.begOk n)]) ∧ Below w.heap.size w w' := by
  have hA := and15 n h0 h1
  have E1 : Hid (PK.begPk n = PK.barePk (n / 16) false false 0) := Lib.hid (by unfold PK.begPk; rw [if_neg h3])
  have E2 : Hid (PK.begOk n = (PK.isK (n / 16) && (n % 16 == PK.fixN (n / 16)))) := Lib.hid (by unfold PK.begOk; rw [if_neg h3])
  have hne : (n / 16 != 3) = true := by rw [bne_iff_ne]; exact h3
  have CK := Lib.hid iskind_any
  have CF := Lib.hid fixed_flags
  have Z : Hid ((w.alloc (.cells (pkNil PK.zeroPk) 45)).heap[w.heap.size]? = some (.cells (pkNil PK.zeroPk) 45 (0, 0))) := Lib.hid (heap_alloc_new w _)
  have hk0 : 0 ≤ n / 16 := by omega
  have hk1 : n / 16 ≤ 15 := by omega
  have hf0 : 0 ≤ n % 16 := by omega
  have hf1 : n % 16 ≤ 15 := by omega
  have O1 := Lib.hid (pkNil_one (PK.barePk (n / 16) false false 0))
  have HB : Hid (Below w.heap.size w (w.alloc (.cells (pkNil PK.zeroPk) 45))) := Lib.hid ((Below.refl _ _).alloc (Nat.le_refl _) _)
  rw [E1.out, E2.out]
  clear h3 E1 E2
  cases hq : PK.isK (n / 16)
  · go_enter Tryz.func32, Tryz.ntmps32
    go_wp2_with fail
    refine (CK.out _ _).mono ?_
    rintro e w' ⟨rfl, rfl⟩
    rw [hq]
    go_wp2_with (refine wpList_store_row (by rfl) 45 (.tmp 2) (.tmp 16) (by rfl) w.heap.size (pkNil (PK.barePk (n / 16) false false 0)) (by rfl) (by rfl) 45 (pkNil PK.zeroPk) Z.out pk_info rfl O1.out ?_)
    have Z3 : Hid (((w.alloc (.cells (pkNil PK.zeroPk) 45)).setRow w.heap.size (pkNil (PK.barePk (n / 16) false false 0))).heap[w.heap.size]? = some (.cells (pkNil (PK.barePk (n / 16) false false 0)) 45 (0, 0))) := Lib.hid (setRow_heap Z.out)
    have B3 : Hid (Below w.heap.size w ((w.alloc (.cells (pkNil PK.zeroPk) 45)).setRow w.heap.size (pkNil (PK.barePk (n / 16) false false 0)))) := Lib.hid (below_setRow HB.out (Nat.le_refl _) _)
    have hl := load_pk_var (P := PK.barePk (n / 16) false false 0) (vc := .slice none 0 0) (vp := .slice none 0 0) (vw := .slice none 0 0) (vs := .slice none 0 0) (vf := .slice none 0 0) Z3.out
    refine bodyPost_ret (v := .tuple #[.agg (pkNil (PK.barePk (n / 16) false false 0)), .bool false]) ?_ rfl ⟨rfl, B3.out⟩
    simp only [results, Tryz.results32]
    simp
    exact read_two hl
  · have Hq := Lib.hid hq
    clear hq
    go_enter Tryz.func32, Tryz.ntmps32
    go_wp2_with fail
    refine (CK.out _ _).mono ?_
    rintro e w' ⟨rfl, rfl⟩
    rw [Hq.out]
    go_wp2_with fail
    refine (CF.out _ _).mono ?_
    rintro e w' ⟨rfl, rfl⟩
    go_wp2_with (refine wpList_store_row (by rfl) 45 (.tmp 2) (.tmp 16) (by rfl) w.heap.size (pkNil (PK.barePk (n / 16) false false 0)) (by rfl) (by rfl) 45 (pkNil PK.zeroPk) Z.out pk_info rfl O1.out ?_)
    have Z3 : Hid (((w.alloc (.cells (pkNil PK.zeroPk) 45)).setRow w.heap.size (pkNil (PK.barePk (n / 16) false false 0))).heap[w.heap.size]? = some (.cells (pkNil (PK.barePk (n / 16) false false 0)) 45 (0, 0))) := Lib.hid (setRow_heap Z.out)
    have B3 : Hid (Below w.heap.size w ((w.alloc (.cells (pkNil PK.zeroPk) 45)).setRow w.heap.size (pkNil (PK.barePk (n / 16) false false 0)))) := Lib.hid (below_setRow HB.out (Nat.le_refl _) _)
    have hl := load_pk_var (P := PK.barePk (n / 16) false false 0) (vc := .slice none 0 0) (vp := .slice none 0 0) (vw := .slice none 0 0) (vs := .slice none 0 0) (vf := .slice none 0 0) Z3.out
    refine bodyPost_ret (v := .tuple #[.agg (pkNil (PK.barePk (n / 16) false false 0)), .bool (n % 16 == PK.fixN (n / 16))]) ?_ rfl ⟨by simp, B3.out⟩
    simp only [results, Tryz.results32]
    simp
    exact read_two hl
set_option maxRecDepth 100000 in
set_option maxHeartbeats 2000000 in
theorem begin_pub (n : Int) (h0 : 0 ≤ n) (h1 : n ≤ 255) (h3 : n / 16 = 3) (w : World) :
    Calls Tryz.prog 32 #[.int .u8 n] w fun e w' => e = .returned (.tuple #[.agg (pkNil (PK.begPk n)), .bool (PK.begOk n)]) ∧ Below w.heap.size w w' := by
  have hA := and15 n h0 h1
  have hf0 : 0 ≤ n % 16 := by omega
  have hf1 : n % 16 ≤ 15 := by omega
  have E1 : Hid (PK.begPk n = PK.barePk 3 (bits .and .i64 (n % 16) 8 != 0) (bits .and .i64 (n % 16) 1 != 0) (bits .and .i64 (n % 16 / 2) 3)) := Lib.hid (by unfold PK.begPk; rw [if_pos h3])
  have E2 : Hid (PK.begOk n = PK.canPub (PK.begPk n)) := Lib.hid (by unfold PK.begOk; rw [if_pos h3])
  rw [E2.out, E1.out]
  clear E2 E1
  have Z : Hid ((w.alloc (.cells (pkNil PK.zeroPk) 45)).heap[w.heap.size]? = some (.cells (pkNil PK.zeroPk) 45 (0, 0))) := Lib.hid (heap_alloc_new w _)
  have HB : Hid (Below w.heap.size w (w.alloc (.cells (pkNil PK.zeroPk) 45))) := Lib.hid ((Below.refl _ _).alloc (Nat.le_refl _) _)
  have O1 := Lib.hid (pkNil_one (PK.barePk 3 (bits .and .i64 (n % 16) 8 != 0) (bits .and .i64 (n % 16) 1 != 0) (bits .and .i64 (n % 16 / 2) 3)))
  have CP := Lib.hid (canpub_any (PK.barePk 3 (bits .and .i64 (n % 16) 8 != 0) (bits .and .i64 (n % 16) 1 != 0) (bits .and .i64 (n % 16 / 2) 3)) (.slice none 0 0) (.slice none 0 0) (.slice none 0 0) (.slice none 0 0) (.slice none 0 0))
  have Z2 : Hid (((w.alloc (.cells (pkNil PK.zeroPk) 45)).alloc (.cells (pkNil PK.zeroPk) 45)).heap[w.heap.size + 1]? = some (.cells (pkNil PK.zeroPk) 45 (0, 0))) := Lib.hid (by
    rw [show w.heap.size + 1 = (w.alloc (.cells (pkNil PK.zeroPk) 45)).heap.size by simp]; exact heap_alloc_new _ _)
  have Z1 : Hid (((w.alloc (.cells (pkNil PK.zeroPk) 45)).alloc (.cells (pkNil PK.zeroPk) 45)).heap[w.heap.size]? = some (.cells (pkNil PK.zeroPk) 45 (0, 0))) := Lib.hid ((Below.heap_alloc _ _ _ (lt_heap Z.out)).trans Z.out)
  have HB2 : Hid (Below w.heap.size w ((w.alloc (.cells (pkNil PK.zeroPk) 45)).alloc (.cells (pkNil PK.zeroPk) 45))) := Lib.hid (HB.out.alloc (by simp) _)
  generalize e8 : (bits .and .i64 (n % 16) 8 != 0) = b8 at *
  generalize e1 : (bits .and .i64 (n % 16) 1 != 0) = b1 at *
  generalize e3 : bits .and .i64 (n % 16 / 2) 3 = q3 at *
  clear Z HB
  go_enter Tryz.func32, Tryz.ntmps32
  go_upto_region 5 with (refine wpList_store_row (by rfl) 45 (.tmp 6) (.tmp 35) (by rfl) (w.heap.size + 1) (pkNil (PK.barePk 3 b8 b1 q3)) (by rfl) (by rfl) 45 (pkNil PK.zeroPk) Z2.out pk_info rfl O1.out ?_)
  obtain ⟨wA, hwA⟩ : ∃ wA, wA = ((w.alloc (.cells (pkNil PK.zeroPk) 45)).alloc (.cells (pkNil PK.zeroPk) 45)).setRow (w.heap.size + 1) (pkNil (PK.barePk 3 b8 b1 q3)) := ⟨_, rfl⟩
  have X1 : wA.heap[w.heap.size + 1]? = some (.cells (pkNil (PK.barePk 3 b8 b1 q3)) 45 (0, 0)) := by rw [hwA]; exact setRow_heap Z2.out
  have X0 : wA.heap[w.heap.size]? = some (.cells (pkNil PK.zeroPk) 45 (0, 0)) := by rw [hwA]; exact (setRow_other _ (by omega)).trans Z1.out
  have HBA : Hid (Below w.heap.size w wA) := Lib.hid (by rw [hwA]; exact below_setRow HB2.out (by omega) _)
  have hsA := HBA.out.size
  change Code.wp _ _ _ _ (((w.alloc (.cells (pkNil PK.zeroPk) 45)).alloc (.cells (pkNil PK.zeroPk) 45)).setRow (w.heap.size + 1) (pkNil (PK.barePk 3 b8 b1 q3)))
  rw [← hwA]
  clear hwA Z2 Z1 HB2
  -- REGION5
  refine wp_region_any (by kernel_rfl) ?_
  change wpAny _ _ _ _ _ _ _ (World.drew _)
  refine wpAny_ready (rs := [0, 1]) (by kernel_rfl) (by simp) ?_
  refine AllReady.cons rfl (fun K hK => ?_) (AllReady.cons rfl (fun K hK => ?_) AllReady.nil)
  · skip
    refine step_load_pk (by rfl) (.tmp 6) (by rfl) (w.heap.size + 1) (by rfl) X1 ?_
    refine hK _ _ ?_
    clear hK K
    refine wpAny_ready (rs := [1]) (by kernel_rfl) (by simp) (AllReady.cons rfl (fun K hK => ?_) AllReady.nil)
    refine step_load_pk (by rfl) (.tmp 6) (by rfl) (w.heap.size + 1) (by rfl) X1 ?_
    refine hK _ _ ?_
    clear hK K
    refine wpAny_ready (rs := [2]) (by kernel_rfl) (by simp) (AllReady.cons rfl (fun K hK => ?_) AllReady.nil)
    go_simp
    refine (CP.out _).mono ?_
    rintro e w1 ⟨rfl, bb⟩
    dsimp only
    have hb1 : Below wA.heap.size wA w1 := below_of_drew bb
    have Y0 := (hb1.block _ (lt_heap X0)).trans X0
    have Y1 := (hb1.block _ (lt_heap X1)).trans X1
    refine hK _ _ ?_
    clear hK K
    refine wpAny_ready (rs := [3]) (by kernel_rfl) (by simp) (AllReady.cons rfl (fun K hK => ?_) AllReady.nil)
    refine step_store_pk (by rfl) (.tmp 2) (.tmp 36) (by rfl) w.heap.size (pkNil (PK.barePk 3 b8 b1 q3)) (by rfl) (by rfl) Y0 pk_info rfl O1.out ?_
    refine hK _ _ ?_
    clear hK K
    refine wpAny_ready (rs := [4]) (by kernel_rfl) (by simp) (AllReady.cons rfl (fun K hK => ?_) AllReady.nil)
    go_simp
    refine hK _ _ ?_
    clear hK K
    refine wpAny_done (by kernel_rfl) ?_ _
    have Z3 : Hid ((w1.setRow w.heap.size (pkNil (PK.barePk 3 b8 b1 q3))).heap[w.heap.size]? = some (.cells (pkNil (PK.barePk 3 b8 b1 q3)) 45 (0, 0))) := Lib.hid (setRow_heap Y0)
    have B3 : Hid (Below w.heap.size w (w1.setRow w.heap.size (pkNil (PK.barePk 3 b8 b1 q3)))) := Lib.hid (below_setRow (HBA.out.trans (hb1.mono hsA)) (Nat.le_refl _) _)
    have hl := load_pk_var (P := (PK.barePk 3 b8 b1 q3)) (vc := .slice none 0 0) (vp := .slice none 0 0) (vw := .slice none 0 0) (vs := .slice none 0 0) (vf := .slice none 0 0) Z3.out
    clear Y0 Y1 X0 X1 bb hb1
    go_wp2_with fail
    refine bodyPost_ret (v := .tuple #[.agg (pkNil (PK.barePk 3 b8 b1 q3)), .bool (PK.canPub (PK.barePk 3 b8 b1 q3))]) ?_ rfl ⟨rfl, B3.out⟩
    simp only [results, Tryz.results32]
    simp
    exact read_two hl
  · skip
    refine step_load_pk (by rfl) (.tmp 6) (by rfl) (w.heap.size + 1) (by rfl) X1 ?_
    refine hK _ _ ?_
    clear hK K
    refine wpAny_ready (rs := [0, 2]) (by kernel_rfl) (by simp) ?_
    refine AllReady.cons rfl (fun K hK => ?_) (AllReady.cons rfl (fun K hK => ?_) AllReady.nil)
    · skip
      refine step_load_pk (by rfl) (.tmp 6) (by rfl) (w.heap.size + 1) (by rfl) X1 ?_
      refine hK _ _ ?_
      clear hK K
      refine wpAny_ready (rs := [2]) (by kernel_rfl) (by simp) (AllReady.cons rfl (fun K hK => ?_) AllReady.nil)
      go_simp
      refine (CP.out _).mono ?_
      rintro e w1 ⟨rfl, bb⟩
      dsimp only
      have hb1 : Below wA.heap.size wA w1 := below_of_drew bb
      have Y0 := (hb1.block _ (lt_heap X0)).trans X0
      have Y1 := (hb1.block _ (lt_heap X1)).trans X1
      refine hK _ _ ?_
      clear hK K
      refine wpAny_ready (rs := [3]) (by kernel_rfl) (by simp) (AllReady.cons rfl (fun K hK => ?_) AllReady.nil)
      refine step_store_pk (by rfl) (.tmp 2) (.tmp 36) (by rfl) w.heap.size (pkNil (PK.barePk 3 b8 b1 q3)) (by rfl) (by rfl) Y0 pk_info rfl O1.out ?_
      refine hK _ _ ?_
      clear hK K
      refine wpAny_ready (rs := [4]) (by kernel_rfl) (by simp) (AllReady.cons rfl (fun K hK => ?_) AllReady.nil)
      go_simp
      refine hK _ _ ?_
      clear hK K
      refine wpAny_done (by kernel_rfl) ?_ _
      have Z3 : Hid ((w1.setRow w.heap.size (pkNil (PK.barePk 3 b8 b1 q3))).heap[w.heap.size]? = some (.cells (pkNil (PK.barePk 3 b8 b1 q3)) 45 (0, 0))) := Lib.hid (setRow_heap Y0)
      have B3 : Hid (Below w.heap.size w (w1.setRow w.heap.size (pkNil (PK.barePk 3 b8 b1 q3)))) := Lib.hid (below_setRow (HBA.out.trans (hb1.mono hsA)) (Nat.le_refl _) _)
      have hl := load_pk_var (P := (PK.barePk 3 b8 b1 q3)) (vc := .slice none 0 0) (vp := .slice none 0 0) (vw := .slice none 0 0) (vs := .slice none 0 0) (vf := .slice none 0 0) Z3.out
      clear Y0 Y1 X0 X1 bb hb1
      go_wp2_with fail
      refine bodyPost_ret (v := .tuple #[.agg (pkNil (PK.barePk 3 b8 b1 q3)), .bool (PK.canPub (PK.barePk 3 b8 b1 q3))]) ?_ rfl ⟨rfl, B3.out⟩
      simp only [results, Tryz.results32]
      simp
      exact read_two hl
    · skip
      go_simp
      refine (CP.out _).mono ?_
      rintro e w1 ⟨rfl, bb⟩
      dsimp only
      have hb1 : Below wA.heap.size wA w1 := below_of_drew bb
      have Y0 := (hb1.block _ (lt_heap X0)).trans X0
      have Y1 := (hb1.block _ (lt_heap X1)).trans X1
      refine hK _ _ ?_
      clear hK K
      refine wpAny_ready (rs := [0]) (by kernel_rfl) (by simp) (AllReady.cons rfl (fun K hK => ?_) AllReady.nil)
      refine step_load_pk (by rfl) (.tmp 6) (by rfl) (w.heap.size + 1) (by rfl) Y1 ?_
      refine hK _ _ ?_
      clear hK K
      refine wpAny_ready (rs := [3]) (by kernel_rfl) (by simp) (AllReady.cons rfl (fun K hK => ?_) AllReady.nil)
      refine step_store_pk (by rfl) (.tmp 2) (.tmp 36) (by rfl) w.heap.size (pkNil (PK.barePk 3 b8 b1 q3)) (by rfl) (by rfl) Y0 pk_info rfl O1.out ?_
      refine hK _ _ ?_
      clear hK K
      refine wpAny_ready (rs := [4]) (by kernel_rfl) (by simp) (AllReady.cons rfl (fun K hK => ?_) AllReady.nil)
      go_simp
      refine hK _ _ ?_
      clear hK K
      refine wpAny_done (by kernel_rfl) ?_ _
      have Z3 : Hid ((w1.setRow w.heap.size (pkNil (PK.barePk 3 b8 b1 q3))).heap[w.heap.size]? = some (.cells (pkNil (PK.barePk 3 b8 b1 q3)) 45 (0, 0))) := Lib.hid (setRow_heap Y0)
      have B3 : Hid (Below w.heap.size w (w1.setRow w.heap.size (pkNil (PK.barePk 3 b8 b1 q3)))) := Lib.hid (below_setRow (HBA.out.trans (hb1.mono hsA)) (Nat.le_refl _) _)
      have hl := load_pk_var (P := (PK.barePk 3 b8 b1 q3)) (vc := .slice none 0 0) (vp := .slice none 0 0) (vw := .slice none 0 0) (vs := .slice none 0 0) (vf := .slice none 0 0) Z3.out
      clear Y0 Y1 X0 X1 bb hb1
      go_wp2_with fail
      refine bodyPost_ret (v := .tuple #[.agg (pkNil (PK.barePk 3 b8 b1 q3)), .bool (PK.canPub (PK.barePk 3 b8 b1 q3))]) ?_ rfl ⟨rfl, B3.out⟩
      simp only [results, Tryz.results32]
      simp
      exact read_two hl
end Go.Proofs.YtemfcaaoobjgkaaGreatDoor
namespace Go.Proofs.YtemfcaaoobjgkaaGreatDoor
open Go.RowKit
attribute [local go_sem ↓] Go.wp_at_zero Go.wp_at_succ

theorem WhP.mono {r : Nat} {w W : World} {X : Pk × Int} {e : Ending} {w' : World} (hg : Gr r w W) (h : WhP r W X e w') : WhP r w X e w' := by
  refine ⟨fun h0 => ?_, fun h0 => ?_⟩
  · obtain ⟨vc, vp, vw, vs, vf, he, ho, hg'⟩ := h.1 h0
    have b := fun {e : TypeId} {k : Nat} {v : Value} {n : Nat} {xs : List Value} (ho : w'.ownsRow W.heap.size e k v n xs) => own_base' ho hg.size
    exact ⟨vc, vp, vw, vs, vf, he, ⟨b ho.codes, b ho.props, b ho.wprops, b ho.subs, b ho.filters⟩, hg.trans hg'⟩
  · obtain ⟨he, hg'⟩ := h.2 h0
    exact ⟨he, hg.trans hg'⟩

set_option maxRecDepth 100000 in
set_option maxHeartbeats 2000000 in
theorem getfn_any (r pb : Nat) (s : ByteArray) (a : Int) (P : Pk) (w : World) (hk1 : 1 ≤ P.kind) (hk2 : P.kind ≤ 15) (hB : Bare P) (h : RdAt r s a w) (hp : w.heap[pb]? = some (.cells (pkNil P) 45 (0, 0))) (hs : s.size ≤ 140737488351232) (hT : ∀ W, Gr r w W → Tabs W) :
    Calls Tryz.prog 36 #[.pointer (some ⟨r, 0, none⟩), .pointer (some ⟨pb, 0, none⟩)] w (WhP r w (PK.rdWhole s a P)) := by
  have b1 := (Below.refl w.heap.size w).alloc (Nat.le_refl _) (.cells (pkNil PK.zeroPk) 45)
  have B1 : (w.alloc (.cells (pkNil PK.zeroPk) 45)).heap[w.heap.size]? = some (.cells (pkNil PK.zeroPk) 45 (0, 0)) := heap_alloc_new w _
  have G0 : Gr r w (w.alloc (.cells (pkNil PK.zeroPk) 45)) := Gr.of_below b1
  have P1 := Lib.hid ((b1.block _ (lt_heap hp)).trans hp)
  have hlt := lt_heap h
  have C1 := Lib.hid (rwhole_any r s a P _ hk1 hk2 hB (h.below b1) hs (fun W hg => hT W (G0.trans hg)))
  have HG0 := Lib.hid G0
  have HB1 := Lib.hid B1
  have hsz : (w.alloc (.cells (pkNil PK.zeroPk) 45)).heap.size = w.heap.size + 1 := by simp
  have HSZ := Lib.hid hsz
  generalize PK.rdWhole s a P = X at *
  clear b1 B1 G0 hp h hT hk1 hk2 hB hsz
  go_enter Tryz.func36, Tryz.ntmps36
  go_wp2_with (refine wpl_load_pk (by rfl) (.tmp 1) (by rfl) pb (by rfl) P1.out ?_)
  refine C1.out.mono ?_
  rintro e w1 hR
  by_cases h1 : X.2 = 0
  · obtain ⟨vc, vp, vw, vs, vf, rfl, o1, g1⟩ := hR.1 h1
    have Z1 := Lib.hid ((g1.block _ (lt_heap HB1.out) (fun e => by injection e with e; omega)).trans HB1.out)
    have G1 := Lib.hid (HG0.out.trans g1)
    have O1 := Lib.hid o1
    have W1 := Lib.hid (pk_one X.1 o1)
    clear hR o1 g1 C1
    go_wp2_with (refine wpList_store_row (by rfl) 45 (.tmp 2) (.tmp 4) (by rfl) w.heap.size (pkCells X.1 vc vp vw vs vf) (by rfl) (by rfl) 45 (pkNil PK.zeroPk) Z1.out pk_info rfl W1.out ?_)
    have Z3 := setRow_heap (cs := pkCells X.1 vc vp vw vs vf) Z1.out
    refine bodyPost_ret (v := .agg (pkCells X.1 vc vp vw vs vf)) ?_ rfl ?_
    · have hl : (loadVar 45 ⟨w.heap.size, 0, none⟩).run Tryz.prog (w1.setRow w.heap.size (pkCells X.1 vc vp vw vs vf)) = .ok (.agg (pkCells X.1 vc vp vw vs vf)) (w1.setRow w.heap.size (pkCells X.1 vc vp vw vs vf)) :=
        run_loadVar_mid _ w.heap.size 0 45 (pkCells X.1 vc vp vw vs vf).toList _ (fun j v hv => by rw [Nat.zero_add, cell_heap Z3, ← hv]; simp) Tryz.underlying45 rfl (by kernel_rfl)
      simp [results, Tryz.results36, Act.put]
      exact hl
    · refine ⟨fun _ => ⟨_, _, _, _, _, rfl, ?_, G1.out.setRow (Nat.le_refl _) _⟩, fun h => absurd h1 h⟩
      have hz := HSZ.out
      have n5 := fun {e : TypeId} {k : Nat} {v : Value} {n : Nat} {xs : List Value} (ho : w1.ownsRow (w.alloc (.cells (pkNil PK.zeroPk) 45)).heap.size e k v n xs) => own_base' (C := w.heap.size) (own_setRow (g := w.heap.size) (pkCells X.1 vc vp vw vs vf) ho (row_ne ho (by omega))) (by omega)
      exact ⟨n5 O1.out.codes, n5 O1.out.props, n5 O1.out.wprops, n5 O1.out.subs, n5 O1.out.filters⟩
  · obtain ⟨rfl, g1⟩ := hR.2 h1
    exact ⟨rfl, fun h => absurd h h1, fun _ => ⟨rfl, HG0.out.trans g1⟩⟩
end Go.Proofs.YtemfcaaoobjgkaaGreatDoor
namespace Go.Proofs.YtemfcaaoobjgkaaGreatDoor
open Go.RowKit
attribute [local go_sem ↓] Go.wp_at_zero Go.wp_at_succ

theorem caught_world {p q : Nat} {cs : Array Value} {x c : Int} {w : World} (hpq : p ≠ q) (hp : w.heap[p]? = some (.cells cs 45 (0, 0))) (hq : w.heap[q]? = some (.cells #[.int .u8 x] 30 (0, 0))) (o : Obj) :
    ((((w.setRow p (pkNil PK.zeroPk)).setCell ⟨q, 0, none⟩ (.int .u8 128)).setCell ⟨q, 0, none⟩ (.int .u8 c)).alloc o).heap[p]? = some (.cells (pkNil PK.zeroPk) 45 (0, 0)) ∧
    ((((w.setRow p (pkNil PK.zeroPk)).setCell ⟨q, 0, none⟩ (.int .u8 128)).setCell ⟨q, 0, none⟩ (.int .u8 c)).alloc o).heap[q]? = some (.cells #[.int .u8 c] 30 (0, 0)) ∧
    G2 p q w ((((w.setRow p (pkNil PK.zeroPk)).setCell ⟨q, 0, none⟩ (.int .u8 128)).setCell ⟨q, 0, none⟩ (.int .u8 c)).alloc o) := by
  have e1 : (w.setRow p (pkNil PK.zeroPk)).heap[q]? = some (.cells #[.int .u8 x] 30 (0, 0)) := (setRow_other _ (Ne.symm hpq)).trans hq
  have e2 := one_setCell (u := .int .u8 128) e1
  have e3 := one_setCell (u := .int .u8 c) e2
  have hz : (((w.setRow p (pkNil PK.zeroPk)).setCell ⟨q, 0, none⟩ (.int .u8 128)).setCell ⟨q, 0, none⟩ (.int .u8 c)).heap.size = w.heap.size := by simp [World.setCell, World.setRow]
  have other : ∀ i, i ≠ q → (((w.setRow p (pkNil PK.zeroPk)).setCell ⟨q, 0, none⟩ (.int .u8 128)).setCell ⟨q, 0, none⟩ (.int .u8 c)).heap[i]? = (w.setRow p (pkNil PK.zeroPk)).heap[i]? := fun i hi => (Below.heap_setCell _ _ _ _ (fun e => hi (by simpa using e))).trans (Below.heap_setCell _ _ _ _ (fun e => hi (by simpa using e)))
  refine ⟨(Below.heap_alloc _ _ _ (by rw [hz]; exact lt_heap hp)).trans ((other p hpq).trans (setRow_heap hp)), (Below.heap_alloc _ _ _ (by rw [hz]; exact lt_heap hq)).trans e3, rfl, rfl, rfl, by simp, fun i hi h1 h2 => (Below.heap_alloc _ _ _ (by rw [hz]; exact hi)).trans ((other i h2).trans (setRow_other _ h1))⟩
theorem taU (v : Value) (xT : TypeId) (w : World) : (Instr.typeAssert (.iface 136 v) xT 136 true).run Tryz.prog w = .ok (.tuple #[v, .bool true]) w := by kernel_rfl

set_option maxRecDepth 100000 in
set_option maxHeartbeats 2000000 in
theorem catch_left (p q : Nat) (cs : Array Value) (x c : Int) (older : List PanicEntry) (w : World) (hpq : p ≠ q) (hcs : cs.size = 26) (hp : w.heap[p]? = some (.cells cs 45 (0, 0))) (hq : w.heap[q]? = some (.cells #[.int .u8 x] 30 (0, 0))) :
    CallsD Tryz.prog 64 #[.pointer (some ⟨p, 0, none⟩), .pointer (some ⟨q, 0, none⟩)] (.panicking ({ v := .iface 136 (.agg #[.int .u8 c]), recovered := false } :: older)) w fun e u' w' =>
      e = .returned (.tuple #[]) ∧ u' = .panicking ({ v := .iface 136 (.agg #[.int .u8 c]), recovered := true } :: older) ∧
        w'.heap[p]? = some (.cells (pkNil PK.zeroPk) 45 (0, 0)) ∧ w'.heap[q]? = some (.cells #[.int .u8 c] 30 (0, 0)) ∧ G2 p q w w' := by
  refine callsD_of_wpS Tryz.func64 rfl fun c₀ cs₀ hu => ?_
  apply wpS_seq
  apply wpS_region
  simp [wpOpsS, go_sem, recoverD, hu, Tryz.ntmps64, Exit.thenS]
  refine wpS_of_wp ?_
  have hta := taU (.agg #[.int .u8 c]) 20
  have hlq := lt_heap hq
  have hs1 : (w.setRow p (pkNil PK.zeroPk)).heap.size = w.heap.size := by simp [World.setRow]
  have Q0 := Lib.hid (setRow_heap (cs := pkNil PK.zeroPk) hp)
  have q1 : (w.setRow p (pkNil PK.zeroPk)).cell? ⟨q, 0, none⟩ = some (.int .u8 x) := by rw [cell_heap ((setRow_other _ (Ne.symm hpq)).trans hq)]; rfl
  have f1 : (w.setRow p (pkNil PK.zeroPk)).frozen? ⟨q, 0, none⟩ = false := frozen_heap ((setRow_other _ (Ne.symm hpq)).trans hq)
  have O1 := Lib.hid (pkNil_one PK.zeroPk)
  change Code.wp _ _ _ { tmps := #[.pointer (some ⟨p, 0, none⟩), .pointer (some ⟨q, 0, none⟩), .iface 136 (.agg #[.int .u8 c]), undef, undef, .iface 136 (.agg #[.int .u8 c]), undef, undef, undef, undef, undef, undef, undef, undef, undef, undef, undef], defers := [] } w
  go_wp2_with (refine wpList_store_row (by rfl) 45 (.tmp 0) (.tmp 8) (by rfl) p (pkNil PK.zeroPk) (by rfl) (by rfl) 45 cs hp pk_info hcs O1.out ?_)
  obtain ⟨r1, r2, r3⟩ := caught_world (c := c) (x := x) hpq hp hq (.cells #[.int .u8 c] 136)
  generalize ((((w.setRow p (pkNil PK.zeroPk)).setCell ⟨q, 0, none⟩ (.int .u8 128)).setCell ⟨q, 0, none⟩ (.int .u8 c)).alloc (.cells #[.int .u8 c] 136)) = W' at r1 r2 r3 ⊢
  simp [bodyPostS, results, Tryz.results64, r1, r2, r3]

set_option maxRecDepth 100000 in
theorem catch_none (p q : Nat) (w : World) :
    CallsD Tryz.prog 64 #[.pointer (some ⟨p, 0, none⟩), .pointer (some ⟨q, 0, none⟩)] .returning w fun e u' w' => e = .returned (.tuple #[]) ∧ u' = .returning ∧ w' = w := by
  refine callsD_of_wpS Tryz.func64 rfl fun c₀ cs hu => ?_
  apply wpS_seq
  apply wpS_region
  simp [wpOpsS, go_sem, recoverD, hu, Tryz.ntmps64, Exit.thenS]
  refine wpS_of_wp ?_
  change Code.wp _ _ _ { tmps := #[.pointer (some ⟨p, 0, none⟩), .pointer (some ⟨q, 0, none⟩), .nilIface, undef, undef, .nilIface, undef, undef, undef, undef, undef, undef, undef, undef, undef, undef, undef], defers := [] } w
  go_wp2
  cases c₀
  simp_all [bodyPostS, results, Tryz.results64]
theorem load_code_var {w : World} {q : Nat} {c : Int} (h : w.heap[q]? = some (.cells #[.int .u8 c] 30 (0, 0))) :
    (loadVar 30 ⟨q, 0, none⟩).run Tryz.prog w = .ok (.int .u8 c) w := by
  have hc : w.cell? ⟨q, 0, none⟩ = some (.int .u8 c) := by rw [cell_heap h]; rfl
  simp [go_sem, hc]
set_option maxRecDepth 100000 in
theorem read_both {w : World} {p q : Nat} {P : Pk} {vc vp vw vs vf : Value} {c : Int} (hp : w.heap[p]? = some (.cells (pkCells P vc vp vw vs vf) 45 (0, 0))) (hq : w.heap[q]? = some (.cells #[.int .u8 c] 30 (0, 0))) :
    ((Sem.run Tryz.prog (asAddr (.pointer (some ⟨p, 0, none⟩))) w).andThen fun a w' => (Sem.run Tryz.prog (loadVar 45 a) w').andThen fun a w' =>
      (Sem.run Tryz.prog (asAddr (.pointer (some ⟨q, 0, none⟩))) w').andThen fun a_1 w' => (Sem.run Tryz.prog (loadVar 30 a_1) w').andThen fun a_2 w' => Result.ok (Value.tuple #[a, a_2]) w') = .ok (.tuple #[.agg (pkCells P vc vp vw vs vf), .int .u8 c]) w := by
  show ((Sem.run Tryz.prog (loadVar 45 ⟨p, 0, none⟩) w).andThen _) = _
  rw [load_pk_var hp]
  show ((Sem.run Tryz.prog (loadVar 30 ⟨q, 0, none⟩) w).andThen _) = _
  rw [load_code_var hq]
  rfl
/-- What caught answers. -/
def CaP (r : Nat) (w : World) (X : Pk × Int) (e : Ending) (w' : World) : Prop :=
  (X.2 = 0 → ∃ vc vp vw vs vf, e = .returned (.tuple #[.agg (pkCells X.1 vc vp vw vs vf), .int .u8 0]) ∧ Own5 w.heap.size X.1 vc vp vw vs vf w' ∧ Gr r w w') ∧ (X.2 ≠ 0 → e = .returned (.tuple #[.agg (pkNil PK.zeroPk), .int .u8 X.2]) ∧ Gr r w w')

set_option maxRecDepth 100000 in
set_option maxHeartbeats 2000000 in
theorem caught_any (r : Nat) (cap : Array Value) (X : Pk × Int) (w : World) (hr : r < w.heap.size)
    (hC : ∀ W, Below w.heap.size w W → Calls Tryz.prog 36 cap W (WhP r W X)) :
    Calls Tryz.prog 35 #[.func (.func 36) #[] cap] w (CaP r w X) := by
  have hmf : ∀ (fn : Fn) (first cap : Array Value) (w : World), (Instr.makeFunc fn first cap).run Tryz.prog w = .ok (.func fn first cap) w := fun _ _ _ _ => rfl
  have b1 := (Below.refl w.heap.size w).alloc (Nat.le_refl _) (.cells (pkNil PK.zeroPk) 45)
  have hsz : (w.alloc (.cells (pkNil PK.zeroPk) 45)).heap.size = w.heap.size + 1 := by simp
  have b2 := b1.alloc (by omega) (.cells #[.int .u8 0] 30)
  have P1 : (w.alloc (.cells (pkNil PK.zeroPk) 45)).heap[w.heap.size]? = some (.cells (pkNil PK.zeroPk) 45 (0, 0)) := heap_alloc_new w _
  have P2 : ((w.alloc (.cells (pkNil PK.zeroPk) 45)).alloc (.cells #[.int .u8 0] 30)).heap[w.heap.size]? = some (.cells (pkNil PK.zeroPk) 45 (0, 0)) := (Below.heap_alloc _ _ _ (lt_heap P1)).trans P1
  have Q2 : ((w.alloc (.cells (pkNil PK.zeroPk) 45)).alloc (.cells #[.int .u8 0] 30)).heap[w.heap.size + 1]? = some (.cells #[.int .u8 0] 30 (0, 0)) := by rw [← hsz]; exact heap_alloc_new _ _
  have C1 := Lib.hid (hC _ b2)
  have hs2 : ((w.alloc (.cells (pkNil PK.zeroPk) 45)).alloc (.cells #[.int .u8 0] 30)).heap.size = w.heap.size + 2 := by simp
  have HB2 := Lib.hid b2
  have HP2 := Lib.hid P2
  have HQ2 := Lib.hid Q2
  have HS2 := Lib.hid hs2
  clear b1 b2 P1 P2 Q2 hs2 hsz hC
  go_enter_defers Tryz.func35, Tryz.ntmps35
  go_wp2_with fail
  refine C1.out.mono ?_
  rintro e w1 hR
  by_cases h1 : X.2 = 0
  · obtain ⟨vc, vp, vw, vs, vf, rfl, o1, g1⟩ := hR.1 h1
    have p1 := (g1.block _ (lt_heap HP2.out) (fun e => by injection e with e; omega)).trans HP2.out
    have q1 := (g1.block _ (lt_heap HQ2.out) (fun e => by injection e with e; omega)).trans HQ2.out
    have W1 := Lib.hid (pk_one X.1 o1)
    have HPP := Lib.hid p1
    have c1 : (w1.setRow w.heap.size (pkCells X.1 vc vp vw vs vf)).cell? ⟨w.heap.size + 1, 0, none⟩ = some (.int .u8 0) := by rw [cell_heap ((setRow_other _ (by omega)).trans q1)]; rfl
    have f1 : (w1.setRow w.heap.size (pkCells X.1 vc vp vw vs vf)).frozen? ⟨w.heap.size + 1, 0, none⟩ = false := frozen_heap ((setRow_other _ (by omega)).trans q1)
    clear hR C1
    go_wp2_with (refine wpList_store_row (by rfl) 45 (.tmp 2) (.tmp 6) (by rfl) w.heap.size (pkCells X.1 vc vp vw vs vf) (by rfl) (by rfl) 45 (pkNil PK.zeroPk) HPP.out pk_info rfl W1.out ?_)
    refine leaves_cons (f := 64) (args := #[.pointer (some ⟨w.heap.size, 0, none⟩), .pointer (some ⟨w.heap.size + 1, 0, none⟩)]) (by simp) (by simp [go_sem]) ?_
    refine (catch_none _ _ _).mono ?_
    rintro e u' w'' ⟨rfl, rfl, rfl⟩
    simp [Leaves, settle, results, Tryz.results35]
    have hp' := setRow_heap (cs := pkCells X.1 vc vp vw vs vf) HPP.out
    have hq' := one_setCell (u := .int .u8 0) ((setRow_other (g := w.heap.size) (pkCells X.1 vc vp vw vs vf) (by omega)).trans q1)
    refine ⟨_, read_both ((Below.heap_setCell _ _ _ _ (fun e => by simp at e)).trans hp') hq', fun _ => ⟨_, _, _, _, _, rfl, ?_, ?_⟩, fun h => absurd h1 h⟩
    · have hz := HS2.out
      have n5 := fun {e : TypeId} {k : Nat} {v : Value} {n : Nat} {xs : List Value} (ho : w1.ownsRow ((w.alloc (.cells (pkNil PK.zeroPk) 45)).alloc (.cells #[.int .u8 0] 30)).heap.size e k v n xs) => own_base' (C := w.heap.size) (ownsRow_setCell_other (own_setRow (g := w.heap.size) (pkCells X.1 vc vp vw vs vf) ho (row_ne ho (by omega))) (a := ⟨w.heap.size + 1, 0, none⟩) (row_ne (r := w.heap.size + 1) ho (by omega)) (.int .u8 0)) (by omega)
      exact ⟨n5 o1.codes, n5 o1.props, n5 o1.wprops, n5 o1.subs, n5 o1.filters⟩
    · exact (((Gr.of_below HB2.out).trans g1).setRow (Nat.le_refl _) _).setNew (by omega) 0 _
  · obtain ⟨rfl, g1⟩ := hR.2 h1
    have p1 := (g1.block _ (lt_heap HP2.out) (fun e => by injection e with e; omega)).trans HP2.out
    have q1 := (g1.block _ (lt_heap HQ2.out) (fun e => by injection e with e; omega)).trans HQ2.out
    change bodyPostD _ _ _ (Exit.panic [{ v := .iface 136 (.agg #[.int .u8 X.2]), recovered := false }]) _ _
    refine leaves_cons (f := 64) (args := #[.pointer (some ⟨w.heap.size, 0, none⟩), .pointer (some ⟨w.heap.size + 1, 0, none⟩)]) (by simp) (by simp [go_sem]) ?_
    refine (catch_left w.heap.size (w.heap.size + 1) (pkNil PK.zeroPk) 0 X.2 [] w1 (by omega) rfl p1 q1).mono ?_
    rintro e u' w'' ⟨rfl, rfl, r1, r2, r3⟩
    simp [Leaves, settle, results, Tryz.results35]
    refine ⟨_, read_both (P := PK.zeroPk) (vc := .slice none 0 0) (vp := .slice none 0 0) (vw := .slice none 0 0) (vs := .slice none 0 0) (vf := .slice none 0 0) r1 r2, fun h => absurd h h1, fun _ => ⟨rfl, ?_⟩⟩
    have g0 := (Gr.of_below (r := r) HB2.out).trans g1
    exact ⟨r3.os.trans g0.os, r3.tape.trans g0.tape, r3.output.trans g0.output, Nat.le_trans g0.size r3.size, fun i hi hne => (r3.block i (Nat.lt_of_lt_of_le hi g0.size) (by omega) (by omega)).trans (g0.block i hi hne)⟩
end Go.Proofs.YtemfcaaoobjgkaaGreatDoor
namespace Go.Proofs.YtemfcaaoobjgkaaGreatDoor
namespace VP

theorem got1 (s : ByteArray) (k : Nat) (a : Int) (h : k < s.size) (b0 : ((s[k]'(by omega)).toNat : Int) = a) (hl : a < 128) (hz : sz (0 + a) = 1) :
    get s k = (0 + a, (k : Int) + 1, 0) := by
  rw [get_in s k (by omega)]
  rw [last0 s k _ h (by omega) (by rw [b0]; exact hz), b0]

theorem got2 (s : ByteArray) (k : Nat) (a b : Int) (h : k + 1 < s.size) (b0 : ((s[k]'(by omega)).toNat : Int) = a) (b1 : ((s[k + 1]'(by omega)).toNat : Int) = b) (h0 : 128 ≤ a) (hl : b < 128) (hz : sz (0 + (a - 128) + b * 128) = 2) :
    get s k = (0 + (a - 128) + b * 128, (k : Int) + 1 + 1, 0) := by
  rw [get_in s k (by omega)]
  rw [more0 s k _ (by omega) (by omega), b0]
  rw [last1 s k _ h (by omega) (by rw [b1]; exact hz), b1]

theorem got3 (s : ByteArray) (k : Nat) (a b c : Int) (h : k + 2 < s.size) (b0 : ((s[k]'(by omega)).toNat : Int) = a) (b1 : ((s[k + 1]'(by omega)).toNat : Int) = b) (b2 : ((s[k + 2]'(by omega)).toNat : Int) = c) (h0 : 128 ≤ a) (h1 : 128 ≤ b) (hl : c < 128) (hz : sz (0 + (a - 128) + (b - 128) * 128 + c * 16384) = 3) :
    get s k = (0 + (a - 128) + (b - 128) * 128 + c * 16384, (k : Int) + 2 + 1, 0) := by
  rw [get_in s k (by omega)]
  rw [more0 s k _ (by omega) (by omega), b0]
  rw [more1 s k _ (by omega) (by omega), b1]
  rw [last2 s k _ h (by omega) (by rw [b2]; exact hz), b2]

theorem got4 (s : ByteArray) (k : Nat) (a b c d : Int) (h : k + 3 < s.size) (b0 : ((s[k]'(by omega)).toNat : Int) = a) (b1 : ((s[k + 1]'(by omega)).toNat : Int) = b) (b2 : ((s[k + 2]'(by omega)).toNat : Int) = c) (b3 : ((s[k + 3]'(by omega)).toNat : Int) = d) (h0 : 128 ≤ a) (h1 : 128 ≤ b) (h2 : 128 ≤ c) (hl : d < 128) (hz : sz (0 + (a - 128) + (b - 128) * 128 + (c - 128) * 16384 + d * 2097152) = 4) :
    get s k = (0 + (a - 128) + (b - 128) * 128 + (c - 128) * 16384 + d * 2097152, (k : Int) + 3 + 1, 0) := by
  rw [get_in s k (by omega)]
  rw [more0 s k _ (by omega) (by omega), b0]
  rw [more1 s k _ (by omega) (by omega), b1]
  rw [more2 s k _ (by omega) (by omega), b2]
  rw [last3 s k _ h (by omega) (by rw [b3]; exact hz), b3]

theorem sz_inv1 {x : Int} (h : sz x = 1) : 0 ≤ x ∧ x < 128 := by unfold sz at h; repeat' split at h; all_goals omega
theorem sz_inv2 {x : Int} (h : sz x = 2) : 128 ≤ x ∧ x < 16384 := by unfold sz at h; repeat' split at h; all_goals omega
theorem sz_inv3 {x : Int} (h : sz x = 3) : 16384 ≤ x ∧ x < 2097152 := by unfold sz at h; repeat' split at h; all_goals omega
theorem sz_inv4 {x : Int} (h : sz x = 4) : 2097152 ≤ x ∧ x ≤ 268435455 := by unfold sz at h; repeat' split at h; all_goals omega

theorem byte_lt (s : ByteArray) (k : Nat) (h : k < s.size) : ((s[k]'h).toNat : Int) < 256 := by
  have := (s[k]'h).toNat_lt
  omega

/-- What it is that a number was read of: its bytes, and no others. -/
def Read (s : ByteArray) (k : Nat) : Prop :=
  ∃ (x : Int) (m : Nat), 1 ≤ m ∧ k + m ≤ s.size ∧ 0 ≤ x ∧ x ≤ 268435455 ∧ (putL x).length = m ∧ get s k = (x, (k : Int) + m, 0) ∧
    ∀ i (h : k + i < s.size) (h' : i < (putL x).length), ((s[k + i]'h).toNat : Int) = (putL x)[i]

theorem read_got1 (s : ByteArray) (k : Nat) (a : Int) (h : k < s.size) (b0 : ((s[k]'(by omega)).toNat : Int) = a) (_h0 : 0 ≤ a) (hl : a < 128) (hz : sz (0 + a) = 1) : Read s k := by
  obtain ⟨r0, r1⟩ := sz_inv1 hz
  have hp := putL_1 r0 r1
  refine ⟨0 + a, 1, by omega, by omega, by omega, by omega, by rw [hp]; rfl, ?_, ?_⟩
  · rw [got1 s k a h b0 hl hz]
    simp
    try omega
  · intro j hj hj'
    simp only [hp]
    rw [hp] at hj'
    match j, hj' with
    | 0, _ => simp only [Nat.add_zero]; simp; omega

theorem read_got2 (s : ByteArray) (k : Nat) (a b : Int) (h : k + 1 < s.size) (b0 : ((s[k]'(by omega)).toNat : Int) = a) (b1 : ((s[k + 1]'(by omega)).toNat : Int) = b) (h0 : 128 ≤ a) (g0 : a < 256) (_h1 : 0 ≤ b) (hl : b < 128) (hz : sz (0 + (a - 128) + b * 128) = 2) : Read s k := by
  obtain ⟨r0, r1⟩ := sz_inv2 hz
  have hp := putL_2 r0 r1
  refine ⟨0 + (a - 128) + b * 128, 2, by omega, by omega, by omega, by omega, by rw [hp]; rfl, ?_, ?_⟩
  · rw [got2 s k a b h b0 b1 h0 hl hz]
    simp
    try omega
  · intro j hj hj'
    simp only [hp]
    rw [hp] at hj'
    match j, hj' with
    | 0, _ => simp only [Nat.add_zero]; simp; omega
    | 1, _ => simp; omega

theorem read_got3 (s : ByteArray) (k : Nat) (a b c : Int) (h : k + 2 < s.size) (b0 : ((s[k]'(by omega)).toNat : Int) = a) (b1 : ((s[k + 1]'(by omega)).toNat : Int) = b) (b2 : ((s[k + 2]'(by omega)).toNat : Int) = c) (h0 : 128 ≤ a) (g0 : a < 256) (h1 : 128 ≤ b) (g1 : b < 256) (_h2 : 0 ≤ c) (hl : c < 128) (hz : sz (0 + (a - 128) + (b - 128) * 128 + c * 16384) = 3) : Read s k := by
  obtain ⟨r0, r1⟩ := sz_inv3 hz
  have hp := putL_3 r0 r1
  refine ⟨0 + (a - 128) + (b - 128) * 128 + c * 16384, 3, by omega, by omega, by omega, by omega, by rw [hp]; rfl, ?_, ?_⟩
  · rw [got3 s k a b c h b0 b1 b2 h0 h1 hl hz]
    simp
    try omega
  · intro j hj hj'
    simp only [hp]
    rw [hp] at hj'
    match j, hj' with
    | 0, _ => simp only [Nat.add_zero]; simp; omega
    | 1, _ => simp; omega
    | 2, _ => simp; omega

theorem read_got4 (s : ByteArray) (k : Nat) (a b c d : Int) (h : k + 3 < s.size) (b0 : ((s[k]'(by omega)).toNat : Int) = a) (b1 : ((s[k + 1]'(by omega)).toNat : Int) = b) (b2 : ((s[k + 2]'(by omega)).toNat : Int) = c) (b3 : ((s[k + 3]'(by omega)).toNat : Int) = d) (h0 : 128 ≤ a) (g0 : a < 256) (h1 : 128 ≤ b) (g1 : b < 256) (h2 : 128 ≤ c) (g2 : c < 256) (_h3 : 0 ≤ d) (hl : d < 128) (hz : sz (0 + (a - 128) + (b - 128) * 128 + (c - 128) * 16384 + d * 2097152) = 4) : Read s k := by
  obtain ⟨r0, r1⟩ := sz_inv4 hz
  have hp := putL_4 r0 r1
  refine ⟨0 + (a - 128) + (b - 128) * 128 + (c - 128) * 16384 + d * 2097152, 4, by omega, by omega, by omega, by omega, by rw [hp]; rfl, ?_, ?_⟩
  · rw [got4 s k a b c d h b0 b1 b2 b3 h0 h1 h2 hl hz]
    simp
    try omega
  · intro j hj hj'
    simp only [hp]
    rw [hp] at hj'
    match j, hj' with
    | 0, _ => simp only [Nat.add_zero]; simp; omega
    | 1, _ => simp; omega
    | 2, _ => simp; omega
    | 3, _ => simp; omega

theorem get_inv (s : ByteArray) (k : Nat) (hk : k ≤ s.size) (hc : (get s k).2.2 = 0) : Read s k := by
  have hg := get_in s k hk
  by_cases l0 : k < s.size
  · have w0 := byte_lt s k l0
    by_cases c0 : ((s[k]'l0).toNat : Int) < 128
    · refine read_got1 s k _ l0 rfl (by omega) c0 ?_
      exact sz_1 (by omega) (by omega)
    · rw [more0 s k 0 l0 c0] at hg
      by_cases l1 : k + 1 < s.size
      · have w1 := byte_lt s (k + 1) l1
        by_cases c1 : ((s[k + 1]'l1).toNat : Int) < 128
        · by_cases hz : sz (0 + (((s[k]'l0).toNat : Int) - 128) + ((s[k + 1]'l1).toNat : Int) * 128) = 2
          · exact read_got2 s k _ _ l1 rfl rfl (by omega) w0 (by omega) c1 hz
          · rw [bad1 s k _ l1 c1 hz] at hg; rw [hg] at hc; exact absurd hc (by decide)
        · rw [more1 s k _ l1 c1] at hg
          by_cases l2 : k + 2 < s.size
          · have w2 := byte_lt s (k + 2) l2
            by_cases c2 : ((s[k + 2]'l2).toNat : Int) < 128
            · by_cases hz : sz (0 + (((s[k]'l0).toNat : Int) - 128) + (((s[k + 1]'l1).toNat : Int) - 128) * 128 + ((s[k + 2]'l2).toNat : Int) * 16384) = 3
              · exact read_got3 s k _ _ _ l2 rfl rfl rfl (by omega) w0 (by omega) w1 (by omega) c2 hz
              · rw [bad2 s k _ l2 c2 hz] at hg; rw [hg] at hc; exact absurd hc (by decide)
            · rw [more2 s k _ l2 c2] at hg
              by_cases l3 : k + 3 < s.size
              · have w3 := byte_lt s (k + 3) l3
                by_cases c3 : ((s[k + 3]'l3).toNat : Int) < 128
                · by_cases hz : sz (0 + (((s[k]'l0).toNat : Int) - 128) + (((s[k + 1]'l1).toNat : Int) - 128) * 128 + (((s[k + 2]'l2).toNat : Int) - 128) * 16384 + ((s[k + 3]'l3).toNat : Int) * 2097152) = 4
                  · exact read_got4 s k _ _ _ _ l3 rfl rfl rfl rfl (by omega) w0 (by omega) w1 (by omega) w2 (by omega) c3 hz
                  · rw [bad3 s k _ l3 c3 hz] at hg; rw [hg] at hc; exact absurd hc (by decide)
                · rw [more3 s k _ l3 c3, getG_0] at hg; rw [hg] at hc; exact absurd hc (by decide)
              · rw [ends3 s k _ l3] at hg; rw [hg] at hc; exact absurd hc (by decide)
          · rw [ends2 s k _ l2] at hg; rw [hg] at hc; exact absurd hc (by decide)
      · rw [ends1 s k _ l1] at hg; rw [hg] at hc; exact absurd hc (by decide)
  · rw [ends0 s k _ l0] at hg; rw [hg] at hc; exact absurd hc (by decide)

end VP
end Go.Proofs.YtemfcaaoobjgkaaGreatDoor
namespace Go.Proofs.YtemfcaaoobjgkaaGreatDoor
namespace ST
/-- How many bytes the packet has that stands whole at the beginning of s, and the code. -/
def first (s : ByteArray) (most : Int) : Int × Int :=
  if s.size = 0 then (0, 242) else if (VP.get s 1).2.2 ≠ 0 then (0, (VP.get s 1).2.2) else
  if most < (VP.get s 1).2.1 + (VP.get s 1).1 then (0, 149) else
  if (s.size : Int) < (VP.get s 1).2.1 + (VP.get s 1).1 then (0, 242) else ((VP.get s 1).2.1 + (VP.get s 1).1, 0)
theorem get1 (s : ByteArray) (h : s.size ≠ 0) (hc : (VP.get s 1).2.2 = 0) : ∃ n b : Nat, VP.get s 1 = ((n : Int), (b : Int), 0) ∧ n ≤ 268435455 ∧ 2 ≤ b ∧ b ≤ s.size := by
  obtain ⟨x, m, h1, h2, h3, h4, _, h6, _⟩ := VP.get_inv s 1 (by omega) hc
  obtain ⟨n, rfl⟩ := Int.eq_ofNat_of_zero_le h3
  exact ⟨n, 1 + m, by rw [show ((1 : Int)) = ((1 : Nat) : Int) from rfl, h6]; simp, by omega, by omega, by omega⟩
theorem first_ok (s : ByteArray) (most : Int) (h : (first s most).2 = 0) : ∃ k : Nat, first s most = ((k : Int), 0) ∧ 2 ≤ k ∧ k ≤ s.size := by
  unfold first at h ⊢
  by_cases h0 : s.size = 0
  · rw [if_pos h0] at h; exact absurd h (by decide)
  rw [if_neg h0] at h ⊢
  by_cases h1 : (VP.get s 1).2.2 ≠ 0
  · rw [if_pos h1] at h; exact absurd h h1
  rw [if_neg h1] at h ⊢
  obtain ⟨n, b, hg, hn, hb1, hb2⟩ := get1 s h0 (Classical.not_not.1 h1)
  rw [hg] at h ⊢
  simp only at h ⊢
  by_cases h2 : most < (b : Int) + n
  · rw [if_pos h2] at h; exact absurd h (by decide)
  rw [if_neg h2] at h ⊢
  by_cases h3 : (s.size : Int) < (b : Int) + n
  · rw [if_pos h3] at h; exact absurd h (by decide)
  rw [if_neg h3]
  exact ⟨b + n, by simp, by omega, by omega⟩
/-- The packets from a place on whose f is no code; the place behind them, and the code. -/
def thr (s : ByteArray) (most : Int) (f : ByteArray → Int) : Nat → Nat → List ByteArray × Nat × Int
  | 0, a => ([], a, 0)
  | u + 1, a =>
    if (first (s.extract a s.size) most).2 = 0 then
      if f (s.extract a (a + (first (s.extract a s.size) most).1.toNat)) = 0 then
        (s.extract a (a + (first (s.extract a s.size) most).1.toNat) :: (thr s most f u (a + (first (s.extract a s.size) most).1.toNat)).1, (thr s most f u (a + (first (s.extract a s.size) most).1.toNat)).2)
      else ([], a, f (s.extract a (a + (first (s.extract a s.size) most).1.toNat)))
    else ([], a, if (first (s.extract a s.size) most).2 = 242 then 0 else (first (s.extract a s.size) most).2)
/-- What a loop has done of them. -/
def Thr (s : ByteArray) (most : Int) (f : ByteArray → Int) (l : List ByteArray) (a : Nat) : Prop :=
  ∃ u, s.size < a + u ∧ a ≤ s.size ∧ 2 * l.length ≤ a ∧ thr s most f (s.size + 1) 0 = (l ++ (thr s most f u a).1, (thr s most f u a).2)
theorem Thr.start (s : ByteArray) (most : Int) (f : ByteArray → Int) : Thr s most f [] 0 := ⟨s.size + 1, by omega, by omega, by simp, by simp⟩
theorem Thr.step {s : ByteArray} {most : Int} {f : ByteArray → Int} {l : List ByteArray} {a k : Nat} (h : Thr s most f l a) (hf : first (s.extract a s.size) most = ((k : Int), 0)) (hk : 2 ≤ k) (hk2 : a + k ≤ s.size) (h0 : f (s.extract a (a + k)) = 0) : Thr s most f (l ++ [s.extract a (a + k)]) (a + k) := by
  obtain ⟨u, h1, h2, h3, h4⟩ := h
  obtain ⟨v, rfl⟩ : ∃ v, u = v + 1 := ⟨u - 1, by omega⟩
  refine ⟨v, by omega, hk2, by simp; omega, ?_⟩
  rw [h4, thr, hf]
  simp [h0]
theorem Thr.left {s : ByteArray} {most : Int} {f : ByteArray → Int} {l : List ByteArray} {a k : Nat} (h : Thr s most f l a) (hf : first (s.extract a s.size) most = ((k : Int), 0)) (h0 : f (s.extract a (a + k)) ≠ 0) : thr s most f (s.size + 1) 0 = (l, a, f (s.extract a (a + k))) := by
  obtain ⟨u, h1, h2, h3, h4⟩ := h
  obtain ⟨v, rfl⟩ : ∃ v, u = v + 1 := ⟨u - 1, by omega⟩
  rw [h4, thr, hf]
  simp [h0]
theorem Thr.stop {s : ByteArray} {most : Int} {f : ByteArray → Int} {l : List ByteArray} {a : Nat} (h : Thr s most f l a) (hf : (first (s.extract a s.size) most).2 ≠ 0) : thr s most f (s.size + 1) 0 = (l, a, if (first (s.extract a s.size) most).2 = 242 then 0 else (first (s.extract a s.size) most).2) := by
  obtain ⟨u, h1, h2, h3, h4⟩ := h
  obtain ⟨v, rfl⟩ : ∃ v, u = v + 1 := ⟨u - 1, by omega⟩
  rw [h4, thr, if_neg hf]
  simp
theorem Thr.size {s : ByteArray} {most : Int} {f : ByteArray → Int} {l : List ByteArray} {a : Nat} (h : Thr s most f l a) : a ≤ s.size ∧ 2 * l.length ≤ a := by
  obtain ⟨u, h1, h2, h3, h4⟩ := h
  exact ⟨h2, h3⟩
end ST
end Go.Proofs.YtemfcaaoobjgkaaGreatDoor
namespace Go.Proofs.YtemfcaaoobjgkaaGreatDoor
open Go.RowKit

theorem empty_list {s : ByteArray} (h : s.size = 0) : s = ⟨#[]⟩ := by
  cases s with | mk d => cases d with | mk l => cases l with
    | nil => rfl
    | cons a b => simp [ByteArray.size] at h
theorem nonempty_list {s : ByteArray} (h : s.size ≠ 0) : (s.toList == []) = false := by
  rw [beq_eq_false_iff_ne]
  intro e
  rw [ByteArray.toList_eq] at e
  apply h
  cases s with | mk d => cases d with | mk l => cases l with
    | nil => rfl
    | cons a b => simp at e
theorem st_from (s : ByteArray) (k : Nat) (h : k ≤ s.size) (w : World) :
    (Instr.slice 9 (.string s) (some (.int .i64 (k : Int))) none none).run Tryz.prog w = .ok (.string (s.extract k s.size)) w := by
  rw [run_slice_string_from_if w 9 s .i64 _ Tryz.underlying9, if_pos (by omega)]
  rfl
theorem st_upto (s : ByteArray) (k : Nat) (h : k ≤ s.size) (w : World) :
    (Instr.slice 9 (.string s) none (some (.int .i64 (k : Int))) none).run Tryz.prog w = .ok (.string (s.extract 0 k)) w := by
  rw [run_slice_string_to_if w 9 s .i64 _ Tryz.underlying9, if_pos (by omega)]
  rfl
theorem st_part (s : ByteArray) (a k : Nat) (h : a + k ≤ s.size) (w : World) :
    (Instr.slice 9 (.string s) (some (.int .i64 (a : Int))) (some (.int .i64 ((a : Int) + (k : Int)))) none).run Tryz.prog w = .ok (.string (s.extract a (a + k))) w := by
  rw [run_slice_string_if w 9 s .i64 .i64 _ _ Tryz.underlying9, if_pos (by omega), if_pos (by omega)]
  have e1 : ((a : Int)).toNat = a := by omega
  have e2 : ((a : Int) + (k : Int)).toNat = a + k := by omega
  rw [e1, e2]

set_option maxRecDepth 100000 in
set_option maxHeartbeats 1000000 in
theorem first_any (s : ByteArray) (most : Int) (hs : s.size ≤ 140737488351232) (w : World) :
    Calls Tryz.prog 31 #[.string s, .int .i64 most] w fun e w' => e = .returned (.tuple #[.int .i64 (ST.first s most).1, .int .u8 (ST.first s most).2]) ∧ w = w' := by
  by_cases h0 : s.size = 0
  · have e : ST.first s most = (0, 242) := by unfold ST.first; rw [if_pos h0]
    rw [e]
    obtain rfl := empty_list h0
    go_enter Tryz.func31, Tryz.ntmps31
    go_wp2
    go_ret2
    exact ⟨rfl, rfl⟩
  have hne := nonempty_list h0
  have C := Lib.hid (get_any s 1 (by unfold maxLen; omega))
  by_cases h1 : (VP.get s 1).2.2 ≠ 0
  · have e : ST.first s most = (0, (VP.get s 1).2.2) := by unfold ST.first; rw [if_neg h0, if_pos h1]
    rw [e]
    generalize VP.get s 1 = X at *
    obtain ⟨n, b, c⟩ := X
    simp only at C h1 ⊢
    have hc : (c != 0) = true := by rw [bne_iff_ne]; exact h1
    go_enter Tryz.func31, Tryz.ntmps31
    go_wp2_with fail
    refine (C.out _).mono ?_
    rintro e w' ⟨rfl, rfl⟩
    go_wp2
    go_ret2
    exact ⟨rfl, rfl⟩
  obtain ⟨n, b, hg, hn, hb1, hb2⟩ := ST.get1 s h0 (Classical.not_not.1 h1)
  have e : ST.first s most = if most < (b : Int) + n then (0, 149) else if (s.size : Int) < (b : Int) + n then (0, 242) else ((b : Int) + n, 0) := by unfold ST.first; rw [if_neg h0, if_neg h1, hg]
  rw [e]
  rw [hg] at C
  simp only at C
  clear hg h1 e h0
  by_cases h2 : most < (b : Int) + n
  · rw [if_pos h2]
    go_enter Tryz.func31, Tryz.ntmps31
    go_wp2_with fail
    refine (C.out _).mono ?_
    rintro e w' ⟨rfl, rfl⟩
    go_wp2
    go_ret2
    exact ⟨rfl, rfl⟩
  rw [if_neg h2]
  by_cases h3 : (s.size : Int) < (b : Int) + n
  · rw [if_pos h3]
    go_enter Tryz.func31, Tryz.ntmps31
    go_wp2_with fail
    refine (C.out _).mono ?_
    rintro e w' ⟨rfl, rfl⟩
    go_wp2
    go_ret2
    exact ⟨rfl, rfl⟩
  rw [if_neg h3]
  go_enter Tryz.func31, Tryz.ntmps31
  go_wp2_with fail
  refine (C.out _).mono ?_
  rintro e w' ⟨rfl, rfl⟩
  go_wp2
  go_ret2
  exact ⟨rfl, rfl⟩
end Go.Proofs.YtemfcaaoobjgkaaGreatDoor
namespace Go.Proofs.YtemfcaaoobjgkaaGreatDoor
open Go.RowKit
attribute [local go_sem ↓] Go.wp_at_zero Go.wp_at_succ

namespace PK
/-- The first byte. -/
def b0 (s : ByteArray) : Int := if h : 0 < s.size then ((s[0]'h).toNat : Int) else 0
/-- What speaks against a packet's length. -/
def hdC (s : ByteArray) : Int := if (VP.get s 1).2.2 = 0 then lenC (VP.get s 1).1 ((s.size : Int) - (VP.get s 1).2.1) else (VP.get s 1).2.2
/-- The packet that bytes are, and the code. -/
def getPk (s : ByteArray) : Pk × Int :=
  if s.size = 0 then (zeroPk, 242) else if begOk (b0 s) = false then (zeroPk, 129) else if hdC s ≠ 0 then (zeroPk, hdC s)
  else if (rdWhole s (VP.get s 1).2.1 (begPk (b0 s))).2 ≠ 0 then (zeroPk, (rdWhole s (VP.get s 1).2.1 (begPk (b0 s))).2) else ((rdWhole s (VP.get s 1).2.1 (begPk (b0 s))).1, 0)
end PK
/-- What Get answers. -/
def GtP (w : World) (X : Pk × Int) (e : Ending) (w' : World) : Prop :=
  (X.2 = 0 → ∃ vc vp vw vs vf, e = .returned (.tuple #[.agg (pkCells X.1 vc vp vw vs vf), .int .u8 0]) ∧ Own5 w.heap.size X.1 vc vp vw vs vf w') ∧ (X.2 ≠ 0 → e = .returned (.tuple #[.agg (pkNil PK.zeroPk), .int .u8 X.2])) ∧ Below w.heap.size w w'
theorem GtP.bad {w w' : World} {c : Int} (hc : c ≠ 0) (hb : Below w.heap.size w w') : GtP w (PK.zeroPk, c) (.returned (.tuple #[.agg (pkNil PK.zeroPk), .int .u8 c])) w' :=
  ⟨fun h => absurd h hc, fun _ => rfl, hb⟩
theorem below_of_gr {n r : Nat} {w W W' : World} (h : Below n w W) (hn : n ≤ W.heap.size) (hr : n ≤ r) (g : Gr r W W') : Below n w W' :=
  h.trans ⟨g.os, g.tape, g.output, g.size, fun i hi => g.block i (by omega) (fun e => by injection e with e; omega)⟩
theorem pbegin_any (n : Int) (h0 : 0 ≤ n) (h1 : n ≤ 255) (w : World) :
    Calls Tryz.prog 32 #[.int .u8 n] w fun e w' => e = .returned (.tuple #[.agg (pkNil (PK.begPk n)), .bool (PK.begOk n)]) ∧ Below w.heap.size w w' := by
  by_cases h3 : n / 16 = 3
  · exact begin_pub n h0 h1 h3 w
  · exact begin_other n h0 h1 h3 w
theorem beg_kind (n : Int) (h : PK.begOk n = true) : 1 ≤ (PK.begPk n).kind ∧ (PK.begPk n).kind ≤ 15 ∧ Bare (PK.begPk n) := by
  by_cases h3 : n / 16 = 3
  · unfold PK.begPk; rw [if_pos h3]
    exact ⟨(by decide : (1 : Int) ≤ 3), (by decide : (3 : Int) ≤ 15), ⟨rfl, rfl, rfl, rfl, rfl, rfl⟩⟩
  · unfold PK.begOk at h
    rw [if_neg h3] at h
    unfold PK.begPk; rw [if_neg h3]
    simp [PK.isK] at h
    exact ⟨h.1.1, h.1.2, ⟨rfl, rfl, rfl, rfl, rfl, rfl⟩⟩

set_option maxRecDepth 100000 in
set_option maxHeartbeats 4000000 in
theorem get_pk_any (s : ByteArray) (hs : s.size ≤ 140737488351232) (w : World) (hT : ∀ W, Below w.heap.size w W → Tabs W) :
    Calls Tryz.prog 18 #[.string s] w (GtP w (PK.getPk s)) := by
  have Z : Hid ((w.alloc (.cells (pkNil PK.zeroPk) 45)).heap[w.heap.size]? = some (.cells (pkNil PK.zeroPk) 45 (0, 0))) := Lib.hid (heap_alloc_new w _)
  have HB : Hid (Below w.heap.size w (w.alloc (.cells (pkNil PK.zeroPk) 45))) := Lib.hid ((Below.refl _ _).alloc (Nat.le_refl _) _)
  have O1 := Lib.hid (pkNil_one PK.zeroPk)
  have fin : ∀ (W : World) (c : Int), Below w.heap.size w W → W.heap[w.heap.size]? = some (.cells (pkNil PK.zeroPk) 45 (0, 0)) → c ≠ 0 →
      ((Sem.run Tryz.prog (asAddr (.pointer (some ⟨w.heap.size, 0, none⟩))) (W.setRow w.heap.size (pkNil PK.zeroPk))).andThen fun a w' => (Sem.run Tryz.prog (loadVar 45 a) w').andThen fun a w' => Result.ok (Value.tuple #[a, .int .u8 c]) w') = .ok (Value.tuple #[.agg (pkNil PK.zeroPk), .int .u8 c]) (W.setRow w.heap.size (pkNil PK.zeroPk)) ∧ GtP w (PK.zeroPk, c) (.returned (.tuple #[.agg (pkNil PK.zeroPk), .int .u8 c])) (W.setRow w.heap.size (pkNil PK.zeroPk)) :=
    fun W c hb hz hc => ⟨read_two (load_pk_var (P := PK.zeroPk) (vc := .slice none 0 0) (vp := .slice none 0 0) (vw := .slice none 0 0) (vs := .slice none 0 0) (vf := .slice none 0 0) (setRow_heap hz)), GtP.bad hc (below_setRow hb (Nat.le_refl _) _)⟩
  have FIN := Lib.hid fin
  clear fin
  obtain ⟨X, hX⟩ : ∃ X, X = PK.getPk s := ⟨_, rfl⟩
  rw [← hX]
  unfold PK.getPk at hX
  by_cases h0 : s.size = 0
  · rw [if_pos h0] at hX
    subst hX
    obtain rfl := empty_list h0
    go_enter Tryz.func18, Tryz.ntmps18
    go_wp2_with (refine wpList_store_row (by rfl) 45 (.tmp 2) (.tmp 12) (by rfl) w.heap.size (pkNil PK.zeroPk) (by rfl) (by rfl) 45 (pkNil PK.zeroPk) Z.out pk_info rfl O1.out ?_)
    obtain ⟨f1, f2⟩ := FIN.out _ 242 HB.out Z.out (by decide)
    refine bodyPost_ret (v := .tuple #[.agg (pkNil PK.zeroPk), .int .u8 242]) ?_ rfl f2
    simp only [results, Tryz.results18]
    simp
    exact f1
  rw [if_neg h0] at hX
  have hne := nonempty_list h0
  have hpos : 0 < s.size := by omega
  have hn : PK.b0 s = ((s[0]'hpos).toNat : Int) := by unfold PK.b0; rw [dif_pos hpos]
  have hn1 := VP.byte_lt s 0 hpos
  have hnn : 0 ≤ PK.b0 s ∧ PK.b0 s ≤ 255 := by rw [hn]; omega
  have CB : Hid (∀ W, Calls Tryz.prog 32 #[.int .u8 ((s[0]'hpos).toNat : Int)] W fun e w' => e = .returned (.tuple #[.agg (pkNil (PK.begPk (PK.b0 s))), .bool (PK.begOk (PK.b0 s))]) ∧ Below W.heap.size W w') := Lib.hid (fun W => by
    have := pbegin_any (PK.b0 s) hnn.1 hnn.2 W
    rwa [show Value.int .u8 (PK.b0 s) = .int .u8 ((s[0]'hpos).toNat : Int) from by rw [hn]] at this)
  have HK := Lib.hid (beg_kind (PK.b0 s))
  generalize PK.begPk (PK.b0 s) = P at *
  generalize PK.begOk (PK.b0 s) = ok at *
  clear hn hnn
  have HX := Lib.hid hX
  clear hX
  cases ok
  · have EX : Hid (X = (PK.zeroPk, 129)) := Lib.hid (by rw [HX.out, if_pos rfl])
    clear HX HK
    go_enter Tryz.func18, Tryz.ntmps18
    go_wp2_with fail
    refine (CB.out _).mono ?_
    rintro e w1 ⟨rfl, b1⟩
    have z1 := (b1.block _ (lt_heap Z.out)).trans Z.out
    have hw1 := HB.out.trans (b1.mono HB.out.size)
    have Z1 : Hid ((w1.alloc (.cells (pkNil PK.zeroPk) 45)).heap[w1.heap.size]? = some (.cells (pkNil PK.zeroPk) 45 (0, 0))) := Lib.hid (heap_alloc_new w1 _)
    have OP := Lib.hid (pkNil_one P)
    have hlt := lt_heap z1
    have Z2 : Hid (((w1.alloc (.cells (pkNil PK.zeroPk) 45)).setRow w1.heap.size (pkNil P)).heap[w.heap.size]? = some (.cells (pkNil PK.zeroPk) 45 (0, 0))) := Lib.hid ((setRow_other _ (by omega)).trans ((Below.heap_alloc _ _ _ hlt).trans z1))
    have B2 : Hid (Below w.heap.size w ((w1.alloc (.cells (pkNil PK.zeroPk) 45)).setRow w1.heap.size (pkNil P))) := Lib.hid (below_setRow (hw1.alloc (by omega) _) (by omega) _)
    clear b1 z1 hw1 CB
    go_wp2_with (first
      | refine wpList_store_row (by rfl) 45 (.tmp 4) (.tmp 17) (by rfl) w1.heap.size (pkNil P) (by rfl) (by rfl) 45 (pkNil PK.zeroPk) Z1.out pk_info rfl OP.out ?_
      | refine wpList_store_row (by rfl) 45 (.tmp 2) (.tmp 21) (by rfl) w.heap.size (pkNil PK.zeroPk) (by rfl) (by rfl) 45 (pkNil PK.zeroPk) Z2.out pk_info rfl O1.out ?_)
    obtain ⟨f1, f2⟩ := FIN.out _ 129 B2.out Z2.out (by decide)
    rw [EX.out]
    refine bodyPost_ret (v := .tuple #[.agg (pkNil PK.zeroPk), .int .u8 129]) ?_ rfl f2
    simp only [results, Tryz.results18]
    simp
    exact f1
  · obtain ⟨hk1, hk2, hB⟩ := HK.out rfl
    have HK1 := Lib.hid hk1; have HK2 := Lib.hid hk2; have HBa := Lib.hid hB
    have CG := Lib.hid (get_any s 1 (by unfold maxLen; omega))
    have CL := Lib.hid lencode_any
    clear HK hk1 hk2 hB
    go_enter Tryz.func18, Tryz.ntmps18
    go_wp2_with fail
    refine (CB.out _).mono ?_
    rintro e w1 ⟨rfl, b1⟩
    have z1 := (b1.block _ (lt_heap Z.out)).trans Z.out
    have hw1 := HB.out.trans (b1.mono HB.out.size)
    have Z1 : Hid ((w1.alloc (.cells (pkNil PK.zeroPk) 45)).heap[w1.heap.size]? = some (.cells (pkNil PK.zeroPk) 45 (0, 0))) := Lib.hid (heap_alloc_new w1 _)
    have OP := Lib.hid (pkNil_one P)
    have hlt := lt_heap z1
    go_upto_region 4 with (refine wpList_store_row (by rfl) 45 (.tmp 4) (.tmp 17) (by rfl) w1.heap.size (pkNil P) (by rfl) (by rfl) 45 (pkNil PK.zeroPk) Z1.out pk_info rfl OP.out ?_)
    obtain ⟨wA, hwA⟩ : ∃ wA, wA = (w1.alloc (.cells (pkNil PK.zeroPk) 45)).setRow w1.heap.size (pkNil P) := ⟨_, rfl⟩
    have Z2 : Hid (wA.heap[w.heap.size]? = some (.cells (pkNil PK.zeroPk) 45 (0, 0))) := Lib.hid (by rw [hwA]; exact (setRow_other _ (by omega)).trans ((Below.heap_alloc _ _ _ hlt).trans z1))
    have B2 : Hid (Below w.heap.size w wA) := Lib.hid (by rw [hwA]; exact below_setRow (hw1.alloc (by omega) _) (by omega) _)
    have P2 : Hid (wA.heap[w1.heap.size]? = some (.cells (pkNil P) 45 (0, 0))) := Lib.hid (by rw [hwA]; exact setRow_heap Z1.out)
    change Code.wp _ _ _ _ ((w1.alloc (.cells (pkNil PK.zeroPk) 45)).setRow w1.heap.size (pkNil P))
    rw [← hwA]
    have hsA : w1.heap.size < wA.heap.size := lt_heap P2.out
    clear hwA Z1 b1 z1 hw1 CB OP
    by_cases hc : (VP.get s 1).2.2 = 0
    · obtain ⟨m, b, hg, hm, hb1, hb2⟩ := ST.get1 s h0 hc
      have hd : PK.hdC s = PK.lenC (m : Int) ((s.size : Int) - (b : Int)) := by unfold PK.hdC; rw [if_pos hc, hg]
      rw [hg] at CG
      have EX : Hid (X = if PK.lenC (m : Int) ((s.size : Int) - (b : Int)) ≠ 0 then (PK.zeroPk, PK.lenC (m : Int) ((s.size : Int) - (b : Int))) else if (PK.rdWhole s (b : Int) P).2 ≠ 0 then (PK.zeroPk, (PK.rdWhole s (b : Int) P).2) else ((PK.rdWhole s (b : Int) P).1, 0)) := Lib.hid (by rw [HX.out, if_neg (by decide), hd, hg])
      simp only at CG
      clear hc hd hg HX
      have DL := Lib.hid (CL.out (m : Int) ((s.size : Int) - (b : Int)))
      generalize PK.lenC (m : Int) ((s.size : Int) - (b : Int)) = c at *
      clear CL
      by_cases hc : c = 0
      · subst hc
        have EX2 : Hid (X = if (PK.rdWhole s (b : Int) P).2 ≠ 0 then (PK.zeroPk, (PK.rdWhole s (b : Int) P).2) else ((PK.rdWhole s (b : Int) P).1, 0)) := Lib.hid (by rw [EX.out, if_neg (by decide)])
        have hsz3 : (wA.alloc (.cells #[.string s, .int .i64 (b : Int)] 102)).heap.size = wA.heap.size + 1 := by simp
        have B3 : Below w.heap.size w (wA.alloc (.cells #[.string s, .int .i64 (b : Int)] 102)) := B2.out.alloc (by omega) _
        have R3 : RdAt wA.heap.size s (b : Int) (wA.alloc (.cells #[.string s, .int .i64 (b : Int)] 102)) := heap_alloc_new wA _
        have P3 := (Below.heap_alloc wA (.cells #[.string s, .int .i64 (b : Int)] 102) _ hsA).trans P2.out
        have Z3 := Lib.hid ((Below.heap_alloc wA (.cells #[.string s, .int .i64 (b : Int)] 102) _ (lt_heap Z2.out)).trans Z2.out)
        have CC := Lib.hid (caught_any wA.heap.size #[.pointer (some ⟨wA.heap.size, 0, none⟩), .pointer (some ⟨w1.heap.size, 0, none⟩)] (PK.rdWhole s (b : Int) P) _ (by omega)
          (fun W hW => getfn_any wA.heap.size w1.heap.size s (b : Int) P W HK1.out HK2.out HBa.out (R3.below hW) ((hW.block _ (lt_heap P3)).trans P3) hs
            (fun W' hg => hT W' (below_of_gr (B3.trans (hW.mono B3.size)) (by have := hW.size; omega) (by omega) hg))))
        have HB3 := Lib.hid B3
        have HSZ := Lib.hid hsz3
        generalize PK.rdWhole s (b : Int) P = Y at *
        have hmf : ∀ (fn : Fn) (first cap : Array Value) (w : World), (Instr.makeFunc fn first cap).run Tryz.prog w = .ok (.func fn first cap) w := fun _ _ _ _ => rfl
        clear EX B3 R3 P3 hT P2 Z2 B2 hsz3
        go_wp2_with fail
        refine (CG.out _).mono ?_
        rintro e w' ⟨rfl, rfl⟩
        go_wp2_with fail
        refine (DL.out _).mono ?_
        rintro e w' ⟨rfl, rfl⟩
        go_wp2_with fail
        refine CC.out.mono ?_
        rintro e w4 hR
        by_cases h1 : Y.2 = 0
        · obtain ⟨vc, vp, vw, vs, vf, rfl, o1, g1⟩ := hR.1 h1
          have z4 := Lib.hid ((g1.block _ (lt_heap Z3.out) (fun e => by injection e with e; omega)).trans Z3.out)
          have W1 := Lib.hid (pk_one Y.1 o1)
          have B4 := Lib.hid (below_of_gr HB3.out HB3.out.size (by omega) g1)
          have O4 := Lib.hid o1
          have EX3 : Hid (X = (Y.1, 0)) := Lib.hid (by rw [EX2.out, if_neg (by simp [h1])])
          clear hR o1 g1 CC CG DL EX2 h1 Z3
          go_wp2_with (refine wpList_store_row (by rfl) 45 (.tmp 2) (.tmp 45) (by rfl) w.heap.size (pkCells Y.1 vc vp vw vs vf) (by rfl) (by rfl) 45 (pkNil PK.zeroPk) z4.out pk_info rfl W1.out ?_)
          rw [EX3.out]
          refine bodyPost_ret (v := .tuple #[.agg (pkCells Y.1 vc vp vw vs vf), .int .u8 0]) ?_ rfl ⟨fun _ => ⟨_, _, _, _, _, rfl, ?_⟩, fun h => absurd rfl h, below_setRow B4.out (Nat.le_refl _) _⟩
          · simp only [results, Tryz.results18]
            simp
            exact read_two (load_pk_var (setRow_heap z4.out))
          · have hz := HSZ.out
            have n5 := fun {e : TypeId} {k : Nat} {v : Value} {n : Nat} {xs : List Value} (ho : w4.ownsRow (wA.alloc (.cells #[.string s, .int .i64 (b : Int)] 102)).heap.size e k v n xs) => own_base' (C := w.heap.size) (own_setRow (g := w.heap.size) (pkCells Y.1 vc vp vw vs vf) ho (row_ne ho (by omega))) (by omega)
            exact ⟨n5 O4.out.codes, n5 O4.out.props, n5 O4.out.wprops, n5 O4.out.subs, n5 O4.out.filters⟩
        · obtain ⟨rfl, g1⟩ := hR.2 h1
          have z4 := Lib.hid ((g1.block _ (lt_heap Z3.out) (fun e => by injection e with e; omega)).trans Z3.out)
          have B4 := Lib.hid (below_of_gr HB3.out HB3.out.size (by omega) g1)
          have EX3 : Hid (X = (PK.zeroPk, Y.2)) := Lib.hid (by rw [EX2.out, if_pos h1])
          have H1 := Lib.hid h1
          clear hR g1 CC CG DL EX2 h1 Z3
          go_wp2_with (refine wpList_store_row (by rfl) 45 (.tmp 2) (.tmp 45) (by rfl) w.heap.size (pkNil PK.zeroPk) (by rfl) (by rfl) 45 (pkNil PK.zeroPk) z4.out pk_info rfl O1.out ?_)
          obtain ⟨f1, f2⟩ := FIN.out _ Y.2 B4.out z4.out H1.out
          rw [EX3.out]
          refine bodyPost_ret (v := .tuple #[.agg (pkNil PK.zeroPk), .int .u8 Y.2]) ?_ rfl f2
          simp only [results, Tryz.results18]
          simp
          exact f1
      · have e2 : (c != 0) = true := by rw [bne_iff_ne]; exact hc
        have EX2 : Hid (X = (PK.zeroPk, c)) := Lib.hid (by rw [EX.out, if_pos hc])
        have HC := Lib.hid hc
        clear EX hc
        go_wp2_with fail
        refine (CG.out _).mono ?_
        rintro e w' ⟨rfl, rfl⟩
        go_wp2_with fail
        refine (DL.out _).mono ?_
        rintro e w' ⟨rfl, rfl⟩
        go_wp2_with (refine wpList_store_row (by rfl) 45 (.tmp 2) (.tmp 38) (by rfl) w.heap.size (pkNil PK.zeroPk) (by rfl) (by rfl) 45 (pkNil PK.zeroPk) Z2.out pk_info rfl O1.out ?_)
        obtain ⟨f1, f2⟩ := FIN.out _ c B2.out Z2.out HC.out
        rw [EX2.out]
        refine bodyPost_ret (v := .tuple #[.agg (pkNil PK.zeroPk), .int .u8 c]) ?_ rfl f2
        simp only [results, Tryz.results18]
        simp
        exact f1
    · have hd : PK.hdC s = (VP.get s 1).2.2 := by unfold PK.hdC; rw [if_neg hc]
      have EX : Hid (X = (PK.zeroPk, (VP.get s 1).2.2)) := Lib.hid (by rw [HX.out, if_neg (by decide), hd, if_pos hc])
      generalize VP.get s 1 = Y at *
      obtain ⟨n, b, c⟩ := Y
      simp only at CG EX hc
      have e1 : (c == 0) = false := by rw [beq_eq_false_iff_ne]; exact hc
      have e2 : (c != 0) = true := by rw [bne_iff_ne]; exact hc
      clear hd HX
      have HC := Lib.hid hc
      clear hc
      go_wp2_with fail
      refine (CG.out _).mono ?_
      rintro e w' ⟨rfl, rfl⟩
      go_wp2_with (refine wpList_store_row (by rfl) 45 (.tmp 2) (.tmp 38) (by rfl) w.heap.size (pkNil PK.zeroPk) (by rfl) (by rfl) 45 (pkNil PK.zeroPk) Z2.out pk_info rfl O1.out ?_)
      obtain ⟨f1, f2⟩ := FIN.out _ c B2.out Z2.out HC.out
      rw [EX.out]
      refine bodyPost_ret (v := .tuple #[.agg (pkNil PK.zeroPk), .int .u8 c]) ?_ rfl f2
      simp only [results, Tryz.results18]
      simp
      exact f1
end Go.Proofs.YtemfcaaoobjgkaaGreatDoor
namespace Go.Proofs.YtemfcaaoobjgkaaGreatDoor
namespace RG
open PK (thn bnd alAll rdN rdT rdD rdId rdPr rdC rdSub)
/-- A code, if there was none ahead. -/
def fl (x : Int × Int) (c : Int) : Int × Int := (x.1, if x.2 = 0 then c else x.2)
def rN (U : ByteArray) (wd : Int) (x : Int × Int) : (Int × Int) × Int :=
  if x.2 ≠ 0 then (x, 0) else if (VP.rd U x.1 wd).2.2 ≠ 0 then (fl x 129, 0) else (((VP.rd U x.1 wd).2.1, x.2), (VP.rd U x.1 wd).1)
def rT (U : ByteArray) (x : Int × Int) : (Int × Int) × ByteArray :=
  if x.2 ≠ 0 then (x, ⟨#[]⟩) else if (TX.getT U x.1).2.2 ≠ 0 then (fl x 129, ⟨#[]⟩) else (((TX.getT U x.1).2.1, x.2), (TX.getT U x.1).1)
def rD (U : ByteArray) (x : Int × Int) : (Int × Int) × ByteArray :=
  if x.2 ≠ 0 then (x, ⟨#[]⟩) else if (VP.dat U x.1).2.2 ≠ 0 then (fl x 129, ⟨#[]⟩) else (((VP.dat U x.1).2.1, x.2), (VP.dat U x.1).1)
def rI (U : ByteArray) (x : Int × Int) : (Int × Int) × Int :=
  (if (rN U 2 x).1.2 = 0 ∧ (rN U 2 x).2 = 0 then fl (rN U 2 x).1 130 else (rN U 2 x).1, (rN U 2 x).2)
def rP (U : ByteArray) (k : Int) (x : Int × Int) : (Int × Int) × List Pr :=
  if x.2 ≠ 0 then (x, []) else if cm (PR.getL U x.1).2.2 ≠ 0 then (fl x (cm (PR.getL U x.1).2.2), []) else
  if alAll k (PR.getL U x.1).1 = true then (((PR.getL U x.1).2.1, x.2), (PR.getL U x.1).1) else (fl x 130, [])

/-- Both have read the same, or have the same code; the document's bytes begin at b. -/
def Rl {α : Type} (s : ByteArray) (b : Nat) (x : (Int × Int) × α) (y : α × Int × Int) : Prop :=
  (y.2.2 = 0 → ∃ q : Nat, x.1 = ((q : Int), 0) ∧ y.2.1 = ((b + q : Nat) : Int) ∧ b + q ≤ s.size ∧ x.2 = y.1) ∧ (y.2.2 ≠ 0 → x.1.2 = y.2.2)
/-- Behind a code nothing turns. -/
def Kps {α : Type} (f : Int × Int → (Int × Int) × α) : Prop := ∀ x, x.2 ≠ 0 → (f x).1.2 = x.2
theorem rN_kps (U : ByteArray) (wd : Int) : Kps (rN U wd) := fun x h => by unfold rN; rw [if_pos h]
theorem rT_kps (U : ByteArray) : Kps (rT U) := fun x h => by unfold rT; rw [if_pos h]
theorem rD_kps (U : ByteArray) : Kps (rD U) := fun x h => by unfold rD; rw [if_pos h]
theorem rP_kps (U : ByteArray) (k : Int) : Kps (rP U k) := fun x h => by unfold rP; rw [if_pos h]
theorem rI_kps (U : ByteArray) : Kps (rI U) := fun x h => by
  have := rN_kps U 2 x h
  unfold rI
  rw [if_neg (by rw [this]; exact fun e => h e.1)]
  exact this
theorem fl_kps {x : Int × Int} (h : x.2 ≠ 0) (c : Int) : (fl x c).2 = x.2 := by unfold fl; rw [if_neg h]
theorem fl_new {x : Int × Int} (h : x.2 = 0) (c : Int) : (fl x c).2 = c := by unfold fl; rw [if_pos h]

section
variable {s : ByteArray} {b : Nat}
theorem whole_s (s : ByteArray) : s.extract 0 s.size = s := by simp
theorem rd_sh (hb : b ≤ s.size) (p : Nat) (hp : b + p ≤ s.size) (wd : Int) : VP.rd s ((b + p : Nat) : Int) wd = PR.sh b (VP.rd (s.extract b s.size) (p : Int) wd) := by
  have := PR.rd_part (s := s) (f := b) (e := s.size) hb (Nat.le_refl _) p (by omega) wd
  rw [whole_s] at this
  exact this
theorem dat_sh (hb : b ≤ s.size) (p : Nat) (hp : b + p ≤ s.size) : VP.dat s ((b + p : Nat) : Int) = PR.shS b (VP.dat (s.extract b s.size) (p : Int)) := by
  have := PR.dat_part (s := s) (f := b) (e := s.size) hb (Nat.le_refl _) p (by omega)
  rw [whole_s] at this
  exact this
theorem getT_sh (hb : b ≤ s.size) (p : Nat) (hp : b + p ≤ s.size) : TX.getT s ((b + p : Nat) : Int) = PR.shS b (TX.getT (s.extract b s.size) (p : Int)) := by
  have := PR.getT_part (s := s) (f := b) (e := s.size) hb (Nat.le_refl _) p (by omega)
  rw [whole_s] at this
  exact this
theorem get_sh (hb : b ≤ s.size) (p : Nat) (hp : b + p ≤ s.size) : VP.get s ((b + p : Nat) : Int) = PR.sh b (VP.get (s.extract b s.size) (p : Int)) := by
  have := PR.get_part (s := s) (f := b) (e := s.size) hb (Nat.le_refl _) p (by omega)
  rw [whole_s] at this
  exact this
/-- Properties, read in a part. -/
theorem getL_sh (hb : b ≤ s.size) (p : Nat) (hp : b + p ≤ s.size) : (PR.getL s ((b + p : Nat) : Int)).1 = (PR.getL (s.extract b s.size) (p : Int)).1 ∧ (PR.getL s ((b + p : Nat) : Int)).2.2 = (PR.getL (s.extract b s.size) (p : Int)).2.2 ∧
    ((PR.getL (s.extract b s.size) (p : Int)).2.2 = 0 → (PR.getL s ((b + p : Nat) : Int)).2.1 = b + (PR.getL (s.extract b s.size) (p : Int)).2.1) := by
  have hg := get_sh hb p hp
  have hz : (s.extract b s.size).size = s.size - b := by rw [ByteArray.size_extract]; omega
  by_cases hc : (VP.get (s.extract b s.size) (p : Int)).2.2 = 0
  · obtain ⟨m, f, e1, e2⟩ := PR.get_at _ _ hc
    have e3 : VP.get s ((b + p : Nat) : Int) = ((m : Int), ((b + f : Nat) : Int), 0) := by rw [hg, e1]; unfold PR.sh; simp
    unfold PR.getL
    rw [e1, e3]
    simp only [ne_eq, not_true_eq_false, if_false]
    by_cases hl : (((s.extract b s.size).size : Nat) : Int) - (f : Int) < (m : Int)
    · rw [if_pos hl, if_pos (by omega)]
      exact ⟨rfl, rfl, fun h => absurd h (by decide)⟩
    · rw [if_neg hl, if_neg (by omega)]
      have ex : s.extract (((b + f : Nat) : Int)).toNat ((((b + f : Nat) : Int)) + (m : Int)).toNat = (s.extract b s.size).extract ((f : Int)).toNat ((f : Int) + (m : Int)).toNat := by
        rw [ByteArray.extract_extract]
        congr 1 <;> omega
      rw [ex]
      split
      · rename_i h
        exact ⟨rfl, rfl, fun e => absurd e h⟩
      · exact ⟨rfl, rfl, fun _ => by simp only; omega⟩
  · have e3 : (VP.get s ((b + p : Nat) : Int)).2.2 = (VP.get (s.extract b s.size) (p : Int)).2.2 := by rw [hg]; rfl
    unfold PR.getL
    rw [if_pos (by rw [e3]; exact hc), if_pos hc, e3]
    exact ⟨rfl, rfl, fun e => absurd e hc⟩
end
end RG
end Go.Proofs.YtemfcaaoobjgkaaGreatDoor
namespace Go.Proofs.YtemfcaaoobjgkaaGreatDoor
namespace RG
open PK (thn bnd alAll rdN rdT rdD rdId rdPr rdC rdSub)

theorem rd12 (U : ByteArray) (p : Nat) (hp : p ≤ U.size) {wd : Int} (hw : wd = 1 ∨ wd = 2) : (VP.rd U (p : Int) wd).2.2 = 0 ∨ (VP.rd U (p : Int) wd).2.2 = 242 := by
  rcases hw with rfl | rfl
  · by_cases h : p < U.size
    · rw [VP.rd_1 U p h]; exact .inl rfl
    · rw [VP.rd_1few U p hp h]; exact .inr rfl
  · by_cases h : p + 1 < U.size
    · rw [VP.rd_2 U p h]; exact .inl rfl
    · rw [VP.rd_2few U p hp h]; exact .inr rfl
theorem dat02 (U : ByteArray) (p : Nat) (hp : p ≤ U.size) : (VP.dat U (p : Int)).2.2 = 0 ∨ (VP.dat U (p : Int)).2.2 = 242 := by
  rcases rd12 U p hp (.inr rfl) with h | h
  · unfold VP.dat
    rw [if_pos h]
    split
    · exact .inr rfl
    · exact .inl rfl
  · unfold VP.dat
    rw [if_neg (by rw [h]; decide)]
    exact .inr h
theorem getT02 (U : ByteArray) (p : Nat) (hp : p ≤ U.size) : (TX.getT U (p : Int)).2.2 = 0 ∨ (TX.getT U (p : Int)).2.2 = 129 ∨ (TX.getT U (p : Int)).2.2 = 242 := by
  unfold TX.getT
  rcases dat02 U p hp with h | h
  · rw [if_neg (by rw [h]; decide)]
    split
    · exact .inr (.inl rfl)
    · exact .inl rfl
  · rw [if_pos (by rw [h]; decide)]
    exact .inr (.inr h)

section
variable {s : ByteArray} {b : Nat}
theorem rl_piece {α : Type} (d : α) {q : Nat} {z y : α × Int × Int} (hb : b ≤ s.size) (h1 : y.1 = z.1) (h2 : z.2.2 = 0 → y.2.1 = (b : Int) + z.2.1) (h3 : y.2.2 = cm z.2.2)
    (hz : z.2.2 = 0 → ∃ f : Nat, z.2.1 = f ∧ f ≤ s.size - b) (hc : z.2.2 = 0 ∨ cm z.2.2 = 129) :
    Rl s b (if ((q : Int), (0 : Int)).2 ≠ 0 then (((q : Int), (0 : Int)), d) else if z.2.2 ≠ 0 then (fl ((q : Int), 0) 129, d) else ((z.2.1, ((q : Int), (0 : Int)).2), z.1)) y := by
  rw [if_neg (by simp)]
  by_cases h0 : z.2.2 = 0
  · rw [if_neg (by simp [h0])]
    refine ⟨fun _ => ?_, fun h => absurd (by rw [h3, h0]; rfl) h⟩
    obtain ⟨f, e, le⟩ := hz h0
    exact ⟨f, by rw [e], by rw [h2 h0, e]; simp, by omega, h1.symm⟩
  · have h9 := hc.resolve_left h0
    rw [if_pos h0]
    exact ⟨fun h => absurd (h3.symm.trans h) (by rw [h9]; decide), fun _ => by rw [h3, h9]; rfl⟩
theorem size_part (s : ByteArray) (b : Nat) : (s.extract b s.size).size = s.size - b := by rw [ByteArray.size_extract]; omega
theorem rl_N (hb : b ≤ s.size) (q : Nat) (hq : b + q ≤ s.size) {wd : Int} (hw : wd = 1 ∨ wd = 2) : Rl s b (rN (s.extract b s.size) wd ((q : Int), 0)) (rdN s ((b + q : Nat) : Int) wd) := by
  have hs := rd_sh hb q hq wd
  have hz := size_part s b
  have hc := rd12 (s.extract b s.size) q (by omega) hw
  refine rl_piece (0 : Int) (z := VP.rd (s.extract b s.size) (q : Int) wd) hb (by unfold rdN; rw [hs]; rfl) (fun h => by unfold rdN; rw [hs]; unfold PR.sh; simp only [h, if_true]) (by unfold rdN; rw [hs]; rfl) (fun h => ?_) (hc.imp id fun h => by rw [h]; rfl)
  obtain ⟨f, e, -, le⟩ := PR.rd_ok _ q wd h
  exact ⟨f, e, by omega⟩
theorem rl_D (hb : b ≤ s.size) (q : Nat) (hq : b + q ≤ s.size) : Rl s b (rD (s.extract b s.size) ((q : Int), 0)) (rdD s ((b + q : Nat) : Int)) := by
  have hs := dat_sh hb q hq
  have hz := size_part s b
  have hc := dat02 (s.extract b s.size) q (by omega)
  refine rl_piece (⟨#[]⟩ : ByteArray) (z := VP.dat (s.extract b s.size) (q : Int)) hb (by unfold rdD; rw [hs]; rfl) (fun h => by unfold rdD; rw [hs]; unfold PR.shS; simp only [h, if_true]) (by unfold rdD; rw [hs]; rfl) (fun h => ?_) (hc.imp id fun h => by rw [h]; rfl)
  obtain ⟨f, e, -, le⟩ := PR.dat_ok _ q h
  exact ⟨f, e, by omega⟩
theorem rl_T (hb : b ≤ s.size) (q : Nat) (hq : b + q ≤ s.size) : Rl s b (rT (s.extract b s.size) ((q : Int), 0)) (rdT s ((b + q : Nat) : Int)) := by
  have hs := getT_sh hb q hq
  have hz := size_part s b
  have hc := getT02 (s.extract b s.size) q (by omega)
  refine rl_piece (⟨#[]⟩ : ByteArray) (z := TX.getT (s.extract b s.size) (q : Int)) hb (by unfold rdT; rw [hs]; rfl) (fun h => by unfold rdT; rw [hs]; unfold PR.shS; simp only [h, if_true]) (by unfold rdT; rw [hs]; rfl) (fun h => ?_) (hc.imp id fun h => by rcases h with h | h <;> rw [h] <;> rfl)
  obtain ⟨f, e, -, le⟩ := PR.getT_ok _ q h
  exact ⟨f, e, by omega⟩
theorem rl_I (hb : b ≤ s.size) (q : Nat) (hq : b + q ≤ s.size) : Rl s b (rI (s.extract b s.size) ((q : Int), 0)) (rdId s ((b + q : Nat) : Int)) := by
  obtain ⟨g1, g2⟩ := rl_N hb q hq (wd := 2) (.inr rfl)
  unfold rI
  by_cases hc : (rdN s ((b + q : Nat) : Int) 2).2.2 = 0
  · obtain ⟨f, e1, e2, e3, e4⟩ := g1 hc
    have hc' : cm (VP.rd s ((b + q : Nat) : Int) 2).2.2 = 0 := hc
    rw [e1, e4]
    unfold rdId
    rw [PK.thn_ok hc']
    by_cases h0 : (rdN s ((b + q : Nat) : Int) 2).1 = 0
    · rw [if_pos ⟨rfl, h0⟩, if_pos (show (VP.rd s ((b + q : Nat) : Int) 2).1 = 0 from h0)]
      exact ⟨fun h => absurd (show (130 : Int) = 0 from h) (by decide), fun _ => rfl⟩
    · rw [if_neg (fun h => h0 h.2), if_neg (show ¬ (VP.rd s ((b + q : Nat) : Int) 2).1 = 0 from h0)]
      exact ⟨fun _ => ⟨f, rfl, e2, e3, rfl⟩, fun h => absurd rfl h⟩
  · have h2 := g2 hc
    have hc' : cm (VP.rd s ((b + q : Nat) : Int) 2).2.2 ≠ 0 := hc
    rw [if_neg (fun h => hc (h2.symm.trans h.1))]
    unfold rdId
    rw [PK.thn_bad hc']
    exact ⟨fun h => absurd h hc', fun _ => h2⟩
theorem rl_P (hb : b ≤ s.size) (q : Nat) (hq : b + q ≤ s.size) (k : Int) : Rl s b (rP (s.extract b s.size) k ((q : Int), 0)) (rdPr s ((b + q : Nat) : Int) k) := by
  obtain ⟨e1, e2, e3⟩ := getL_sh hb q hq
  have hz := size_part s b
  unfold rP rdPr
  rw [e1, e2, if_neg (by simp)]
  by_cases hc : cm (PR.getL (s.extract b s.size) (q : Int)).2.2 = 0
  · have h0 := PK.cm_zero hc
    obtain ⟨f, a1, a2⟩ := PK.getL_at _ _ h0
    rw [if_neg (by simp [hc]), PK.thn_ok hc, e3 h0]
    by_cases ha : alAll k (PR.getL (s.extract b s.size) (q : Int)).1 = true
    · rw [if_pos ha, if_pos ha]
      exact ⟨fun _ => ⟨f, by rw [a1], by rw [a1]; simp, by omega, rfl⟩, fun h => absurd rfl h⟩
    · rw [if_neg ha, if_neg ha]
      exact ⟨fun h => absurd (show (130 : Int) = 0 from h) (by decide), fun _ => rfl⟩
  · rw [if_pos hc, PK.thn_bad hc]
    exact ⟨fun h => absurd h hc, fun _ => rfl⟩

/-- One piece, and then the others. -/
theorem rl_bnd {α : Type} {P : Pk} {x : (Int × Int) × α} {y : α × Int × Int} (h : Rl s b x y) {F : α → Int × Int → (Int × Int) × Pk} (hk : ∀ v, Kps (F v)) {G : α → Int → Pk × Int × Int}
    (hg : ∀ q : Nat, b + q ≤ s.size → y.2.2 = 0 → y.2.1 = ((b + q : Nat) : Int) → Rl s b (F y.1 ((q : Int), 0)) (G y.1 ((b + q : Nat) : Int))) : Rl s b (F x.2 x.1) (bnd P y G) := by
  unfold bnd
  by_cases hc : y.2.2 = 0
  · obtain ⟨q, e1, e2, e3, e4⟩ := h.1 hc
    rw [if_neg (by simp [hc]), e1, e4, e2]
    exact hg q e3 hc e2
  · rw [if_pos hc]
    exact ⟨fun h => absurd h hc, fun _ => (hk x.2 x.1 (by rw [h.2 hc]; exact hc)).trans (h.2 hc)⟩
end

-- A Connect.
def pass (U : ByteArray) (P : Pk) (x : Int × Int) : (Int × Int) × Pk := if P.hasPass = true then ((rD U x).1, { P with pass := (rD U x).2 }) else (x, P)
def user (U : ByteArray) (P : Pk) (x : Int × Int) : (Int × Int) × Pk := if P.hasUser = true then pass U { P with user := (rT U x).2 } (rT U x).1 else pass U P x
def will3 (U : ByteArray) (P : Pk) (l : List Pr) (t : ByteArray) (x : Int × Int) : (Int × Int) × Pk := user U { P with wprops := l, wtopic := t, wpay := (rD U x).2 } (rD U x).1
def will2 (U : ByteArray) (P : Pk) (l : List Pr) (x : Int × Int) : (Int × Int) × Pk := will3 U P l (rT U x).2 (rT U x).1
def will (U : ByteArray) (P : Pk) (x : Int × Int) : (Int × Int) × Pk := if P.hasWill = true then will2 U P (rP U 0 x).2 (rP U 0 x).1 else user U P x
def con5 (U : ByteArray) (P : Pk) (k : Int) (l : List Pr) (x : Int × Int) : (Int × Int) × Pk := will U { P with keep := k, props := l, client := (rT U x).2 } (rT U x).1
def con4 (U : ByteArray) (P : Pk) (k : Int) (x : Int × Int) : (Int × Int) × Pk := con5 U P k (rP U 1 x).2 (rP U 1 x).1
/-- What a Connect's flags tell. -/
def flP (P : Pk) (n : Int) : Pk := { P with clean := n / 2 % 2 == 1, hasWill := n / 4 % 2 == 1, wret := n / 32 % 2 == 1, hasPass := n / 64 % 2 == 1, hasUser := n / 128 % 2 == 1, wqos := n / 8 % 4 }
def flBad (n : Int) : Bool := n % 2 == 1 || n / 8 % 4 == 3 || (!(n / 4 % 2 == 1) && (decide (0 < n / 8 % 4) || n / 32 % 2 == 1))
def con3 (U : ByteArray) (P : Pk) (n : Int) (x : Int × Int) : (Int × Int) × Pk := con4 U (flP P n) (rN U 2 (if flBad n = true then fl x 129 else x)).2 (rN U 2 (if flBad n = true then fl x 129 else x)).1
def con2 (U : ByteArray) (P : Pk) (v : Int) (x : Int × Int) : (Int × Int) × Pk := con3 U P (rN U 1 (if x.2 = 0 ∧ v ≠ 5 then fl x 132 else x)).2 (rN U 1 (if x.2 = 0 ∧ v ≠ 5 then fl x 132 else x)).1
def con1 (U : ByteArray) (P : Pk) (m : ByteArray) (x : Int × Int) : (Int × Int) × Pk := con2 U P (rN U 1 (if x.2 = 0 ∧ m ≠ ⟨#[77, 81, 84, 84]⟩ then fl x 129 else x)).2 (rN U 1 (if x.2 = 0 ∧ m ≠ ⟨#[77, 81, 84, 84]⟩ then fl x 129 else x)).1
def conn (U : ByteArray) (P : Pk) (x : Int × Int) : (Int × Int) × Pk := con1 U P (rT U x).2 (rT U x).1

theorem kps_thn {α β : Type} {f : Int × Int → (Int × Int) × α} {g : α → Int × Int → (Int × Int) × β} (hf : Kps f) (hg : ∀ v, Kps (g v)) : Kps (fun x => g (f x).2 (f x).1) :=
  fun x h => (hg _ _ (by rw [hf x h]; exact h)).trans (hf x h)
theorem pass_kps (U : ByteArray) (P : Pk) : Kps (pass U P) := fun x h => by
  unfold pass; split
  · exact rD_kps U x h
  · rfl
theorem user_kps (U : ByteArray) (P : Pk) : Kps (user U P) := fun x h => by
  unfold user; split
  · exact kps_thn (rT_kps U) (g := fun v => pass U { P with user := v }) (fun v => pass_kps U _) x h
  · exact pass_kps U P x h
theorem will3_kps (U : ByteArray) (P : Pk) (l : List Pr) (t : ByteArray) : Kps (will3 U P l t) := kps_thn (rD_kps U) (g := fun v => user U { P with wprops := l, wtopic := t, wpay := v }) (fun _ => user_kps U _)
theorem will2_kps (U : ByteArray) (P : Pk) (l : List Pr) : Kps (will2 U P l) := kps_thn (rT_kps U) (g := fun v => will3 U P l v) (fun _ => will3_kps U _ _ _)
theorem will_kps (U : ByteArray) (P : Pk) : Kps (will U P) := fun x h => by
  unfold will; split
  · exact kps_thn (rP_kps U 0) (g := fun v => will2 U P v) (fun v => will2_kps U _ _) x h
  · exact user_kps U P x h
theorem con5_kps (U : ByteArray) (P : Pk) (k : Int) (l : List Pr) : Kps (con5 U P k l) := kps_thn (rT_kps U) (g := fun v => will U { P with keep := k, props := l, client := v }) (fun _ => will_kps U _)
theorem con4_kps (U : ByteArray) (P : Pk) (k : Int) : Kps (con4 U P k) := kps_thn (rP_kps U 1) (g := fun v => con5 U P k v) (fun _ => con5_kps U _ _ _)
theorem con3_kps (U : ByteArray) (P : Pk) (n : Int) : Kps (con3 U P n) := fun x h => by
  have e : (if flBad n = true then fl x 129 else x).2 = x.2 := by split; exact fl_kps h _; rfl
  unfold con3
  exact (kps_thn (rN_kps U 2) (g := fun v => con4 U (flP P n) v) (fun v => con4_kps U _ _) _ (by rw [e]; exact h)).trans e
theorem con2_kps (U : ByteArray) (P : Pk) (v : Int) : Kps (con2 U P v) := fun x h => by
  unfold con2
  rw [if_neg (fun e => h e.1)]
  exact kps_thn (rN_kps U 1) (g := fun v => con3 U P v) (fun v => con3_kps U _ _) x h
theorem con1_kps (U : ByteArray) (P : Pk) (m : ByteArray) : Kps (con1 U P m) := fun x h => by
  unfold con1
  rw [if_neg (fun e => h e.1)]
  exact kps_thn (rN_kps U 1) (g := fun v => con2 U P v) (fun v => con2_kps U _ _) x h
theorem fl_facts (k : Fin 256) : (bits .and .i64 ((k.val : Nat) : Int) 2 != 0) = (((k.val : Nat) : Int) / 2 % 2 == 1) ∧ (bits .and .i64 ((k.val : Nat) : Int) 4 != 0) = (((k.val : Nat) : Int) / 4 % 2 == 1) ∧ bits .and .i64 (((k.val : Nat) : Int) / 8) 3 = ((k.val : Nat) : Int) / 8 % 4 ∧
    (bits .and .i64 ((k.val : Nat) : Int) 32 != 0) = (((k.val : Nat) : Int) / 32 % 2 == 1) ∧ (bits .and .i64 ((k.val : Nat) : Int) 64 != 0) = (((k.val : Nat) : Int) / 64 % 2 == 1) ∧ (bits .and .i64 ((k.val : Nat) : Int) 128 != 0) = (((k.val : Nat) : Int) / 128 % 2 == 1) ∧
    PK.cflC ((k.val : Nat) : Int) = if flBad ((k.val : Nat) : Int) = true then 129 else 0 := by
  revert k; decide +kernel
theorem fl_same {n : Int} (h0 : 0 ≤ n) (h1 : n ≤ 255) (P : Pk) : PK.cflPk P n = flP P n ∧ PK.cflC n = if flBad n = true then 129 else 0 := by
  obtain ⟨k, rfl⟩ := Int.eq_ofNat_of_zero_le h0
  obtain ⟨a, b, c, d, e, f, g⟩ := fl_facts ⟨k, by omega⟩
  refine ⟨?_, g⟩
  unfold PK.cflPk flP
  simp only at a b c d e f
  rw [a, b, c, d, e, f]

section
variable {s : ByteArray} {b : Nat}
theorem rl_ok (q : Nat) (hq : b + q ≤ s.size) (P : Pk) : Rl s b (((q : Int), (0 : Int)), P) (P, ((b + q : Nat) : Int), 0) := ⟨fun _ => ⟨q, rfl, rfl, hq, rfl⟩, fun h => absurd rfl h⟩
theorem rl_pass (hb : b ≤ s.size) (q : Nat) (hq : b + q ≤ s.size) (P : Pk) : Rl s b (pass (s.extract b s.size) P ((q : Int), 0)) (PK.rdPass s ((b + q : Nat) : Int) P) := by
  unfold pass PK.rdPass
  split
  · exact rl_bnd (rl_D hb q hq) (F := fun v z => (z, { P with pass := v })) (fun _ _ _ => rfl) fun q hq _ _ => rl_ok q hq _
  · exact rl_ok q hq _
theorem rl_user (hb : b ≤ s.size) (q : Nat) (hq : b + q ≤ s.size) (P : Pk) : Rl s b (user (s.extract b s.size) P ((q : Int), 0)) (PK.rdUser s ((b + q : Nat) : Int) P) := by
  unfold user PK.rdUser
  split
  · exact rl_bnd (rl_T hb q hq) (F := fun v z => pass (s.extract b s.size) { P with user := v } z) (fun _ => pass_kps _ _) fun q hq _ _ => rl_pass hb q hq _
  · exact rl_pass hb q hq _
theorem rl_will (hb : b ≤ s.size) (q : Nat) (hq : b + q ≤ s.size) (P : Pk) : Rl s b (will (s.extract b s.size) P ((q : Int), 0)) (PK.rdWill s ((b + q : Nat) : Int) P) := by
  unfold will PK.rdWill
  split
  · refine rl_bnd (rl_P hb q hq 0) (F := fun v z => will2 (s.extract b s.size) P v z) (fun _ => will2_kps _ _ _) fun q hq _ _ => ?_
    refine rl_bnd (rl_T hb q hq) (F := fun v z => will3 (s.extract b s.size) P _ v z) (fun _ => will3_kps _ _ _ _) fun q hq _ _ => ?_
    exact rl_bnd (rl_D hb q hq) (F := fun v z => user (s.extract b s.size) { P with wprops := _, wtopic := _, wpay := v } z) (fun _ => user_kps _ _) fun q hq _ _ => rl_user hb q hq _
  · exact rl_user hb q hq _
theorem rl_con1 (hb : b ≤ s.size) (q : Nat) (hq : b + q ≤ s.size) (P : Pk) (hP : P.kind = 1) : Rl s b (con4 (s.extract b s.size) P (rN (s.extract b s.size) 2 ((q : Int), 0)).2 (rN (s.extract b s.size) 2 ((q : Int), 0)).1) (PK.rdConn1 s ((b + q : Nat) : Int) P) := by
  unfold PK.rdConn1
  refine rl_bnd (rl_N hb q hq (.inr rfl)) (F := fun v z => con4 (s.extract b s.size) P v z) (fun _ => con4_kps _ _ _) fun q hq _ _ => ?_
  refine rl_bnd (x := rP (s.extract b s.size) 1 ((q : Int), 0)) (by rw [hP]; exact rl_P hb q hq 1) (F := fun v z => con5 (s.extract b s.size) P _ v z) (fun _ => con5_kps _ _ _ _) fun q hq _ _ => ?_
  exact rl_bnd (rl_T hb q hq) (F := fun v z => will (s.extract b s.size) { P with keep := _, props := _, client := v } z) (fun _ => will_kps _ _) fun q hq _ _ => rl_will hb q hq _
/-- A code behind a piece that is read. -/
theorem rl_bad {P : Pk} {c : Int} (hc : c ≠ 0) {f : Int × Int → (Int × Int) × Pk} (hf : Kps f) {x : Int × Int} (hx : x.2 = c) (a : Int) : Rl s b (f x) (P, a, c) :=
  ⟨fun h => absurd h hc, fun _ => (hf x (by rw [hx]; exact hc)).trans hx⟩
theorem rl_con (hb : b ≤ s.size) (q : Nat) (hq : b + q ≤ s.size) (P : Pk) (hP : P.kind = 1) : Rl s b (conn (s.extract b s.size) P ((q : Int), 0)) (PK.rdConn s ((b + q : Nat) : Int) P) := by
  unfold PK.rdConn
  refine rl_bnd (rl_T hb q hq) (F := fun v z => con1 (s.extract b s.size) P v z) (fun _ => con1_kps _ _ _) fun q hq _ _ => ?_
  generalize (rdT s _).1 = m
  unfold con1
  by_cases hm : m = ⟨#[77, 81, 84, 84]⟩
  · rw [if_neg (fun h => h.2 hm), if_neg (fun h => h hm)]
    refine rl_bnd (rl_N hb q hq (.inl rfl)) (F := fun v z => con2 (s.extract b s.size) P v z) (fun _ => con2_kps _ _ _) fun q hq _ _ => ?_
    generalize (rdN s _ 1).1 = v
    unfold con2
    by_cases hv : v = 5
    · rw [if_neg (fun h => h.2 hv), if_neg (fun h => h hv)]
      have hN := rl_N hb q hq (wd := 1) (.inl rfl)
      have hr := PK.rd_nn s ((b + q : Nat) : Int) 1
      have hr1 := PK.rd_1le s ((b + q : Nat) : Int)
      obtain ⟨f1, f2⟩ := fl_same hr.1 hr1 P
      by_cases hc : (rdN s ((b + q : Nat) : Int) 1).2.2 = 0
      · obtain ⟨f, e1, e2, e3, e4⟩ := hN.1 hc
        have hc' : cm (VP.rd s ((b + q : Nat) : Int) 1).2.2 = 0 := hc
        have e4' : (rN (s.extract b s.size) 1 ((q : Int), 0)).2 = (VP.rd s ((b + q : Nat) : Int) 1).1 := e4
        have e2' : (VP.rd s ((b + q : Nat) : Int) 1).2.1 = ((b + f : Nat) : Int) := e2
        rw [e1, e4']
        unfold PK.rdFl con3
        rw [PK.thn_ok hc', f2, e2']
        by_cases hB : flBad (VP.rd s ((b + q : Nat) : Int) 1).1 = true
        · rw [if_pos hB, if_pos hB, PK.bnd_bad (by decide)]
          exact rl_bad (c := 129) (by decide) (kps_thn (rN_kps _ 2) (g := fun v => con4 (s.extract b s.size) (flP P (VP.rd s ((b + q : Nat) : Int) 1).1) v) (fun v => con4_kps _ _ _)) rfl 0
        · rw [if_neg hB, if_neg hB, PK.bnd_ok rfl, f1]
          exact rl_con1 hb f e3 _ hP
      · have h2 := hN.2 hc
        have hc' : cm (VP.rd s ((b + q : Nat) : Int) 1).2.2 ≠ 0 := hc
        unfold PK.rdFl
        rw [PK.thn_bad hc', PK.bnd_bad hc']
        exact rl_bad hc' (con3_kps _ _ _) h2 0
    · rw [if_pos ⟨rfl, hv⟩, if_pos hv]
      exact rl_bad (c := 132) (by decide) (kps_thn (rN_kps _ 1) (g := fun v => con3 (s.extract b s.size) P v) (fun v => con3_kps _ _ _)) rfl 0
  · rw [if_pos ⟨rfl, hm⟩, if_pos hm]
    exact rl_bad (c := 129) (by decide) (kps_thn (rN_kps _ 1) (g := fun v => con2 (s.extract b s.size) P v) (fun v => con2_kps _ _ _)) rfl 0
end
end RG
end Go.Proofs.YtemfcaaoobjgkaaGreatDoor
namespace Go.Proofs.YtemfcaaoobjgkaaGreatDoor
namespace RG
open PK (thn bnd alAll rdN rdT rdD rdId rdPr rdC rdSub lst)

theorem thn_thn (a b c : Int) : thn (thn a b) c = thn a (thn b c) := by
  by_cases h : a = 0
  · rw [PK.thn_ok h, PK.thn_ok h]
  · rw [PK.thn_bad h, PK.thn_bad h, PK.thn_bad h]
/-- One after another. -/
def pair {α β : Type} (f : Int × Int → (Int × Int) × α) (g : Int × Int → (Int × Int) × β) (x : Int × Int) : (Int × Int) × (α × β) := ((g (f x).1).1, ((f x).2, (g (f x).1).2))
def pairP {α β : Type} (y : α × Int × Int) (g : Int → β × Int × Int) : (α × β) × Int × Int := ((y.1, (g y.2.1).1), (g y.2.1).2.1, thn y.2.2 (g y.2.1).2.2)
/-- A piece that may not be what it is. -/
def chk {α : Type} (c : α → Int) (x : (Int × Int) × α) : (Int × Int) × α := (if c x.2 ≠ 0 then fl x.1 (c x.2) else x.1, x.2)
def chkP {α : Type} (c : α → Int) (y : α × Int × Int) : α × Int × Int := (y.1, y.2.1, thn y.2.2 (c y.1))
theorem pair_kps {α β : Type} {f : Int × Int → (Int × Int) × α} {g : Int × Int → (Int × Int) × β} (hf : Kps f) (hg : Kps g) : Kps (pair f g) :=
  fun x h => (hg _ (by rw [hf x h]; exact h)).trans (hf x h)
theorem chk_keeps {α : Type} (c : α → Int) (x : (Int × Int) × α) (h : x.1.2 ≠ 0) : (chk c x).1.2 = x.1.2 := by
  unfold chk; dsimp only; split
  · exact fl_kps h _
  · rfl

section
variable {s : ByteArray} {b : Nat}
theorem rl_pair {α β : Type} {f : Int × Int → (Int × Int) × α} {g : Int × Int → (Int × Int) × β} (hk : Kps g) {x : Int × Int} {y : α × Int × Int} {G : Int → β × Int × Int} (h : Rl s b (f x) y)
    (hg : ∀ q : Nat, b + q ≤ s.size → y.2.2 = 0 → Rl s b (g ((q : Int), 0)) (G ((b + q : Nat) : Int))) : Rl s b (pair f g x) (pairP y G) := by
  unfold pair pairP
  by_cases hc : y.2.2 = 0
  · obtain ⟨q, e1, e2, e3, e4⟩ := h.1 hc
    obtain ⟨g1, g2⟩ := hg q e3 hc
    rw [PK.thn_ok hc, e1, e4, e2]
    refine ⟨fun h0 => ?_, g2⟩
    obtain ⟨q', a1, a2, a3, a4⟩ := g1 h0
    exact ⟨q', a1, a2, a3, by rw [a4]⟩
  · rw [PK.thn_bad hc]
    exact ⟨fun h0 => absurd h0 hc, fun _ => (hk (f x).1 (by rw [h.2 hc]; exact hc)).trans (h.2 hc)⟩
theorem rl_chk {α : Type} (c : α → Int) {x : (Int × Int) × α} {y : α × Int × Int} (h : Rl s b x y) : Rl s b (chk c x) (chkP c y) := by
  by_cases hc : y.2.2 = 0
  · obtain ⟨q, e1, e2, e3, e4⟩ := h.1 hc
    unfold chk chkP
    rw [PK.thn_ok hc, e4, e1]
    by_cases hv : c y.1 = 0
    · rw [if_neg (by simp [hv])]
      exact ⟨fun _ => ⟨q, rfl, e2, e3, rfl⟩, fun h0 => absurd hv h0⟩
    · rw [if_pos hv]
      exact ⟨fun h0 => absurd h0 hv, fun _ => fl_new rfl _⟩
  · have e := chk_keeps c x (by rw [h.2 hc]; exact hc)
    unfold chkP
    rw [PK.thn_bad hc]
    exact ⟨fun h0 => absurd h0 hc, fun _ => e.trans (h.2 hc)⟩
theorem rl_map {α β : Type} (f : α → β) {x : (Int × Int) × α} {y : α × Int × Int} (h : Rl s b x y) : Rl s b (x.1, f x.2) (f y.1, y.2) := by
  refine ⟨fun h0 => ?_, h.2⟩
  obtain ⟨q, e1, e2, e3, e4⟩ := h.1 h0
  exact ⟨q, e1, e2, e3, by show f x.2 = f y.1; rw [e4]⟩
end

-- A filter with its options.
def subV (f : ByteArray) (n : Int) : Sb := ⟨f, n % 4, n / 4 % 2 == 1, n / 8 % 2 == 1, n / 16 % 4⟩
def subC1 (n : Int) : Int := if n % 4 = 3 ∨ 64 ≤ n then 129 else 0
def subC2 (n : Int) : Int := if n / 16 % 4 = 3 then 130 else 0
def sub (U : ByteArray) (x : Int × Int) : (Int × Int) × Sb :=
  ((chk (fun y => subC2 y.2) (chk (fun y => subC1 y.2) (pair (rT U) (rN U 1) x))).1, subV (chk (fun y => subC2 y.2) (chk (fun y => subC1 y.2) (pair (rT U) (rN U 1) x))).2.1 (chk (fun y => subC2 y.2) (chk (fun y => subC1 y.2) (pair (rT U) (rN U 1) x))).2.2)
theorem sub_facts (k : Fin 256) : bits .and .i64 ((k.val : Nat) : Int) 3 = ((k.val : Nat) : Int) % 4 ∧ (bits .and .i64 ((k.val : Nat) : Int) 4 != 0) = (((k.val : Nat) : Int) / 4 % 2 == 1) ∧ (bits .and .i64 ((k.val : Nat) : Int) 8 != 0) = (((k.val : Nat) : Int) / 8 % 2 == 1) ∧
    bits .and .i64 (((k.val : Nat) : Int) / 16) 3 = ((k.val : Nat) : Int) / 16 % 4 ∧ PK.subC ((k.val : Nat) : Int) = thn (subC1 ((k.val : Nat) : Int)) (subC2 ((k.val : Nat) : Int)) := by
  revert k; decide +kernel
theorem sub_same {n : Int} (h0 : 0 ≤ n) (h1 : n ≤ 255) (f : ByteArray) : PK.subOf f n = subV f n ∧ PK.subC n = thn (subC1 n) (subC2 n) := by
  obtain ⟨k, rfl⟩ := Int.eq_ofNat_of_zero_le h0
  obtain ⟨a, b, c, d, e⟩ := sub_facts ⟨k, by omega⟩
  refine ⟨?_, e⟩
  unfold PK.subOf subV
  simp only at a b c d
  rw [a, b, c, d]

/-- All that is left, one by one. -/
def ls {α : Type} (rd : Int × Int → (Int × Int) × α) (sz : Nat) : Nat → Int × Int → List α → (Int × Int) × List α
  | 0, x, out => (fl x 149, out)
  | u + 1, x, out => if x.2 = 0 ∧ x.1 < (sz : Int) then (if 64 ≤ out.length then (fl x 149, out) else ls rd sz u (rd x).1 (out ++ [(rd x).2])) else (x, out)
theorem ls_kps {α : Type} (rd : Int × Int → (Int × Int) × α) (sz u : Nat) (out : List α) : Kps (fun x => ls rd sz u x out) := fun x h => by
  cases u with
  | zero => exact fl_kps h _
  | succ u => show (ls rd sz (u + 1) x out).1.2 = _; unfold ls; rw [if_neg (fun e => h e.1)]
def lsE {α : Type} (rd : Int × Int → (Int × Int) × α) (sz : Nat) (x : Int × Int) : (Int × Int) × List α := ls rd sz 66 (if x.2 = 0 ∧ (sz : Int) ≤ x.1 then fl x 130 else x) []
theorem lsE_kps {α : Type} (rd : Int × Int → (Int × Int) × α) (sz : Nat) : Kps (lsE rd sz) := fun x h => by
  unfold lsE
  rw [if_neg (fun e => h e.1)]
  exact ls_kps rd sz 66 [] x h

section
variable {s : ByteArray} {b : Nat}
theorem rl_sub (hb : b ≤ s.size) (q : Nat) (hq : b + q ≤ s.size) : Rl s b (sub (s.extract b s.size) ((q : Int), 0)) (rdSub s ((b + q : Nat) : Int)) := by
  have h := rl_map (fun y : ByteArray × Int => subV y.1 y.2) (rl_chk (fun y : ByteArray × Int => subC2 y.2) (rl_chk (fun y : ByteArray × Int => subC1 y.2)
    (rl_pair (rN_kps _ 1) (G := fun a => rdN s a 1) (rl_T hb q hq) (fun q hq _ => rl_N hb q hq (.inl rfl)))))
  unfold sub
  have e : (rdSub s ((b + q : Nat) : Int)) = ((fun y : ByteArray × Int => subV y.1 y.2) (chkP (fun y : ByteArray × Int => subC2 y.2) (chkP (fun y : ByteArray × Int => subC1 y.2) (pairP (rdT s ((b + q : Nat) : Int)) (fun a => rdN s a 1)))).1, (chkP (fun y : ByteArray × Int => subC2 y.2) (chkP (fun y : ByteArray × Int => subC1 y.2) (pairP (rdT s ((b + q : Nat) : Int)) (fun a => rdN s a 1)))).2) := by
    have hr := PK.rd_nn s (TX.getT s ((b + q : Nat) : Int)).2.1 1
    have hr1 := PK.rd_1le s (TX.getT s ((b + q : Nat) : Int)).2.1
    obtain ⟨f1, f2⟩ := sub_same hr.1 hr1 (TX.getT s ((b + q : Nat) : Int)).1
    unfold rdSub chkP pairP
    dsimp only
    rw [thn_thn, thn_thn, f1, f2]
    rfl
  rw [e]
  exact h
theorem rl_ls {α : Type} {rd : Int × Int → (Int × Int) × α} {rd' : Int → α × Int × Int} (hr : ∀ q : Nat, b + q ≤ s.size → Rl s b (rd ((q : Int), 0)) (rd' ((b + q : Nat) : Int))) :
    ∀ (u q : Nat) (out : List α), b + q ≤ s.size → out.length ≤ 64 → (out ≠ [] ∨ b + q < s.size) → Rl s b (ls rd (s.extract b s.size).size u ((q : Int), 0) out) (lst rd' s.size u ((b + q : Nat) : Int) out) := by
  intro u
  induction u with
  | zero => intro q out _ _ _; exact ⟨fun h => absurd (show (149 : Int) = 0 from h) (by decide), fun _ => rfl⟩
  | succ u ih =>
    intro q out hq hl ho
    have hz := size_part s b
    unfold ls lst
    by_cases he : b + q = s.size
    · rw [if_neg (by rw [hz]; simp; omega), if_pos (by exact_mod_cast he)]
      have hne := ho.resolve_right (by omega)
      rw [if_neg hne]
      exact ⟨fun _ => ⟨q, rfl, rfl, hq, rfl⟩, fun h => absurd rfl h⟩
    · rw [if_pos ⟨rfl, by rw [hz]; show (q : Int) < _; omega⟩, if_neg (show ¬ (((b + q : Nat) : Int) = (s.size : Int)) from by exact_mod_cast he)]
      by_cases h4 : out.length = 64
      · rw [if_pos (by omega), if_pos h4]
        exact ⟨fun h => absurd (show (149 : Int) = 0 from h) (by decide), fun _ => rfl⟩
      · rw [if_neg (by omega), if_neg h4]
        obtain ⟨r1, r2⟩ := hr q hq
        by_cases hc : (rd' ((b + q : Nat) : Int)).2.2 = 0
        · obtain ⟨q', e1, e2, e3, e4⟩ := r1 hc
          rw [if_neg (show ¬ ((rd' ((b + q : Nat) : Int)).2.2 ≠ 0) from fun h => h hc), e1, e2, e4]
          exact ih q' _ e3 (by rw [List.length_append]; exact Nat.lt_of_le_of_ne hl h4) (.inl (by simp))
        · rw [if_pos hc]
          exact ⟨fun h => absurd h hc, fun _ => (ls_kps rd _ u _ _ (by rw [r2 hc]; exact hc)).trans (r2 hc)⟩
theorem rl_lsE {α : Type} {rd : Int × Int → (Int × Int) × α} {rd' : Int → α × Int × Int} (hr : ∀ q : Nat, b + q ≤ s.size → Rl s b (rd ((q : Int), 0)) (rd' ((b + q : Nat) : Int))) (q : Nat) (hq : b + q ≤ s.size) :
    Rl s b (lsE rd (s.extract b s.size).size ((q : Int), 0)) (lst rd' s.size 66 ((b + q : Nat) : Int) []) := by
  have hz := size_part s b
  unfold lsE
  by_cases he : b + q = s.size
  · rw [if_pos ⟨rfl, by rw [hz]; show _ ≤ (q : Int); omega⟩]
    unfold lst
    rw [if_pos (by exact_mod_cast he), if_pos rfl]
    exact ⟨fun h => absurd (show (130 : Int) = 0 from h) (by decide), fun _ => (ls_kps rd _ 66 [] (fl ((q : Int), 0) 130) (by rw [fl_new rfl]; decide)).trans (fl_new rfl _)⟩
  · rw [if_neg (fun h => by have := h.2; rw [hz] at this; change _ ≤ (q : Int) at this; omega)]
    exact rl_ls hr 66 q [] hq (by simp) (.inr (by omega))
end

-- Endings that may be left out.
def end2 (U : ByteArray) (P : Pk) (x : Int × Int) : (Int × Int) × Pk := if x.2 = 0 ∧ x.1 < (U.size : Int) then ((rP U P.kind x).1, { P with props := (rP U P.kind x).2 }) else (x, P)
def end1 (U : ByteArray) (P : Pk) (x : Int × Int) : (Int × Int) × Pk := if x.2 = 0 ∧ x.1 < (U.size : Int) then end2 U { P with code := (rN U 1 x).2 } (rN U 1 x).1 else end2 U P x
theorem end2_kps (U : ByteArray) (P : Pk) : Kps (end2 U P) := fun x h => by unfold end2; rw [if_neg (fun e => h e.1)]
theorem end1_kps (U : ByteArray) (P : Pk) : Kps (end1 U P) := fun x h => by unfold end1; rw [if_neg (fun e => h e.1)]; exact end2_kps U P x h
-- What has lists.
def hd (U : ByteArray) (k : Int) : Int × Int → (Int × Int) × (Int × List Pr) := pair (rI U) (rP U k)
def lists1 (U : ByteArray) (P : Pk) (h : Int × List Pr) (x : Int × Int) : (Int × Int) × Pk :=
  if P.kind = 8 then ((lsE (sub U) U.size x).1, { P with id := h.1, props := h.2, subs := (lsE (sub U) U.size x).2 })
  else if P.kind = 10 then ((lsE (rT U) U.size x).1, { P with id := h.1, props := h.2, filters := (lsE (rT U) U.size x).2 })
  else ((lsE (rN U 1) U.size x).1, { P with id := h.1, props := h.2, codes := (lsE (rN U 1) U.size x).2 })
def lists (U : ByteArray) (P : Pk) (x : Int × Int) : (Int × Int) × Pk := lists1 U P (hd U P.kind x).2 (hd U P.kind x).1
def ack3 (U : ByteArray) (P : Pk) (v : Bool) (c : Int) (x : Int × Int) : (Int × Int) × Pk := ((rP U 2 x).1, { P with session := v, code := c, props := (rP U 2 x).2 })
def ack2 (U : ByteArray) (P : Pk) (v : Bool) (x : Int × Int) : (Int × Int) × Pk := ack3 U P v (rN U 1 x).2 (rN U 1 x).1
def ses (U : ByteArray) (x : Int × Int) : (Int × Int) × Int := chk (fun n => if 1 < n then 129 else 0) (rN U 1 x)
def ack (U : ByteArray) (P : Pk) (x : Int × Int) : (Int × Int) × Pk := ack2 U P ((ses U x).2 == 1) (ses U x).1
def pubI (U : ByteArray) (q i : Int) (x : Int × Int) : (Int × Int) × Int := if 0 < q then rI U x else (x, i)
def pub3 (U : ByteArray) (q i : Int) : Int × Int → (Int × Int) × (ByteArray × (Int × List Pr)) := pair (rT U) (pair (pubI U q i) (rP U 3))
def pub (U : ByteArray) (P : Pk) (x : Int × Int) : (Int × Int) × Pk :=
  (((U.size : Int), (pub3 U P.qos P.id x).1.2), { P with topic := (pub3 U P.qos P.id x).2.1, id := (pub3 U P.qos P.id x).2.2.1, props := (pub3 U P.qos P.id x).2.2.2, pay := U.extract (pub3 U P.qos P.id x).1.1.toNat U.size })
theorem pubI_kps (U : ByteArray) (q i : Int) : Kps (pubI U q i) := fun x h => by
  unfold pubI; split
  · exact rI_kps U x h
  · rfl
/-- What follows the length. -/
def body (k : Int) (U : ByteArray) (P : Pk) (x : Int × Int) : (Int × Int) × Pk :=
  if k = 1 then conn U P x else if k = 2 then ack U P x else if k = 3 then pub U P x
  else if k = 4 ∨ k = 5 ∨ k = 6 ∨ k = 7 then end1 U { P with id := (rI U x).2 } (rI U x).1
  else if k = 14 ∨ k = 15 then end1 U P x
  else if k = 8 ∨ k = 9 ∨ k = 10 ∨ k = 11 then lists U P x
  else (x, P)

section
variable {s : ByteArray} {b : Nat}
theorem rl_end2 (hb : b ≤ s.size) (q : Nat) (hq : b + q ≤ s.size) (P : Pk) (h : ¬ b + q = s.size) : Rl s b (end2 (s.extract b s.size) P ((q : Int), 0)) ({ P with props := (rdPr s ((b + q : Nat) : Int) P.kind).1 }, (rdPr s ((b + q : Nat) : Int) P.kind).2) := by
  have hz := size_part s b
  unfold end2
  rw [if_pos ⟨rfl, by rw [hz]; show (q : Int) < _; omega⟩]
  exact rl_map (fun l => { P with props := l }) (rl_P hb q hq P.kind)
theorem rl_end2e (q : Nat) (P : Pk) (hp : P.props = []) (h : b + q = s.size) : Rl s b (end2 (s.extract b s.size) P ((q : Int), 0)) ({ P with props := [] }, ((b + q : Nat) : Int), 0) := by
  have hz := size_part s b
  unfold end2
  rw [if_neg (fun e => by have := e.2; rw [hz] at this; change (q : Int) < _ at this; omega)]
  exact ⟨fun _ => ⟨q, rfl, rfl, by omega, by rw [← hp]⟩, fun h => absurd rfl h⟩
theorem rl_end (hb : b ≤ s.size) (q : Nat) (hq : b + q ≤ s.size) (P : Pk) (hp : P.props = []) (h0 : P.code = 0) : Rl s b (end1 (s.extract b s.size) P ((q : Int), 0)) (PK.rdEndP s ((b + q : Nat) : Int) P.kind P) := by
  have hz := size_part s b
  unfold end1 PK.rdEndP PK.rdEnd
  by_cases he : b + q = s.size
  · rw [if_neg (fun e => by have := e.2; rw [hz] at this; change (q : Int) < _ at this; omega), if_pos (by exact_mod_cast he)]
    have := rl_end2e q P hp he
    rw [show ({ P with code := 0, props := [] } : Pk) = { P with props := [] } from by rw [← h0]]
    exact this
  · rw [if_pos ⟨rfl, by rw [hz]; show (q : Int) < _; omega⟩, if_neg (by exact_mod_cast he)]
    obtain ⟨r1, r2⟩ := rl_N hb q hq (wd := 1) (.inl rfl)
    by_cases hc : (rdC s ((b + q : Nat) : Int)).2.2 = 0
    · obtain ⟨q', e1, e2, e3, e4⟩ := r1 hc
      have e2' : (rdC s ((b + q : Nat) : Int)).2.1 = ((b + q' : Nat) : Int) := e2
      have e4' : (rN (s.extract b s.size) 1 ((q : Int), 0)).2 = (rdC s ((b + q : Nat) : Int)).1 := e4
      rw [if_neg (show ¬ ((rdC s ((b + q : Nat) : Int)).2.2 ≠ 0) from fun h => h hc), e1, e4', e2']
      by_cases he' : b + q' = s.size
      · rw [if_pos (by exact_mod_cast he')]
        exact rl_end2e q' { P with code := (rdC s ((b + q : Nat) : Int)).1 } hp he'
      · rw [if_neg (by exact_mod_cast he')]
        exact rl_end2 hb q' e3 { P with code := (rdC s ((b + q : Nat) : Int)).1 } he'
    · have r3 := r2 hc
      rw [if_pos hc]
      exact ⟨fun h => absurd h hc, fun _ => (end2_kps _ _ _ (by rw [r3]; exact hc)).trans r3⟩
theorem rl_hd (hb : b ≤ s.size) (q : Nat) (hq : b + q ≤ s.size) (k : Int) : Rl s b (hd (s.extract b s.size) k ((q : Int), 0)) (PK.rdHd s ((b + q : Nat) : Int) k) :=
  rl_pair (rP_kps _ k) (G := fun a => rdPr s a k) (rl_I hb q hq) fun q hq _ => rl_P hb q hq k
theorem rl_ack (hb : b ≤ s.size) (q : Nat) (hq : b + q ≤ s.size) (P : Pk) : Rl s b (ack (s.extract b s.size) P ((q : Int), 0)) (bnd P (PK.rdSes s ((b + q : Nat) : Int)) (fun v a => bnd P (rdC s a) (fun c a => bnd P (rdPr s a 2) (fun l a => ({ P with session := v, code := c, props := l }, a, 0))))) := by
  have h : Rl s b ((ses (s.extract b s.size) ((q : Int), 0)).1, ((ses (s.extract b s.size) ((q : Int), 0)).2 == 1)) (PK.rdSes s ((b + q : Nat) : Int)) := rl_map (fun n : Int => n == 1) (rl_chk (fun n : Int => if 1 < n then 129 else 0) (rl_N hb q hq (.inl rfl)))
  unfold ack
  refine rl_bnd h (F := fun v z => ack2 (s.extract b s.size) P v z) (fun v => kps_thn (rN_kps _ 1) (g := fun c => ack3 (s.extract b s.size) P v c) (fun c => rP_kps _ 2)) fun q hq _ _ => ?_
  refine rl_bnd (rl_N hb q hq (.inl rfl)) (F := fun c z => ack3 (s.extract b s.size) P _ c z) (fun c => rP_kps _ 2) fun q hq _ _ => ?_
  exact rl_bnd (rl_P hb q hq 2) (F := fun l z => (z, { P with session := _, code := _, props := l })) (fun _ _ _ => rfl) fun q hq _ _ => rl_ok q hq _
theorem rl_pubI (hb : b ≤ s.size) (q : Nat) (hq : b + q ≤ s.size) (k i : Int) : Rl s b (pubI (s.extract b s.size) k i ((q : Int), 0)) (PK.rdI s ((b + q : Nat) : Int) k i) := by
  unfold pubI PK.rdI
  split
  · exact rl_I hb q hq
  · exact ⟨fun _ => ⟨q, rfl, rfl, hq, rfl⟩, fun h => absurd rfl h⟩
theorem rl_pub (hb : b ≤ s.size) (q : Nat) (hq : b + q ≤ s.size) (P : Pk) : Rl s b (pub (s.extract b s.size) P ((q : Int), 0)) ({ P with topic := (PK.rdPub s ((b + q : Nat) : Int) 3 P.qos P.id).1.1, id := (PK.rdPub s ((b + q : Nat) : Int) 3 P.qos P.id).1.2.1, props := (PK.rdPub s ((b + q : Nat) : Int) 3 P.qos P.id).1.2.2.1, pay := (PK.rdPub s ((b + q : Nat) : Int) 3 P.qos P.id).1.2.2.2 }, (PK.rdPub s ((b + q : Nat) : Int) 3 P.qos P.id).2.1, (PK.rdPub s ((b + q : Nat) : Int) 3 P.qos P.id).2.2) := by
  have hz := size_part s b
  have h : Rl s b (pub3 (s.extract b s.size) P.qos P.id ((q : Int), 0)) (pairP (rdT s ((b + q : Nat) : Int)) (fun a => pairP (PK.rdI s a P.qos P.id) (fun a => rdPr s a 3))) :=
    rl_pair (pair_kps (pubI_kps _ _ _) (rP_kps _ 3)) (rl_T hb q hq) fun q hq _ => rl_pair (rP_kps _ 3) (rl_pubI hb q hq _ _) fun q hq _ => rl_P hb q hq 3
  unfold pub PK.rdPub
  refine ⟨fun h0 => ?_, fun h0 => h.2 h0⟩
  obtain ⟨q', e1, e2, e3, e4⟩ := h.1 h0
  have e2' : (rdPr s (PK.rdI s (rdT s ((b + q : Nat) : Int)).2.1 P.qos P.id).2.1 3).2.1 = ((b + q' : Nat) : Int) := e2
  refine ⟨(s.extract b s.size).size, by rw [e1], ?_, by omega, ?_⟩
  · show (s.size : Int) = _
    rw [hz]; omega
  · dsimp only
    rw [e1, e4, e2']
    have ex : (s.extract b s.size).extract ((q' : Int)).toNat (s.extract b s.size).size = s.extract (((b + q' : Nat) : Int)).toNat s.size := by
      rw [ByteArray.extract_extract, hz]
      congr 1 <;> omega
    dsimp only at ex ⊢
    rw [ex]
    rfl
theorem rl_lists {α : Type} (hb : b ≤ s.size) (q : Nat) (hq : b + q ≤ s.size) (P : Pk) (k : Int) {rd : Int × Int → (Int × Int) × α} {rd' : Int → α × Int × Int} (hr : ∀ q : Nat, b + q ≤ s.size → Rl s b (rd ((q : Int), 0)) (rd' ((b + q : Nat) : Int)))
    (f : Int × List Pr → List α → Pk) : Rl s b ((lsE rd (s.extract b s.size).size (hd (s.extract b s.size) k ((q : Int), 0)).1).1, f (hd (s.extract b s.size) k ((q : Int), 0)).2 (lsE rd (s.extract b s.size).size (hd (s.extract b s.size) k ((q : Int), 0)).1).2)
      (bnd P (PK.rdHd s ((b + q : Nat) : Int) k) (fun h a => bnd P (lst rd' s.size 66 a []) (fun l a => (f h l, a, 0)))) := by
  refine rl_bnd (rl_hd hb q hq k) (F := fun v z => ((lsE rd (s.extract b s.size).size z).1, f v (lsE rd (s.extract b s.size).size z).2)) (fun v z h => lsE_kps rd _ z h) fun q hq _ _ => ?_
  exact rl_bnd (rl_lsE hr q hq) (F := fun l z => (z, f _ l)) (fun _ _ _ => rfl) fun q hq _ _ => rl_ok q hq _
theorem rl_body (hb : b ≤ s.size) (q : Nat) (hq : b + q ≤ s.size) (P : Pk) (k : Int) (hk : P.kind = k) (hp : P.props = []) (h0 : P.code = 0) : Rl s b (body k (s.extract b s.size) P ((q : Int), 0)) (PK.partsK k s ((b + q : Nat) : Int) P) := by
  unfold body PK.partsK
  by_cases h1 : k = 1
  · rw [if_pos h1, if_pos h1]; exact rl_con hb q hq P (hk.trans h1)
  rw [if_neg h1, if_neg h1]
  by_cases h2 : k = 2
  · rw [if_pos h2, if_pos h2]; subst h2; exact rl_ack hb q hq P
  rw [if_neg h2, if_neg h2]
  by_cases h3 : k = 3
  · rw [if_pos h3, if_pos h3]; subst h3; exact rl_pub hb q hq P
  rw [if_neg h3, if_neg h3]
  by_cases h8 : k = 8
  · rw [if_pos h8, if_neg (by omega), if_neg (by omega), if_pos (by omega)]
    subst hk
    unfold lists lists1
    rw [if_pos h8]
    exact rl_lists hb q hq P P.kind (fun q hq => rl_sub hb q hq) (fun h l => { P with id := h.1, props := h.2, subs := l })
  rw [if_neg h8]
  by_cases h10 : k = 10
  · rw [if_pos h10, if_neg (by omega), if_neg (by omega), if_pos (by omega)]
    subst hk
    unfold lists lists1
    rw [if_neg h8, if_pos h10]
    exact rl_lists hb q hq P P.kind (fun q hq => rl_T hb q hq) (fun h l => { P with id := h.1, props := h.2, filters := l })
  rw [if_neg h10]
  by_cases h9 : k = 9 ∨ k = 11
  · rw [if_pos h9, if_neg (by omega), if_neg (by omega), if_pos (by omega)]
    subst hk
    unfold lists lists1
    rw [if_neg h8, if_neg h10]
    exact rl_lists hb q hq P P.kind (rd' := rdC s) (fun q hq => rl_N hb q hq (.inl rfl)) (fun h l => { P with id := h.1, props := h.2, codes := l })
  rw [if_neg h9]
  by_cases h4 : k = 4 ∨ k = 5 ∨ k = 6 ∨ k = 7
  · rw [if_pos h4, if_pos h4]
    subst hk
    exact rl_bnd (rl_I hb q hq) (F := fun i z => end1 (s.extract b s.size) { P with id := i } z) (fun _ => end1_kps _ _) fun q hq _ _ => rl_end hb q hq { P with id := _ } hp h0
  rw [if_neg h4, if_neg h4]
  by_cases h14 : k = 14 ∨ k = 15
  · rw [if_pos h14, if_pos h14]
    subst hk
    exact rl_end hb q hq P hp h0
  rw [if_neg h14, if_neg h14, if_neg (by omega)]
  exact rl_ok q hq P
end
end RG
end Go.Proofs.YtemfcaaoobjgkaaGreatDoor
namespace Go.Proofs.YtemfcaaoobjgkaaGreatDoor
namespace RG
open PK (thn)

/-- What the document takes from a first byte. -/
def begP (n : Int) : Pk := if n / 16 = 3 then PK.barePk 3 (n % 16 / 8 % 2 == 1) (n % 16 / 1 % 2 == 1) (n % 16 / 2 % 4) else PK.barePk (n / 16) false false 0
def begO (n : Int) : Bool := if n / 16 = 0 then false else if n / 16 = 3 then !(n % 16 / 2 % 4 == 3 || (n % 16 / 8 % 2 == 1 && n % 16 / 2 % 4 == 0)) else n % 16 == PK.flagsN (PK.barePk (n / 16) false false 0)
/-- What stands behind the length. -/
def rest (s : ByteArray) : ByteArray := s.extract (VP.get s 1).2.1.toNat s.size
def whole (U : ByteArray) (P : Pk) : Pk × Int :=
  if (body P.kind U P (0, 0)).1.2 ≠ 0 then (PK.zeroPk, (body P.kind U P (0, 0)).1.2) else if (body P.kind U P (0, 0)).1.1 < (U.size : Int) then (PK.zeroPk, 129) else ((body P.kind U P (0, 0)).2, 0)
def get (s : ByteArray) : Pk × Int :=
  if s.size = 0 then (PK.zeroPk, 242) else if begO (PK.b0 s) = false then (PK.zeroPk, 129) else if PK.hdC s ≠ 0 then (PK.zeroPk, PK.hdC s) else whole (rest s) (begP (PK.b0 s))

theorem beg_facts (k : Fin 256) : (((k.val : Nat) : Int) / 16 = 3 → (bits .and .i64 (((k.val : Nat) : Int) % 16) 8 != 0) = (((k.val : Nat) : Int) % 16 / 8 % 2 == 1) ∧ (bits .and .i64 (((k.val : Nat) : Int) % 16) 1 != 0) = (((k.val : Nat) : Int) % 16 / 1 % 2 == 1) ∧ bits .and .i64 (((k.val : Nat) : Int) % 16 / 2) 3 = ((k.val : Nat) : Int) % 16 / 2 % 4) := by
  revert k; decide +kernel
theorem beg_okf (k : Fin 256) : PK.begOk ((k.val : Nat) : Int) = begO ((k.val : Nat) : Int) := by
  revert k; decide +kernel
theorem b0_le (s : ByteArray) : 0 ≤ PK.b0 s ∧ PK.b0 s ≤ 255 := by
  unfold PK.b0
  split
  · rename_i h
    have := VP.byte_lt s 0 h
    omega
  · omega
theorem beg_same {n : Int} (h0 : 0 ≤ n) (h1 : n ≤ 255) : PK.begPk n = begP n ∧ PK.begOk n = begO n := by
  obtain ⟨k, rfl⟩ := Int.eq_ofNat_of_zero_le h0
  refine ⟨?_, beg_okf ⟨k, by omega⟩⟩
  have h := beg_facts ⟨k, by omega⟩
  unfold PK.begPk begP
  split
  · rename_i h3
    obtain ⟨a, b, c⟩ := h h3
    rw [a, b, c]
  · rfl
theorem begP_bare (n : Int) : (begP n).props = [] ∧ (begP n).code = 0 := by
  unfold begP; split <;> exact ⟨rfl, rfl⟩
theorem lt_no {f q z : Nat} (h : f + q = z) : ¬ (q : Int) < ((z - f : Nat) : Int) := by omega
theorem lt_yes {f q z : Nat} (h : f + q ≤ z) (hn : ¬ f + q = z) : (q : Int) < ((z - f : Nat) : Int) := by omega
theorem get_same (s : ByteArray) : get s = PK.getPk s := by
  obtain ⟨n0, n1⟩ := b0_le s
  obtain ⟨e1, e2⟩ := beg_same n0 n1
  unfold get PK.getPk
  rw [e1, e2]
  split
  · rfl
  split
  · rfl
  split
  · rfl
  rename_i hs ho hc
  have hc0 : PK.hdC s = 0 := Classical.byContradiction hc
  have hg : (VP.get s 1).2.2 = 0 := by
    refine Classical.byContradiction fun h => ?_
    unfold PK.hdC at hc0
    rw [if_neg h] at hc0
    exact h hc0
  obtain ⟨m, f, eg, hf⟩ := PR.get_at s 1 hg
  obtain ⟨p0, c0⟩ := begP_bare (PK.b0 s)
  unfold rest
  rw [eg]
  simp only [Int.toNat_natCast]
  generalize begP (PK.b0 s) = P at *
  have hz := size_part s f
  obtain ⟨r1, r2⟩ := rl_body hf 0 (by omega) P P.kind rfl p0 c0
  rw [show ((f + 0 : Nat) : Int) = (f : Int) from by simp] at r1 r2
  unfold whole PK.rdWhole
  change (_ → ∃ q : Nat, (body P.kind (s.extract f s.size) P (0, 0)).1 = _ ∧ _) at r1
  change (_ → (body P.kind (s.extract f s.size) P (0, 0)).1.2 = _) at r2
  by_cases h0 : (PK.partsK P.kind s (f : Int) P).2.2 = 0
  · obtain ⟨q, a1, a2, a3, a4⟩ := r1 h0
    have a4' : (body P.kind (s.extract f s.size) P (0, 0)).2 = (PK.partsK P.kind s (f : Int) P).1 := a4
    rw [PK.thn_ok h0, a1, a2, a4']
    rw [if_neg (by simp)]
    by_cases he : f + q = s.size
    · rw [if_neg (by rw [hz]; exact lt_no he), if_pos (show (((f + q : Nat) : Int)) = (s.size : Int) from by exact_mod_cast he), if_neg (by simp)]
    · rw [if_pos (by rw [hz]; exact lt_yes a3 he), if_neg (show ¬ (((f + q : Nat) : Int)) = (s.size : Int) from by exact_mod_cast he), if_pos (show (129 : Int) ≠ 0 by decide)]
  · have h9 := r2 h0
    rw [PK.thn_bad h0, h9, if_pos h0, if_pos h0]
end RG
end Go.Proofs.YtemfcaaoobjgkaaGreatDoor
