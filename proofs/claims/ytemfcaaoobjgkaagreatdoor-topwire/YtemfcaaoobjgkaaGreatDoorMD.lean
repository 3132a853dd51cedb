/- The reader at a packet: what follows the length, by kinds (the acknowledgements, Connack, the lists).; The reader at a packet: what follows the length: Connack, and all kinds.; What speaks against a length.; The reader: a whole packet.; packet.begin: what a packet's first byte tells.; The law's packets as plain data.; packet.Get's function that reads a whole packet.; packet.caught: what a reading makes, or the code by which it left.; A number is read back from its bytes, and bytes that are read are just those of the number. No program is named here.; Packets out of bytes: the plain side.; stream.first, and stream.through with whatever function it hands the packets to.; packet.Get. -/
import Derived.Test.YtemfcaaoobjgkaaGreatDoorMC
import Derived.Laws.Tables
import Derived.Deep.MidRow
import Derived.Deep.CutBlock
import Derived.Defers
import Derived.Recover
import Derived.Test.YtemfcaaoobjgkaaGreatDoorVarPure
import Derived.Laws.BytesArg
import Derived.Test.YtemfcaaoobjgkaaGreatDoorMA
import Derived.Laws.DeepStrings4
import Derived.Lib.Hide
import Derived.Below
namespace Go.Proofs.YtemfcaaoobjgkaaGreatDoor
open Go.RowKit
attribute [local go_sem ↓] Go.wp_at_zero Go.wp_at_succ

set_option maxRecDepth 100000 in
set_option maxHeartbeats 2000000 in
theorem rparts_4 (r p : Nat) (s : ByteArray) (a : Int) (P : Pk) (w : World) (hk : P.kind = 4) (hB : Bare P) (h : RdAt r s a w) (hp : PbAt p P (.slice none 0 0) (.slice none 0 0) (.slice none 0 0) (.slice none 0 0) (.slice none 0 0) w) (hs : s.size ≤ 140737488351232) (hT : ∀ W, G2 r p w W → Tabs W) (hrp : r ≠ p) :
    Calls Tryz.prog 65 #[.pointer (some ⟨r, 0, none⟩), .pointer (some ⟨p, 0, none⟩)] w (PtP r p s w (PK.partsK P.kind s a P)) := by
  have z0 : w.cell? ⟨p, 0, none⟩ = some (.int .i64 4) := by rw [cell_heap hp]; exact congrArg (fun x => some (Value.int .i64 x)) hk
  have HB := Lib.hid hB
  have HP := Lib.hid hp
  have C1 := Lib.hid (rid_any r s a w h hs)
  obtain ⟨X, hX⟩ : ∃ X, X = PK.partsK P.kind s a P := ⟨_, rfl⟩
  rw [← hX]
  rw [hk] at hX
  have e0 : PK.partsK 4 s a P = PK.bnd P (PK.rdId s a) (fun i a => PK.rdEndP s a 4 { P with id := i }) := rfl
  rw [e0] at hX
  have HX := Lib.hid hX
  have HT := Lib.hid hT
  have HK := Lib.hid hk
  have hpr : p ≠ r := fun e => hrp e.symm
  clear e0 hX h hp hT hB hk
  go_enter Tryz.func65, Tryz.ntmps65
  generalize PK.rdId s a = Y at *
  obtain ⟨n, a1, c1⟩ := Y
  simp only at C1 HX
  go_wp2_with fail
  refine C1.out.mono ?_
  rintro e w1 hR
  by_cases h1 : c1 = 0
  · obtain ⟨rfl, r1, g1⟩ := hR.1 h1
    have X1 := HX.out
    rw [PK.bnd_ok h1] at X1
    have p1 := HP.out.gr g1 hpr
    have z4 : w1.cell? ⟨p, 4, none⟩ = some (.int .i64 P.id) := by rw [cell_heap p1]; rfl
    have f4 : w1.frozen? ⟨p, 4, none⟩ = false := frozen_heap p1
    have P2 : PbAt p { P with id := n } (.slice none 0 0) (.slice none 0 0) (.slice none 0 0) (.slice none 0 0) (.slice none 0 0) (w1.setCell ⟨p, 4, none⟩ (.int .i64 n)) := set_block p1 rfl
    have R2 : RdAt r s a1 (w1.setCell ⟨p, 4, none⟩ (.int .i64 n)) := r1.setOther hrp _ _
    have G1 : G2 r p w (w1.setCell ⟨p, 4, none⟩ (.int .i64 n)) := (G2.of_gr g1).setCell 4 _
    have C2 : Hid (Calls Tryz.prog 98 #[.pointer (some ⟨r, 0, none⟩), .pointer (some ⟨p, 0, none⟩)] (w1.setCell ⟨p, 4, none⟩ (.int .i64 n)) (EdP r p s { P with id := n } (.slice none 0 0) (.slice none 0 0) (.slice none 0 0) (.slice none 0 0) (w1.setCell ⟨p, 4, none⟩ (.int .i64 n)) (PK.rdEnd s a1 P.kind))) := rending_any r p s a1 { P with id := n } _ _ _ _ _ R2 P2 HB.out.code HB.out.props hs (fun W hW => HT.out W (G1.trans hW)) hrp
    have e1 : PK.rdEnd s a1 P.kind = PK.rdEnd s a1 4 := by rw [HK.out]
    rw [e1] at C2
    unfold PK.rdEndP at X1
    have HX1 := Lib.hid X1
    have HG1 := Lib.hid G1
    clear hR r1 g1 p1 P2 R2 G1 C1 HX X1 h1 HP HT HK e1
    generalize PK.rdEnd s a1 4 = Y at *
    go_wp2_with fail
    refine C2.out.mono ?_
    rintro e w2 hR
    by_cases h2 : Y.2.2 = 0
    · obtain ⟨v, rfl, o2, r2, p2, g2⟩ := hR.1 h2
      have O2 := Lib.hid (own_base' o2 HG1.out.size)
      have HR2 := Lib.hid r2
      have HP2 := Lib.hid p2
      have HG2 := Lib.hid (HG1.out.trans g2)
      have H2 := Lib.hid h2
      clear hR o2 r2 p2 g2 h2 C2
      go_wp2
      go_end0
      rw [HX1.out]
      exact ⟨fun _ => ⟨_, _, _, _, _, rfl, ⟨by simp only; rw [HB.out.codes]; exact own_nil _ _ _ _, O2.out, by simp only; rw [HB.out.wprops]; exact own_nil _ _ _ _, by simp only; rw [HB.out.subs]; exact own_nil _ _ _ _, by simp only; rw [HB.out.filters]; exact own_nil _ _ _ _⟩, HR2.out, HP2.out, HG2.out⟩, fun h => absurd H2.out h⟩
    · obtain ⟨rfl, g2⟩ := hR.2 h2
      exact ⟨rfl, PtP.left (by rw [HX1.out]) h2 (HG1.out.trans g2)⟩
  · obtain ⟨rfl, g1⟩ := hR.2 h1
    exact ⟨rfl, PtP.left (by rw [HX.out, PK.bnd_bad h1]) h1 (G2.of_gr g1)⟩

set_option maxRecDepth 100000 in
set_option maxHeartbeats 2000000 in
theorem rparts_5 (r p : Nat) (s : ByteArray) (a : Int) (P : Pk) (w : World) (hk : P.kind = 5) (hB : Bare P) (h : RdAt r s a w) (hp : PbAt p P (.slice none 0 0) (.slice none 0 0) (.slice none 0 0) (.slice none 0 0) (.slice none 0 0) w) (hs : s.size ≤ 140737488351232) (hT : ∀ W, G2 r p w W → Tabs W) (hrp : r ≠ p) :
    Calls Tryz.prog 65 #[.pointer (some ⟨r, 0, none⟩), .pointer (some ⟨p, 0, none⟩)] w (PtP r p s w (PK.partsK P.kind s a P)) := by
  have z0 : w.cell? ⟨p, 0, none⟩ = some (.int .i64 5) := by rw [cell_heap hp]; exact congrArg (fun x => some (Value.int .i64 x)) hk
  have HB := Lib.hid hB
  have HP := Lib.hid hp
  have C1 := Lib.hid (rid_any r s a w h hs)
  obtain ⟨X, hX⟩ : ∃ X, X = PK.partsK P.kind s a P := ⟨_, rfl⟩
  rw [← hX]
  rw [hk] at hX
  have e0 : PK.partsK 5 s a P = PK.bnd P (PK.rdId s a) (fun i a => PK.rdEndP s a 5 { P with id := i }) := rfl
  rw [e0] at hX
  have HX := Lib.hid hX
  have HT := Lib.hid hT
  have HK := Lib.hid hk
  have hpr : p ≠ r := fun e => hrp e.symm
  clear e0 hX h hp hT hB hk
  go_enter Tryz.func65, Tryz.ntmps65
  generalize PK.rdId s a = Y at *
  obtain ⟨n, a1, c1⟩ := Y
  simp only at C1 HX
  go_wp2_with fail
  refine C1.out.mono ?_
  rintro e w1 hR
  by_cases h1 : c1 = 0
  · obtain ⟨rfl, r1, g1⟩ := hR.1 h1
    have X1 := HX.out
    rw [PK.bnd_ok h1] at X1
    have p1 := HP.out.gr g1 hpr
    have z4 : w1.cell? ⟨p, 4, none⟩ = some (.int .i64 P.id) := by rw [cell_heap p1]; rfl
    have f4 : w1.frozen? ⟨p, 4, none⟩ = false := frozen_heap p1
    have P2 : PbAt p { P with id := n } (.slice none 0 0) (.slice none 0 0) (.slice none 0 0) (.slice none 0 0) (.slice none 0 0) (w1.setCell ⟨p, 4, none⟩ (.int .i64 n)) := set_block p1 rfl
    have R2 : RdAt r s a1 (w1.setCell ⟨p, 4, none⟩ (.int .i64 n)) := r1.setOther hrp _ _
    have G1 : G2 r p w (w1.setCell ⟨p, 4, none⟩ (.int .i64 n)) := (G2.of_gr g1).setCell 4 _
    have C2 : Hid (Calls Tryz.prog 98 #[.pointer (some ⟨r, 0, none⟩), .pointer (some ⟨p, 0, none⟩)] (w1.setCell ⟨p, 4, none⟩ (.int .i64 n)) (EdP r p s { P with id := n } (.slice none 0 0) (.slice none 0 0) (.slice none 0 0) (.slice none 0 0) (w1.setCell ⟨p, 4, none⟩ (.int .i64 n)) (PK.rdEnd s a1 P.kind))) := rending_any r p s a1 { P with id := n } _ _ _ _ _ R2 P2 HB.out.code HB.out.props hs (fun W hW => HT.out W (G1.trans hW)) hrp
    have e1 : PK.rdEnd s a1 P.kind = PK.rdEnd s a1 5 := by rw [HK.out]
    rw [e1] at C2
    unfold PK.rdEndP at X1
    have HX1 := Lib.hid X1
    have HG1 := Lib.hid G1
    clear hR r1 g1 p1 P2 R2 G1 C1 HX X1 h1 HP HT HK e1
    generalize PK.rdEnd s a1 5 = Y at *
    go_wp2_with fail
    refine C2.out.mono ?_
    rintro e w2 hR
    by_cases h2 : Y.2.2 = 0
    · obtain ⟨v, rfl, o2, r2, p2, g2⟩ := hR.1 h2
      have O2 := Lib.hid (own_base' o2 HG1.out.size)
      have HR2 := Lib.hid r2
      have HP2 := Lib.hid p2
      have HG2 := Lib.hid (HG1.out.trans g2)
      have H2 := Lib.hid h2
      clear hR o2 r2 p2 g2 h2 C2
      go_wp2
      go_end0
      rw [HX1.out]
      exact ⟨fun _ => ⟨_, _, _, _, _, rfl, ⟨by simp only; rw [HB.out.codes]; exact own_nil _ _ _ _, O2.out, by simp only; rw [HB.out.wprops]; exact own_nil _ _ _ _, by simp only; rw [HB.out.subs]; exact own_nil _ _ _ _, by simp only; rw [HB.out.filters]; exact own_nil _ _ _ _⟩, HR2.out, HP2.out, HG2.out⟩, fun h => absurd H2.out h⟩
    · obtain ⟨rfl, g2⟩ := hR.2 h2
      exact ⟨rfl, PtP.left (by rw [HX1.out]) h2 (HG1.out.trans g2)⟩
  · obtain ⟨rfl, g1⟩ := hR.2 h1
    exact ⟨rfl, PtP.left (by rw [HX.out, PK.bnd_bad h1]) h1 (G2.of_gr g1)⟩

set_option maxRecDepth 100000 in
set_option maxHeartbeats 2000000 in
theorem rparts_6 (r p : Nat) (s : ByteArray) (a : Int) (P : Pk) (w : World) (hk : P.kind = 6) (hB : Bare P) (h : RdAt r s a w) (hp : PbAt p P (.slice none 0 0) (.slice none 0 0) (.slice none 0 0) (.slice none 0 0) (.slice none 0 0) w) (hs : s.size ≤ 140737488351232) (hT : ∀ W, G2 r p w W → Tabs W) (hrp : r ≠ p) :
    Calls Tryz.prog 65 #[.pointer (some ⟨r, 0, none⟩), .pointer (some ⟨p, 0, none⟩)] w (PtP r p s w (PK.partsK P.kind s a P)) := by
  have z0 : w.cell? ⟨p, 0, none⟩ = some (.int .i64 6) := by rw [cell_heap hp]; exact congrArg (fun x => some (Value.int .i64 x)) hk
  have HB := Lib.hid hB
  have HP := Lib.hid hp
  have C1 := Lib.hid (rid_any r s a w h hs)
  obtain ⟨X, hX⟩ : ∃ X, X = PK.partsK P.kind s a P := ⟨_, rfl⟩
  rw [← hX]
  rw [hk] at hX
  have e0 : PK.partsK 6 s a P = PK.bnd P (PK.rdId s a) (fun i a => PK.rdEndP s a 6 { P with id := i }) := rfl
  rw [e0] at hX
  have HX := Lib.hid hX
  have HT := Lib.hid hT
  have HK := Lib.hid hk
  have hpr : p ≠ r := fun e => hrp e.symm
  clear e0 hX h hp hT hB hk
  go_enter Tryz.func65, Tryz.ntmps65
  generalize PK.rdId s a = Y at *
  obtain ⟨n, a1, c1⟩ := Y
  simp only at C1 HX
  go_wp2_with fail
  refine C1.out.mono ?_
  rintro e w1 hR
  by_cases h1 : c1 = 0
  · obtain ⟨rfl, r1, g1⟩ := hR.1 h1
    have X1 := HX.out
    rw [PK.bnd_ok h1] at X1
    have p1 := HP.out.gr g1 hpr
    have z4 : w1.cell? ⟨p, 4, none⟩ = some (.int .i64 P.id) := by rw [cell_heap p1]; rfl
    have f4 : w1.frozen? ⟨p, 4, none⟩ = false := frozen_heap p1
    have P2 : PbAt p { P with id := n } (.slice none 0 0) (.slice none 0 0) (.slice none 0 0) (.slice none 0 0) (.slice none 0 0) (w1.setCell ⟨p, 4, none⟩ (.int .i64 n)) := set_block p1 rfl
    have R2 : RdAt r s a1 (w1.setCell ⟨p, 4, none⟩ (.int .i64 n)) := r1.setOther hrp _ _
    have G1 : G2 r p w (w1.setCell ⟨p, 4, none⟩ (.int .i64 n)) := (G2.of_gr g1).setCell 4 _
    have C2 : Hid (Calls Tryz.prog 98 #[.pointer (some ⟨r, 0, none⟩), .pointer (some ⟨p, 0, none⟩)] (w1.setCell ⟨p, 4, none⟩ (.int .i64 n)) (EdP r p s { P with id := n } (.slice none 0 0) (.slice none 0 0) (.slice none 0 0) (.slice none 0 0) (w1.setCell ⟨p, 4, none⟩ (.int .i64 n)) (PK.rdEnd s a1 P.kind))) := rending_any r p s a1 { P with id := n } _ _ _ _ _ R2 P2 HB.out.code HB.out.props hs (fun W hW => HT.out W (G1.trans hW)) hrp
    have e1 : PK.rdEnd s a1 P.kind = PK.rdEnd s a1 6 := by rw [HK.out]
    rw [e1] at C2
    unfold PK.rdEndP at X1
    have HX1 := Lib.hid X1
    have HG1 := Lib.hid G1
    clear hR r1 g1 p1 P2 R2 G1 C1 HX X1 h1 HP HT HK e1
    generalize PK.rdEnd s a1 6 = Y at *
    go_wp2_with fail
    refine C2.out.mono ?_
    rintro e w2 hR
    by_cases h2 : Y.2.2 = 0
    · obtain ⟨v, rfl, o2, r2, p2, g2⟩ := hR.1 h2
      have O2 := Lib.hid (own_base' o2 HG1.out.size)
      have HR2 := Lib.hid r2
      have HP2 := Lib.hid p2
      have HG2 := Lib.hid (HG1.out.trans g2)
      have H2 := Lib.hid h2
      clear hR o2 r2 p2 g2 h2 C2
      go_wp2
      go_end0
      rw [HX1.out]
      exact ⟨fun _ => ⟨_, _, _, _, _, rfl, ⟨by simp only; rw [HB.out.codes]; exact own_nil _ _ _ _, O2.out, by simp only; rw [HB.out.wprops]; exact own_nil _ _ _ _, by simp only; rw [HB.out.subs]; exact own_nil _ _ _ _, by simp only; rw [HB.out.filters]; exact own_nil _ _ _ _⟩, HR2.out, HP2.out, HG2.out⟩, fun h => absurd H2.out h⟩
    · obtain ⟨rfl, g2⟩ := hR.2 h2
      exact ⟨rfl, PtP.left (by rw [HX1.out]) h2 (HG1.out.trans g2)⟩
  · obtain ⟨rfl, g1⟩ := hR.2 h1
    exact ⟨rfl, PtP.left (by rw [HX.out, PK.bnd_bad h1]) h1 (G2.of_gr g1)⟩

set_option maxRecDepth 100000 in
set_option maxHeartbeats 2000000 in
theorem rparts_7 (r p : Nat) (s : ByteArray) (a : Int) (P : Pk) (w : World) (hk : P.kind = 7) (hB : Bare P) (h : RdAt r s a w) (hp : PbAt p P (.slice none 0 0) (.slice none 0 0) (.slice none 0 0) (.slice none 0 0) (.slice none 0 0) w) (hs : s.size ≤ 140737488351232) (hT : ∀ W, G2 r p w W → Tabs W) (hrp : r ≠ p) :
    Calls Tryz.prog 65 #[.pointer (some ⟨r, 0, none⟩), .pointer (some ⟨p, 0, none⟩)] w (PtP r p s w (PK.partsK P.kind s a P)) := by
  have z0 : w.cell? ⟨p, 0, none⟩ = some (.int .i64 7) := by rw [cell_heap hp]; exact congrArg (fun x => some (Value.int .i64 x)) hk
  have HB := Lib.hid hB
  have HP := Lib.hid hp
  have C1 := Lib.hid (rid_any r s a w h hs)
  obtain ⟨X, hX⟩ : ∃ X, X = PK.partsK P.kind s a P := ⟨_, rfl⟩
  rw [← hX]
  rw [hk] at hX
  have e0 : PK.partsK 7 s a P = PK.bnd P (PK.rdId s a) (fun i a => PK.rdEndP s a 7 { P with id := i }) := rfl
  rw [e0] at hX
  have HX := Lib.hid hX
  have HT := Lib.hid hT
  have HK := Lib.hid hk
  have hpr : p ≠ r := fun e => hrp e.symm
  clear e0 hX h hp hT hB hk
  go_enter Tryz.func65, Tryz.ntmps65
  generalize PK.rdId s a = Y at *
  obtain ⟨n, a1, c1⟩ := Y
  simp only at C1 HX
  go_wp2_with fail
  refine C1.out.mono ?_
  rintro e w1 hR
  by_cases h1 : c1 = 0
  · obtain ⟨rfl, r1, g1⟩ := hR.1 h1
    have X1 := HX.out
    rw [PK.bnd_ok h1] at X1
    have p1 := HP.out.gr g1 hpr
    have z4 : w1.cell? ⟨p, 4, none⟩ = some (.int .i64 P.id) := by rw [cell_heap p1]; rfl
    have f4 : w1.frozen? ⟨p, 4, none⟩ = false := frozen_heap p1
    have P2 : PbAt p { P with id := n } (.slice none 0 0) (.slice none 0 0) (.slice none 0 0) (.slice none 0 0) (.slice none 0 0) (w1.setCell ⟨p, 4, none⟩ (.int .i64 n)) := set_block p1 rfl
    have R2 : RdAt r s a1 (w1.setCell ⟨p, 4, none⟩ (.int .i64 n)) := r1.setOther hrp _ _
    have G1 : G2 r p w (w1.setCell ⟨p, 4, none⟩ (.int .i64 n)) := (G2.of_gr g1).setCell 4 _
    have C2 : Hid (Calls Tryz.prog 98 #[.pointer (some ⟨r, 0, none⟩), .pointer (some ⟨p, 0, none⟩)] (w1.setCell ⟨p, 4, none⟩ (.int .i64 n)) (EdP r p s { P with id := n } (.slice none 0 0) (.slice none 0 0) (.slice none 0 0) (.slice none 0 0) (w1.setCell ⟨p, 4, none⟩ (.int .i64 n)) (PK.rdEnd s a1 P.kind))) := rending_any r p s a1 { P with id := n } _ _ _ _ _ R2 P2 HB.out.code HB.out.props hs (fun W hW => HT.out W (G1.trans hW)) hrp
    have e1 : PK.rdEnd s a1 P.kind = PK.rdEnd s a1 7 := by rw [HK.out]
    rw [e1] at C2
    unfold PK.rdEndP at X1
    have HX1 := Lib.hid X1
    have HG1 := Lib.hid G1
    clear hR r1 g1 p1 P2 R2 G1 C1 HX X1 h1 HP HT HK e1
    generalize PK.rdEnd s a1 7 = Y at *
    go_wp2_with fail
    refine C2.out.mono ?_
    rintro e w2 hR
    by_cases h2 : Y.2.2 = 0
    · obtain ⟨v, rfl, o2, r2, p2, g2⟩ := hR.1 h2
      have O2 := Lib.hid (own_base' o2 HG1.out.size)
      have HR2 := Lib.hid r2
      have HP2 := Lib.hid p2
      have HG2 := Lib.hid (HG1.out.trans g2)
      have H2 := Lib.hid h2
      clear hR o2 r2 p2 g2 h2 C2
      go_wp2
      go_end0
      rw [HX1.out]
      exact ⟨fun _ => ⟨_, _, _, _, _, rfl, ⟨by simp only; rw [HB.out.codes]; exact own_nil _ _ _ _, O2.out, by simp only; rw [HB.out.wprops]; exact own_nil _ _ _ _, by simp only; rw [HB.out.subs]; exact own_nil _ _ _ _, by simp only; rw [HB.out.filters]; exact own_nil _ _ _ _⟩, HR2.out, HP2.out, HG2.out⟩, fun h => absurd H2.out h⟩
    · obtain ⟨rfl, g2⟩ := hR.2 h2
      exact ⟨rfl, PtP.left (by rw [HX1.out]) h2 (HG1.out.trans g2)⟩
  · obtain ⟨rfl, g1⟩ := hR.2 h1
    exact ⟨rfl, PtP.left (by rw [HX.out, PK.bnd_bad h1]) h1 (G2.of_gr g1)⟩

set_option maxRecDepth 100000 in
set_option maxHeartbeats 2000000 in
theorem rparts_8 (r p : Nat) (s : ByteArray) (a : Int) (P : Pk) (w : World) (hk : P.kind = 8) (hB : Bare P) (h : RdAt r s a w) (hp : PbAt p P (.slice none 0 0) (.slice none 0 0) (.slice none 0 0) (.slice none 0 0) (.slice none 0 0) w) (hs : s.size ≤ 140737488351232) (hT : ∀ W, G2 r p w W → Tabs W) (hrp : r ≠ p) :
    Calls Tryz.prog 65 #[.pointer (some ⟨r, 0, none⟩), .pointer (some ⟨p, 0, none⟩)] w (PtP r p s w (PK.partsK P.kind s a P)) := by
  have z0 : w.cell? ⟨p, 0, none⟩ = some (.int .i64 8) := by rw [cell_heap hp]; exact congrArg (fun x => some (Value.int .i64 x)) hk
  have HB := Lib.hid hB
  have C1 : Hid (Calls Tryz.prog 91 #[.pointer (some ⟨r, 0, none⟩), .pointer (some ⟨p, 0, none⟩)] w (HdP r p s P (.slice none 0 0) (.slice none 0 0) (.slice none 0 0) (.slice none 0 0) w (PK.rdHd s a P.kind))) := rhead_any r p s a P _ _ _ _ _ w h hp hs hT hrp
  rw [hk] at C1
  obtain ⟨X, hX⟩ : ∃ X, X = PK.partsK P.kind s a P := ⟨_, rfl⟩
  rw [← hX]
  rw [hk] at hX
  have e0 : PK.partsK 8 s a P = PK.bnd P (PK.rdHd s a 8) (fun h a => PK.bnd P (PK.lst (PK.rdSub s) s.size 66 a []) (fun l a => ({ P with id := h.1, props := h.2, subs := l }, a, 0))) := rfl
  rw [e0] at hX
  have HX := Lib.hid hX
  have HT := Lib.hid hT
  have hlr := lt_heap h
  have hlp := lt_heap hp
  have hpr : p ≠ r := fun e => hrp e.symm
  have hmf : ∀ (fn : Fn) (first cap : Array Value) (w : World), (Instr.makeFunc fn first cap).run Tryz.prog w = .ok (.func fn first cap) w := fun _ _ _ _ => rfl
  clear e0 hX h hp hT hB hk
  go_enter Tryz.func65, Tryz.ntmps65
  generalize PK.rdHd s a 8 = Y at *
  obtain ⟨⟨n, q⟩, a1, c1⟩ := Y
  go_wp2_with fail
  refine C1.out.mono ?_
  rintro e w1 hR
  by_cases h1 : c1 = 0
  · obtain ⟨v, rfl, o1, r1, p1, g1⟩ := hR.1 h1
    have X1 := HX.out
    rw [PK.bnd_ok h1] at X1
    simp only at X1 o1 r1 p1
    have C2 : Hid (Calls Tryz.prog 92 #[.pointer (some ⟨r, 0, none⟩), .func (.func 93) #[.pointer (some ⟨r, 0, none⟩)] #[]] w1 (LsP 61 5 flatB r s w1 (PK.lst (PK.rdSub s) s.size 66 a1 []))) := rlists_any r s a1 w1 r1 hs (fun W hW => HT.out W (g1.trans (G2.of_gr hW)))
    generalize PK.lst (PK.rdSub s) s.size 66 a1 [] = Z at *
    obtain ⟨l, a2, c2⟩ := Z
    have HX1 := Lib.hid X1
    have HP1 := Lib.hid p1
    have HG1 := Lib.hid g1
    have HO1 := Lib.hid o1
    clear hR o1 r1 p1 g1 C1 HX X1 h1 HT
    go_wp2_with fail
    refine C2.out.mono ?_
    rintro e w2 hR
    by_cases h2 : c2 = 0
    · obtain ⟨v2, rfl, o2, r2, g2⟩ := hR.1 h2
      have p2 := HP1.out.gr g2 hpr
      have zc : w2.cell? ⟨p, 24, none⟩ = some (.slice none 0 0) := by rw [cell_heap p2]; rfl
      have fc : w2.frozen? ⟨p, 24, none⟩ = false := frozen_heap p2
      obtain ⟨A, cap, rfl⟩ := own_form o2
      simp only at o2 zc p2 r2
      have o3 : w2.ownsRow w.heap.size 61 5 (.slice A l.length cap) l.length (flatB l) := own_base' o2 HG1.out.size
      have L4 : Hid ((w2.setCell ⟨p, 24, none⟩ (.slice A l.length cap)).ownsRow w.heap.size 61 5 (.slice A l.length cap) l.length (flatB l)) := Lib.hid (own_set o3 (row_ne o3 hlp))
      have m2 := own_gr HO1.out g2 (row_ne HO1.out hlr)
      have O4 : Hid ((w2.setCell ⟨p, 24, none⟩ (.slice A l.length cap)).ownsRow w.heap.size 116 4 v q.length (flatP q)) := Lib.hid (own_set m2 (row_ne m2 hlp))
      have P4 : Hid (PbAt p { P with id := n, props := q, subs := l } (.slice none 0 0) v (.slice none 0 0) (.slice A l.length cap) (.slice none 0 0) (w2.setCell ⟨p, 24, none⟩ (.slice A l.length cap))) := Lib.hid (set_block p2 rfl)
      have R4 : Hid (RdAt r s a2 (w2.setCell ⟨p, 24, none⟩ (.slice A l.length cap))) := Lib.hid (r2.setOther hrp _ _)
      have G4 : Hid (G2 r p w (w2.setCell ⟨p, 24, none⟩ (.slice A l.length cap))) := Lib.hid ((HG1.out.trans (G2.of_gr g2)).setCell 24 _)
      have E : Hid (X = ({ P with id := n, props := q, subs := l }, a2, 0)) := Lib.hid (by rw [HX1.out, PK.bnd_ok h2])
      clear hR o2 r2 g2 p2 o3 m2 h2 C2 HX1 HP1 HG1 HO1
      go_wp2
      go_end0
      rw [E.out]
      exact ⟨fun _ => ⟨_, _, _, _, _, rfl, ⟨by simp only; rw [HB.out.codes]; exact own_nil _ _ _ _, O4.out, by simp only; rw [HB.out.wprops]; exact own_nil _ _ _ _, L4.out, by simp only; rw [HB.out.filters]; exact own_nil _ _ _ _⟩, R4.out, P4.out, G4.out⟩, fun h => absurd rfl h⟩
    · obtain ⟨rfl, g2⟩ := hR.2 h2
      exact ⟨rfl, PtP.left (by rw [HX1.out, PK.bnd_bad h2]) h2 (HG1.out.trans (G2.of_gr g2))⟩
  · obtain ⟨rfl, g1⟩ := hR.2 h1
    exact ⟨rfl, PtP.left (by rw [HX.out, PK.bnd_bad h1]) h1 g1⟩

set_option maxRecDepth 100000 in
set_option maxHeartbeats 2000000 in
theorem rparts_10 (r p : Nat) (s : ByteArray) (a : Int) (P : Pk) (w : World) (hk : P.kind = 10) (hB : Bare P) (h : RdAt r s a w) (hp : PbAt p P (.slice none 0 0) (.slice none 0 0) (.slice none 0 0) (.slice none 0 0) (.slice none 0 0) w) (hs : s.size ≤ 140737488351232) (hT : ∀ W, G2 r p w W → Tabs W) (hrp : r ≠ p) :
    Calls Tryz.prog 65 #[.pointer (some ⟨r, 0, none⟩), .pointer (some ⟨p, 0, none⟩)] w (PtP r p s w (PK.partsK P.kind s a P)) := by
  have z0 : w.cell? ⟨p, 0, none⟩ = some (.int .i64 10) := by rw [cell_heap hp]; exact congrArg (fun x => some (Value.int .i64 x)) hk
  have HB := Lib.hid hB
  have C1 : Hid (Calls Tryz.prog 91 #[.pointer (some ⟨r, 0, none⟩), .pointer (some ⟨p, 0, none⟩)] w (HdP r p s P (.slice none 0 0) (.slice none 0 0) (.slice none 0 0) (.slice none 0 0) w (PK.rdHd s a P.kind))) := rhead_any r p s a P _ _ _ _ _ w h hp hs hT hrp
  rw [hk] at C1
  obtain ⟨X, hX⟩ : ∃ X, X = PK.partsK P.kind s a P := ⟨_, rfl⟩
  rw [← hX]
  rw [hk] at hX
  have e0 : PK.partsK 10 s a P = PK.bnd P (PK.rdHd s a 10) (fun h a => PK.bnd P (PK.lst (PK.rdT s) s.size 66 a []) (fun l a => ({ P with id := h.1, props := h.2, filters := l }, a, 0))) := rfl
  rw [e0] at hX
  have HX := Lib.hid hX
  have HT := Lib.hid hT
  have hlr := lt_heap h
  have hlp := lt_heap hp
  have hpr : p ≠ r := fun e => hrp e.symm
  have hmf : ∀ (fn : Fn) (first cap : Array Value) (w : World), (Instr.makeFunc fn first cap).run Tryz.prog w = .ok (.func fn first cap) w := fun _ _ _ _ => rfl
  clear e0 hX h hp hT hB hk
  go_enter Tryz.func65, Tryz.ntmps65
  generalize PK.rdHd s a 10 = Y at *
  obtain ⟨⟨n, q⟩, a1, c1⟩ := Y
  go_wp2_with fail
  refine C1.out.mono ?_
  rintro e w1 hR
  by_cases h1 : c1 = 0
  · obtain ⟨v, rfl, o1, r1, p1, g1⟩ := hR.1 h1
    have X1 := HX.out
    rw [PK.bnd_ok h1] at X1
    simp only at X1 o1 r1 p1
    have C2 : Hid (Calls Tryz.prog 94 #[.pointer (some ⟨r, 0, none⟩), .func (.func 95) #[.pointer (some ⟨r, 0, none⟩)] #[]] w1 (LsP 9 1 flatT r s w1 (PK.lst (PK.rdT s) s.size 66 a1 []))) := rlistt_any r s a1 w1 r1 hs (fun W hW => HT.out W (g1.trans (G2.of_gr hW)))
    generalize PK.lst (PK.rdT s) s.size 66 a1 [] = Z at *
    obtain ⟨l, a2, c2⟩ := Z
    have HX1 := Lib.hid X1
    have HP1 := Lib.hid p1
    have HG1 := Lib.hid g1
    have HO1 := Lib.hid o1
    clear hR o1 r1 p1 g1 C1 HX X1 h1 HT
    go_wp2_with fail
    refine C2.out.mono ?_
    rintro e w2 hR
    by_cases h2 : c2 = 0
    · obtain ⟨v2, rfl, o2, r2, g2⟩ := hR.1 h2
      have p2 := HP1.out.gr g2 hpr
      have zc : w2.cell? ⟨p, 25, none⟩ = some (.slice none 0 0) := by rw [cell_heap p2]; rfl
      have fc : w2.frozen? ⟨p, 25, none⟩ = false := frozen_heap p2
      obtain ⟨A, cap, rfl⟩ := own_form o2
      simp only at o2 zc p2 r2
      have o3 : w2.ownsRow w.heap.size 9 1 (.slice A l.length cap) l.length (flatT l) := own_base' o2 HG1.out.size
      have L4 : Hid ((w2.setCell ⟨p, 25, none⟩ (.slice A l.length cap)).ownsRow w.heap.size 9 1 (.slice A l.length cap) l.length (flatT l)) := Lib.hid (own_set o3 (row_ne o3 hlp))
      have m2 := own_gr HO1.out g2 (row_ne HO1.out hlr)
      have O4 : Hid ((w2.setCell ⟨p, 25, none⟩ (.slice A l.length cap)).ownsRow w.heap.size 116 4 v q.length (flatP q)) := Lib.hid (own_set m2 (row_ne m2 hlp))
      have P4 : Hid (PbAt p { P with id := n, props := q, filters := l } (.slice none 0 0) v (.slice none 0 0) (.slice none 0 0) (.slice A l.length cap) (w2.setCell ⟨p, 25, none⟩ (.slice A l.length cap))) := Lib.hid (set_block p2 rfl)
      have R4 : Hid (RdAt r s a2 (w2.setCell ⟨p, 25, none⟩ (.slice A l.length cap))) := Lib.hid (r2.setOther hrp _ _)
      have G4 : Hid (G2 r p w (w2.setCell ⟨p, 25, none⟩ (.slice A l.length cap))) := Lib.hid ((HG1.out.trans (G2.of_gr g2)).setCell 25 _)
      have E : Hid (X = ({ P with id := n, props := q, filters := l }, a2, 0)) := Lib.hid (by rw [HX1.out, PK.bnd_ok h2])
      clear hR o2 r2 g2 p2 o3 m2 h2 C2 HX1 HP1 HG1 HO1
      go_wp2
      go_end0
      rw [E.out]
      exact ⟨fun _ => ⟨_, _, _, _, _, rfl, ⟨by simp only; rw [HB.out.codes]; exact own_nil _ _ _ _, O4.out, by simp only; rw [HB.out.wprops]; exact own_nil _ _ _ _, by simp only; rw [HB.out.subs]; exact own_nil _ _ _ _, L4.out⟩, R4.out, P4.out, G4.out⟩, fun h => absurd rfl h⟩
    · obtain ⟨rfl, g2⟩ := hR.2 h2
      exact ⟨rfl, PtP.left (by rw [HX1.out, PK.bnd_bad h2]) h2 (HG1.out.trans (G2.of_gr g2))⟩
  · obtain ⟨rfl, g1⟩ := hR.2 h1
    exact ⟨rfl, PtP.left (by rw [HX.out, PK.bnd_bad h1]) h1 g1⟩

set_option maxRecDepth 100000 in
set_option maxHeartbeats 2000000 in
theorem rparts_9 (r p : Nat) (s : ByteArray) (a : Int) (P : Pk) (w : World) (hk : P.kind = 9) (hB : Bare P) (h : RdAt r s a w) (hp : PbAt p P (.slice none 0 0) (.slice none 0 0) (.slice none 0 0) (.slice none 0 0) (.slice none 0 0) w) (hs : s.size ≤ 140737488351232) (hT : ∀ W, G2 r p w W → Tabs W) (hrp : r ≠ p) :
    Calls Tryz.prog 65 #[.pointer (some ⟨r, 0, none⟩), .pointer (some ⟨p, 0, none⟩)] w (PtP r p s w (PK.partsK P.kind s a P)) := by
  have z0 : w.cell? ⟨p, 0, none⟩ = some (.int .i64 9) := by rw [cell_heap hp]; exact congrArg (fun x => some (Value.int .i64 x)) hk
  have HB := Lib.hid hB
  have C1 : Hid (Calls Tryz.prog 91 #[.pointer (some ⟨r, 0, none⟩), .pointer (some ⟨p, 0, none⟩)] w (HdP r p s P (.slice none 0 0) (.slice none 0 0) (.slice none 0 0) (.slice none 0 0) w (PK.rdHd s a P.kind))) := rhead_any r p s a P _ _ _ _ _ w h hp hs hT hrp
  rw [hk] at C1
  obtain ⟨X, hX⟩ : ∃ X, X = PK.partsK P.kind s a P := ⟨_, rfl⟩
  rw [← hX]
  rw [hk] at hX
  have e0 : PK.partsK 9 s a P = PK.bnd P (PK.rdHd s a 9) (fun h a => PK.bnd P (PK.lst (PK.rdC s) s.size 66 a []) (fun l a => ({ P with id := h.1, props := h.2, codes := l }, a, 0))) := rfl
  rw [e0] at hX
  have HX := Lib.hid hX
  have hlr := lt_heap h
  have hlp := lt_heap hp
  have hpr : p ≠ r := fun e => hrp e.symm
  have hmf : ∀ (fn : Fn) (first cap : Array Value) (w : World), (Instr.makeFunc fn first cap).run Tryz.prog w = .ok (.func fn first cap) w := fun _ _ _ _ => rfl
  clear e0 hX h hp hT hB hk
  go_enter Tryz.func65, Tryz.ntmps65
  generalize PK.rdHd s a 9 = Y at *
  obtain ⟨⟨n, q⟩, a1, c1⟩ := Y
  go_wp2_with fail
  refine C1.out.mono ?_
  rintro e w1 hR
  by_cases h1 : c1 = 0
  · obtain ⟨v, rfl, o1, r1, p1, g1⟩ := hR.1 h1
    have X1 := HX.out
    rw [PK.bnd_ok h1] at X1
    simp only at X1 o1 r1 p1
    have C2 : Hid (Calls Tryz.prog 96 #[.pointer (some ⟨r, 0, none⟩), .func (.func 88) #[.pointer (some ⟨r, 0, none⟩)] #[]] w1 (LsP 30 1 flatC r s w1 (PK.lst (PK.rdC s) s.size 66 a1 []))) := rlistc_any r s a1 w1 r1 hs
    generalize PK.lst (PK.rdC s) s.size 66 a1 [] = Z at *
    obtain ⟨l, a2, c2⟩ := Z
    have HX1 := Lib.hid X1
    have HP1 := Lib.hid p1
    have HG1 := Lib.hid g1
    have HO1 := Lib.hid o1
    clear hR o1 r1 p1 g1 C1 HX X1 h1
    go_wp2_with fail
    refine C2.out.mono ?_
    rintro e w2 hR
    by_cases h2 : c2 = 0
    · obtain ⟨v2, rfl, o2, r2, g2⟩ := hR.1 h2
      have p2 := HP1.out.gr g2 hpr
      have zc : w2.cell? ⟨p, 8, none⟩ = some (.slice none 0 0) := by rw [cell_heap p2]; rfl
      have fc : w2.frozen? ⟨p, 8, none⟩ = false := frozen_heap p2
      obtain ⟨A, cap, rfl⟩ := own_form o2
      simp only at o2 zc p2 r2
      have o3 : w2.ownsRow w.heap.size 30 1 (.slice A l.length cap) l.length (flatC l) := own_base' o2 HG1.out.size
      have L4 : Hid ((w2.setCell ⟨p, 8, none⟩ (.slice A l.length cap)).ownsRow w.heap.size 30 1 (.slice A l.length cap) l.length (flatC l)) := Lib.hid (own_set o3 (row_ne o3 hlp))
      have m2 := own_gr HO1.out g2 (row_ne HO1.out hlr)
      have O4 : Hid ((w2.setCell ⟨p, 8, none⟩ (.slice A l.length cap)).ownsRow w.heap.size 116 4 v q.length (flatP q)) := Lib.hid (own_set m2 (row_ne m2 hlp))
      have P4 : Hid (PbAt p { P with id := n, props := q, codes := l } (.slice A l.length cap) v (.slice none 0 0) (.slice none 0 0) (.slice none 0 0) (w2.setCell ⟨p, 8, none⟩ (.slice A l.length cap))) := Lib.hid (set_block p2 rfl)
      have R4 : Hid (RdAt r s a2 (w2.setCell ⟨p, 8, none⟩ (.slice A l.length cap))) := Lib.hid (r2.setOther hrp _ _)
      have G4 : Hid (G2 r p w (w2.setCell ⟨p, 8, none⟩ (.slice A l.length cap))) := Lib.hid ((HG1.out.trans (G2.of_gr g2)).setCell 8 _)
      have E : Hid (X = ({ P with id := n, props := q, codes := l }, a2, 0)) := Lib.hid (by rw [HX1.out, PK.bnd_ok h2])
      clear hR o2 r2 g2 p2 o3 m2 h2 C2 HX1 HP1 HG1 HO1
      go_wp2
      go_end0
      rw [E.out]
      exact ⟨fun _ => ⟨_, _, _, _, _, rfl, ⟨L4.out, O4.out, by simp only; rw [HB.out.wprops]; exact own_nil _ _ _ _, by simp only; rw [HB.out.subs]; exact own_nil _ _ _ _, by simp only; rw [HB.out.filters]; exact own_nil _ _ _ _⟩, R4.out, P4.out, G4.out⟩, fun h => absurd rfl h⟩
    · obtain ⟨rfl, g2⟩ := hR.2 h2
      exact ⟨rfl, PtP.left (by rw [HX1.out, PK.bnd_bad h2]) h2 (HG1.out.trans (G2.of_gr g2))⟩
  · obtain ⟨rfl, g1⟩ := hR.2 h1
    exact ⟨rfl, PtP.left (by rw [HX.out, PK.bnd_bad h1]) h1 g1⟩

set_option maxRecDepth 100000 in
set_option maxHeartbeats 2000000 in
theorem rparts_11 (r p : Nat) (s : ByteArray) (a : Int) (P : Pk) (w : World) (hk : P.kind = 11) (hB : Bare P) (h : RdAt r s a w) (hp : PbAt p P (.slice none 0 0) (.slice none 0 0) (.slice none 0 0) (.slice none 0 0) (.slice none 0 0) w) (hs : s.size ≤ 140737488351232) (hT : ∀ W, G2 r p w W → Tabs W) (hrp : r ≠ p) :
    Calls Tryz.prog 65 #[.pointer (some ⟨r, 0, none⟩), .pointer (some ⟨p, 0, none⟩)] w (PtP r p s w (PK.partsK P.kind s a P)) := by
  have z0 : w.cell? ⟨p, 0, none⟩ = some (.int .i64 11) := by rw [cell_heap hp]; exact congrArg (fun x => some (Value.int .i64 x)) hk
  have HB := Lib.hid hB
  have C1 : Hid (Calls Tryz.prog 91 #[.pointer (some ⟨r, 0, none⟩), .pointer (some ⟨p, 0, none⟩)] w (HdP r p s P (.slice none 0 0) (.slice none 0 0) (.slice none 0 0) (.slice none 0 0) w (PK.rdHd s a P.kind))) := rhead_any r p s a P _ _ _ _ _ w h hp hs hT hrp
  rw [hk] at C1
  obtain ⟨X, hX⟩ : ∃ X, X = PK.partsK P.kind s a P := ⟨_, rfl⟩
  rw [← hX]
  rw [hk] at hX
  have e0 : PK.partsK 11 s a P = PK.bnd P (PK.rdHd s a 11) (fun h a => PK.bnd P (PK.lst (PK.rdC s) s.size 66 a []) (fun l a => ({ P with id := h.1, props := h.2, codes := l }, a, 0))) := rfl
  rw [e0] at hX
  have HX := Lib.hid hX
  have hlr := lt_heap h
  have hlp := lt_heap hp
  have hpr : p ≠ r := fun e => hrp e.symm
  have hmf : ∀ (fn : Fn) (first cap : Array Value) (w : World), (Instr.makeFunc fn first cap).run Tryz.prog w = .ok (.func fn first cap) w := fun _ _ _ _ => rfl
  clear e0 hX h hp hT hB hk
  go_enter Tryz.func65, Tryz.ntmps65
  generalize PK.rdHd s a 11 = Y at *
  obtain ⟨⟨n, q⟩, a1, c1⟩ := Y
  go_wp2_with fail
  refine C1.out.mono ?_
  rintro e w1 hR
  by_cases h1 : c1 = 0
  · obtain ⟨v, rfl, o1, r1, p1, g1⟩ := hR.1 h1
    have X1 := HX.out
    rw [PK.bnd_ok h1] at X1
    simp only at X1 o1 r1 p1
    have C2 : Hid (Calls Tryz.prog 96 #[.pointer (some ⟨r, 0, none⟩), .func (.func 88) #[.pointer (some ⟨r, 0, none⟩)] #[]] w1 (LsP 30 1 flatC r s w1 (PK.lst (PK.rdC s) s.size 66 a1 []))) := rlistc_any r s a1 w1 r1 hs
    generalize PK.lst (PK.rdC s) s.size 66 a1 [] = Z at *
    obtain ⟨l, a2, c2⟩ := Z
    have HX1 := Lib.hid X1
    have HP1 := Lib.hid p1
    have HG1 := Lib.hid g1
    have HO1 := Lib.hid o1
    clear hR o1 r1 p1 g1 C1 HX X1 h1
    go_wp2_with fail
    refine C2.out.mono ?_
    rintro e w2 hR
    by_cases h2 : c2 = 0
    · obtain ⟨v2, rfl, o2, r2, g2⟩ := hR.1 h2
      have p2 := HP1.out.gr g2 hpr
      have zc : w2.cell? ⟨p, 8, none⟩ = some (.slice none 0 0) := by rw [cell_heap p2]; rfl
      have fc : w2.frozen? ⟨p, 8, none⟩ = false := frozen_heap p2
      obtain ⟨A, cap, rfl⟩ := own_form o2
      simp only at o2 zc p2 r2
      have o3 : w2.ownsRow w.heap.size 30 1 (.slice A l.length cap) l.length (flatC l) := own_base' o2 HG1.out.size
      have L4 : Hid ((w2.setCell ⟨p, 8, none⟩ (.slice A l.length cap)).ownsRow w.heap.size 30 1 (.slice A l.length cap) l.length (flatC l)) := Lib.hid (own_set o3 (row_ne o3 hlp))
      have m2 := own_gr HO1.out g2 (row_ne HO1.out hlr)
      have O4 : Hid ((w2.setCell ⟨p, 8, none⟩ (.slice A l.length cap)).ownsRow w.heap.size 116 4 v q.length (flatP q)) := Lib.hid (own_set m2 (row_ne m2 hlp))
      have P4 : Hid (PbAt p { P with id := n, props := q, codes := l } (.slice A l.length cap) v (.slice none 0 0) (.slice none 0 0) (.slice none 0 0) (w2.setCell ⟨p, 8, none⟩ (.slice A l.length cap))) := Lib.hid (set_block p2 rfl)
      have R4 : Hid (RdAt r s a2 (w2.setCell ⟨p, 8, none⟩ (.slice A l.length cap))) := Lib.hid (r2.setOther hrp _ _)
      have G4 : Hid (G2 r p w (w2.setCell ⟨p, 8, none⟩ (.slice A l.length cap))) := Lib.hid ((HG1.out.trans (G2.of_gr g2)).setCell 8 _)
      have E : Hid (X = ({ P with id := n, props := q, codes := l }, a2, 0)) := Lib.hid (by rw [HX1.out, PK.bnd_ok h2])
      clear hR o2 r2 g2 p2 o3 m2 h2 C2 HX1 HP1 HG1 HO1
      go_wp2
      go_end0
      rw [E.out]
      exact ⟨fun _ => ⟨_, _, _, _, _, rfl, ⟨L4.out, O4.out, by simp only; rw [HB.out.wprops]; exact own_nil _ _ _ _, by simp only; rw [HB.out.subs]; exact own_nil _ _ _ _, by simp only; rw [HB.out.filters]; exact own_nil _ _ _ _⟩, R4.out, P4.out, G4.out⟩, fun h => absurd rfl h⟩
    · obtain ⟨rfl, g2⟩ := hR.2 h2
      exact ⟨rfl, PtP.left (by rw [HX1.out, PK.bnd_bad h2]) h2 (HG1.out.trans (G2.of_gr g2))⟩
  · obtain ⟨rfl, g1⟩ := hR.2 h1
    exact ⟨rfl, PtP.left (by rw [HX.out, PK.bnd_bad h1]) h1 g1⟩
end Go.Proofs.YtemfcaaoobjgkaaGreatDoor
namespace Go.Proofs.YtemfcaaoobjgkaaGreatDoor
open Go.RowKit
attribute [local go_sem ↓] Go.wp_at_zero Go.wp_at_succ

set_option maxRecDepth 100000 in
set_option maxHeartbeats 2000000 in
theorem rparts_2 (r p : Nat) (s : ByteArray) (a : Int) (P : Pk) (w : World) (hk : P.kind = 2) (hB : Bare P) (h : RdAt r s a w) (hp : PbAt p P (.slice none 0 0) (.slice none 0 0) (.slice none 0 0) (.slice none 0 0) (.slice none 0 0) w) (hs : s.size ≤ 140737488351232) (hT : ∀ W, G2 r p w W → Tabs W) (hrp : r ≠ p) :
    Calls Tryz.prog 65 #[.pointer (some ⟨r, 0, none⟩), .pointer (some ⟨p, 0, none⟩)] w (PtP r p s w (PK.partsK P.kind s a P)) := by
  have z0 : w.cell? ⟨p, 0, none⟩ = some (.int .i64 2) := by rw [cell_heap hp]; exact congrArg (fun x => some (Value.int .i64 x)) hk
  have HB := Lib.hid hB
  have HP := Lib.hid hp
  have C1 := Lib.hid (rsession_any r s a w h hs)
  have CC : Hid (∀ a W, RdAt r s a W → Calls Tryz.prog 88 #[.pointer (some ⟨r, 0, none⟩)] W (RdP r s W (.int .u8 (PK.rdC s a).1) (PK.rdC s a).2.1 (PK.rdC s a).2.2)) := fun a W hW => rreason_any r s a W hW hs
  have CR : Hid (∀ a W, G2 r p w W → RdAt r s a W → Calls Tryz.prog 89 #[.pointer (some ⟨r, 0, none⟩), .int .i64 2] W (RdPP r s W (PK.rdPr s a 2).1 (PK.rdPr s a 2).2.1 (PK.rdPr s a 2).2.2)) := fun a W hg hW => rprops_any r s a 2 W hW hs (hT W hg)
  obtain ⟨X, hX⟩ : ∃ X, X = PK.partsK P.kind s a P := ⟨_, rfl⟩
  rw [← hX]
  rw [hk] at hX
  have e0 : PK.partsK 2 s a P = PK.bnd P (PK.rdSes s a) (fun v a => PK.bnd P (PK.rdC s a) (fun c a => PK.bnd P (PK.rdPr s a 2) (fun l a => ({ P with session := v, code := c, props := l }, a, 0)))) := rfl
  rw [e0] at hX
  have HX := Lib.hid hX
  have HK := Lib.hid hk
  have hlp := lt_heap hp
  have hpr : p ≠ r := fun e => hrp e.symm
  clear e0 hX h hp hT hB hk
  go_enter Tryz.func65, Tryz.ntmps65
  generalize PK.rdSes s a = Y at *
  obtain ⟨b, a1, c1⟩ := Y
  simp only at C1
  go_wp2_with fail
  refine C1.out.mono ?_
  rintro e w1 hR
  by_cases h1 : c1 = 0
  · obtain ⟨rfl, r1, g1⟩ := hR.1 h1
    have X1 := HX.out
    rw [PK.bnd_ok h1] at X1
    have p1 := HP.out.gr g1 hpr
    have z23 : w1.cell? ⟨p, 23, none⟩ = some (.bool P.session) := by rw [cell_heap p1]; rfl
    have f23 : w1.frozen? ⟨p, 23, none⟩ = false := frozen_heap p1
    have P2 : Hid (PbAt p { P with session := b } (.slice none 0 0) (.slice none 0 0) (.slice none 0 0) (.slice none 0 0) (.slice none 0 0) (w1.setCell ⟨p, 23, none⟩ (.bool b))) := Lib.hid (set_block p1 rfl)
    have r2 : RdAt r s a1 (w1.setCell ⟨p, 23, none⟩ (.bool b)) := r1.setOther hrp _ _
    have HG2 : Hid (G2 r p w (w1.setCell ⟨p, 23, none⟩ (.bool b))) := Lib.hid ((G2.of_gr g1).setCell 23 _)
    have D2 := CC.out a1 _ r2
    generalize PK.rdC s a1 = Y at *
    obtain ⟨c, a2, c2⟩ := Y
    simp only at D2
    have E2 := Lib.hid D2
    have HX1 := Lib.hid X1
    clear hR r1 g1 p1 r2 D2 X1 HX C1 CC h1 HP
    go_wp2_with fail
    refine E2.out.mono ?_
    rintro e w3 hR
    by_cases h2 : c2 = 0
    · obtain ⟨rfl, r3, g3⟩ := hR.1 h2
      have X2 := HX1.out
      rw [PK.bnd_ok h2] at X2
      have p3 := P2.out.gr g3 hpr
      have z7 : w3.cell? ⟨p, 7, none⟩ = some (.int .u8 P.code) := by rw [cell_heap p3]; rfl
      have f7 : w3.frozen? ⟨p, 7, none⟩ = false := frozen_heap p3
      have y0 : w3.cell? ⟨p, 0, none⟩ = some (.int .i64 2) := by rw [cell_heap p3]; exact congrArg (fun x => some (Value.int .i64 x)) HK.out
      have P4 : Hid (PbAt p { P with session := b, code := c } (.slice none 0 0) (.slice none 0 0) (.slice none 0 0) (.slice none 0 0) (.slice none 0 0) (w3.setCell ⟨p, 7, none⟩ (.int .u8 c))) := Lib.hid (set_block p3 rfl)
      have r4 : RdAt r s a2 (w3.setCell ⟨p, 7, none⟩ (.int .u8 c)) := r3.setOther hrp _ _
      have HG4 : Hid (G2 r p w (w3.setCell ⟨p, 7, none⟩ (.int .u8 c))) := Lib.hid ((HG2.out.trans (G2.of_gr g3)).setCell 7 _)
      have D4 := CR.out a2 _ HG4.out r4
      generalize PK.rdPr s a2 2 = Y at *
      obtain ⟨l, a3, c3⟩ := Y
      simp only at D4
      have E4 := Lib.hid D4
      have HX2 := Lib.hid X2
      clear hR r3 g3 p3 r4 D4 X2 HX1 E2 CR h2 P2 HG2 HK
      go_wp2_with fail
      refine E4.out.mono ?_
      rintro e w5 hR
      by_cases h3 : c3 = 0
      · obtain ⟨v, rfl, o5, r5, g5⟩ := hR.1 h3
        have p5 := P4.out.gr g5 hpr
        have z9 : w5.cell? ⟨p, 9, none⟩ = some (.slice none 0 0) := by rw [cell_heap p5]; rfl
        have f9 : w5.frozen? ⟨p, 9, none⟩ = false := frozen_heap p5
        obtain ⟨A, cap, rfl⟩ := own_form o5
        have o6 : w5.ownsRow w.heap.size 116 4 (.slice A l.length cap) l.length (flatP l) := own_base' o5 HG4.out.size
        have O6 : Hid ((w5.setCell ⟨p, 9, none⟩ (.slice A l.length cap)).ownsRow w.heap.size 116 4 (.slice A l.length cap) l.length (flatP l)) := Lib.hid (own_set o6 (row_ne o6 hlp))
        have P6 : Hid (PbAt p { P with session := b, code := c, props := l } (.slice none 0 0) (.slice A l.length cap) (.slice none 0 0) (.slice none 0 0) (.slice none 0 0) (w5.setCell ⟨p, 9, none⟩ (.slice A l.length cap))) := Lib.hid (set_block p5 rfl)
        have R6 : Hid (RdAt r s a3 (w5.setCell ⟨p, 9, none⟩ (.slice A l.length cap))) := Lib.hid (r5.setOther hrp _ _)
        have G6 : Hid (G2 r p w (w5.setCell ⟨p, 9, none⟩ (.slice A l.length cap))) := Lib.hid ((HG4.out.trans (G2.of_gr g5)).setCell 9 _)
        have E : Hid (X = ({ P with session := b, code := c, props := l }, a3, 0)) := Lib.hid (by rw [HX2.out, PK.bnd_ok h3])
        clear hR o5 r5 g5 p5 o6 E4 h3 HX2 P4 HG4
        go_wp2
        go_end0
        rw [E.out]
        exact ⟨fun _ => ⟨_, _, _, _, _, rfl, ⟨by simp only; rw [HB.out.codes]; exact own_nil _ _ _ _, O6.out, by simp only; rw [HB.out.wprops]; exact own_nil _ _ _ _, by simp only; rw [HB.out.subs]; exact own_nil _ _ _ _, by simp only; rw [HB.out.filters]; exact own_nil _ _ _ _⟩, R6.out, P6.out, G6.out⟩, fun h => absurd rfl h⟩
      · obtain ⟨rfl, g5⟩ := hR.2 h3
        exact ⟨rfl, PtP.left (by rw [HX2.out, PK.bnd_bad h3]) h3 (HG4.out.trans (G2.of_gr g5))⟩
    · obtain ⟨rfl, g3⟩ := hR.2 h2
      exact ⟨rfl, PtP.left (by rw [HX1.out, PK.bnd_bad h2]) h2 (HG2.out.trans (G2.of_gr g3))⟩
  · obtain ⟨rfl, g1⟩ := hR.2 h1
    exact ⟨rfl, PtP.left (by rw [HX.out, PK.bnd_bad h1]) h1 (G2.of_gr g1)⟩
theorem rparts_any (r p : Nat) (s : ByteArray) (a : Int) (P : Pk) (w : World) (hk1 : 1 ≤ P.kind) (hk2 : P.kind ≤ 15) (hB : Bare P) (h : RdAt r s a w) (hp : PbAt p P (.slice none 0 0) (.slice none 0 0) (.slice none 0 0) (.slice none 0 0) (.slice none 0 0) w) (hs : s.size ≤ 140737488351232) (hT : ∀ W, G2 r p w W → Tabs W) (hrp : r ≠ p) :
    Calls Tryz.prog 65 #[.pointer (some ⟨r, 0, none⟩), .pointer (some ⟨p, 0, none⟩)] w (PtP r p s w (PK.partsK P.kind s a P)) := by
  have hc : P.kind = 1 ∨ P.kind = 2 ∨ P.kind = 3 ∨ P.kind = 4 ∨ P.kind = 5 ∨ P.kind = 6 ∨ P.kind = 7 ∨ P.kind = 8 ∨ P.kind = 9 ∨ P.kind = 10 ∨ P.kind = 11 ∨ P.kind = 12 ∨ P.kind = 13 ∨ P.kind = 14 ∨ P.kind = 15 := by omega
  rcases hc with hc | hc | hc | hc | hc | hc | hc | hc | hc | hc | hc | hc | hc | hc | hc
  · exact rparts_1 r p s a P w hc hB h hp hs hT hrp
  · exact rparts_2 r p s a P w hc hB h hp hs hT hrp
  · exact rparts_3 r p s a P w hc hB h hp hs hT hrp
  · exact rparts_4 r p s a P w hc hB h hp hs hT hrp
  · exact rparts_5 r p s a P w hc hB h hp hs hT hrp
  · exact rparts_6 r p s a P w hc hB h hp hs hT hrp
  · exact rparts_7 r p s a P w hc hB h hp hs hT hrp
  · exact rparts_8 r p s a P w hc hB h hp hs hT hrp
  · exact rparts_9 r p s a P w hc hB h hp hs hT hrp
  · exact rparts_10 r p s a P w hc hB h hp hs hT hrp
  · exact rparts_11 r p s a P w hc hB h hp hs hT hrp
  · exact rparts_12 r p s a P w hc hB h hp hs hT hrp
  · exact rparts_13 r p s a P w hc hB h hp hs hT hrp
  · exact rparts_14 r p s a P w hc hB h hp hs hT hrp
  · exact rparts_15 r p s a P w hc hB h hp hs hT hrp
end Go.Proofs.YtemfcaaoobjgkaaGreatDoor
namespace Go.Proofs.YtemfcaaoobjgkaaGreatDoor
open Go.RowKit
attribute [local go_sem ↓] Go.wp_at_zero Go.wp_at_succ

namespace PK
def lenC (n m : Int) : Int := if 65536 < n then 149 else if m < n then 242 else if n < m then 129 else 0
end PK
theorem lencode_any (n m : Int) (w : World) : Calls Tryz.prog 34 #[.int .i64 n, .int .i64 m] w fun e w' => e = .returned (.int .u8 (PK.lenC n m)) ∧ w = w' := by
  obtain ⟨X, hX⟩ : ∃ X, X = PK.lenC n m := ⟨_, rfl⟩
  rw [← hX]
  unfold PK.lenC at hX
  have HX := Lib.hid hX
  clear hX
  by_cases h1 : 65536 < n
  · have E : Hid (X = 149) := Lib.hid (by rw [HX.out, if_pos h1])
    clear HX
    go_enter Tryz.func34, Tryz.ntmps34
    go_wp2
    go_ret
    exact ⟨by rw [E.out]; rfl, rfl⟩
  · by_cases h2 : m < n
    · have E : Hid (X = 242) := Lib.hid (by rw [HX.out, if_neg h1, if_pos h2])
      clear HX
      go_enter Tryz.func34, Tryz.ntmps34
      go_wp2
      go_ret
      exact ⟨by rw [E.out]; rfl, rfl⟩
    · by_cases h3 : n < m
      · have E : Hid (X = 129) := Lib.hid (by rw [HX.out, if_neg h1, if_neg h2, if_pos h3])
        clear HX
        go_enter Tryz.func34, Tryz.ntmps34
        go_wp2
        go_ret
        exact ⟨by rw [E.out]; rfl, rfl⟩
      · have E : Hid (X = 0) := Lib.hid (by rw [HX.out, if_neg h1, if_neg h2, if_neg h3])
        clear HX
        go_enter Tryz.func34, Tryz.ntmps34
        go_wp2
        go_ret
        exact ⟨by rw [E.out]; rfl, rfl⟩
end Go.Proofs.YtemfcaaoobjgkaaGreatDoor
namespace Go.Proofs.YtemfcaaoobjgkaaGreatDoor
open Go.RowKit
attribute [local go_sem ↓] Go.wp_at_zero Go.wp_at_succ

namespace PK
def rdWhole (s : ByteArray) (a : Int) (P : Pk) : Pk × Int := ((partsK P.kind s a P).1, thn (partsK P.kind s a P).2.2 (if (partsK P.kind s a P).2.1 = (s.size : Int) then 0 else 129))
def zeroPk : Pk := ⟨0, false, false, 0, 0, ⟨#[]⟩, ⟨#[]⟩, 0, [], [], ⟨#[]⟩, false, 0, false, ⟨#[]⟩, ⟨#[]⟩, 0, false, [], false, false, ⟨#[]⟩, ⟨#[]⟩, false, [], []⟩
end PK
/-- The cells of a packet without rows. -/
def pkNil (P : Pk) : Array Value := pkCells P (.slice none 0 0) (.slice none 0 0) (.slice none 0 0) (.slice none 0 0) (.slice none 0 0)
/-- What the reader's whole answers. -/
def WhP (r : Nat) (w : World) (X : Pk × Int) (e : Ending) (w' : World) : Prop :=
  (X.2 = 0 → ∃ vc vp vw vs vf, e = .returned (.agg (pkCells X.1 vc vp vw vs vf)) ∧ Own5 w.heap.size X.1 vc vp vw vs vf w' ∧ Gr r w w') ∧ (X.2 ≠ 0 → e = leftBy X.2 ∧ Gr r w w')
theorem Gr.of_g2 {r p : Nat} {w W W' : World} (h : Gr r w W) (hp : w.heap.size ≤ p) (g : G2 r p W W') : Gr r w W' :=
  ⟨g.os.trans h.os, g.tape.trans h.tape, g.output.trans h.output, Nat.le_trans h.size g.size, fun i hi hne => (g.block i (Nat.lt_of_lt_of_le hi h.size) (fun e => hne (by rw [e])) (by omega)).trans (h.block i hi hne)⟩
theorem setRow_heap {w : World} {g : Nat} {old cs : Array Value} {t : TypeId} (h : w.heap[g]? = some (.cells old t (0, 0))) : (w.setRow g cs).heap[g]? = some (.cells cs t (0, 0)) := by
  simp [World.setRow, Array.getElem?_modify, h]
theorem setRow_other {w : World} {g i : Nat} (cs : Array Value) (h : i ≠ g) : (w.setRow g cs).heap[i]? = w.heap[i]? := by
  simp [World.setRow, Array.getElem?_modify, Ne.symm h]
theorem Gr.setRow {r g : Nat} {w w' : World} (h : Gr r w w') (hg : w.heap.size ≤ g) (cs : Array Value) : Gr r w (w'.setRow g cs) :=
  ⟨h.os, h.tape, h.output, by simp [World.setRow]; exact h.size, fun i hi hne => (setRow_other cs (by omega)).trans (h.block i hi hne)⟩
theorem own_setRow {w : World} {g B : Nat} {e : TypeId} {k : Nat} {v : Value} {n : Nat} {xs : List Value} (cs : Array Value) (h : w.ownsRow B e k v n xs) (hne : v.ownBlock ≠ some g) : (w.setRow g cs).ownsRow B e k v n xs :=
  h.kept (row := some g) ⟨rfl, rfl, rfl, by simp [World.setRow], fun i _ hi => setRow_other cs (fun e => hi (by rw [e]))⟩ (.inr hne)
theorem Own5.below {B C : Nat} {P : Pk} {vc vp vw vs vf : Value} {w w' : World} (h : Own5 C P vc vp vw vs vf w) (hb : Below w.heap.size w w') (hC : B ≤ C) : Own5 B P vc vp vw vs vf w' :=
  ⟨own_base' (own_gr h.codes (Gr.of_below (r := w.heap.size) hb) (fun hv => Nat.lt_irrefl _ (h.codes.lt _ hv).2)) hC, own_base' (own_gr h.props (Gr.of_below (r := w.heap.size) hb) (fun hv => Nat.lt_irrefl _ (h.props.lt _ hv).2)) hC, own_base' (own_gr h.wprops (Gr.of_below (r := w.heap.size) hb) (fun hv => Nat.lt_irrefl _ (h.wprops.lt _ hv).2)) hC, own_base' (own_gr h.subs (Gr.of_below (r := w.heap.size) hb) (fun hv => Nat.lt_irrefl _ (h.subs.lt _ hv).2)) hC, own_base' (own_gr h.filters (Gr.of_below (r := w.heap.size) hb) (fun hv => Nat.lt_irrefl _ (h.filters.lt _ hv).2)) hC⟩
theorem pk_one (P : Pk) {B : Nat} {vc vp vw vs vf : Value} {w : World} (h : Own5 B P vc vp vw vs vf w) : (pkCells P vc vp vw vs vf).all (·.oneCell') = true := by
  obtain ⟨A1, n1, rfl⟩ := own_form h.codes
  obtain ⟨A2, n2, rfl⟩ := own_form h.props
  obtain ⟨A3, n3, rfl⟩ := own_form h.wprops
  obtain ⟨A4, n4, rfl⟩ := own_form h.subs
  obtain ⟨A5, n5, rfl⟩ := own_form h.filters
  simp [pkCells, Value.oneCell']
theorem pk_size (P : Pk) (vc vp vw vs vf : Value) : (pkCells P vc vp vw vs vf).size = 26 := rfl
theorem pk_info : (Tryz.prog.info? 45).map (·.size) = some 26 := by kernel_rfl

set_option maxRecDepth 100000 in
set_option maxHeartbeats 2000000 in
theorem rwhole_any (r : Nat) (s : ByteArray) (a : Int) (P : Pk) (w : World) (hk1 : 1 ≤ P.kind) (hk2 : P.kind ≤ 15) (hB : Bare P) (h : RdAt r s a w) (hs : s.size ≤ 140737488351232) (hT : ∀ W, Gr r w W → Tabs W) :
    Calls Tryz.prog 37 #[.pointer (some ⟨r, 0, none⟩), .agg (pkNil P)] w (WhP r w (PK.rdWhole s a P)) := by
  have b1 := (Below.refl w.heap.size w).alloc (Nat.le_refl _) (.cells (pkNil P) 45)
  have b2 := (Below.refl (w.alloc (.cells (pkNil P) 45)).heap.size (w.alloc (.cells (pkNil P) 45))).alloc (Nat.le_refl _) (.cells (pkNil PK.zeroPk) 45)
  have hsz : (w.alloc (.cells (pkNil P) 45)).heap.size = w.heap.size + 1 := by simp
  have B1 : (w.alloc (.cells (pkNil P) 45)).heap[w.heap.size]? = some (.cells (pkNil P) 45 (0, 0)) := heap_alloc_new w _
  have B2 : ((w.alloc (.cells (pkNil P) 45)).alloc (.cells (pkNil PK.zeroPk) 45)).heap[w.heap.size + 1]? = some (.cells (pkNil PK.zeroPk) 45 (0, 0)) := by rw [← hsz]; exact heap_alloc_new _ _
  have hlt := lt_heap h
  have R0 := (h.below b1).below b2
  have P0 : PbAt w.heap.size P (.slice none 0 0) (.slice none 0 0) (.slice none 0 0) (.slice none 0 0) (.slice none 0 0) ((w.alloc (.cells (pkNil P) 45)).alloc (.cells (pkNil PK.zeroPk) 45)) := (b2.block _ (lt_heap B1)).trans B1
  have G0 : Gr r w ((w.alloc (.cells (pkNil P) 45)).alloc (.cells (pkNil PK.zeroPk) 45)) := (Gr.of_below b1).trans (Gr.of_below b2)
  have C1 := Lib.hid (rparts_any r w.heap.size s a P _ hk1 hk2 hB R0 P0 hs (fun W hg => hT W (G0.of_g2 (Nat.le_refl _) hg)) (by omega))
  have CE : Hid (∀ a W, RdAt r s a W → Calls Tryz.prog 66 #[.pointer (some ⟨r, 0, none⟩)] W fun e w' => e = .returned (.bool (a == (s.size : Int))) ∧ Below W.heap.size W w') := fun a W hW => ended_any r s a W hW
  have CL := Lib.hid leave_any
  have HG0 := Lib.hid G0
  have HB2 := Lib.hid B2
  obtain ⟨X, hX⟩ : ∃ X, X = PK.rdWhole s a P := ⟨_, rfl⟩
  rw [← hX]
  unfold PK.rdWhole at hX
  generalize PK.partsK P.kind s a P = Y at *
  obtain ⟨Q, a1, c1⟩ := Y
  simp only at hX
  have HX := Lib.hid hX
  obtain ⟨cs, hcs⟩ : ∃ cs, cs = pkNil P := ⟨_, rfl⟩
  clear b1 b2 B1 B2 R0 P0 G0 hX h hT hk1 hk2 hB
  go_enter Tryz.func37, Tryz.ntmps37
  go_wp2_with fail
  refine C1.out.mono ?_
  rintro e w1 hR
  by_cases h1 : c1 = 0
  · obtain ⟨vc, vp, vw, vs, vf, rfl, o1, r1, p1, g1⟩ := hR.1 h1
    simp only at o1 r1 p1
    have G1 : Hid (Gr r w w1) := Lib.hid (HG0.out.of_g2 (Nat.le_refl _) g1)
    have z1 : w1.heap[w.heap.size + 1]? = some (.cells (pkNil PK.zeroPk) 45 (0, 0)) := (g1.block _ (lt_heap HB2.out) (by omega) (by omega)).trans HB2.out
    have D1 := CE.out a1 w1 r1
    have O1 := Lib.hid o1
    have P1 := Lib.hid p1
    have Z1 := Lib.hid z1
    have X1 := HX.out
    rw [PK.thn_ok h1] at X1
    have HX1 := Lib.hid X1
    clear hR r1 g1 o1 p1 z1 C1 HX X1 h1 CE
    by_cases h2 : a1 = (s.size : Int)
    · have e2 : (a1 == (s.size : Int)) = true := by simp [h2]
      rw [e2] at D1
      have E1 := Lib.hid D1
      have EX : Hid (X = (Q, 0)) := Lib.hid (by rw [HX1.out, if_pos h2])
      clear D1 e2 h2 HX1
      go_wp2_with fail
      refine E1.out.mono ?_
      rintro e w2 ⟨rfl, b2⟩
      have P2 := Lib.hid ((b2.block _ (lt_heap P1.out)).trans P1.out)
      have Z2 := Lib.hid ((b2.block _ (lt_heap Z1.out)).trans Z1.out)
      have G2' : Hid (Gr r w w2) := Lib.hid (G1.out.trans (Gr.of_below b2))
      have hsz2 : w.heap.size ≤ ((w.alloc (.cells (pkNil P) 45)).alloc (.cells (pkNil PK.zeroPk) 45)).heap.size := HG0.out.size
      have hz2 : w.heap.size + 1 < ((w.alloc (.cells (pkNil P) 45)).alloc (.cells (pkNil PK.zeroPk) 45)).heap.size := lt_heap HB2.out
      have o2 := O1.out.below b2 (Nat.le_refl _)
      have O2 := Lib.hid o2
      have W1 := Lib.hid (pk_one Q o2)
      clear b2 o2
      go_wp2_with (first
        | refine wpl_load_pk (by rfl) (.tmp 3) (by rfl) w.heap.size (by rfl) P2.out ?_
        | refine wpList_store_row (by rfl) 45 (.tmp 4) (.tmp 11) (by rfl) (w.heap.size + 1) (pkCells Q vc vp vw vs vf) (by rfl) (by rfl) 45 (pkNil PK.zeroPk) Z2.out pk_info rfl W1.out ?_)
      have Z3 := setRow_heap (cs := pkCells Q vc vp vw vs vf) Z2.out
      refine bodyPost_ret (v := .agg (pkCells Q vc vp vw vs vf)) ?_ rfl ?_
      · have hl : (loadVar 45 ⟨w.heap.size + 1, 0, none⟩).run Tryz.prog (w2.setRow (w.heap.size + 1) (pkCells Q vc vp vw vs vf)) = .ok (.agg (pkCells Q vc vp vw vs vf)) (w2.setRow (w.heap.size + 1) (pkCells Q vc vp vw vs vf)) :=
          run_loadVar_mid _ (w.heap.size + 1) 0 45 (pkCells Q vc vp vw vs vf).toList _ (fun j v hv => by rw [Nat.zero_add, cell_heap Z3, ← hv]; simp) Tryz.underlying45 rfl (by kernel_rfl)
        simp [results, Tryz.results37, Act.put]
        exact hl
      · rw [EX.out]
        refine ⟨fun _ => ⟨_, _, _, _, _, rfl, ?_, G2'.out.setRow (by omega) _⟩, fun h => absurd rfl h⟩
        have n5 := fun {e : TypeId} {k : Nat} {v : Value} {n : Nat} {xs : List Value} (ho : w2.ownsRow ((w.alloc (.cells (pkNil P) 45)).alloc (.cells (pkNil PK.zeroPk) 45)).heap.size e k v n xs) => own_base' (own_setRow (g := w.heap.size + 1) (pkCells Q vc vp vw vs vf) ho (row_ne ho hz2)) hsz2
        exact ⟨n5 O2.out.codes, n5 O2.out.props, n5 O2.out.wprops, n5 O2.out.subs, n5 O2.out.filters⟩
    · have e2 : (a1 == (s.size : Int)) = false := by rw [beq_eq_false_iff_ne]; exact h2
      rw [e2] at D1
      have E1 := Lib.hid D1
      have EX : Hid (X = (Q, 129)) := Lib.hid (by rw [HX1.out, if_neg h2])
      clear D1 e2 h2 HX1
      go_wp2_with fail
      refine E1.out.mono ?_
      rintro e w2 ⟨rfl, b2⟩
      have G2' : Hid (Gr r w w2) := Lib.hid (G1.out.trans (Gr.of_below b2))
      clear b2
      go_wp2_with fail
      refine (CL.out _ _).mono ?_
      rintro e w' ⟨rfl, rfl⟩
      exact ⟨rfl, by rw [EX.out]; exact ⟨fun h => absurd h (show (129 : Int) ≠ 0 by decide), fun _ => ⟨rfl, G2'.out⟩⟩⟩
  · obtain ⟨rfl, g1⟩ := hR.2 h1
    have EX : X = (Q, c1) := by rw [HX.out, PK.thn_bad h1]
    exact ⟨rfl, by rw [EX]; exact ⟨fun h => absurd h h1, fun _ => ⟨rfl, HG0.out.of_g2 (Nat.le_refl _) g1⟩⟩⟩
end Go.Proofs.YtemfcaaoobjgkaaGreatDoor
namespace Go.Proofs.YtemfcaaoobjgkaaGreatDoor
open Go.RowKit
attribute [local go_sem ↓] Go.wp_at_zero Go.wp_at_succ

namespace PK
/-- A packet of which nothing is known but its first byte. -/
def barePk (k : Int) (d r : Bool) (q : Int) : Pk := ⟨k, d, r, q, 0, ⟨#[]⟩, ⟨#[]⟩, 0, [], [], ⟨#[]⟩, false, 0, false, ⟨#[]⟩, ⟨#[]⟩, 0, false, [], false, false, ⟨#[]⟩, ⟨#[]⟩, false, [], []⟩
/-- What a first byte tells of a packet. -/
def begPk (n : Int) : Pk := if n / 16 = 3 then barePk 3 (bits .and .i64 (n % 16) 8 != 0) (bits .and .i64 (n % 16) 1 != 0) (bits .and .i64 (n % 16 / 2) 3) else barePk (n / 16) false false 0
def begOk (n : Int) : Bool := if n / 16 = 3 then canPub (begPk n) else isK (n / 16) && (n % 16 == fixN (n / 16))
end PK
theorem pkNil_one (P : Pk) : (pkNil P).all (·.oneCell') = true := by simp [pkNil, pkCells, Value.oneCell']
theorem below_setRow {n g : Nat} {w w' : World} (h : Below n w w') (hg : n ≤ g) (cs : Array Value) : Below n w (w'.setRow g cs) :=
  ⟨h.os, h.tape, h.output, by simp [World.setRow]; exact h.size, fun i hi => (setRow_other cs (by omega)).trans (h.block i hi)⟩
theorem load_pk_var {w : World} {g : Nat} {P : Pk} {vc vp vw vs vf : Value} (h : w.heap[g]? = some (.cells (pkCells P vc vp vw vs vf) 45 (0, 0))) :
    (loadVar 45 ⟨g, 0, none⟩).run Tryz.prog w = .ok (.agg (pkCells P vc vp vw vs vf)) w :=
  run_loadVar_mid _ g 0 45 (pkCells P vc vp vw vs vf).toList _ (fun j v hv => by rw [Nat.zero_add, cell_heap h, ← hv]; simp) Tryz.underlying45 rfl (by kernel_rfl)
theorem read_two {P : Program} {W : World} {g : Nat} {T : TypeId} {x y : Value} (hl : (loadVar T ⟨g, 0, none⟩).run P W = .ok x W) :
    ((Sem.run P (asAddr (.pointer (some ⟨g, 0, none⟩))) W).andThen fun a w' => (Sem.run P (loadVar T a) w').andThen fun a w' => Result.ok (Value.tuple #[a, y]) w') = .ok (Value.tuple #[x, y]) W := by
  show ((Sem.run P (loadVar T ⟨g, 0, none⟩) W).andThen _) = _
  rw [hl]
  rfl
theorem step_load_pk {ops : Array Oper} {o : Oper} {a : Act} {w : World} {K : Act → World → Prop} {Q : Exit → Act → World → Prop} {E : Prop} (hgd : o.guard = none) (x : Operand) (ho : o.op = .load 45 x)
    (n : Nat) (hx : a.eval x = .pointer (some ⟨n, 0, none⟩)) {p : Pk} {vc vp vw vs vf : Value} (hb : w.heap[n]? = some (.cells (pkCells p vc vp vw vs vf) 45 (0, 0)))
    (h : K (a.put o.dst (.agg (pkCells p vc vp vw vs vf))) w) : if Region.wanted o (yielded ops a.tmps) = true then Oper.wp Tryz.prog o a w K Q else E := by
  rw [if_pos (by simp [Region.wanted, hgd])]
  exact wp_load_mid 45 x ho n 0 hx (pkCells p vc vp vw vs vf).toList _ (fun j v hv => by rw [Nat.zero_add, cell_heap hb, ← hv]; simp) Tryz.underlying45 rfl (by kernel_rfl) h
theorem step_store_pk {ops : Array Oper} {o : Oper} {a : Act} {w : World} {K : Act → World → Prop} {Q : Exit → Act → World → Prop} {E : Prop} (hgd : o.guard = none) (x y : Operand) (ho : o.op = .store 45 x y)
    (g : Nat) (cells : Array Value) (hx : a.eval x = .pointer (some ⟨g, 0, none⟩)) (hy : a.eval y = .agg cells)
    {t : TypeId} {old : Array Value} (hg : w.heap[g]? = some (.cells old t (0, 0))) (hi : (Tryz.prog.info? 45).map (·.size) = some cells.size)
    (hold : old.size = cells.size) (h1 : cells.all (·.oneCell') = true)
    (h : K (a.put o.dst undef) (w.setRow g cells)) : if Region.wanted o (yielded ops a.tmps) = true then Oper.wp Tryz.prog o a w K Q else E := by
  rw [if_pos (by simp [Region.wanted, hgd])]
  exact wp_store_row 45 x y ho g cells hx hy t old hg hi hold h1 h
theorem and15 (n : Int) (h0 : 0 ≤ n) (h1 : n ≤ 255) : bits .and .u8 n 15 = n % 16 := by
  obtain ⟨k, rfl⟩ := Int.eq_ofNat_of_zero_le h0
  have h : ∀ k : Fin 256, bits .and .u8 ((k.val : Nat) : Int) 15 = ((k.val : Nat) : Int) % 16 := by decide +kernel
  exact h ⟨k, by omega⟩

set_option maxRecDepth 100000 in
set_option maxHeartbeats 2000000 in
theorem begin_other (n : Int) (h0 : 0 ≤ n) (h1 : n ≤ 255) (h3 : n / 16 ≠ 3) (w : World) :
    Calls Tryz.prog 32 #[.int .u8 n] w fun e w' => e = .returned (.tuple #[.agg (pkNil (PK.begPk n)), .bool (PK.begOk n)]) ∧ Below w.heap.size w w' := by
  have hA := and15 n h0 h1
  have E1 : Hid (PK.begPk n = PK.barePk (n / 16) false false 0) := Lib.hid (by unfold PK.begPk; rw [if_neg h3])
  have E2 : Hid (PK.begOk n = (PK.isK (n / 16) && (n % 16 == PK.fixN (n / 16)))) := Lib.hid (by unfold PK.begOk; rw [if_neg h3])
  have hne : (n / 16 != 3) = true := by rw [bne_iff_ne]; exact h3
  have CK := Lib.hid iskind_any
  have CF := Lib.hid fixed_flags
  have Z : Hid ((w.alloc (.cells (pkNil PK.zeroPk) 45)).heap[w.heap.size]? = some (.cells (pkNil PK.zeroPk) 45 (0, 0))) := Lib.hid (heap_alloc_new w _)
  have hk0 : 0 ≤ n / 16 := by omega
  have hk1 : n / 16 ≤ 15 := by omega
  have hf0 : 0 ≤ n % 16 := by omega
  have hf1 : n % 16 ≤ 15 := by omega
  have O1 := Lib.hid (pkNil_one (PK.barePk (n / 16) false false 0))
  have HB : Hid (Below w.heap.size w (w.alloc (.cells (pkNil PK.zeroPk) 45))) := Lib.hid ((Below.refl _ _).alloc (Nat.le_refl _) _)
  rw [E1.out, E2.out]
  clear h3 E1 E2
  cases hq : PK.isK (n / 16)
  · go_enter Tryz.func32, Tryz.ntmps32
    go_wp2_with fail
    refine (CK.out _ _).mono ?_
    rintro e w' ⟨rfl, rfl⟩
    rw [hq]
    go_wp2_with (refine wpList_store_row (by rfl) 45 (.tmp 2) (.tmp 16) (by rfl) w.heap.size (pkNil (PK.barePk (n / 16) false false 0)) (by rfl) (by rfl) 45 (pkNil PK.zeroPk) Z.out pk_info rfl O1.out ?_)
    have Z3 : Hid (((w.alloc (.cells (pkNil PK.zeroPk) 45)).setRow w.heap.size (pkNil (PK.barePk (n / 16) false false 0))).heap[w.heap.size]? = some (.cells (pkNil (PK.barePk (n / 16) false false 0)) 45 (0, 0))) := Lib.hid (setRow_heap Z.out)
    have B3 : Hid (Below w.heap.size w ((w.alloc (.cells (pkNil PK.zeroPk) 45)).setRow w.heap.size (pkNil (PK.barePk (n / 16) false false 0)))) := Lib.hid (below_setRow HB.out (Nat.le_refl _) _)
    have hl := load_pk_var (P := PK.barePk (n / 16) false false 0) (vc := .slice none 0 0) (vp := .slice none 0 0) (vw := .slice none 0 0) (vs := .slice none 0 0) (vf := .slice none 0 0) Z3.out
    refine bodyPost_ret (v := .tuple #[.agg (pkNil (PK.barePk (n / 16) false false 0)), .bool false]) ?_ rfl ⟨rfl, B3.out⟩
    simp only [results, Tryz.results32]
    simp
    exact read_two hl
  · have Hq := Lib.hid hq
    clear hq
    go_enter Tryz.func32, Tryz.ntmps32
    go_wp2_with fail
    refine (CK.out _ _).mono ?_
    rintro e w' ⟨rfl, rfl⟩
    rw [Hq.out]
    go_wp2_with fail
    refine (CF.out _ _).mono ?_
    rintro e w' ⟨rfl, rfl⟩
    go_wp2_with (refine wpList_store_row (by rfl) 45 (.tmp 2) (.tmp 16) (by rfl) w.heap.size (pkNil (PK.barePk (n / 16) false false 0)) (by rfl) (by rfl) 45 (pkNil PK.zeroPk) Z.out pk_info rfl O1.out ?_)
    have Z3 : Hid (((w.alloc (.cells (pkNil PK.zeroPk) 45)).setRow w.heap.size (pkNil (PK.barePk (n / 16) false false 0))).heap[w.heap.size]? = some (.cells (pkNil (PK.barePk (n / 16) false false 0)) 45 (0, 0))) := Lib.hid (setRow_heap Z.out)
    have B3 : Hid (Below w.heap.size w ((w.alloc (.cells (pkNil PK.zeroPk) 45)).setRow w.heap.size (pkNil (PK.barePk (n / 16) false false 0)))) := Lib.hid (below_setRow HB.out (Nat.le_refl _) _)
    have hl := load_pk_var (P := PK.barePk (n / 16) false false 0) (vc := .slice none 0 0) (vp := .slice none 0 0) (vw := .slice none 0 0) (vs := .slice none 0 0) (vf := .slice none 0 0) Z3.out
    refine bodyPost_ret (v := .tuple #[.agg (pkNil (PK.barePk (n / 16) false false 0)), .bool (n % 16 == PK.fixN (n / 16))]) ?_ rfl ⟨by simp, B3.out⟩
    simp only [results, Tryz.results32]
    simp
    exact read_two hl
set_option maxRecDepth 100000 in
set_option maxHeartbeats 2000000 in
theorem begin_pub (n : Int) (h0 : 0 ≤ n) (h1 : n ≤ 255) (h3 : n / 16 = 3) (w : World) :
    Calls Tryz.prog 32 #[.int .u8 n] w fun e w' => e = .returned (.tuple #[.agg (pkNil (PK.begPk n)), .bool (PK.begOk n)]) ∧ Below w.heap.size w w' := by
  have hA := and15 n h0 h1
  have hf0 : 0 ≤ n % 16 := by omega
  have hf1 : n % 16 ≤ 15 := by omega
  have E1 : Hid (PK.begPk n = PK.barePk 3 (bits .and .i64 (n % 16) 8 != 0) (bits .and .i64 (n % 16) 1 != 0) (bits .and .i64 (n % 16 / 2) 3)) := Lib.hid (by unfold PK.begPk; rw [if_pos h3])
  have E2 : Hid (PK.begOk n = PK.canPub (PK.begPk n)) := Lib.hid (by unfold PK.begOk; rw [if_pos h3])
  rw [E2.out, E1.out]
  clear E2 E1
  have Z : Hid ((w.alloc (.cells (pkNil PK.zeroPk) 45)).heap[w.heap.size]? = some (.cells (pkNil PK.zeroPk) 45 (0, 0))) := Lib.hid (heap_alloc_new w _)
  have HB : Hid (Below w.heap.size w (w.alloc (.cells (pkNil PK.zeroPk) 45))) := Lib.hid ((Below.refl _ _).alloc (Nat.le_refl _) _)
  have O1 := Lib.hid (pkNil_one (PK.barePk 3 (bits .and .i64 (n % 16) 8 != 0) (bits .and .i64 (n % 16) 1 != 0) (bits .and .i64 (n % 16 / 2) 3)))
  have CP := Lib.hid (canpub_any (PK.barePk 3 (bits .and .i64 (n % 16) 8 != 0) (bits .and .i64 (n % 16) 1 != 0) (bits .and .i64 (n % 16 / 2) 3)) (.slice none 0 0) (.slice none 0 0) (.slice none 0 0) (.slice none 0 0) (.slice none 0 0))
  have Z2 : Hid (((w.alloc (.cells (pkNil PK.zeroPk) 45)).alloc (.cells (pkNil PK.zeroPk) 45)).heap[w.heap.size + 1]? = some (.cells (pkNil PK.zeroPk) 45 (0, 0))) := Lib.hid (by
    rw [show w.heap.size + 1 = (w.alloc (.cells (pkNil PK.zeroPk) 45)).heap.size by simp]; exact heap_alloc_new _ _)
  have Z1 : Hid (((w.alloc (.cells (pkNil PK.zeroPk) 45)).alloc (.cells (pkNil PK.zeroPk) 45)).heap[w.heap.size]? = some (.cells (pkNil PK.zeroPk) 45 (0, 0))) := Lib.hid ((Below.heap_alloc _ _ _ (lt_heap Z.out)).trans Z.out)
  have HB2 : Hid (Below w.heap.size w ((w.alloc (.cells (pkNil PK.zeroPk) 45)).alloc (.cells (pkNil PK.zeroPk) 45))) := Lib.hid (HB.out.alloc (by simp) _)
  generalize e8 : (bits .and .i64 (n % 16) 8 != 0) = b8 at *
  generalize e1 : (bits .and .i64 (n % 16) 1 != 0) = b1 at *
  generalize e3 : bits .and .i64 (n % 16 / 2) 3 = q3 at *
  clear Z HB
  go_enter Tryz.func32, Tryz.ntmps32
  go_upto_region 5 with (refine wpList_store_row (by rfl) 45 (.tmp 6) (.tmp 35) (by rfl) (w.heap.size + 1) (pkNil (PK.barePk 3 b8 b1 q3)) (by rfl) (by rfl) 45 (pkNil PK.zeroPk) Z2.out pk_info rfl O1.out ?_)
  obtain ⟨wA, hwA⟩ : ∃ wA, wA = ((w.alloc (.cells (pkNil PK.zeroPk) 45)).alloc (.cells (pkNil PK.zeroPk) 45)).setRow (w.heap.size + 1) (pkNil (PK.barePk 3 b8 b1 q3)) := ⟨_, rfl⟩
  have X1 : wA.heap[w.heap.size + 1]? = some (.cells (pkNil (PK.barePk 3 b8 b1 q3)) 45 (0, 0)) := by rw [hwA]; exact setRow_heap Z2.out
  have X0 : wA.heap[w.heap.size]? = some (.cells (pkNil PK.zeroPk) 45 (0, 0)) := by rw [hwA]; exact (setRow_other _ (by omega)).trans Z1.out
  have HBA : Hid (Below w.heap.size w wA) := Lib.hid (by rw [hwA]; exact below_setRow HB2.out (by omega) _)
  have hsA := HBA.out.size
  change Code.wp _ _ _ _ (((w.alloc (.cells (pkNil PK.zeroPk) 45)).alloc (.cells (pkNil PK.zeroPk) 45)).setRow (w.heap.size + 1) (pkNil (PK.barePk 3 b8 b1 q3)))
  rw [← hwA]
  clear hwA Z2 Z1 HB2
  -- REGION5
  refine wp_region_any (by kernel_rfl) ?_
  change wpAny _ _ _ _ _ _ _ (World.drew _)
  refine wpAny_ready (rs := [0, 1]) (by kernel_rfl) (by simp) ?_
  refine AllReady.cons rfl (fun K hK => ?_) (AllReady.cons rfl (fun K hK => ?_) AllReady.nil)
  · skip
    refine step_load_pk (by rfl) (.tmp 6) (by rfl) (w.heap.size + 1) (by rfl) X1 ?_
    refine hK _ _ ?_
    clear hK K
    refine wpAny_ready (rs := [1]) (by kernel_rfl) (by simp) (AllReady.cons rfl (fun K hK => ?_) AllReady.nil)
    refine step_load_pk (by rfl) (.tmp 6) (by rfl) (w.heap.size + 1) (by rfl) X1 ?_
    refine hK _ _ ?_
    clear hK K
    refine wpAny_ready (rs := [2]) (by kernel_rfl) (by simp) (AllReady.cons rfl (fun K hK => ?_) AllReady.nil)
    go_simp
    refine (CP.out _).mono ?_
    rintro e w1 ⟨rfl, bb⟩
    dsimp only
    have hb1 : Below wA.heap.size wA w1 := below_of_drew bb
    have Y0 := (hb1.block _ (lt_heap X0)).trans X0
    have Y1 := (hb1.block _ (lt_heap X1)).trans X1
    refine hK _ _ ?_
    clear hK K
    refine wpAny_ready (rs := [3]) (by kernel_rfl) (by simp) (AllReady.cons rfl (fun K hK => ?_) AllReady.nil)
    refine step_store_pk (by rfl) (.tmp 2) (.tmp 36) (by rfl) w.heap.size (pkNil (PK.barePk 3 b8 b1 q3)) (by rfl) (by rfl) Y0 pk_info rfl O1.out ?_
    refine hK _ _ ?_
    clear hK K
    refine wpAny_ready (rs := [4]) (by kernel_rfl) (by simp) (AllReady.cons rfl (fun K hK => ?_) AllReady.nil)
    go_simp
    refine hK _ _ ?_
    clear hK K
    refine wpAny_done (by kernel_rfl) ?_ _
    have Z3 : Hid ((w1.setRow w.heap.size (pkNil (PK.barePk 3 b8 b1 q3))).heap[w.heap.size]? = some (.cells (pkNil (PK.barePk 3 b8 b1 q3)) 45 (0, 0))) := Lib.hid (setRow_heap Y0)
    have B3 : Hid (Below w.heap.size w (w1.setRow w.heap.size (pkNil (PK.barePk 3 b8 b1 q3)))) := Lib.hid (below_setRow (HBA.out.trans (hb1.mono hsA)) (Nat.le_refl _) _)
    have hl := load_pk_var (P := (PK.barePk 3 b8 b1 q3)) (vc := .slice none 0 0) (vp := .slice none 0 0) (vw := .slice none 0 0) (vs := .slice none 0 0) (vf := .slice none 0 0) Z3.out
    clear Y0 Y1 X0 X1 bb hb1
    go_wp2_with fail
    refine bodyPost_ret (v := .tuple #[.agg (pkNil (PK.barePk 3 b8 b1 q3)), .bool (PK.canPub (PK.barePk 3 b8 b1 q3))]) ?_ rfl ⟨rfl, B3.out⟩
    simp only [results, Tryz.results32]
    simp
    exact read_two hl
  · skip
    refine step_load_pk (by rfl) (.tmp 6) (by rfl) (w.heap.size + 1) (by rfl) X1 ?_
    refine hK _ _ ?_
    clear hK K
    refine wpAny_ready (rs := [0, 2]) (by kernel_rfl) (by simp) ?_
    refine AllReady.cons rfl (fun K hK => ?_) (AllReady.cons rfl (fun K hK => ?_) AllReady.nil)
    · skip
      refine step_load_pk (by rfl) (.tmp 6) (by rfl) (w.heap.size + 1) (by rfl) X1 ?_
      refine hK _ _ ?_
      clear hK K
      refine wpAny_ready (rs := [2]) (by kernel_rfl) (by simp) (AllReady.cons rfl (fun K hK => ?_) AllReady.nil)
      go_simp
      refine (CP.out _).mono ?_
      rintro e w1 ⟨rfl, bb⟩
      dsimp only
      have hb1 : Below wA.heap.size wA w1 := below_of_drew bb
      have Y0 := (hb1.block _ (lt_heap X0)).trans X0
      have Y1 := (hb1.block _ (lt_heap X1)).trans X1
      refine hK _ _ ?_
      clear hK K
      refine wpAny_ready (rs := [3]) (by kernel_rfl) (by simp) (AllReady.cons rfl (fun K hK => ?_) AllReady.nil)
      refine step_store_pk (by rfl) (.tmp 2) (.tmp 36) (by rfl) w.heap.size (pkNil (PK.barePk 3 b8 b1 q3)) (by rfl) (by rfl) Y0 pk_info rfl O1.out ?_
      refine hK _ _ ?_
      clear hK K
      refine wpAny_ready (rs := [4]) (by kernel_rfl) (by simp) (AllReady.cons rfl (fun K hK => ?_) AllReady.nil)
      go_simp
      refine hK _ _ ?_
      clear hK K
      refine wpAny_done (by kernel_rfl) ?_ _
      have Z3 : Hid ((w1.setRow w.heap.size (pkNil (PK.barePk 3 b8 b1 q3))).heap[w.heap.size]? = some (.cells (pkNil (PK.barePk 3 b8 b1 q3)) 45 (0, 0))) := Lib.hid (setRow_heap Y0)
      have B3 : Hid (Below w.heap.size w (w1.setRow w.heap.size (pkNil (PK.barePk 3 b8 b1 q3)))) := Lib.hid (below_setRow (HBA.out.trans (hb1.mono hsA)) (Nat.le_refl _) _)
      have hl := load_pk_var (P := (PK.barePk 3 b8 b1 q3)) (vc := .slice none 0 0) (vp := .slice none 0 0) (vw := .slice none 0 0) (vs := .slice none 0 0) (vf := .slice none 0 0) Z3.out
      clear Y0 Y1 X0 X1 bb hb1
      go_wp2_with fail
      refine bodyPost_ret (v := .tuple #[.agg (pkNil (PK.barePk 3 b8 b1 q3)), .bool (PK.canPub (PK.barePk 3 b8 b1 q3))]) ?_ rfl ⟨rfl, B3.out⟩
      simp only [results, Tryz.results32]
      simp
      exact read_two hl
    · skip
      go_simp
      refine (CP.out _).mono ?_
      rintro e w1 ⟨rfl, bb⟩
      dsimp only
      have hb1 : Below wA.heap.size wA w1 := below_of_drew bb
      have Y0 := (hb1.block _ (lt_heap X0)).trans X0
      have Y1 := (hb1.block _ (lt_heap X1)).trans X1
      refine hK _ _ ?_
      clear hK K
      refine wpAny_ready (rs := [0]) (by kernel_rfl) (by simp) (AllReady.cons rfl (fun K hK => ?_) AllReady.nil)
      refine step_load_pk (by rfl) (.tmp 6) (by rfl) (w.heap.size + 1) (by rfl) Y1 ?_
      refine hK _ _ ?_
      clear hK K
      refine wpAny_ready (rs := [3]) (by kernel_rfl) (by simp) (AllReady.cons rfl (fun K hK => ?_) AllReady.nil)
      refine step_store_pk (by rfl) (.tmp 2) (.tmp 36) (by rfl) w.heap.size (pkNil (PK.barePk 3 b8 b1 q3)) (by rfl) (by rfl) Y0 pk_info rfl O1.out ?_
      refine hK _ _ ?_
      clear hK K
      refine wpAny_ready (rs := [4]) (by kernel_rfl) (by simp) (AllReady.cons rfl (fun K hK => ?_) AllReady.nil)
      go_simp
      refine hK _ _ ?_
      clear hK K
      refine wpAny_done (by kernel_rfl) ?_ _
      have Z3 : Hid ((w1.setRow w.heap.size (pkNil (PK.barePk 3 b8 b1 q3))).heap[w.heap.size]? = some (.cells (pkNil (PK.barePk 3 b8 b1 q3)) 45 (0, 0))) := Lib.hid (setRow_heap Y0)
      have B3 : Hid (Below w.heap.size w (w1.setRow w.heap.size (pkNil (PK.barePk 3 b8 b1 q3)))) := Lib.hid (below_setRow (HBA.out.trans (hb1.mono hsA)) (Nat.le_refl _) _)
      have hl := load_pk_var (P := (PK.barePk 3 b8 b1 q3)) (vc := .slice none 0 0) (vp := .slice none 0 0) (vw := .slice none 0 0) (vs := .slice none 0 0) (vf := .slice none 0 0) Z3.out
      clear Y0 Y1 X0 X1 bb hb1
      go_wp2_with fail
      refine bodyPost_ret (v := .tuple #[.agg (pkNil (PK.barePk 3 b8 b1 q3)), .bool (PK.canPub (PK.barePk 3 b8 b1 q3))]) ?_ rfl ⟨rfl, B3.out⟩
      simp only [results, Tryz.results32]
      simp
      exact read_two hl
end Go.Proofs.YtemfcaaoobjgkaaGreatDoor
namespace Go.Proofs.YtemfcaaoobjgkaaGreatDoor
open Go.RowKit
/-- One of the law's texts. -/
structure Tx5 where
  kind : Int
  qos : Int
  id : Int
  topic : ByteArray
  body : ByteArray
instance : Inhabited Tx5 := ⟨⟨0, 0, 0, ⟨#[]⟩, ⟨#[]⟩⟩⟩
def Tx5.cells (x : Tx5) : List Value := [.int .i64 x.kind, .int .i64 x.qos, .int .i64 x.id, .string x.topic, .string x.body]
structure Tx5.Fine (x : Tx5) : Prop where
  kind : I64 x.kind
  qos : I64 x.qos
  id : I64 x.id
  topic : x.topic.size ≤ 140737488351232
  body : x.body.size ≤ 140737488351232
/-- A row of them. -/
def Row5 (w : World) (A : Option Addr) (l : List Tx5) : Prop := ∀ (i : Nat) x, l[i]? = some x → ∃ g o, A = some ⟨g, o, none⟩ ∧ g < w.heap.size ∧ (∀ (j : Nat) v, x.cells[j]? = some v → w.cell? ⟨g, o + i * 5 + j, none⟩ = some v) ∧ x.Fine
namespace TW
def top (x : Tx5) : ByteArray := ⟨#[116]⟩ ++ x.topic.extract 0 (min x.topic.size 30)
def idn (x : Tx5) : Int := 1 + max 0 x.id % 65535
def qn (x : Tx5) : Int := max 0 x.qos % 3
def kn (x : Tx5) : Int := max 0 x.kind % 4
/-- A Subscribe of one filter, a Puback, a Pingreq, a Publish. -/
def p8 (i : Int) (f : ByteArray) (q : Int) : Pk := ⟨8, false, false, 0, i, ⟨#[]⟩, ⟨#[]⟩, 0, [], [], ⟨#[]⟩, false, 0, false, ⟨#[]⟩, ⟨#[]⟩, 0, false, [], false, false, ⟨#[]⟩, ⟨#[]⟩, false, [⟨f, q, false, false, 0⟩], []⟩
def p4 (i : Int) : Pk := ⟨4, false, false, 0, i, ⟨#[]⟩, ⟨#[]⟩, 0, [], [], ⟨#[]⟩, false, 0, false, ⟨#[]⟩, ⟨#[]⟩, 0, false, [], false, false, ⟨#[]⟩, ⟨#[]⟩, false, [], []⟩
def p12 : Pk := ⟨12, false, false, 0, 0, ⟨#[]⟩, ⟨#[]⟩, 0, [], [], ⟨#[]⟩, false, 0, false, ⟨#[]⟩, ⟨#[]⟩, 0, false, [], false, false, ⟨#[]⟩, ⟨#[]⟩, false, [], []⟩
def p3 (q i : Int) (t b : ByteArray) : Pk := ⟨3, false, false, q, i, t, b, 0, [], [], ⟨#[]⟩, false, 0, false, ⟨#[]⟩, ⟨#[]⟩, 0, false, [], false, false, ⟨#[]⟩, ⟨#[]⟩, false, [], []⟩
/-- The packet of a text. -/
def pk (x : Tx5) : Pk :=
  if kn x = 1 then p8 (idn x) (top x) (qn x) else if kn x = 2 then p4 (idn x) else if kn x = 3 then p12
  else p3 (qn x) (if 0 < qn x then idn x else 0) (top x) (x.body.extract 0 (min x.body.size 300))
theorem top_size (x : Tx5) : (top x).size ≤ 31 := by
  unfold top
  rw [ByteArray.size_append, ByteArray.size_extract]
  show 1 + _ ≤ _
  omega
end TW
end Go.Proofs.YtemfcaaoobjgkaaGreatDoor
namespace Go.Proofs.YtemfcaaoobjgkaaGreatDoor
open Go.RowKit
attribute [local go_sem ↓] Go.wp_at_zero Go.wp_at_succ

theorem WhP.mono {r : Nat} {w W : World} {X : Pk × Int} {e : Ending} {w' : World} (hg : Gr r w W) (h : WhP r W X e w') : WhP r w X e w' := by
  refine ⟨fun h0 => ?_, fun h0 => ?_⟩
  · obtain ⟨vc, vp, vw, vs, vf, he, ho, hg'⟩ := h.1 h0
    have b := fun {e : TypeId} {k : Nat} {v : Value} {n : Nat} {xs : List Value} (ho : w'.ownsRow W.heap.size e k v n xs) => own_base' ho hg.size
    exact ⟨vc, vp, vw, vs, vf, he, ⟨b ho.codes, b ho.props, b ho.wprops, b ho.subs, b ho.filters⟩, hg.trans hg'⟩
  · obtain ⟨he, hg'⟩ := h.2 h0
    exact ⟨he, hg.trans hg'⟩

set_option maxRecDepth 100000 in
set_option maxHeartbeats 2000000 in
theorem getfn_any (r pb : Nat) (s : ByteArray) (a : Int) (P : Pk) (w : World) (hk1 : 1 ≤ P.kind) (hk2 : P.kind ≤ 15) (hB : Bare P) (h : RdAt r s a w) (hp : w.heap[pb]? = some (.cells (pkNil P) 45 (0, 0))) (hs : s.size ≤ 140737488351232) (hT : ∀ W, Gr r w W → Tabs W) :
    Calls Tryz.prog 36 #[.pointer (some ⟨r, 0, none⟩), .pointer (some ⟨pb, 0, none⟩)] w (WhP r w (PK.rdWhole s a P)) := by
  have b1 := (Below.refl w.heap.size w).alloc (Nat.le_refl _) (.cells (pkNil PK.zeroPk) 45)
  have B1 : (w.alloc (.cells (pkNil PK.zeroPk) 45)).heap[w.heap.size]? = some (.cells (pkNil PK.zeroPk) 45 (0, 0)) := heap_alloc_new w _
  have G0 : Gr r w (w.alloc (.cells (pkNil PK.zeroPk) 45)) := Gr.of_below b1
  have P1 := Lib.hid ((b1.block _ (lt_heap hp)).trans hp)
  have hlt := lt_heap h
  have C1 := Lib.hid (rwhole_any r s a P _ hk1 hk2 hB (h.below b1) hs (fun W hg => hT W (G0.trans hg)))
  have HG0 := Lib.hid G0
  have HB1 := Lib.hid B1
  have hsz : (w.alloc (.cells (pkNil PK.zeroPk) 45)).heap.size = w.heap.size + 1 := by simp
  have HSZ := Lib.hid hsz
  generalize PK.rdWhole s a P = X at *
  clear b1 B1 G0 hp h hT hk1 hk2 hB hsz
  go_enter Tryz.func36, Tryz.ntmps36
  go_wp2_with (refine wpl_load_pk (by rfl) (.tmp 1) (by rfl) pb (by rfl) P1.out ?_)
  refine C1.out.mono ?_
  rintro e w1 hR
  by_cases h1 : X.2 = 0
  · obtain ⟨vc, vp, vw, vs, vf, rfl, o1, g1⟩ := hR.1 h1
    have Z1 := Lib.hid ((g1.block _ (lt_heap HB1.out) (fun e => by injection e with e; omega)).trans HB1.out)
    have G1 := Lib.hid (HG0.out.trans g1)
    have O1 := Lib.hid o1
    have W1 := Lib.hid (pk_one X.1 o1)
    clear hR o1 g1 C1
    go_wp2_with (refine wpList_store_row (by rfl) 45 (.tmp 2) (.tmp 4) (by rfl) w.heap.size (pkCells X.1 vc vp vw vs vf) (by rfl) (by rfl) 45 (pkNil PK.zeroPk) Z1.out pk_info rfl W1.out ?_)
    have Z3 := setRow_heap (cs := pkCells X.1 vc vp vw vs vf) Z1.out
    refine bodyPost_ret (v := .agg (pkCells X.1 vc vp vw vs vf)) ?_ rfl ?_
    · have hl : (loadVar 45 ⟨w.heap.size, 0, none⟩).run Tryz.prog (w1.setRow w.heap.size (pkCells X.1 vc vp vw vs vf)) = .ok (.agg (pkCells X.1 vc vp vw vs vf)) (w1.setRow w.heap.size (pkCells X.1 vc vp vw vs vf)) :=
        run_loadVar_mid _ w.heap.size 0 45 (pkCells X.1 vc vp vw vs vf).toList _ (fun j v hv => by rw [Nat.zero_add, cell_heap Z3, ← hv]; simp) Tryz.underlying45 rfl (by kernel_rfl)
      simp [results, Tryz.results36, Act.put]
      exact hl
    · refine ⟨fun _ => ⟨_, _, _, _, _, rfl, ?_, G1.out.setRow (Nat.le_refl _) _⟩, fun h => absurd h1 h⟩
      have hz := HSZ.out
      have n5 := fun {e : TypeId} {k : Nat} {v : Value} {n : Nat} {xs : List Value} (ho : w1.ownsRow (w.alloc (.cells (pkNil PK.zeroPk) 45)).heap.size e k v n xs) => own_base' (C := w.heap.size) (own_setRow (g := w.heap.size) (pkCells X.1 vc vp vw vs vf) ho (row_ne ho (by omega))) (by omega)
      exact ⟨n5 O1.out.codes, n5 O1.out.props, n5 O1.out.wprops, n5 O1.out.subs, n5 O1.out.filters⟩
  · obtain ⟨rfl, g1⟩ := hR.2 h1
    exact ⟨rfl, fun h => absurd h h1, fun _ => ⟨rfl, HG0.out.trans g1⟩⟩
end Go.Proofs.YtemfcaaoobjgkaaGreatDoor
namespace Go.Proofs.YtemfcaaoobjgkaaGreatDoor
open Go.RowKit
attribute [local go_sem ↓] Go.wp_at_zero Go.wp_at_succ

theorem caught_world {p q : Nat} {cs : Array Value} {x c : Int} {w : World} (hpq : p ≠ q) (hp : w.heap[p]? = some (.cells cs 45 (0, 0))) (hq : w.heap[q]? = some (.cells #[.int .u8 x] 30 (0, 0))) (o : Obj) :
    ((((w.setRow p (pkNil PK.zeroPk)).setCell ⟨q, 0, none⟩ (.int .u8 128)).setCell ⟨q, 0, none⟩ (.int .u8 c)).alloc o).heap[p]? = some (.cells (pkNil PK.zeroPk) 45 (0, 0)) ∧
    ((((w.setRow p (pkNil PK.zeroPk)).setCell ⟨q, 0, none⟩ (.int .u8 128)).setCell ⟨q, 0, none⟩ (.int .u8 c)).alloc o).heap[q]? = some (.cells #[.int .u8 c] 30 (0, 0)) ∧
    G2 p q w ((((w.setRow p (pkNil PK.zeroPk)).setCell ⟨q, 0, none⟩ (.int .u8 128)).setCell ⟨q, 0, none⟩ (.int .u8 c)).alloc o) := by
  have e1 : (w.setRow p (pkNil PK.zeroPk)).heap[q]? = some (.cells #[.int .u8 x] 30 (0, 0)) := (setRow_other _ (Ne.symm hpq)).trans hq
  have e2 := one_setCell (u := .int .u8 128) e1
  have e3 := one_setCell (u := .int .u8 c) e2
  have hz : (((w.setRow p (pkNil PK.zeroPk)).setCell ⟨q, 0, none⟩ (.int .u8 128)).setCell ⟨q, 0, none⟩ (.int .u8 c)).heap.size = w.heap.size := by simp [World.setCell, World.setRow]
  have other : ∀ i, i ≠ q → (((w.setRow p (pkNil PK.zeroPk)).setCell ⟨q, 0, none⟩ (.int .u8 128)).setCell ⟨q, 0, none⟩ (.int .u8 c)).heap[i]? = (w.setRow p (pkNil PK.zeroPk)).heap[i]? := fun i hi => (Below.heap_setCell _ _ _ _ (fun e => hi (by simpa using e))).trans (Below.heap_setCell _ _ _ _ (fun e => hi (by simpa using e)))
  refine ⟨(Below.heap_alloc _ _ _ (by rw [hz]; exact lt_heap hp)).trans ((other p hpq).trans (setRow_heap hp)), (Below.heap_alloc _ _ _ (by rw [hz]; exact lt_heap hq)).trans e3, rfl, rfl, rfl, by simp, fun i hi h1 h2 => (Below.heap_alloc _ _ _ (by rw [hz]; exact hi)).trans ((other i h2).trans (setRow_other _ h1))⟩
theorem taU (v : Value) (xT : TypeId) (w : World) : (Instr.typeAssert (.iface 136 v) xT 136 true).run Tryz.prog w = .ok (.tuple #[v, .bool true]) w := by kernel_rfl

set_option maxRecDepth 100000 in
set_option maxHeartbeats 2000000 in
theorem catch_left (p q : Nat) (cs : Array Value) (x c : Int) (older : List PanicEntry) (w : World) (hpq : p ≠ q) (hcs : cs.size = 26) (hp : w.heap[p]? = some (.cells cs 45 (0, 0))) (hq : w.heap[q]? = some (.cells #[.int .u8 x] 30 (0, 0))) :
    CallsD Tryz.prog 64 #[.pointer (some ⟨p, 0, none⟩), .pointer (some ⟨q, 0, none⟩)] (.panicking ({ v := .iface 136 (.agg #[.int .u8 c]), recovered := false } :: older)) w fun e u' w' =>
      e = .returned (.tuple #[]) ∧ u' = .panicking ({ v := .iface 136 (.agg #[.int .u8 c]), recovered := true } :: older) ∧
        w'.heap[p]? = some (.cells (pkNil PK.zeroPk) 45 (0, 0)) ∧ w'.heap[q]? = some (.cells #[.int .u8 c] 30 (0, 0)) ∧ G2 p q w w' := by
  refine callsD_of_wpS Tryz.func64 rfl fun c₀ cs₀ hu => ?_
  apply wpS_seq
  apply wpS_region
  simp [wpOpsS, go_sem, recoverD, hu, Tryz.ntmps64, Exit.thenS]
  refine wpS_of_wp ?_
  have hta := taU (.agg #[.int .u8 c]) 20
  have hlq := lt_heap hq
  have hs1 : (w.setRow p (pkNil PK.zeroPk)).heap.size = w.heap.size := by simp [World.setRow]
  have Q0 := Lib.hid (setRow_heap (cs := pkNil PK.zeroPk) hp)
  have q1 : (w.setRow p (pkNil PK.zeroPk)).cell? ⟨q, 0, none⟩ = some (.int .u8 x) := by rw [cell_heap ((setRow_other _ (Ne.symm hpq)).trans hq)]; rfl
  have f1 : (w.setRow p (pkNil PK.zeroPk)).frozen? ⟨q, 0, none⟩ = false := frozen_heap ((setRow_other _ (Ne.symm hpq)).trans hq)
  have O1 := Lib.hid (pkNil_one PK.zeroPk)
  change Code.wp _ _ _ { tmps := #[.pointer (some ⟨p, 0, none⟩), .pointer (some ⟨q, 0, none⟩), .iface 136 (.agg #[.int .u8 c]), undef, undef, .iface 136 (.agg #[.int .u8 c]), undef, undef, undef, undef, undef, undef, undef, undef, undef, undef, undef], defers := [] } w
  go_wp2_with (refine wpList_store_row (by rfl) 45 (.tmp 0) (.tmp 8) (by rfl) p (pkNil PK.zeroPk) (by rfl) (by rfl) 45 cs hp pk_info hcs O1.out ?_)
  obtain ⟨r1, r2, r3⟩ := caught_world (c := c) (x := x) hpq hp hq (.cells #[.int .u8 c] 136)
  generalize ((((w.setRow p (pkNil PK.zeroPk)).setCell ⟨q, 0, none⟩ (.int .u8 128)).setCell ⟨q, 0, none⟩ (.int .u8 c)).alloc (.cells #[.int .u8 c] 136)) = W' at r1 r2 r3 ⊢
  simp [bodyPostS, results, Tryz.results64, r1, r2, r3]

set_option maxRecDepth 100000 in
theorem catch_none (p q : Nat) (w : World) :
    CallsD Tryz.prog 64 #[.pointer (some ⟨p, 0, none⟩), .pointer (some ⟨q, 0, none⟩)] .returning w fun e u' w' => e = .returned (.tuple #[]) ∧ u' = .returning ∧ w' = w := by
  refine callsD_of_wpS Tryz.func64 rfl fun c₀ cs hu => ?_
  apply wpS_seq
  apply wpS_region
  simp [wpOpsS, go_sem, recoverD, hu, Tryz.ntmps64, Exit.thenS]
  refine wpS_of_wp ?_
  change Code.wp _ _ _ { tmps := #[.pointer (some ⟨p, 0, none⟩), .pointer (some ⟨q, 0, none⟩), .nilIface, undef, undef, .nilIface, undef, undef, undef, undef, undef, undef, undef, undef, undef, undef, undef], defers := [] } w
  go_wp2
  cases c₀
  simp_all [bodyPostS, results, Tryz.results64]
theorem load_code_var {w : World} {q : Nat} {c : Int} (h : w.heap[q]? = some (.cells #[.int .u8 c] 30 (0, 0))) :
    (loadVar 30 ⟨q, 0, none⟩).run Tryz.prog w = .ok (.int .u8 c) w := by
  have hc : w.cell? ⟨q, 0, none⟩ = some (.int .u8 c) := by rw [cell_heap h]; rfl
  simp [go_sem, hc]
set_option maxRecDepth 100000 in
theorem read_both {w : World} {p q : Nat} {P : Pk} {vc vp vw vs vf : Value} {c : Int} (hp : w.heap[p]? = some (.cells (pkCells P vc vp vw vs vf) 45 (0, 0))) (hq : w.heap[q]? = some (.cells #[.int .u8 c] 30 (0, 0))) :
    ((Sem.run Tryz.prog (asAddr (.pointer (some ⟨p, 0, none⟩))) w).andThen fun a w' => (Sem.run Tryz.prog (loadVar 45 a) w').andThen fun a w' =>
      (Sem.run Tryz.prog (asAddr (.pointer (some ⟨q, 0, none⟩))) w').andThen fun a_1 w' => (Sem.run Tryz.prog (loadVar 30 a_1) w').andThen fun a_2 w' => Result.ok (Value.tuple #[a, a_2]) w') = .ok (.tuple #[.agg (pkCells P vc vp vw vs vf), .int .u8 c]) w := by
  show ((Sem.run Tryz.prog (loadVar 45 ⟨p, 0, none⟩) w).andThen _) = _
  rw [load_pk_var hp]
  show ((Sem.run Tryz.prog (loadVar 30 ⟨q, 0, none⟩) w).andThen _) = _
  rw [load_code_var hq]
  rfl
/-- What caught answers. -/
def CaP (r : Nat) (w : World) (X : Pk × Int) (e : Ending) (w' : World) : Prop :=
  (X.2 = 0 → ∃ vc vp vw vs vf, e = .returned (.tuple #[.agg (pkCells X.1 vc vp vw vs vf), .int .u8 0]) ∧ Own5 w.heap.size X.1 vc vp vw vs vf w' ∧ Gr r w w') ∧ (X.2 ≠ 0 → e = .returned (.tuple #[.agg (pkNil PK.zeroPk), .int .u8 X.2]) ∧ Gr r w w')

set_option maxRecDepth 100000 in
set_option maxHeartbeats 2000000 in
theorem caught_any (r : Nat) (cap : Array Value) (X : Pk × Int) (w : World) (hr : r < w.heap.size)
    (hC : ∀ W, Below w.heap.size w W → Calls Tryz.prog 36 cap W (WhP r W X)) :
    Calls Tryz.prog 35 #[.func (.func 36) #[] cap] w (CaP r w X) := by
  have hmf : ∀ (fn : Fn) (first cap : Array Value) (w : World), (Instr.makeFunc fn first cap).run Tryz.prog w = .ok (.func fn first cap) w := fun _ _ _ _ => rfl
  have b1 := (Below.refl w.heap.size w).alloc (Nat.le_refl _) (.cells (pkNil PK.zeroPk) 45)
  have hsz : (w.alloc (.cells (pkNil PK.zeroPk) 45)).heap.size = w.heap.size + 1 := by simp
  have b2 := b1.alloc (by omega) (.cells #[.int .u8 0] 30)
  have P1 : (w.alloc (.cells (pkNil PK.zeroPk) 45)).heap[w.heap.size]? = some (.cells (pkNil PK.zeroPk) 45 (0, 0)) := heap_alloc_new w _
  have P2 : ((w.alloc (.cells (pkNil PK.zeroPk) 45)).alloc (.cells #[.int .u8 0] 30)).heap[w.heap.size]? = some (.cells (pkNil PK.zeroPk) 45 (0, 0)) := (Below.heap_alloc _ _ _ (lt_heap P1)).trans P1
  have Q2 : ((w.alloc (.cells (pkNil PK.zeroPk) 45)).alloc (.cells #[.int .u8 0] 30)).heap[w.heap.size + 1]? = some (.cells #[.int .u8 0] 30 (0, 0)) := by rw [← hsz]; exact heap_alloc_new _ _
  have C1 := Lib.hid (hC _ b2)
  have hs2 : ((w.alloc (.cells (pkNil PK.zeroPk) 45)).alloc (.cells #[.int .u8 0] 30)).heap.size = w.heap.size + 2 := by simp
  have HB2 := Lib.hid b2
  have HP2 := Lib.hid P2
  have HQ2 := Lib.hid Q2
  have HS2 := Lib.hid hs2
  clear b1 b2 P1 P2 Q2 hs2 hsz hC
  go_enter_defers Tryz.func35, Tryz.ntmps35
  go_wp2_with fail
  refine C1.out.mono ?_
  rintro e w1 hR
  by_cases h1 : X.2 = 0
  · obtain ⟨vc, vp, vw, vs, vf, rfl, o1, g1⟩ := hR.1 h1
    have p1 := (g1.block _ (lt_heap HP2.out) (fun e => by injection e with e; omega)).trans HP2.out
    have q1 := (g1.block _ (lt_heap HQ2.out) (fun e => by injection e with e; omega)).trans HQ2.out
    have W1 := Lib.hid (pk_one X.1 o1)
    have HPP := Lib.hid p1
    have c1 : (w1.setRow w.heap.size (pkCells X.1 vc vp vw vs vf)).cell? ⟨w.heap.size + 1, 0, none⟩ = some (.int .u8 0) := by rw [cell_heap ((setRow_other _ (by omega)).trans q1)]; rfl
    have f1 : (w1.setRow w.heap.size (pkCells X.1 vc vp vw vs vf)).frozen? ⟨w.heap.size + 1, 0, none⟩ = false := frozen_heap ((setRow_other _ (by omega)).trans q1)
    clear hR C1
    go_wp2_with (refine wpList_store_row (by rfl) 45 (.tmp 2) (.tmp 6) (by rfl) w.heap.size (pkCells X.1 vc vp vw vs vf) (by rfl) (by rfl) 45 (pkNil PK.zeroPk) HPP.out pk_info rfl W1.out ?_)
    refine leaves_cons (f := 64) (args := #[.pointer (some ⟨w.heap.size, 0, none⟩), .pointer (some ⟨w.heap.size + 1, 0, none⟩)]) (by simp) (by simp [go_sem]) ?_
    refine (catch_none _ _ _).mono ?_
    rintro e u' w'' ⟨rfl, rfl, rfl⟩
    simp [Leaves, settle, results, Tryz.results35]
    have hp' := setRow_heap (cs := pkCells X.1 vc vp vw vs vf) HPP.out
    have hq' := one_setCell (u := .int .u8 0) ((setRow_other (g := w.heap.size) (pkCells X.1 vc vp vw vs vf) (by omega)).trans q1)
    refine ⟨_, read_both ((Below.heap_setCell _ _ _ _ (fun e => by simp at e)).trans hp') hq', fun _ => ⟨_, _, _, _, _, rfl, ?_, ?_⟩, fun h => absurd h1 h⟩
    · have hz := HS2.out
      have n5 := fun {e : TypeId} {k : Nat} {v : Value} {n : Nat} {xs : List Value} (ho : w1.ownsRow ((w.alloc (.cells (pkNil PK.zeroPk) 45)).alloc (.cells #[.int .u8 0] 30)).heap.size e k v n xs) => own_base' (C := w.heap.size) (ownsRow_setCell_other (own_setRow (g := w.heap.size) (pkCells X.1 vc vp vw vs vf) ho (row_ne ho (by omega))) (a := ⟨w.heap.size + 1, 0, none⟩) (row_ne (r := w.heap.size + 1) ho (by omega)) (.int .u8 0)) (by omega)
      exact ⟨n5 o1.codes, n5 o1.props, n5 o1.wprops, n5 o1.subs, n5 o1.filters⟩
    · exact (((Gr.of_below HB2.out).trans g1).setRow (Nat.le_refl _) _).setNew (by omega) 0 _
  · obtain ⟨rfl, g1⟩ := hR.2 h1
    have p1 := (g1.block _ (lt_heap HP2.out) (fun e => by injection e with e; omega)).trans HP2.out
    have q1 := (g1.block _ (lt_heap HQ2.out) (fun e => by injection e with e; omega)).trans HQ2.out
    change bodyPostD _ _ _ (Exit.panic [{ v := .iface 136 (.agg #[.int .u8 X.2]), recovered := false }]) _ _
    refine leaves_cons (f := 64) (args := #[.pointer (some ⟨w.heap.size, 0, none⟩), .pointer (some ⟨w.heap.size + 1, 0, none⟩)]) (by simp) (by simp [go_sem]) ?_
    refine (catch_left w.heap.size (w.heap.size + 1) (pkNil PK.zeroPk) 0 X.2 [] w1 (by omega) rfl p1 q1).mono ?_
    rintro e u' w'' ⟨rfl, rfl, r1, r2, r3⟩
    simp [Leaves, settle, results, Tryz.results35]
    refine ⟨_, read_both (P := PK.zeroPk) (vc := .slice none 0 0) (vp := .slice none 0 0) (vw := .slice none 0 0) (vs := .slice none 0 0) (vf := .slice none 0 0) r1 r2, fun h => absurd h h1, fun _ => ⟨rfl, ?_⟩⟩
    have g0 := (Gr.of_below (r := r) HB2.out).trans g1
    exact ⟨r3.os.trans g0.os, r3.tape.trans g0.tape, r3.output.trans g0.output, Nat.le_trans g0.size r3.size, fun i hi hne => (r3.block i (Nat.lt_of_lt_of_le hi g0.size) (by omega) (by omega)).trans (g0.block i hi hne)⟩
end Go.Proofs.YtemfcaaoobjgkaaGreatDoor
namespace Go.Proofs.YtemfcaaoobjgkaaGreatDoor
namespace VP

theorem str_at (xs : List Int) (i : Nat) (h : i < (strOfNums xs).size) (h' : i < xs.length) (h0 : 0 ≤ xs[i]) (h1 : xs[i] < 256) : (((strOfNums xs)[i]'h).toNat : Int) = xs[i] := by
  have e : (strOfNums xs)[i]'h = UInt8.ofNat (xs[i]).toNat := by
    show (strOfNums xs).data[i] = _
    simp [strOfNums]
  rw [e, UInt8.toNat_ofNat']
  omega

theorem got1 (s : ByteArray) (k : Nat) (a : Int) (h : k < s.size) (b0 : ((s[k]'(by omega)).toNat : Int) = a) (hl : a < 128) (hz : sz (0 + a) = 1) :
    get s k = (0 + a, (k : Int) + 1, 0) := by
  rw [get_in s k (by omega)]
  rw [last0 s k _ h (by omega) (by rw [b0]; exact hz), b0]

theorem got2 (s : ByteArray) (k : Nat) (a b : Int) (h : k + 1 < s.size) (b0 : ((s[k]'(by omega)).toNat : Int) = a) (b1 : ((s[k + 1]'(by omega)).toNat : Int) = b) (h0 : 128 ≤ a) (hl : b < 128) (hz : sz (0 + (a - 128) + b * 128) = 2) :
    get s k = (0 + (a - 128) + b * 128, (k : Int) + 1 + 1, 0) := by
  rw [get_in s k (by omega)]
  rw [more0 s k _ (by omega) (by omega), b0]
  rw [last1 s k _ h (by omega) (by rw [b1]; exact hz), b1]

theorem got3 (s : ByteArray) (k : Nat) (a b c : Int) (h : k + 2 < s.size) (b0 : ((s[k]'(by omega)).toNat : Int) = a) (b1 : ((s[k + 1]'(by omega)).toNat : Int) = b) (b2 : ((s[k + 2]'(by omega)).toNat : Int) = c) (h0 : 128 ≤ a) (h1 : 128 ≤ b) (hl : c < 128) (hz : sz (0 + (a - 128) + (b - 128) * 128 + c * 16384) = 3) :
    get s k = (0 + (a - 128) + (b - 128) * 128 + c * 16384, (k : Int) + 2 + 1, 0) := by
  rw [get_in s k (by omega)]
  rw [more0 s k _ (by omega) (by omega), b0]
  rw [more1 s k _ (by omega) (by omega), b1]
  rw [last2 s k _ h (by omega) (by rw [b2]; exact hz), b2]

theorem got4 (s : ByteArray) (k : Nat) (a b c d : Int) (h : k + 3 < s.size) (b0 : ((s[k]'(by omega)).toNat : Int) = a) (b1 : ((s[k + 1]'(by omega)).toNat : Int) = b) (b2 : ((s[k + 2]'(by omega)).toNat : Int) = c) (b3 : ((s[k + 3]'(by omega)).toNat : Int) = d) (h0 : 128 ≤ a) (h1 : 128 ≤ b) (h2 : 128 ≤ c) (hl : d < 128) (hz : sz (0 + (a - 128) + (b - 128) * 128 + (c - 128) * 16384 + d * 2097152) = 4) :
    get s k = (0 + (a - 128) + (b - 128) * 128 + (c - 128) * 16384 + d * 2097152, (k : Int) + 3 + 1, 0) := by
  rw [get_in s k (by omega)]
  rw [more0 s k _ (by omega) (by omega), b0]
  rw [more1 s k _ (by omega) (by omega), b1]
  rw [more2 s k _ (by omega) (by omega), b2]
  rw [last3 s k _ h (by omega) (by rw [b3]; exact hz), b3]

theorem get_put1 {n : Int} (h : 0 ≤ n) (h' : n < 128) : get (strOfNums (putL n)) 0 = (n, 1, 0) := by
  rw [putL_1 h h']
  generalize hs : strOfNums [n] = s
  have hz : s.size = 1 := by rw [← hs, strOfNums_size]; rfl
  have b0 : ((s[0]'(by omega)).toNat : Int) = n := by subst hs; exact str_at _ 0 (by omega) (by simp) (by simp; omega) (by simp; omega)
  have e : 0 + n = n := by omega
  have g := got1 s 0 (n) (by omega) (by simpa using b0) (by omega) (by rw [e]; exact sz_1 h h')
  rw [e] at g
  simpa using g

theorem get_put2 {n : Int} (h : 128 ≤ n) (h' : n < 16384) : get (strOfNums (putL n)) 0 = (n, 2, 0) := by
  rw [putL_2 h h']
  generalize hs : strOfNums [n % 128 + 128, n / 128] = s
  have hz : s.size = 2 := by rw [← hs, strOfNums_size]; rfl
  have b0 : ((s[0]'(by omega)).toNat : Int) = n % 128 + 128 := by subst hs; exact str_at _ 0 (by omega) (by simp) (by simp; omega) (by simp; omega)
  have b1 : ((s[1]'(by omega)).toNat : Int) = n / 128 := by subst hs; exact str_at _ 1 (by omega) (by simp) (by simp; omega) (by simp; omega)
  have e : 0 + ((n % 128 + 128) - 128) + n / 128 * 128 = n := by omega
  have g := got2 s 0 (n % 128 + 128) (n / 128) (by omega) (by simpa using b0) (by simpa using b1) (by omega) (by omega) (by rw [e]; exact sz_2 h h')
  rw [e] at g
  simpa using g

theorem get_put3 {n : Int} (h : 16384 ≤ n) (h' : n < 2097152) : get (strOfNums (putL n)) 0 = (n, 3, 0) := by
  rw [putL_3 h h']
  generalize hs : strOfNums [n % 128 + 128, n / 128 % 128 + 128, n / 16384] = s
  have hz : s.size = 3 := by rw [← hs, strOfNums_size]; rfl
  have b0 : ((s[0]'(by omega)).toNat : Int) = n % 128 + 128 := by subst hs; exact str_at _ 0 (by omega) (by simp) (by simp; omega) (by simp; omega)
  have b1 : ((s[1]'(by omega)).toNat : Int) = n / 128 % 128 + 128 := by subst hs; exact str_at _ 1 (by omega) (by simp) (by simp; omega) (by simp; omega)
  have b2 : ((s[2]'(by omega)).toNat : Int) = n / 16384 := by subst hs; exact str_at _ 2 (by omega) (by simp) (by simp; omega) (by simp; omega)
  have e : 0 + ((n % 128 + 128) - 128) + ((n / 128 % 128 + 128) - 128) * 128 + n / 16384 * 16384 = n := by omega
  have g := got3 s 0 (n % 128 + 128) (n / 128 % 128 + 128) (n / 16384) (by omega) (by simpa using b0) (by simpa using b1) (by simpa using b2) (by omega) (by omega) (by omega) (by rw [e]; exact sz_3 h h')
  rw [e] at g
  simpa using g

theorem get_put4 {n : Int} (h : 2097152 ≤ n) (h' : n ≤ 268435455) : get (strOfNums (putL n)) 0 = (n, 4, 0) := by
  rw [putL_4 h h']
  generalize hs : strOfNums [n % 128 + 128, n / 128 % 128 + 128, n / 16384 % 128 + 128, n / 2097152] = s
  have hz : s.size = 4 := by rw [← hs, strOfNums_size]; rfl
  have b0 : ((s[0]'(by omega)).toNat : Int) = n % 128 + 128 := by subst hs; exact str_at _ 0 (by omega) (by simp) (by simp; omega) (by simp; omega)
  have b1 : ((s[1]'(by omega)).toNat : Int) = n / 128 % 128 + 128 := by subst hs; exact str_at _ 1 (by omega) (by simp) (by simp; omega) (by simp; omega)
  have b2 : ((s[2]'(by omega)).toNat : Int) = n / 16384 % 128 + 128 := by subst hs; exact str_at _ 2 (by omega) (by simp) (by simp; omega) (by simp; omega)
  have b3 : ((s[3]'(by omega)).toNat : Int) = n / 2097152 := by subst hs; exact str_at _ 3 (by omega) (by simp) (by simp; omega) (by simp; omega)
  have e : 0 + ((n % 128 + 128) - 128) + ((n / 128 % 128 + 128) - 128) * 128 + ((n / 16384 % 128 + 128) - 128) * 16384 + n / 2097152 * 2097152 = n := by omega
  have g := got4 s 0 (n % 128 + 128) (n / 128 % 128 + 128) (n / 16384 % 128 + 128) (n / 2097152) (by omega) (by simpa using b0) (by simpa using b1) (by simpa using b2) (by simpa using b3) (by omega) (by omega) (by omega) (by omega) (by rw [e]; exact sz_4 h h')
  rw [e] at g
  simpa using g

theorem putL_len {n : Int} (h : 0 ≤ n) (h' : n ≤ 268435455) : ((putL n).length : Int) = sz n := by
  rcases (show (n < 128) ∨ (128 ≤ n ∧ n < 16384) ∨ (16384 ≤ n ∧ n < 2097152) ∨ (2097152 ≤ n) from by omega) with g | ⟨g, g'⟩ | ⟨g, g'⟩ | g
  · rw [putL_1 h g, sz_1 h g]; rfl
  · rw [putL_2 g g', sz_2 g g']; rfl
  · rw [putL_3 g g', sz_3 g g']; rfl
  · rw [putL_4 g h', sz_4 g h']; rfl

theorem get_put {n : Int} (h : 0 ≤ n) (h' : n ≤ 268435455) : get (strOfNums (putL n)) 0 = (n, ((putL n).length : Int), 0) := by
  rw [putL_len h h']
  rcases (show (n < 128) ∨ (128 ≤ n ∧ n < 16384) ∨ (16384 ≤ n ∧ n < 2097152) ∨ (2097152 ≤ n) from by omega) with g | ⟨g, g'⟩ | ⟨g, g'⟩ | g
  · rw [get_put1 h g, sz_1 h g]
  · rw [get_put2 g g', sz_2 g g']
  · rw [get_put3 g g', sz_3 g g']
  · rw [get_put4 g h', sz_4 g h']

theorem sz_inv1 {x : Int} (h : sz x = 1) : 0 ≤ x ∧ x < 128 := by unfold sz at h; repeat' split at h; all_goals omega
theorem sz_inv2 {x : Int} (h : sz x = 2) : 128 ≤ x ∧ x < 16384 := by unfold sz at h; repeat' split at h; all_goals omega
theorem sz_inv3 {x : Int} (h : sz x = 3) : 16384 ≤ x ∧ x < 2097152 := by unfold sz at h; repeat' split at h; all_goals omega
theorem sz_inv4 {x : Int} (h : sz x = 4) : 2097152 ≤ x ∧ x ≤ 268435455 := by unfold sz at h; repeat' split at h; all_goals omega

theorem byte_lt (s : ByteArray) (k : Nat) (h : k < s.size) : ((s[k]'h).toNat : Int) < 256 := by
  have := (s[k]'h).toNat_lt
  omega

/-- What it is that a number was read of: its bytes, and no others. -/
def Read (s : ByteArray) (k : Nat) : Prop :=
  ∃ (x : Int) (m : Nat), 1 ≤ m ∧ k + m ≤ s.size ∧ 0 ≤ x ∧ x ≤ 268435455 ∧ (putL x).length = m ∧ get s k = (x, (k : Int) + m, 0) ∧
    ∀ i (h : k + i < s.size) (h' : i < (putL x).length), ((s[k + i]'h).toNat : Int) = (putL x)[i]

theorem read_got1 (s : ByteArray) (k : Nat) (a : Int) (h : k < s.size) (b0 : ((s[k]'(by omega)).toNat : Int) = a) (_h0 : 0 ≤ a) (hl : a < 128) (hz : sz (0 + a) = 1) : Read s k := by
  obtain ⟨r0, r1⟩ := sz_inv1 hz
  have hp := putL_1 r0 r1
  refine ⟨0 + a, 1, by omega, by omega, by omega, by omega, by rw [hp]; rfl, ?_, ?_⟩
  · rw [got1 s k a h b0 hl hz]
    simp
    try omega
  · intro j hj hj'
    simp only [hp]
    rw [hp] at hj'
    match j, hj' with
    | 0, _ => simp only [Nat.add_zero]; simp; omega

theorem read_got2 (s : ByteArray) (k : Nat) (a b : Int) (h : k + 1 < s.size) (b0 : ((s[k]'(by omega)).toNat : Int) = a) (b1 : ((s[k + 1]'(by omega)).toNat : Int) = b) (h0 : 128 ≤ a) (g0 : a < 256) (_h1 : 0 ≤ b) (hl : b < 128) (hz : sz (0 + (a - 128) + b * 128) = 2) : Read s k := by
  obtain ⟨r0, r1⟩ := sz_inv2 hz
  have hp := putL_2 r0 r1
  refine ⟨0 + (a - 128) + b * 128, 2, by omega, by omega, by omega, by omega, by rw [hp]; rfl, ?_, ?_⟩
  · rw [got2 s k a b h b0 b1 h0 hl hz]
    simp
    try omega
  · intro j hj hj'
    simp only [hp]
    rw [hp] at hj'
    match j, hj' with
    | 0, _ => simp only [Nat.add_zero]; simp; omega
    | 1, _ => simp; omega

theorem read_got3 (s : ByteArray) (k : Nat) (a b c : Int) (h : k + 2 < s.size) (b0 : ((s[k]'(by omega)).toNat : Int) = a) (b1 : ((s[k + 1]'(by omega)).toNat : Int) = b) (b2 : ((s[k + 2]'(by omega)).toNat : Int) = c) (h0 : 128 ≤ a) (g0 : a < 256) (h1 : 128 ≤ b) (g1 : b < 256) (_h2 : 0 ≤ c) (hl : c < 128) (hz : sz (0 + (a - 128) + (b - 128) * 128 + c * 16384) = 3) : Read s k := by
  obtain ⟨r0, r1⟩ := sz_inv3 hz
  have hp := putL_3 r0 r1
  refine ⟨0 + (a - 128) + (b - 128) * 128 + c * 16384, 3, by omega, by omega, by omega, by omega, by rw [hp]; rfl, ?_, ?_⟩
  · rw [got3 s k a b c h b0 b1 b2 h0 h1 hl hz]
    simp
    try omega
  · intro j hj hj'
    simp only [hp]
    rw [hp] at hj'
    match j, hj' with
    | 0, _ => simp only [Nat.add_zero]; simp; omega
    | 1, _ => simp; omega
    | 2, _ => simp; omega

theorem read_got4 (s : ByteArray) (k : Nat) (a b c d : Int) (h : k + 3 < s.size) (b0 : ((s[k]'(by omega)).toNat : Int) = a) (b1 : ((s[k + 1]'(by omega)).toNat : Int) = b) (b2 : ((s[k + 2]'(by omega)).toNat : Int) = c) (b3 : ((s[k + 3]'(by omega)).toNat : Int) = d) (h0 : 128 ≤ a) (g0 : a < 256) (h1 : 128 ≤ b) (g1 : b < 256) (h2 : 128 ≤ c) (g2 : c < 256) (_h3 : 0 ≤ d) (hl : d < 128) (hz : sz (0 + (a - 128) + (b - 128) * 128 + (c - 128) * 16384 + d * 2097152) = 4) : Read s k := by
  obtain ⟨r0, r1⟩ := sz_inv4 hz
  have hp := putL_4 r0 r1
  refine ⟨0 + (a - 128) + (b - 128) * 128 + (c - 128) * 16384 + d * 2097152, 4, by omega, by omega, by omega, by omega, by rw [hp]; rfl, ?_, ?_⟩
  · rw [got4 s k a b c d h b0 b1 b2 b3 h0 h1 h2 hl hz]
    simp
    try omega
  · intro j hj hj'
    simp only [hp]
    rw [hp] at hj'
    match j, hj' with
    | 0, _ => simp only [Nat.add_zero]; simp; omega
    | 1, _ => simp; omega
    | 2, _ => simp; omega
    | 3, _ => simp; omega

theorem get_inv (s : ByteArray) (k : Nat) (hk : k ≤ s.size) (hc : (get s k).2.2 = 0) : Read s k := by
  have hg := get_in s k hk
  by_cases l0 : k < s.size
  · have w0 := byte_lt s k l0
    by_cases c0 : ((s[k]'l0).toNat : Int) < 128
    · refine read_got1 s k _ l0 rfl (by omega) c0 ?_
      exact sz_1 (by omega) (by omega)
    · rw [more0 s k 0 l0 c0] at hg
      by_cases l1 : k + 1 < s.size
      · have w1 := byte_lt s (k + 1) l1
        by_cases c1 : ((s[k + 1]'l1).toNat : Int) < 128
        · by_cases hz : sz (0 + (((s[k]'l0).toNat : Int) - 128) + ((s[k + 1]'l1).toNat : Int) * 128) = 2
          · exact read_got2 s k _ _ l1 rfl rfl (by omega) w0 (by omega) c1 hz
          · rw [bad1 s k _ l1 c1 hz] at hg; rw [hg] at hc; exact absurd hc (by decide)
        · rw [more1 s k _ l1 c1] at hg
          by_cases l2 : k + 2 < s.size
          · have w2 := byte_lt s (k + 2) l2
            by_cases c2 : ((s[k + 2]'l2).toNat : Int) < 128
            · by_cases hz : sz (0 + (((s[k]'l0).toNat : Int) - 128) + (((s[k + 1]'l1).toNat : Int) - 128) * 128 + ((s[k + 2]'l2).toNat : Int) * 16384) = 3
              · exact read_got3 s k _ _ _ l2 rfl rfl rfl (by omega) w0 (by omega) w1 (by omega) c2 hz
              · rw [bad2 s k _ l2 c2 hz] at hg; rw [hg] at hc; exact absurd hc (by decide)
            · rw [more2 s k _ l2 c2] at hg
              by_cases l3 : k + 3 < s.size
              · have w3 := byte_lt s (k + 3) l3
                by_cases c3 : ((s[k + 3]'l3).toNat : Int) < 128
                · by_cases hz : sz (0 + (((s[k]'l0).toNat : Int) - 128) + (((s[k + 1]'l1).toNat : Int) - 128) * 128 + (((s[k + 2]'l2).toNat : Int) - 128) * 16384 + ((s[k + 3]'l3).toNat : Int) * 2097152) = 4
                  · exact read_got4 s k _ _ _ _ l3 rfl rfl rfl rfl (by omega) w0 (by omega) w1 (by omega) w2 (by omega) c3 hz
                  · rw [bad3 s k _ l3 c3 hz] at hg; rw [hg] at hc; exact absurd hc (by decide)
                · rw [more3 s k _ l3 c3, getG_0] at hg; rw [hg] at hc; exact absurd hc (by decide)
              · rw [ends3 s k _ l3] at hg; rw [hg] at hc; exact absurd hc (by decide)
          · rw [ends2 s k _ l2] at hg; rw [hg] at hc; exact absurd hc (by decide)
      · rw [ends1 s k _ l1] at hg; rw [hg] at hc; exact absurd hc (by decide)
  · rw [ends0 s k _ l0] at hg; rw [hg] at hc; exact absurd hc (by decide)

theorem extract_eq (s : ByteArray) (m : Nat) (xs : List Int) (hm : xs.length = m) (hs : m ≤ s.size) (hb : ∀ i (h : i < s.size) (h' : i < xs.length), ((s[i]'h).toNat : Int) = xs[i]) : s.extract 0 m = strOfNums xs := by
  apply ByteArray.ext
  apply Array.ext
  · simp [strOfNums, hm]; omega
  · intro i h1 h2
    have hi : i < xs.length := by simpa [strOfNums] using h2
    have hx := hb i (by omega) hi
    have hx' : xs[i].toNat = (s[i]'(by omega)).toNat := by omega
    simp only [strOfNums, ByteArray.data_extract]
    simp only [Array.getElem_extract, List.getElem_toArray, List.getElem_map, Nat.zero_add, hx', UInt8.ofNat_toNat]
    rfl

theorem read_back (s : ByteArray) (hc : (get s 0).2.2 = 0) : ∃ (x : Int) (m : Nat), 1 ≤ m ∧ m ≤ s.size ∧ 0 ≤ x ∧ x ≤ 268435455 ∧ get s 0 = (x, (m : Int), 0) ∧ s.extract 0 m = strOfNums (putL x) := by
  obtain ⟨x, m, h1, h2, h3, h4, h5, h6, h7⟩ := get_inv s 0 (Nat.zero_le _) hc
  refine ⟨x, m, h1, by omega, h3, h4, by simpa using h6, ?_⟩
  exact extract_eq s m (putL x) h5 (by omega) (fun i h h' => by have := h7 i (by omega) h'; simpa using this)

end VP
end Go.Proofs.YtemfcaaoobjgkaaGreatDoor
namespace Go.Proofs.YtemfcaaoobjgkaaGreatDoor
namespace ST
/-- How many bytes the packet has that stands whole at the beginning of s, and the code. -/
def first (s : ByteArray) (most : Int) : Int × Int :=
  if s.size = 0 then (0, 242) else if (VP.get s 1).2.2 ≠ 0 then (0, (VP.get s 1).2.2) else
  if most < (VP.get s 1).2.1 + (VP.get s 1).1 then (0, 149) else
  if (s.size : Int) < (VP.get s 1).2.1 + (VP.get s 1).1 then (0, 242) else ((VP.get s 1).2.1 + (VP.get s 1).1, 0)
theorem get1 (s : ByteArray) (h : s.size ≠ 0) (hc : (VP.get s 1).2.2 = 0) : ∃ n b : Nat, VP.get s 1 = ((n : Int), (b : Int), 0) ∧ n ≤ 268435455 ∧ 2 ≤ b ∧ b ≤ s.size := by
  obtain ⟨x, m, h1, h2, h3, h4, _, h6, _⟩ := VP.get_inv s 1 (by omega) hc
  obtain ⟨n, rfl⟩ := Int.eq_ofNat_of_zero_le h3
  exact ⟨n, 1 + m, by rw [show ((1 : Int)) = ((1 : Nat) : Int) from rfl, h6]; simp, by omega, by omega, by omega⟩
theorem first_ok (s : ByteArray) (most : Int) (h : (first s most).2 = 0) : ∃ k : Nat, first s most = ((k : Int), 0) ∧ 2 ≤ k ∧ k ≤ s.size := by
  unfold first at h ⊢
  by_cases h0 : s.size = 0
  · rw [if_pos h0] at h; exact absurd h (by decide)
  rw [if_neg h0] at h ⊢
  by_cases h1 : (VP.get s 1).2.2 ≠ 0
  · rw [if_pos h1] at h; exact absurd h h1
  rw [if_neg h1] at h ⊢
  obtain ⟨n, b, hg, hn, hb1, hb2⟩ := get1 s h0 (Classical.not_not.1 h1)
  rw [hg] at h ⊢
  simp only at h ⊢
  by_cases h2 : most < (b : Int) + n
  · rw [if_pos h2] at h; exact absurd h (by decide)
  rw [if_neg h2] at h ⊢
  by_cases h3 : (s.size : Int) < (b : Int) + n
  · rw [if_pos h3] at h; exact absurd h (by decide)
  rw [if_neg h3]
  exact ⟨b + n, by simp, by omega, by omega⟩
/-- The packets from a place on whose f is no code; the place behind them, and the code. -/
def thr (s : ByteArray) (most : Int) (f : ByteArray → Int) : Nat → Nat → List ByteArray × Nat × Int
  | 0, a => ([], a, 0)
  | u + 1, a =>
    if (first (s.extract a s.size) most).2 = 0 then
      if f (s.extract a (a + (first (s.extract a s.size) most).1.toNat)) = 0 then
        (s.extract a (a + (first (s.extract a s.size) most).1.toNat) :: (thr s most f u (a + (first (s.extract a s.size) most).1.toNat)).1, (thr s most f u (a + (first (s.extract a s.size) most).1.toNat)).2)
      else ([], a, f (s.extract a (a + (first (s.extract a s.size) most).1.toNat)))
    else ([], a, if (first (s.extract a s.size) most).2 = 242 then 0 else (first (s.extract a s.size) most).2)
/-- What a loop has done of them. -/
def Thr (s : ByteArray) (most : Int) (f : ByteArray → Int) (l : List ByteArray) (a : Nat) : Prop :=
  ∃ u, s.size < a + u ∧ a ≤ s.size ∧ 2 * l.length ≤ a ∧ thr s most f (s.size + 1) 0 = (l ++ (thr s most f u a).1, (thr s most f u a).2)
theorem Thr.start (s : ByteArray) (most : Int) (f : ByteArray → Int) : Thr s most f [] 0 := ⟨s.size + 1, by omega, by omega, by simp, by simp⟩
theorem Thr.step {s : ByteArray} {most : Int} {f : ByteArray → Int} {l : List ByteArray} {a k : Nat} (h : Thr s most f l a) (hf : first (s.extract a s.size) most = ((k : Int), 0)) (hk : 2 ≤ k) (hk2 : a + k ≤ s.size) (h0 : f (s.extract a (a + k)) = 0) : Thr s most f (l ++ [s.extract a (a + k)]) (a + k) := by
  obtain ⟨u, h1, h2, h3, h4⟩ := h
  obtain ⟨v, rfl⟩ : ∃ v, u = v + 1 := ⟨u - 1, by omega⟩
  refine ⟨v, by omega, hk2, by simp; omega, ?_⟩
  rw [h4, thr, hf]
  simp [h0]
theorem Thr.left {s : ByteArray} {most : Int} {f : ByteArray → Int} {l : List ByteArray} {a k : Nat} (h : Thr s most f l a) (hf : first (s.extract a s.size) most = ((k : Int), 0)) (h0 : f (s.extract a (a + k)) ≠ 0) : thr s most f (s.size + 1) 0 = (l, a, f (s.extract a (a + k))) := by
  obtain ⟨u, h1, h2, h3, h4⟩ := h
  obtain ⟨v, rfl⟩ : ∃ v, u = v + 1 := ⟨u - 1, by omega⟩
  rw [h4, thr, hf]
  simp [h0]
theorem Thr.stop {s : ByteArray} {most : Int} {f : ByteArray → Int} {l : List ByteArray} {a : Nat} (h : Thr s most f l a) (hf : (first (s.extract a s.size) most).2 ≠ 0) : thr s most f (s.size + 1) 0 = (l, a, if (first (s.extract a s.size) most).2 = 242 then 0 else (first (s.extract a s.size) most).2) := by
  obtain ⟨u, h1, h2, h3, h4⟩ := h
  obtain ⟨v, rfl⟩ : ∃ v, u = v + 1 := ⟨u - 1, by omega⟩
  rw [h4, thr, if_neg hf]
  simp
theorem Thr.size {s : ByteArray} {most : Int} {f : ByteArray → Int} {l : List ByteArray} {a : Nat} (h : Thr s most f l a) : a ≤ s.size ∧ 2 * l.length ≤ a := by
  obtain ⟨u, h1, h2, h3, h4⟩ := h
  exact ⟨h2, h3⟩
end ST
end Go.Proofs.YtemfcaaoobjgkaaGreatDoor
namespace Go.Proofs.YtemfcaaoobjgkaaGreatDoor
open Go.RowKit

theorem empty_list {s : ByteArray} (h : s.size = 0) : s = ⟨#[]⟩ := by
  cases s with | mk d => cases d with | mk l => cases l with
    | nil => rfl
    | cons a b => simp [ByteArray.size] at h
theorem nonempty_list {s : ByteArray} (h : s.size ≠ 0) : (s.toList == []) = false := by
  rw [beq_eq_false_iff_ne]
  intro e
  rw [ByteArray.toList_eq] at e
  apply h
  cases s with | mk d => cases d with | mk l => cases l with
    | nil => rfl
    | cons a b => simp at e
theorem st_from (s : ByteArray) (k : Nat) (h : k ≤ s.size) (w : World) :
    (Instr.slice 9 (.string s) (some (.int .i64 (k : Int))) none none).run Tryz.prog w = .ok (.string (s.extract k s.size)) w := by
  rw [run_slice_string_from_if w 9 s .i64 _ Tryz.underlying9, if_pos (by omega)]
  rfl
theorem st_upto (s : ByteArray) (k : Nat) (h : k ≤ s.size) (w : World) :
    (Instr.slice 9 (.string s) none (some (.int .i64 (k : Int))) none).run Tryz.prog w = .ok (.string (s.extract 0 k)) w := by
  rw [run_slice_string_to_if w 9 s .i64 _ Tryz.underlying9, if_pos (by omega)]
  rfl
theorem st_part (s : ByteArray) (a k : Nat) (h : a + k ≤ s.size) (w : World) :
    (Instr.slice 9 (.string s) (some (.int .i64 (a : Int))) (some (.int .i64 ((a : Int) + (k : Int)))) none).run Tryz.prog w = .ok (.string (s.extract a (a + k))) w := by
  rw [run_slice_string_if w 9 s .i64 .i64 _ _ Tryz.underlying9, if_pos (by omega), if_pos (by omega)]
  have e1 : ((a : Int)).toNat = a := by omega
  have e2 : ((a : Int) + (k : Int)).toNat = a + k := by omega
  rw [e1, e2]

set_option maxRecDepth 100000 in
set_option maxHeartbeats 1000000 in
theorem first_any (s : ByteArray) (most : Int) (hs : s.size ≤ 140737488351232) (w : World) :
    Calls Tryz.prog 31 #[.string s, .int .i64 most] w fun e w' => e = .returned (.tuple #[.int .i64 (ST.first s most).1, .int .u8 (ST.first s most).2]) ∧ w = w' := by
  by_cases h0 : s.size = 0
  · have e : ST.first s most = (0, 242) := by unfold ST.first; rw [if_pos h0]
    rw [e]
    obtain rfl := empty_list h0
    go_enter Tryz.func31, Tryz.ntmps31
    go_wp2
    go_ret2
    exact ⟨rfl, rfl⟩
  have hne := nonempty_list h0
  have C := Lib.hid (get_any s 1 (by unfold maxLen; omega))
  by_cases h1 : (VP.get s 1).2.2 ≠ 0
  · have e : ST.first s most = (0, (VP.get s 1).2.2) := by unfold ST.first; rw [if_neg h0, if_pos h1]
    rw [e]
    generalize VP.get s 1 = X at *
    obtain ⟨n, b, c⟩ := X
    simp only at C h1 ⊢
    have hc : (c != 0) = true := by rw [bne_iff_ne]; exact h1
    go_enter Tryz.func31, Tryz.ntmps31
    go_wp2_with fail
    refine (C.out _).mono ?_
    rintro e w' ⟨rfl, rfl⟩
    go_wp2
    go_ret2
    exact ⟨rfl, rfl⟩
  obtain ⟨n, b, hg, hn, hb1, hb2⟩ := ST.get1 s h0 (Classical.not_not.1 h1)
  have e : ST.first s most = if most < (b : Int) + n then (0, 149) else if (s.size : Int) < (b : Int) + n then (0, 242) else ((b : Int) + n, 0) := by unfold ST.first; rw [if_neg h0, if_neg h1, hg]
  rw [e]
  rw [hg] at C
  simp only at C
  clear hg h1 e h0
  by_cases h2 : most < (b : Int) + n
  · rw [if_pos h2]
    go_enter Tryz.func31, Tryz.ntmps31
    go_wp2_with fail
    refine (C.out _).mono ?_
    rintro e w' ⟨rfl, rfl⟩
    go_wp2
    go_ret2
    exact ⟨rfl, rfl⟩
  rw [if_neg h2]
  by_cases h3 : (s.size : Int) < (b : Int) + n
  · rw [if_pos h3]
    go_enter Tryz.func31, Tryz.ntmps31
    go_wp2_with fail
    refine (C.out _).mono ?_
    rintro e w' ⟨rfl, rfl⟩
    go_wp2
    go_ret2
    exact ⟨rfl, rfl⟩
  rw [if_neg h3]
  go_enter Tryz.func31, Tryz.ntmps31
  go_wp2_with fail
  refine (C.out _).mono ?_
  rintro e w' ⟨rfl, rfl⟩
  go_wp2
  go_ret2
  exact ⟨rfl, rfl⟩
end Go.Proofs.YtemfcaaoobjgkaaGreatDoor
namespace Go.Proofs.YtemfcaaoobjgkaaGreatDoor
open Go.RowKit
attribute [local go_sem ↓] Go.wp_at_zero Go.wp_at_succ

namespace PK
/-- The first byte. -/
def b0 (s : ByteArray) : Int := if h : 0 < s.size then ((s[0]'h).toNat : Int) else 0
/-- What speaks against a packet's length. -/
def hdC (s : ByteArray) : Int := if (VP.get s 1).2.2 = 0 then lenC (VP.get s 1).1 ((s.size : Int) - (VP.get s 1).2.1) else (VP.get s 1).2.2
/-- The packet that bytes are, and the code. -/
def getPk (s : ByteArray) : Pk × Int :=
  if s.size = 0 then (zeroPk, 242) else if begOk (b0 s) = false then (zeroPk, 129) else if hdC s ≠ 0 then (zeroPk, hdC s)
  else if (rdWhole s (VP.get s 1).2.1 (begPk (b0 s))).2 ≠ 0 then (zeroPk, (rdWhole s (VP.get s 1).2.1 (begPk (b0 s))).2) else ((rdWhole s (VP.get s 1).2.1 (begPk (b0 s))).1, 0)
end PK
/-- What Get answers. -/
def GtP (w : World) (X : Pk × Int) (e : Ending) (w' : World) : Prop :=
  (X.2 = 0 → ∃ vc vp vw vs vf, e = .returned (.tuple #[.agg (pkCells X.1 vc vp vw vs vf), .int .u8 0]) ∧ Own5 w.heap.size X.1 vc vp vw vs vf w') ∧ (X.2 ≠ 0 → e = .returned (.tuple #[.agg (pkNil PK.zeroPk), .int .u8 X.2])) ∧ Below w.heap.size w w'
theorem GtP.bad {w w' : World} {c : Int} (hc : c ≠ 0) (hb : Below w.heap.size w w') : GtP w (PK.zeroPk, c) (.returned (.tuple #[.agg (pkNil PK.zeroPk), .int .u8 c])) w' :=
  ⟨fun h => absurd h hc, fun _ => rfl, hb⟩
theorem below_of_gr {n r : Nat} {w W W' : World} (h : Below n w W) (hn : n ≤ W.heap.size) (hr : n ≤ r) (g : Gr r W W') : Below n w W' :=
  h.trans ⟨g.os, g.tape, g.output, g.size, fun i hi => g.block i (by omega) (fun e => by injection e with e; omega)⟩
theorem pbegin_any (n : Int) (h0 : 0 ≤ n) (h1 : n ≤ 255) (w : World) :
    Calls Tryz.prog 32 #[.int .u8 n] w fun e w' => e = .returned (.tuple #[.agg (pkNil (PK.begPk n)), .bool (PK.begOk n)]) ∧ Below w.heap.size w w' := by
  by_cases h3 : n / 16 = 3
  · exact begin_pub n h0 h1 h3 w
  · exact begin_other n h0 h1 h3 w
theorem beg_kind (n : Int) (h : PK.begOk n = true) : 1 ≤ (PK.begPk n).kind ∧ (PK.begPk n).kind ≤ 15 ∧ Bare (PK.begPk n) := by
  by_cases h3 : n / 16 = 3
  · unfold PK.begPk; rw [if_pos h3]
    exact ⟨(by decide : (1 : Int) ≤ 3), (by decide : (3 : Int) ≤ 15), ⟨rfl, rfl, rfl, rfl, rfl, rfl⟩⟩
  · unfold PK.begOk at h
    rw [if_neg h3] at h
    unfold PK.begPk; rw [if_neg h3]
    simp [PK.isK] at h
    exact ⟨h.1.1, h.1.2, ⟨rfl, rfl, rfl, rfl, rfl, rfl⟩⟩

set_option maxRecDepth 100000 in
set_option maxHeartbeats 4000000 in
theorem get_pk_any (s : ByteArray) (hs : s.size ≤ 140737488351232) (w : World) (hT : ∀ W, Below w.heap.size w W → Tabs W) :
    Calls Tryz.prog 18 #[.string s] w (GtP w (PK.getPk s)) := by
  have Z : Hid ((w.alloc (.cells (pkNil PK.zeroPk) 45)).heap[w.heap.size]? = some (.cells (pkNil PK.zeroPk) 45 (0, 0))) := Lib.hid (heap_alloc_new w _)
  have HB : Hid (Below w.heap.size w (w.alloc (.cells (pkNil PK.zeroPk) 45))) := Lib.hid ((Below.refl _ _).alloc (Nat.le_refl _) _)
  have O1 := Lib.hid (pkNil_one PK.zeroPk)
  have fin : ∀ (W : World) (c : Int), Below w.heap.size w W → W.heap[w.heap.size]? = some (.cells (pkNil PK.zeroPk) 45 (0, 0)) → c ≠ 0 →
      ((Sem.run Tryz.prog (asAddr (.pointer (some ⟨w.heap.size, 0, none⟩))) (W.setRow w.heap.size (pkNil PK.zeroPk))).andThen fun a w' => (Sem.run Tryz.prog (loadVar 45 a) w').andThen fun a w' => Result.ok (Value.tuple #[a, .int .u8 c]) w') = .ok (Value.tuple #[.agg (pkNil PK.zeroPk), .int .u8 c]) (W.setRow w.heap.size (pkNil PK.zeroPk)) ∧ GtP w (PK.zeroPk, c) (.returned (.tuple #[.agg (pkNil PK.zeroPk), .int .u8 c])) (W.setRow w.heap.size (pkNil PK.zeroPk)) :=
    fun W c hb hz hc => ⟨read_two (load_pk_var (P := PK.zeroPk) (vc := .slice none 0 0) (vp := .slice none 0 0) (vw := .slice none 0 0) (vs := .slice none 0 0) (vf := .slice none 0 0) (setRow_heap hz)), GtP.bad hc (below_setRow hb (Nat.le_refl _) _)⟩
  have FIN := Lib.hid fin
  clear fin
  obtain ⟨X, hX⟩ : ∃ X, X = PK.getPk s := ⟨_, rfl⟩
  rw [← hX]
  unfold PK.getPk at hX
  by_cases h0 : s.size = 0
  · rw [if_pos h0] at hX
    subst hX
    obtain rfl := empty_list h0
    go_enter Tryz.func18, Tryz.ntmps18
    go_wp2_with (refine wpList_store_row (by rfl) 45 (.tmp 2) (.tmp 12) (by rfl) w.heap.size (pkNil PK.zeroPk) (by rfl) (by rfl) 45 (pkNil PK.zeroPk) Z.out pk_info rfl O1.out ?_)
    obtain ⟨f1, f2⟩ := FIN.out _ 242 HB.out Z.out (by decide)
    refine bodyPost_ret (v := .tuple #[.agg (pkNil PK.zeroPk), .int .u8 242]) ?_ rfl f2
    simp only [results, Tryz.results18]
    simp
    exact f1
  rw [if_neg h0] at hX
  have hne := nonempty_list h0
  have hpos : 0 < s.size := by omega
  have hn : PK.b0 s = ((s[0]'hpos).toNat : Int) := by unfold PK.b0; rw [dif_pos hpos]
  have hn1 := VP.byte_lt s 0 hpos
  have hnn : 0 ≤ PK.b0 s ∧ PK.b0 s ≤ 255 := by rw [hn]; omega
  have CB : Hid (∀ W, Calls Tryz.prog 32 #[.int .u8 ((s[0]'hpos).toNat : Int)] W fun e w' => e = .returned (.tuple #[.agg (pkNil (PK.begPk (PK.b0 s))), .bool (PK.begOk (PK.b0 s))]) ∧ Below W.heap.size W w') := Lib.hid (fun W => by
    have := pbegin_any (PK.b0 s) hnn.1 hnn.2 W
    rwa [show Value.int .u8 (PK.b0 s) = .int .u8 ((s[0]'hpos).toNat : Int) from by rw [hn]] at this)
  have HK := Lib.hid (beg_kind (PK.b0 s))
  generalize PK.begPk (PK.b0 s) = P at *
  generalize PK.begOk (PK.b0 s) = ok at *
  clear hn hnn
  have HX := Lib.hid hX
  clear hX
  cases ok
  · have EX : Hid (X = (PK.zeroPk, 129)) := Lib.hid (by rw [HX.out, if_pos rfl])
    clear HX HK
    go_enter Tryz.func18, Tryz.ntmps18
    go_wp2_with fail
    refine (CB.out _).mono ?_
    rintro e w1 ⟨rfl, b1⟩
    have z1 := (b1.block _ (lt_heap Z.out)).trans Z.out
    have hw1 := HB.out.trans (b1.mono HB.out.size)
    have Z1 : Hid ((w1.alloc (.cells (pkNil PK.zeroPk) 45)).heap[w1.heap.size]? = some (.cells (pkNil PK.zeroPk) 45 (0, 0))) := Lib.hid (heap_alloc_new w1 _)
    have OP := Lib.hid (pkNil_one P)
    have hlt := lt_heap z1
    have Z2 : Hid (((w1.alloc (.cells (pkNil PK.zeroPk) 45)).setRow w1.heap.size (pkNil P)).heap[w.heap.size]? = some (.cells (pkNil PK.zeroPk) 45 (0, 0))) := Lib.hid ((setRow_other _ (by omega)).trans ((Below.heap_alloc _ _ _ hlt).trans z1))
    have B2 : Hid (Below w.heap.size w ((w1.alloc (.cells (pkNil PK.zeroPk) 45)).setRow w1.heap.size (pkNil P))) := Lib.hid (below_setRow (hw1.alloc (by omega) _) (by omega) _)
    clear b1 z1 hw1 CB
    go_wp2_with (first
      | refine wpList_store_row (by rfl) 45 (.tmp 4) (.tmp 17) (by rfl) w1.heap.size (pkNil P) (by rfl) (by rfl) 45 (pkNil PK.zeroPk) Z1.out pk_info rfl OP.out ?_
      | refine wpList_store_row (by rfl) 45 (.tmp 2) (.tmp 21) (by rfl) w.heap.size (pkNil PK.zeroPk) (by rfl) (by rfl) 45 (pkNil PK.zeroPk) Z2.out pk_info rfl O1.out ?_)
    obtain ⟨f1, f2⟩ := FIN.out _ 129 B2.out Z2.out (by decide)
    rw [EX.out]
    refine bodyPost_ret (v := .tuple #[.agg (pkNil PK.zeroPk), .int .u8 129]) ?_ rfl f2
    simp only [results, Tryz.results18]
    simp
    exact f1
  · obtain ⟨hk1, hk2, hB⟩ := HK.out rfl
    have HK1 := Lib.hid hk1; have HK2 := Lib.hid hk2; have HBa := Lib.hid hB
    have CG := Lib.hid (get_any s 1 (by unfold maxLen; omega))
    have CL := Lib.hid lencode_any
    clear HK hk1 hk2 hB
    go_enter Tryz.func18, Tryz.ntmps18
    go_wp2_with fail
    refine (CB.out _).mono ?_
    rintro e w1 ⟨rfl, b1⟩
    have z1 := (b1.block _ (lt_heap Z.out)).trans Z.out
    have hw1 := HB.out.trans (b1.mono HB.out.size)
    have Z1 : Hid ((w1.alloc (.cells (pkNil PK.zeroPk) 45)).heap[w1.heap.size]? = some (.cells (pkNil PK.zeroPk) 45 (0, 0))) := Lib.hid (heap_alloc_new w1 _)
    have OP := Lib.hid (pkNil_one P)
    have hlt := lt_heap z1
    go_upto_region 4 with (refine wpList_store_row (by rfl) 45 (.tmp 4) (.tmp 17) (by rfl) w1.heap.size (pkNil P) (by rfl) (by rfl) 45 (pkNil PK.zeroPk) Z1.out pk_info rfl OP.out ?_)
    obtain ⟨wA, hwA⟩ : ∃ wA, wA = (w1.alloc (.cells (pkNil PK.zeroPk) 45)).setRow w1.heap.size (pkNil P) := ⟨_, rfl⟩
    have Z2 : Hid (wA.heap[w.heap.size]? = some (.cells (pkNil PK.zeroPk) 45 (0, 0))) := Lib.hid (by rw [hwA]; exact (setRow_other _ (by omega)).trans ((Below.heap_alloc _ _ _ hlt).trans z1))
    have B2 : Hid (Below w.heap.size w wA) := Lib.hid (by rw [hwA]; exact below_setRow (hw1.alloc (by omega) _) (by omega) _)
    have P2 : Hid (wA.heap[w1.heap.size]? = some (.cells (pkNil P) 45 (0, 0))) := Lib.hid (by rw [hwA]; exact setRow_heap Z1.out)
    change Code.wp _ _ _ _ ((w1.alloc (.cells (pkNil PK.zeroPk) 45)).setRow w1.heap.size (pkNil P))
    rw [← hwA]
    have hsA : w1.heap.size < wA.heap.size := lt_heap P2.out
    clear hwA Z1 b1 z1 hw1 CB OP
    by_cases hc : (VP.get s 1).2.2 = 0
    · obtain ⟨m, b, hg, hm, hb1, hb2⟩ := ST.get1 s h0 hc
      have hd : PK.hdC s = PK.lenC (m : Int) ((s.size : Int) - (b : Int)) := by unfold PK.hdC; rw [if_pos hc, hg]
      rw [hg] at CG
      have EX : Hid (X = if PK.lenC (m : Int) ((s.size : Int) - (b : Int)) ≠ 0 then (PK.zeroPk, PK.lenC (m : Int) ((s.size : Int) - (b : Int))) else if (PK.rdWhole s (b : Int) P).2 ≠ 0 then (PK.zeroPk, (PK.rdWhole s (b : Int) P).2) else ((PK.rdWhole s (b : Int) P).1, 0)) := Lib.hid (by rw [HX.out, if_neg (by decide), hd, hg])
      simp only at CG
      clear hc hd hg HX
      have DL := Lib.hid (CL.out (m : Int) ((s.size : Int) - (b : Int)))
      generalize PK.lenC (m : Int) ((s.size : Int) - (b : Int)) = c at *
      clear CL
      by_cases hc : c = 0
      · subst hc
        have EX2 : Hid (X = if (PK.rdWhole s (b : Int) P).2 ≠ 0 then (PK.zeroPk, (PK.rdWhole s (b : Int) P).2) else ((PK.rdWhole s (b : Int) P).1, 0)) := Lib.hid (by rw [EX.out, if_neg (by decide)])
        have hsz3 : (wA.alloc (.cells #[.string s, .int .i64 (b : Int)] 102)).heap.size = wA.heap.size + 1 := by simp
        have B3 : Below w.heap.size w (wA.alloc (.cells #[.string s, .int .i64 (b : Int)] 102)) := B2.out.alloc (by omega) _
        have R3 : RdAt wA.heap.size s (b : Int) (wA.alloc (.cells #[.string s, .int .i64 (b : Int)] 102)) := heap_alloc_new wA _
        have P3 := (Below.heap_alloc wA (.cells #[.string s, .int .i64 (b : Int)] 102) _ hsA).trans P2.out
        have Z3 := Lib.hid ((Below.heap_alloc wA (.cells #[.string s, .int .i64 (b : Int)] 102) _ (lt_heap Z2.out)).trans Z2.out)
        have CC := Lib.hid (caught_any wA.heap.size #[.pointer (some ⟨wA.heap.size, 0, none⟩), .pointer (some ⟨w1.heap.size, 0, none⟩)] (PK.rdWhole s (b : Int) P) _ (by omega)
          (fun W hW => getfn_any wA.heap.size w1.heap.size s (b : Int) P W HK1.out HK2.out HBa.out (R3.below hW) ((hW.block _ (lt_heap P3)).trans P3) hs
            (fun W' hg => hT W' (below_of_gr (B3.trans (hW.mono B3.size)) (by have := hW.size; omega) (by omega) hg))))
        have HB3 := Lib.hid B3
        have HSZ := Lib.hid hsz3
        generalize PK.rdWhole s (b : Int) P = Y at *
        have hmf : ∀ (fn : Fn) (first cap : Array Value) (w : World), (Instr.makeFunc fn first cap).run Tryz.prog w = .ok (.func fn first cap) w := fun _ _ _ _ => rfl
        clear EX B3 R3 P3 hT P2 Z2 B2 hsz3
        go_wp2_with fail
        refine (CG.out _).mono ?_
        rintro e w' ⟨rfl, rfl⟩
        go_wp2_with fail
        refine (DL.out _).mono ?_
        rintro e w' ⟨rfl, rfl⟩
        go_wp2_with fail
        refine CC.out.mono ?_
        rintro e w4 hR
        by_cases h1 : Y.2 = 0
        · obtain ⟨vc, vp, vw, vs, vf, rfl, o1, g1⟩ := hR.1 h1
          have z4 := Lib.hid ((g1.block _ (lt_heap Z3.out) (fun e => by injection e with e; omega)).trans Z3.out)
          have W1 := Lib.hid (pk_one Y.1 o1)
          have B4 := Lib.hid (below_of_gr HB3.out HB3.out.size (by omega) g1)
          have O4 := Lib.hid o1
          have EX3 : Hid (X = (Y.1, 0)) := Lib.hid (by rw [EX2.out, if_neg (by simp [h1])])
          clear hR o1 g1 CC CG DL EX2 h1 Z3
          go_wp2_with (refine wpList_store_row (by rfl) 45 (.tmp 2) (.tmp 45) (by rfl) w.heap.size (pkCells Y.1 vc vp vw vs vf) (by rfl) (by rfl) 45 (pkNil PK.zeroPk) z4.out pk_info rfl W1.out ?_)
          rw [EX3.out]
          refine bodyPost_ret (v := .tuple #[.agg (pkCells Y.1 vc vp vw vs vf), .int .u8 0]) ?_ rfl ⟨fun _ => ⟨_, _, _, _, _, rfl, ?_⟩, fun h => absurd rfl h, below_setRow B4.out (Nat.le_refl _) _⟩
          · simp only [results, Tryz.results18]
            simp
            exact read_two (load_pk_var (setRow_heap z4.out))
          · have hz := HSZ.out
            have n5 := fun {e : TypeId} {k : Nat} {v : Value} {n : Nat} {xs : List Value} (ho : w4.ownsRow (wA.alloc (.cells #[.string s, .int .i64 (b : Int)] 102)).heap.size e k v n xs) => own_base' (C := w.heap.size) (own_setRow (g := w.heap.size) (pkCells Y.1 vc vp vw vs vf) ho (row_ne ho (by omega))) (by omega)
            exact ⟨n5 O4.out.codes, n5 O4.out.props, n5 O4.out.wprops, n5 O4.out.subs, n5 O4.out.filters⟩
        · obtain ⟨rfl, g1⟩ := hR.2 h1
          have z4 := Lib.hid ((g1.block _ (lt_heap Z3.out) (fun e => by injection e with e; omega)).trans Z3.out)
          have B4 := Lib.hid (below_of_gr HB3.out HB3.out.size (by omega) g1)
          have EX3 : Hid (X = (PK.zeroPk, Y.2)) := Lib.hid (by rw [EX2.out, if_pos h1])
          have H1 := Lib.hid h1
          clear hR g1 CC CG DL EX2 h1 Z3
          go_wp2_with (refine wpList_store_row (by rfl) 45 (.tmp 2) (.tmp 45) (by rfl) w.heap.size (pkNil PK.zeroPk) (by rfl) (by rfl) 45 (pkNil PK.zeroPk) z4.out pk_info rfl O1.out ?_)
          obtain ⟨f1, f2⟩ := FIN.out _ Y.2 B4.out z4.out H1.out
          rw [EX3.out]
          refine bodyPost_ret (v := .tuple #[.agg (pkNil PK.zeroPk), .int .u8 Y.2]) ?_ rfl f2
          simp only [results, Tryz.results18]
          simp
          exact f1
      · have e2 : (c != 0) = true := by rw [bne_iff_ne]; exact hc
        have EX2 : Hid (X = (PK.zeroPk, c)) := Lib.hid (by rw [EX.out, if_pos hc])
        have HC := Lib.hid hc
        clear EX hc
        go_wp2_with fail
        refine (CG.out _).mono ?_
        rintro e w' ⟨rfl, rfl⟩
        go_wp2_with fail
        refine (DL.out _).mono ?_
        rintro e w' ⟨rfl, rfl⟩
        go_wp2_with (refine wpList_store_row (by rfl) 45 (.tmp 2) (.tmp 38) (by rfl) w.heap.size (pkNil PK.zeroPk) (by rfl) (by rfl) 45 (pkNil PK.zeroPk) Z2.out pk_info rfl O1.out ?_)
        obtain ⟨f1, f2⟩ := FIN.out _ c B2.out Z2.out HC.out
        rw [EX2.out]
        refine bodyPost_ret (v := .tuple #[.agg (pkNil PK.zeroPk), .int .u8 c]) ?_ rfl f2
        simp only [results, Tryz.results18]
        simp
        exact f1
    · have hd : PK.hdC s = (VP.get s 1).2.2 := by unfold PK.hdC; rw [if_neg hc]
      have EX : Hid (X = (PK.zeroPk, (VP.get s 1).2.2)) := Lib.hid (by rw [HX.out, if_neg (by decide), hd, if_pos hc])
      generalize VP.get s 1 = Y at *
      obtain ⟨n, b, c⟩ := Y
      simp only at CG EX hc
      have e1 : (c == 0) = false := by rw [beq_eq_false_iff_ne]; exact hc
      have e2 : (c != 0) = true := by rw [bne_iff_ne]; exact hc
      clear hd HX
      have HC := Lib.hid hc
      clear hc
      go_wp2_with fail
      refine (CG.out _).mono ?_
      rintro e w' ⟨rfl, rfl⟩
      go_wp2_with (refine wpList_store_row (by rfl) 45 (.tmp 2) (.tmp 38) (by rfl) w.heap.size (pkNil PK.zeroPk) (by rfl) (by rfl) 45 (pkNil PK.zeroPk) Z2.out pk_info rfl O1.out ?_)
      obtain ⟨f1, f2⟩ := FIN.out _ c B2.out Z2.out HC.out
      rw [EX.out]
      refine bodyPost_ret (v := .tuple #[.agg (pkNil PK.zeroPk), .int .u8 c]) ?_ rfl f2
      simp only [results, Tryz.results18]
      simp
      exact f1
end Go.Proofs.YtemfcaaoobjgkaaGreatDoor
