/- The reader at a packet: what follows the length, by kinds (the acknowledgements, Connack, the lists).; The reader at a packet: what follows the length: Connack, and all kinds.; What speaks against a length.; The reader: a whole packet.; packet.begin: what a packet's first byte tells.; packet.Get's function that reads a whole packet.; packet.caught: what a reading makes, or the code by which it left.; A number is read back from its bytes, and bytes that are read are just those of the number. No program is named here.; Packets out of bytes: the plain side.; stream.first, and stream.through with whatever function it hands the packets to.; packet.Get.; A beginning of properties' bytes is none; properties with their last once more behind. Told plainly: no function of the program is named here.; Parts of packets read back from their bytes, and bytes that are read are just theirs: numbers, data, texts, properties. Told plainly: no function of the program is named here.; Read back: what a reader's part tells is what a writer's part puts.; Read back: identifiers, filters, lists, the flags of a Connect.; Read back: what follows the length.; Read back: a packet that was read, put, and read again. -/
import Derived.Test.YtlfgndhdifpngaaGreatDoorMB
import Derived.Laws.Tables
import Derived.Deep.MidRow
import Derived.Deep.CutBlock
import Derived.Defers
import Derived.Recover
import Derived.Test.YtlfgndhdifpngaaGreatDoorVarPure
import Derived.Laws.BytesArg
import Derived.Test.YtlfgndhdifpngaaGreatDoorMA
import Derived.Laws.DeepStrings4
import Derived.Lib.Hide
import Derived.Below
namespace Go.Proofs.YtlfgndhdifpngaaGreatDoor
open Go.RowKit
attribute [local go_sem ↓] Go.wp_at_zero Go.wp_at_succ

set_option maxRecDepth 100000 in
set_option maxHeartbeats 2000000 in
theorem rparts_4 (r p : Nat) (s : ByteArray) (a : Int) (P : Pk) (w : World) (hk : P.kind = 4) (hB : Bare P) (h : RdAt r s a w) (hp : PbAt p P (.slice none 0 0) (.slice none 0 0) (.slice none 0 0) (.slice none 0 0) (.slice none 0 0) w) (hs : s.size ≤ 140737488351232) (hT : ∀ W, G2 r p w W → Tabs W) (hrp : r ≠ p) :
    Calls Tryz.prog 51 #[.pointer (some ⟨r, 0, none⟩), .pointer (some ⟨p, 0, none⟩)] w (PtP r p s w (PK.partsK P.kind s a P)) := by
  have z0 : w.cell? ⟨p, 0, none⟩ = some (.int .i64 4) := by rw [cell_heap hp]; exact congrArg (fun x => some (Value.int .i64 x)) hk
  have HB := Lib.hid hB
  have HP := Lib.hid hp
  have C1 := Lib.hid (rid_any r s a w h hs)
  obtain ⟨X, hX⟩ : ∃ X, X = PK.partsK P.kind s a P := ⟨_, rfl⟩
  rw [← hX]
  rw [hk] at hX
  have e0 : PK.partsK 4 s a P = PK.bnd P (PK.rdId s a) (fun i a => PK.rdEndP s a 4 { P with id := i }) := rfl
  rw [e0] at hX
  have HX := Lib.hid hX
  have HT := Lib.hid hT
  have HK := Lib.hid hk
  have hpr : p ≠ r := fun e => hrp e.symm
  clear e0 hX h hp hT hB hk
  go_enter Tryz.func51, Tryz.ntmps51
  generalize PK.rdId s a = Y at *
  obtain ⟨n, a1, c1⟩ := Y
  simp only at C1 HX
  go_wp2_with fail
  refine C1.out.mono ?_
  rintro e w1 hR
  by_cases h1 : c1 = 0
  · obtain ⟨rfl, r1, g1⟩ := hR.1 h1
    have X1 := HX.out
    rw [PK.bnd_ok h1] at X1
    have p1 := HP.out.gr g1 hpr
    have z4 : w1.cell? ⟨p, 4, none⟩ = some (.int .i64 P.id) := by rw [cell_heap p1]; rfl
    have f4 : w1.frozen? ⟨p, 4, none⟩ = false := frozen_heap p1
    have P2 : PbAt p { P with id := n } (.slice none 0 0) (.slice none 0 0) (.slice none 0 0) (.slice none 0 0) (.slice none 0 0) (w1.setCell ⟨p, 4, none⟩ (.int .i64 n)) := set_block p1 rfl
    have R2 : RdAt r s a1 (w1.setCell ⟨p, 4, none⟩ (.int .i64 n)) := r1.setOther hrp _ _
    have G1 : G2 r p w (w1.setCell ⟨p, 4, none⟩ (.int .i64 n)) := (G2.of_gr g1).setCell 4 _
    have C2 : Hid (Calls Tryz.prog 96 #[.pointer (some ⟨r, 0, none⟩), .pointer (some ⟨p, 0, none⟩)] (w1.setCell ⟨p, 4, none⟩ (.int .i64 n)) (EdP r p s { P with id := n } (.slice none 0 0) (.slice none 0 0) (.slice none 0 0) (.slice none 0 0) (w1.setCell ⟨p, 4, none⟩ (.int .i64 n)) (PK.rdEnd s a1 P.kind))) := rending_any r p s a1 { P with id := n } _ _ _ _ _ R2 P2 HB.out.code HB.out.props hs (fun W hW => HT.out W (G1.trans hW)) hrp
    have e1 : PK.rdEnd s a1 P.kind = PK.rdEnd s a1 4 := by rw [HK.out]
    rw [e1] at C2
    unfold PK.rdEndP at X1
    have HX1 := Lib.hid X1
    have HG1 := Lib.hid G1
    clear hR r1 g1 p1 P2 R2 G1 C1 HX X1 h1 HP HT HK e1
    generalize PK.rdEnd s a1 4 = Y at *
    go_wp2_with fail
    refine C2.out.mono ?_
    rintro e w2 hR
    by_cases h2 : Y.2.2 = 0
    · obtain ⟨v, rfl, o2, r2, p2, g2⟩ := hR.1 h2
      have O2 := Lib.hid (own_base' o2 HG1.out.size)
      have HR2 := Lib.hid r2
      have HP2 := Lib.hid p2
      have HG2 := Lib.hid (HG1.out.trans g2)
      have H2 := Lib.hid h2
      clear hR o2 r2 p2 g2 h2 C2
      go_wp2
      go_end0
      rw [HX1.out]
      exact ⟨fun _ => ⟨_, _, _, _, _, rfl, ⟨by simp only; rw [HB.out.codes]; exact own_nil _ _ _ _, O2.out, by simp only; rw [HB.out.wprops]; exact own_nil _ _ _ _, by simp only; rw [HB.out.subs]; exact own_nil _ _ _ _, by simp only; rw [HB.out.filters]; exact own_nil _ _ _ _⟩, HR2.out, HP2.out, HG2.out⟩, fun h => absurd H2.out h⟩
    · obtain ⟨rfl, g2⟩ := hR.2 h2
      exact ⟨rfl, PtP.left (by rw [HX1.out]) h2 (HG1.out.trans g2)⟩
  · obtain ⟨rfl, g1⟩ := hR.2 h1
    exact ⟨rfl, PtP.left (by rw [HX.out, PK.bnd_bad h1]) h1 (G2.of_gr g1)⟩

set_option maxRecDepth 100000 in
set_option maxHeartbeats 2000000 in
theorem rparts_5 (r p : Nat) (s : ByteArray) (a : Int) (P : Pk) (w : World) (hk : P.kind = 5) (hB : Bare P) (h : RdAt r s a w) (hp : PbAt p P (.slice none 0 0) (.slice none 0 0) (.slice none 0 0) (.slice none 0 0) (.slice none 0 0) w) (hs : s.size ≤ 140737488351232) (hT : ∀ W, G2 r p w W → Tabs W) (hrp : r ≠ p) :
    Calls Tryz.prog 51 #[.pointer (some ⟨r, 0, none⟩), .pointer (some ⟨p, 0, none⟩)] w (PtP r p s w (PK.partsK P.kind s a P)) := by
  have z0 : w.cell? ⟨p, 0, none⟩ = some (.int .i64 5) := by rw [cell_heap hp]; exact congrArg (fun x => some (Value.int .i64 x)) hk
  have HB := Lib.hid hB
  have HP := Lib.hid hp
  have C1 := Lib.hid (rid_any r s a w h hs)
  obtain ⟨X, hX⟩ : ∃ X, X = PK.partsK P.kind s a P := ⟨_, rfl⟩
  rw [← hX]
  rw [hk] at hX
  have e0 : PK.partsK 5 s a P = PK.bnd P (PK.rdId s a) (fun i a => PK.rdEndP s a 5 { P with id := i }) := rfl
  rw [e0] at hX
  have HX := Lib.hid hX
  have HT := Lib.hid hT
  have HK := Lib.hid hk
  have hpr : p ≠ r := fun e => hrp e.symm
  clear e0 hX h hp hT hB hk
  go_enter Tryz.func51, Tryz.ntmps51
  generalize PK.rdId s a = Y at *
  obtain ⟨n, a1, c1⟩ := Y
  simp only at C1 HX
  go_wp2_with fail
  refine C1.out.mono ?_
  rintro e w1 hR
  by_cases h1 : c1 = 0
  · obtain ⟨rfl, r1, g1⟩ := hR.1 h1
    have X1 := HX.out
    rw [PK.bnd_ok h1] at X1
    have p1 := HP.out.gr g1 hpr
    have z4 : w1.cell? ⟨p, 4, none⟩ = some (.int .i64 P.id) := by rw [cell_heap p1]; rfl
    have f4 : w1.frozen? ⟨p, 4, none⟩ = false := frozen_heap p1
    have P2 : PbAt p { P with id := n } (.slice none 0 0) (.slice none 0 0) (.slice none 0 0) (.slice none 0 0) (.slice none 0 0) (w1.setCell ⟨p, 4, none⟩ (.int .i64 n)) := set_block p1 rfl
    have R2 : RdAt r s a1 (w1.setCell ⟨p, 4, none⟩ (.int .i64 n)) := r1.setOther hrp _ _
    have G1 : G2 r p w (w1.setCell ⟨p, 4, none⟩ (.int .i64 n)) := (G2.of_gr g1).setCell 4 _
    have C2 : Hid (Calls Tryz.prog 96 #[.pointer (some ⟨r, 0, none⟩), .pointer (some ⟨p, 0, none⟩)] (w1.setCell ⟨p, 4, none⟩ (.int .i64 n)) (EdP r p s { P with id := n } (.slice none 0 0) (.slice none 0 0) (.slice none 0 0) (.slice none 0 0) (w1.setCell ⟨p, 4, none⟩ (.int .i64 n)) (PK.rdEnd s a1 P.kind))) := rending_any r p s a1 { P with id := n } _ _ _ _ _ R2 P2 HB.out.code HB.out.props hs (fun W hW => HT.out W (G1.trans hW)) hrp
    have e1 : PK.rdEnd s a1 P.kind = PK.rdEnd s a1 5 := by rw [HK.out]
    rw [e1] at C2
    unfold PK.rdEndP at X1
    have HX1 := Lib.hid X1
    have HG1 := Lib.hid G1
    clear hR r1 g1 p1 P2 R2 G1 C1 HX X1 h1 HP HT HK e1
    generalize PK.rdEnd s a1 5 = Y at *
    go_wp2_with fail
    refine C2.out.mono ?_
    rintro e w2 hR
    by_cases h2 : Y.2.2 = 0
    · obtain ⟨v, rfl, o2, r2, p2, g2⟩ := hR.1 h2
      have O2 := Lib.hid (own_base' o2 HG1.out.size)
      have HR2 := Lib.hid r2
      have HP2 := Lib.hid p2
      have HG2 := Lib.hid (HG1.out.trans g2)
      have H2 := Lib.hid h2
      clear hR o2 r2 p2 g2 h2 C2
      go_wp2
      go_end0
      rw [HX1.out]
      exact ⟨fun _ => ⟨_, _, _, _, _, rfl, ⟨by simp only; rw [HB.out.codes]; exact own_nil _ _ _ _, O2.out, by simp only; rw [HB.out.wprops]; exact own_nil _ _ _ _, by simp only; rw [HB.out.subs]; exact own_nil _ _ _ _, by simp only; rw [HB.out.filters]; exact own_nil _ _ _ _⟩, HR2.out, HP2.out, HG2.out⟩, fun h => absurd H2.out h⟩
    · obtain ⟨rfl, g2⟩ := hR.2 h2
      exact ⟨rfl, PtP.left (by rw [HX1.out]) h2 (HG1.out.trans g2)⟩
  · obtain ⟨rfl, g1⟩ := hR.2 h1
    exact ⟨rfl, PtP.left (by rw [HX.out, PK.bnd_bad h1]) h1 (G2.of_gr g1)⟩

set_option maxRecDepth 100000 in
set_option maxHeartbeats 2000000 in
theorem rparts_6 (r p : Nat) (s : ByteArray) (a : Int) (P : Pk) (w : World) (hk : P.kind = 6) (hB : Bare P) (h : RdAt r s a w) (hp : PbAt p P (.slice none 0 0) (.slice none 0 0) (.slice none 0 0) (.slice none 0 0) (.slice none 0 0) w) (hs : s.size ≤ 140737488351232) (hT : ∀ W, G2 r p w W → Tabs W) (hrp : r ≠ p) :
    Calls Tryz.prog 51 #[.pointer (some ⟨r, 0, none⟩), .pointer (some ⟨p, 0, none⟩)] w (PtP r p s w (PK.partsK P.kind s a P)) := by
  have z0 : w.cell? ⟨p, 0, none⟩ = some (.int .i64 6) := by rw [cell_heap hp]; exact congrArg (fun x => some (Value.int .i64 x)) hk
  have HB := Lib.hid hB
  have HP := Lib.hid hp
  have C1 := Lib.hid (rid_any r s a w h hs)
  obtain ⟨X, hX⟩ : ∃ X, X = PK.partsK P.kind s a P := ⟨_, rfl⟩
  rw [← hX]
  rw [hk] at hX
  have e0 : PK.partsK 6 s a P = PK.bnd P (PK.rdId s a) (fun i a => PK.rdEndP s a 6 { P with id := i }) := rfl
  rw [e0] at hX
  have HX := Lib.hid hX
  have HT := Lib.hid hT
  have HK := Lib.hid hk
  have hpr : p ≠ r := fun e => hrp e.symm
  clear e0 hX h hp hT hB hk
  go_enter Tryz.func51, Tryz.ntmps51
  generalize PK.rdId s a = Y at *
  obtain ⟨n, a1, c1⟩ := Y
  simp only at C1 HX
  go_wp2_with fail
  refine C1.out.mono ?_
  rintro e w1 hR
  by_cases h1 : c1 = 0
  · obtain ⟨rfl, r1, g1⟩ := hR.1 h1
    have X1 := HX.out
    rw [PK.bnd_ok h1] at X1
    have p1 := HP.out.gr g1 hpr
    have z4 : w1.cell? ⟨p, 4, none⟩ = some (.int .i64 P.id) := by rw [cell_heap p1]; rfl
    have f4 : w1.frozen? ⟨p, 4, none⟩ = false := frozen_heap p1
    have P2 : PbAt p { P with id := n } (.slice none 0 0) (.slice none 0 0) (.slice none 0 0) (.slice none 0 0) (.slice none 0 0) (w1.setCell ⟨p, 4, none⟩ (.int .i64 n)) := set_block p1 rfl
    have R2 : RdAt r s a1 (w1.setCell ⟨p, 4, none⟩ (.int .i64 n)) := r1.setOther hrp _ _
    have G1 : G2 r p w (w1.setCell ⟨p, 4, none⟩ (.int .i64 n)) := (G2.of_gr g1).setCell 4 _
    have C2 : Hid (Calls Tryz.prog 96 #[.pointer (some ⟨r, 0, none⟩), .pointer (some ⟨p, 0, none⟩)] (w1.setCell ⟨p, 4, none⟩ (.int .i64 n)) (EdP r p s { P with id := n } (.slice none 0 0) (.slice none 0 0) (.slice none 0 0) (.slice none 0 0) (w1.setCell ⟨p, 4, none⟩ (.int .i64 n)) (PK.rdEnd s a1 P.kind))) := rending_any r p s a1 { P with id := n } _ _ _ _ _ R2 P2 HB.out.code HB.out.props hs (fun W hW => HT.out W (G1.trans hW)) hrp
    have e1 : PK.rdEnd s a1 P.kind = PK.rdEnd s a1 6 := by rw [HK.out]
    rw [e1] at C2
    unfold PK.rdEndP at X1
    have HX1 := Lib.hid X1
    have HG1 := Lib.hid G1
    clear hR r1 g1 p1 P2 R2 G1 C1 HX X1 h1 HP HT HK e1
    generalize PK.rdEnd s a1 6 = Y at *
    go_wp2_with fail
    refine C2.out.mono ?_
    rintro e w2 hR
    by_cases h2 : Y.2.2 = 0
    · obtain ⟨v, rfl, o2, r2, p2, g2⟩ := hR.1 h2
      have O2 := Lib.hid (own_base' o2 HG1.out.size)
      have HR2 := Lib.hid r2
      have HP2 := Lib.hid p2
      have HG2 := Lib.hid (HG1.out.trans g2)
      have H2 := Lib.hid h2
      clear hR o2 r2 p2 g2 h2 C2
      go_wp2
      go_end0
      rw [HX1.out]
      exact ⟨fun _ => ⟨_, _, _, _, _, rfl, ⟨by simp only; rw [HB.out.codes]; exact own_nil _ _ _ _, O2.out, by simp only; rw [HB.out.wprops]; exact own_nil _ _ _ _, by simp only; rw [HB.out.subs]; exact own_nil _ _ _ _, by simp only; rw [HB.out.filters]; exact own_nil _ _ _ _⟩, HR2.out, HP2.out, HG2.out⟩, fun h => absurd H2.out h⟩
    · obtain ⟨rfl, g2⟩ := hR.2 h2
      exact ⟨rfl, PtP.left (by rw [HX1.out]) h2 (HG1.out.trans g2)⟩
  · obtain ⟨rfl, g1⟩ := hR.2 h1
    exact ⟨rfl, PtP.left (by rw [HX.out, PK.bnd_bad h1]) h1 (G2.of_gr g1)⟩

set_option maxRecDepth 100000 in
set_option maxHeartbeats 2000000 in
theorem rparts_7 (r p : Nat) (s : ByteArray) (a : Int) (P : Pk) (w : World) (hk : P.kind = 7) (hB : Bare P) (h : RdAt r s a w) (hp : PbAt p P (.slice none 0 0) (.slice none 0 0) (.slice none 0 0) (.slice none 0 0) (.slice none 0 0) w) (hs : s.size ≤ 140737488351232) (hT : ∀ W, G2 r p w W → Tabs W) (hrp : r ≠ p) :
    Calls Tryz.prog 51 #[.pointer (some ⟨r, 0, none⟩), .pointer (some ⟨p, 0, none⟩)] w (PtP r p s w (PK.partsK P.kind s a P)) := by
  have z0 : w.cell? ⟨p, 0, none⟩ = some (.int .i64 7) := by rw [cell_heap hp]; exact congrArg (fun x => some (Value.int .i64 x)) hk
  have HB := Lib.hid hB
  have HP := Lib.hid hp
  have C1 := Lib.hid (rid_any r s a w h hs)
  obtain ⟨X, hX⟩ : ∃ X, X = PK.partsK P.kind s a P := ⟨_, rfl⟩
  rw [← hX]
  rw [hk] at hX
  have e0 : PK.partsK 7 s a P = PK.bnd P (PK.rdId s a) (fun i a => PK.rdEndP s a 7 { P with id := i }) := rfl
  rw [e0] at hX
  have HX := Lib.hid hX
  have HT := Lib.hid hT
  have HK := Lib.hid hk
  have hpr : p ≠ r := fun e => hrp e.symm
  clear e0 hX h hp hT hB hk
  go_enter Tryz.func51, Tryz.ntmps51
  generalize PK.rdId s a = Y at *
  obtain ⟨n, a1, c1⟩ := Y
  simp only at C1 HX
  go_wp2_with fail
  refine C1.out.mono ?_
  rintro e w1 hR
  by_cases h1 : c1 = 0
  · obtain ⟨rfl, r1, g1⟩ := hR.1 h1
    have X1 := HX.out
    rw [PK.bnd_ok h1] at X1
    have p1 := HP.out.gr g1 hpr
    have z4 : w1.cell? ⟨p, 4, none⟩ = some (.int .i64 P.id) := by rw [cell_heap p1]; rfl
    have f4 : w1.frozen? ⟨p, 4, none⟩ = false := frozen_heap p1
    have P2 : PbAt p { P with id := n } (.slice none 0 0) (.slice none 0 0) (.slice none 0 0) (.slice none 0 0) (.slice none 0 0) (w1.setCell ⟨p, 4, none⟩ (.int .i64 n)) := set_block p1 rfl
    have R2 : RdAt r s a1 (w1.setCell ⟨p, 4, none⟩ (.int .i64 n)) := r1.setOther hrp _ _
    have G1 : G2 r p w (w1.setCell ⟨p, 4, none⟩ (.int .i64 n)) := (G2.of_gr g1).setCell 4 _
    have C2 : Hid (Calls Tryz.prog 96 #[.pointer (some ⟨r, 0, none⟩), .pointer (some ⟨p, 0, none⟩)] (w1.setCell ⟨p, 4, none⟩ (.int .i64 n)) (EdP r p s { P with id := n } (.slice none 0 0) (.slice none 0 0) (.slice none 0 0) (.slice none 0 0) (w1.setCell ⟨p, 4, none⟩ (.int .i64 n)) (PK.rdEnd s a1 P.kind))) := rending_any r p s a1 { P with id := n } _ _ _ _ _ R2 P2 HB.out.code HB.out.props hs (fun W hW => HT.out W (G1.trans hW)) hrp
    have e1 : PK.rdEnd s a1 P.kind = PK.rdEnd s a1 7 := by rw [HK.out]
    rw [e1] at C2
    unfold PK.rdEndP at X1
    have HX1 := Lib.hid X1
    have HG1 := Lib.hid G1
    clear hR r1 g1 p1 P2 R2 G1 C1 HX X1 h1 HP HT HK e1
    generalize PK.rdEnd s a1 7 = Y at *
    go_wp2_with fail
    refine C2.out.mono ?_
    rintro e w2 hR
    by_cases h2 : Y.2.2 = 0
    · obtain ⟨v, rfl, o2, r2, p2, g2⟩ := hR.1 h2
      have O2 := Lib.hid (own_base' o2 HG1.out.size)
      have HR2 := Lib.hid r2
      have HP2 := Lib.hid p2
      have HG2 := Lib.hid (HG1.out.trans g2)
      have H2 := Lib.hid h2
      clear hR o2 r2 p2 g2 h2 C2
      go_wp2
      go_end0
      rw [HX1.out]
      exact ⟨fun _ => ⟨_, _, _, _, _, rfl, ⟨by simp only; rw [HB.out.codes]; exact own_nil _ _ _ _, O2.out, by simp only; rw [HB.out.wprops]; exact own_nil _ _ _ _, by simp only; rw [HB.out.subs]; exact own_nil _ _ _ _, by simp only; rw [HB.out.filters]; exact own_nil _ _ _ _⟩, HR2.out, HP2.out, HG2.out⟩, fun h => absurd H2.out h⟩
    · obtain ⟨rfl, g2⟩ := hR.2 h2
      exact ⟨rfl, PtP.left (by rw [HX1.out]) h2 (HG1.out.trans g2)⟩
  · obtain ⟨rfl, g1⟩ := hR.2 h1
    exact ⟨rfl, PtP.left (by rw [HX.out, PK.bnd_bad h1]) h1 (G2.of_gr g1)⟩

set_option maxRecDepth 100000 in
set_option maxHeartbeats 2000000 in
theorem rparts_8 (r p : Nat) (s : ByteArray) (a : Int) (P : Pk) (w : World) (hk : P.kind = 8) (hB : Bare P) (h : RdAt r s a w) (hp : PbAt p P (.slice none 0 0) (.slice none 0 0) (.slice none 0 0) (.slice none 0 0) (.slice none 0 0) w) (hs : s.size ≤ 140737488351232) (hT : ∀ W, G2 r p w W → Tabs W) (hrp : r ≠ p) :
    Calls Tryz.prog 51 #[.pointer (some ⟨r, 0, none⟩), .pointer (some ⟨p, 0, none⟩)] w (PtP r p s w (PK.partsK P.kind s a P)) := by
  have z0 : w.cell? ⟨p, 0, none⟩ = some (.int .i64 8) := by rw [cell_heap hp]; exact congrArg (fun x => some (Value.int .i64 x)) hk
  have HB := Lib.hid hB
  have C1 : Hid (Calls Tryz.prog 89 #[.pointer (some ⟨r, 0, none⟩), .pointer (some ⟨p, 0, none⟩)] w (HdP r p s P (.slice none 0 0) (.slice none 0 0) (.slice none 0 0) (.slice none 0 0) w (PK.rdHd s a P.kind))) := rhead_any r p s a P _ _ _ _ _ w h hp hs hT hrp
  rw [hk] at C1
  obtain ⟨X, hX⟩ : ∃ X, X = PK.partsK P.kind s a P := ⟨_, rfl⟩
  rw [← hX]
  rw [hk] at hX
  have e0 : PK.partsK 8 s a P = PK.bnd P (PK.rdHd s a 8) (fun h a => PK.bnd P (PK.lst (PK.rdSub s) s.size 66 a []) (fun l a => ({ P with id := h.1, props := h.2, subs := l }, a, 0))) := rfl
  rw [e0] at hX
  have HX := Lib.hid hX
  have HT := Lib.hid hT
  have hlr := lt_heap h
  have hlp := lt_heap hp
  have hpr : p ≠ r := fun e => hrp e.symm
  have hmf : ∀ (fn : Fn) (first cap : Array Value) (w : World), (Instr.makeFunc fn first cap).run Tryz.prog w = .ok (.func fn first cap) w := fun _ _ _ _ => rfl
  clear e0 hX h hp hT hB hk
  go_enter Tryz.func51, Tryz.ntmps51
  generalize PK.rdHd s a 8 = Y at *
  obtain ⟨⟨n, q⟩, a1, c1⟩ := Y
  go_wp2_with fail
  refine C1.out.mono ?_
  rintro e w1 hR
  by_cases h1 : c1 = 0
  · obtain ⟨v, rfl, o1, r1, p1, g1⟩ := hR.1 h1
    have X1 := HX.out
    rw [PK.bnd_ok h1] at X1
    simp only at X1 o1 r1 p1
    have C2 : Hid (Calls Tryz.prog 90 #[.pointer (some ⟨r, 0, none⟩), .func (.func 91) #[.pointer (some ⟨r, 0, none⟩)] #[]] w1 (LsP 77 5 flatB r s w1 (PK.lst (PK.rdSub s) s.size 66 a1 []))) := rlists_any r s a1 w1 r1 hs (fun W hW => HT.out W (g1.trans (G2.of_gr hW)))
    generalize PK.lst (PK.rdSub s) s.size 66 a1 [] = Z at *
    obtain ⟨l, a2, c2⟩ := Z
    have HX1 := Lib.hid X1
    have HP1 := Lib.hid p1
    have HG1 := Lib.hid g1
    have HO1 := Lib.hid o1
    clear hR o1 r1 p1 g1 C1 HX X1 h1 HT
    go_wp2_with fail
    refine C2.out.mono ?_
    rintro e w2 hR
    by_cases h2 : c2 = 0
    · obtain ⟨v2, rfl, o2, r2, g2⟩ := hR.1 h2
      have p2 := HP1.out.gr g2 hpr
      have zc : w2.cell? ⟨p, 24, none⟩ = some (.slice none 0 0) := by rw [cell_heap p2]; rfl
      have fc : w2.frozen? ⟨p, 24, none⟩ = false := frozen_heap p2
      obtain ⟨A, cap, rfl⟩ := own_form o2
      simp only at o2 zc p2 r2
      have o3 : w2.ownsRow w.heap.size 77 5 (.slice A l.length cap) l.length (flatB l) := own_base' o2 HG1.out.size
      have L4 : Hid ((w2.setCell ⟨p, 24, none⟩ (.slice A l.length cap)).ownsRow w.heap.size 77 5 (.slice A l.length cap) l.length (flatB l)) := Lib.hid (own_set o3 (row_ne o3 hlp))
      have m2 := own_gr HO1.out g2 (row_ne HO1.out hlr)
      have O4 : Hid ((w2.setCell ⟨p, 24, none⟩ (.slice A l.length cap)).ownsRow w.heap.size 148 4 v q.length (flatP q)) := Lib.hid (own_set m2 (row_ne m2 hlp))
      have P4 : Hid (PbAt p { P with id := n, props := q, subs := l } (.slice none 0 0) v (.slice none 0 0) (.slice A l.length cap) (.slice none 0 0) (w2.setCell ⟨p, 24, none⟩ (.slice A l.length cap))) := Lib.hid (set_block p2 rfl)
      have R4 : Hid (RdAt r s a2 (w2.setCell ⟨p, 24, none⟩ (.slice A l.length cap))) := Lib.hid (r2.setOther hrp _ _)
      have G4 : Hid (G2 r p w (w2.setCell ⟨p, 24, none⟩ (.slice A l.length cap))) := Lib.hid ((HG1.out.trans (G2.of_gr g2)).setCell 24 _)
      have E : Hid (X = ({ P with id := n, props := q, subs := l }, a2, 0)) := Lib.hid (by rw [HX1.out, PK.bnd_ok h2])
      clear hR o2 r2 g2 p2 o3 m2 h2 C2 HX1 HP1 HG1 HO1
      go_wp2
      go_end0
      rw [E.out]
      exact ⟨fun _ => ⟨_, _, _, _, _, rfl, ⟨by simp only; rw [HB.out.codes]; exact own_nil _ _ _ _, O4.out, by simp only; rw [HB.out.wprops]; exact own_nil _ _ _ _, L4.out, by simp only; rw [HB.out.filters]; exact own_nil _ _ _ _⟩, R4.out, P4.out, G4.out⟩, fun h => absurd rfl h⟩
    · obtain ⟨rfl, g2⟩ := hR.2 h2
      exact ⟨rfl, PtP.left (by rw [HX1.out, PK.bnd_bad h2]) h2 (HG1.out.trans (G2.of_gr g2))⟩
  · obtain ⟨rfl, g1⟩ := hR.2 h1
    exact ⟨rfl, PtP.left (by rw [HX.out, PK.bnd_bad h1]) h1 g1⟩

set_option maxRecDepth 100000 in
set_option maxHeartbeats 2000000 in
theorem rparts_10 (r p : Nat) (s : ByteArray) (a : Int) (P : Pk) (w : World) (hk : P.kind = 10) (hB : Bare P) (h : RdAt r s a w) (hp : PbAt p P (.slice none 0 0) (.slice none 0 0) (.slice none 0 0) (.slice none 0 0) (.slice none 0 0) w) (hs : s.size ≤ 140737488351232) (hT : ∀ W, G2 r p w W → Tabs W) (hrp : r ≠ p) :
    Calls Tryz.prog 51 #[.pointer (some ⟨r, 0, none⟩), .pointer (some ⟨p, 0, none⟩)] w (PtP r p s w (PK.partsK P.kind s a P)) := by
  have z0 : w.cell? ⟨p, 0, none⟩ = some (.int .i64 10) := by rw [cell_heap hp]; exact congrArg (fun x => some (Value.int .i64 x)) hk
  have HB := Lib.hid hB
  have C1 : Hid (Calls Tryz.prog 89 #[.pointer (some ⟨r, 0, none⟩), .pointer (some ⟨p, 0, none⟩)] w (HdP r p s P (.slice none 0 0) (.slice none 0 0) (.slice none 0 0) (.slice none 0 0) w (PK.rdHd s a P.kind))) := rhead_any r p s a P _ _ _ _ _ w h hp hs hT hrp
  rw [hk] at C1
  obtain ⟨X, hX⟩ : ∃ X, X = PK.partsK P.kind s a P := ⟨_, rfl⟩
  rw [← hX]
  rw [hk] at hX
  have e0 : PK.partsK 10 s a P = PK.bnd P (PK.rdHd s a 10) (fun h a => PK.bnd P (PK.lst (PK.rdT s) s.size 66 a []) (fun l a => ({ P with id := h.1, props := h.2, filters := l }, a, 0))) := rfl
  rw [e0] at hX
  have HX := Lib.hid hX
  have HT := Lib.hid hT
  have hlr := lt_heap h
  have hlp := lt_heap hp
  have hpr : p ≠ r := fun e => hrp e.symm
  have hmf : ∀ (fn : Fn) (first cap : Array Value) (w : World), (Instr.makeFunc fn first cap).run Tryz.prog w = .ok (.func fn first cap) w := fun _ _ _ _ => rfl
  clear e0 hX h hp hT hB hk
  go_enter Tryz.func51, Tryz.ntmps51
  generalize PK.rdHd s a 10 = Y at *
  obtain ⟨⟨n, q⟩, a1, c1⟩ := Y
  go_wp2_with fail
  refine C1.out.mono ?_
  rintro e w1 hR
  by_cases h1 : c1 = 0
  · obtain ⟨v, rfl, o1, r1, p1, g1⟩ := hR.1 h1
    have X1 := HX.out
    rw [PK.bnd_ok h1] at X1
    simp only at X1 o1 r1 p1
    have C2 : Hid (Calls Tryz.prog 92 #[.pointer (some ⟨r, 0, none⟩), .func (.func 93) #[.pointer (some ⟨r, 0, none⟩)] #[]] w1 (LsP 9 1 flatT r s w1 (PK.lst (PK.rdT s) s.size 66 a1 []))) := rlistt_any r s a1 w1 r1 hs (fun W hW => HT.out W (g1.trans (G2.of_gr hW)))
    generalize PK.lst (PK.rdT s) s.size 66 a1 [] = Z at *
    obtain ⟨l, a2, c2⟩ := Z
    have HX1 := Lib.hid X1
    have HP1 := Lib.hid p1
    have HG1 := Lib.hid g1
    have HO1 := Lib.hid o1
    clear hR o1 r1 p1 g1 C1 HX X1 h1 HT
    go_wp2_with fail
    refine C2.out.mono ?_
    rintro e w2 hR
    by_cases h2 : c2 = 0
    · obtain ⟨v2, rfl, o2, r2, g2⟩ := hR.1 h2
      have p2 := HP1.out.gr g2 hpr
      have zc : w2.cell? ⟨p, 25, none⟩ = some (.slice none 0 0) := by rw [cell_heap p2]; rfl
      have fc : w2.frozen? ⟨p, 25, none⟩ = false := frozen_heap p2
      obtain ⟨A, cap, rfl⟩ := own_form o2
      simp only at o2 zc p2 r2
      have o3 : w2.ownsRow w.heap.size 9 1 (.slice A l.length cap) l.length (flatT l) := own_base' o2 HG1.out.size
      have L4 : Hid ((w2.setCell ⟨p, 25, none⟩ (.slice A l.length cap)).ownsRow w.heap.size 9 1 (.slice A l.length cap) l.length (flatT l)) := Lib.hid (own_set o3 (row_ne o3 hlp))
      have m2 := own_gr HO1.out g2 (row_ne HO1.out hlr)
      have O4 : Hid ((w2.setCell ⟨p, 25, none⟩ (.slice A l.length cap)).ownsRow w.heap.size 148 4 v q.length (flatP q)) := Lib.hid (own_set m2 (row_ne m2 hlp))
      have P4 : Hid (PbAt p { P with id := n, props := q, filters := l } (.slice none 0 0) v (.slice none 0 0) (.slice none 0 0) (.slice A l.length cap) (w2.setCell ⟨p, 25, none⟩ (.slice A l.length cap))) := Lib.hid (set_block p2 rfl)
      have R4 : Hid (RdAt r s a2 (w2.setCell ⟨p, 25, none⟩ (.slice A l.length cap))) := Lib.hid (r2.setOther hrp _ _)
      have G4 : Hid (G2 r p w (w2.setCell ⟨p, 25, none⟩ (.slice A l.length cap))) := Lib.hid ((HG1.out.trans (G2.of_gr g2)).setCell 25 _)
      have E : Hid (X = ({ P with id := n, props := q, filters := l }, a2, 0)) := Lib.hid (by rw [HX1.out, PK.bnd_ok h2])
      clear hR o2 r2 g2 p2 o3 m2 h2 C2 HX1 HP1 HG1 HO1
      go_wp2
      go_end0
      rw [E.out]
      exact ⟨fun _ => ⟨_, _, _, _, _, rfl, ⟨by simp only; rw [HB.out.codes]; exact own_nil _ _ _ _, O4.out, by simp only; rw [HB.out.wprops]; exact own_nil _ _ _ _, by simp only; rw [HB.out.subs]; exact own_nil _ _ _ _, L4.out⟩, R4.out, P4.out, G4.out⟩, fun h => absurd rfl h⟩
    · obtain ⟨rfl, g2⟩ := hR.2 h2
      exact ⟨rfl, PtP.left (by rw [HX1.out, PK.bnd_bad h2]) h2 (HG1.out.trans (G2.of_gr g2))⟩
  · obtain ⟨rfl, g1⟩ := hR.2 h1
    exact ⟨rfl, PtP.left (by rw [HX.out, PK.bnd_bad h1]) h1 g1⟩

set_option maxRecDepth 100000 in
set_option maxHeartbeats 2000000 in
theorem rparts_9 (r p : Nat) (s : ByteArray) (a : Int) (P : Pk) (w : World) (hk : P.kind = 9) (hB : Bare P) (h : RdAt r s a w) (hp : PbAt p P (.slice none 0 0) (.slice none 0 0) (.slice none 0 0) (.slice none 0 0) (.slice none 0 0) w) (hs : s.size ≤ 140737488351232) (hT : ∀ W, G2 r p w W → Tabs W) (hrp : r ≠ p) :
    Calls Tryz.prog 51 #[.pointer (some ⟨r, 0, none⟩), .pointer (some ⟨p, 0, none⟩)] w (PtP r p s w (PK.partsK P.kind s a P)) := by
  have z0 : w.cell? ⟨p, 0, none⟩ = some (.int .i64 9) := by rw [cell_heap hp]; exact congrArg (fun x => some (Value.int .i64 x)) hk
  have HB := Lib.hid hB
  have C1 : Hid (Calls Tryz.prog 89 #[.pointer (some ⟨r, 0, none⟩), .pointer (some ⟨p, 0, none⟩)] w (HdP r p s P (.slice none 0 0) (.slice none 0 0) (.slice none 0 0) (.slice none 0 0) w (PK.rdHd s a P.kind))) := rhead_any r p s a P _ _ _ _ _ w h hp hs hT hrp
  rw [hk] at C1
  obtain ⟨X, hX⟩ : ∃ X, X = PK.partsK P.kind s a P := ⟨_, rfl⟩
  rw [← hX]
  rw [hk] at hX
  have e0 : PK.partsK 9 s a P = PK.bnd P (PK.rdHd s a 9) (fun h a => PK.bnd P (PK.lst (PK.rdC s) s.size 66 a []) (fun l a => ({ P with id := h.1, props := h.2, codes := l }, a, 0))) := rfl
  rw [e0] at hX
  have HX := Lib.hid hX
  have hlr := lt_heap h
  have hlp := lt_heap hp
  have hpr : p ≠ r := fun e => hrp e.symm
  have hmf : ∀ (fn : Fn) (first cap : Array Value) (w : World), (Instr.makeFunc fn first cap).run Tryz.prog w = .ok (.func fn first cap) w := fun _ _ _ _ => rfl
  clear e0 hX h hp hT hB hk
  go_enter Tryz.func51, Tryz.ntmps51
  generalize PK.rdHd s a 9 = Y at *
  obtain ⟨⟨n, q⟩, a1, c1⟩ := Y
  go_wp2_with fail
  refine C1.out.mono ?_
  rintro e w1 hR
  by_cases h1 : c1 = 0
  · obtain ⟨v, rfl, o1, r1, p1, g1⟩ := hR.1 h1
    have X1 := HX.out
    rw [PK.bnd_ok h1] at X1
    simp only at X1 o1 r1 p1
    have C2 : Hid (Calls Tryz.prog 94 #[.pointer (some ⟨r, 0, none⟩), .func (.func 86) #[.pointer (some ⟨r, 0, none⟩)] #[]] w1 (LsP 23 1 flatC r s w1 (PK.lst (PK.rdC s) s.size 66 a1 []))) := rlistc_any r s a1 w1 r1 hs
    generalize PK.lst (PK.rdC s) s.size 66 a1 [] = Z at *
    obtain ⟨l, a2, c2⟩ := Z
    have HX1 := Lib.hid X1
    have HP1 := Lib.hid p1
    have HG1 := Lib.hid g1
    have HO1 := Lib.hid o1
    clear hR o1 r1 p1 g1 C1 HX X1 h1
    go_wp2_with fail
    refine C2.out.mono ?_
    rintro e w2 hR
    by_cases h2 : c2 = 0
    · obtain ⟨v2, rfl, o2, r2, g2⟩ := hR.1 h2
      have p2 := HP1.out.gr g2 hpr
      have zc : w2.cell? ⟨p, 8, none⟩ = some (.slice none 0 0) := by rw [cell_heap p2]; rfl
      have fc : w2.frozen? ⟨p, 8, none⟩ = false := frozen_heap p2
      obtain ⟨A, cap, rfl⟩ := own_form o2
      simp only at o2 zc p2 r2
      have o3 : w2.ownsRow w.heap.size 23 1 (.slice A l.length cap) l.length (flatC l) := own_base' o2 HG1.out.size
      have L4 : Hid ((w2.setCell ⟨p, 8, none⟩ (.slice A l.length cap)).ownsRow w.heap.size 23 1 (.slice A l.length cap) l.length (flatC l)) := Lib.hid (own_set o3 (row_ne o3 hlp))
      have m2 := own_gr HO1.out g2 (row_ne HO1.out hlr)
      have O4 : Hid ((w2.setCell ⟨p, 8, none⟩ (.slice A l.length cap)).ownsRow w.heap.size 148 4 v q.length (flatP q)) := Lib.hid (own_set m2 (row_ne m2 hlp))
      have P4 : Hid (PbAt p { P with id := n, props := q, codes := l } (.slice A l.length cap) v (.slice none 0 0) (.slice none 0 0) (.slice none 0 0) (w2.setCell ⟨p, 8, none⟩ (.slice A l.length cap))) := Lib.hid (set_block p2 rfl)
      have R4 : Hid (RdAt r s a2 (w2.setCell ⟨p, 8, none⟩ (.slice A l.length cap))) := Lib.hid (r2.setOther hrp _ _)
      have G4 : Hid (G2 r p w (w2.setCell ⟨p, 8, none⟩ (.slice A l.length cap))) := Lib.hid ((HG1.out.trans (G2.of_gr g2)).setCell 8 _)
      have E : Hid (X = ({ P with id := n, props := q, codes := l }, a2, 0)) := Lib.hid (by rw [HX1.out, PK.bnd_ok h2])
      clear hR o2 r2 g2 p2 o3 m2 h2 C2 HX1 HP1 HG1 HO1
      go_wp2
      go_end0
      rw [E.out]
      exact ⟨fun _ => ⟨_, _, _, _, _, rfl, ⟨L4.out, O4.out, by simp only; rw [HB.out.wprops]; exact own_nil _ _ _ _, by simp only; rw [HB.out.subs]; exact own_nil _ _ _ _, by simp only; rw [HB.out.filters]; exact own_nil _ _ _ _⟩, R4.out, P4.out, G4.out⟩, fun h => absurd rfl h⟩
    · obtain ⟨rfl, g2⟩ := hR.2 h2
      exact ⟨rfl, PtP.left (by rw [HX1.out, PK.bnd_bad h2]) h2 (HG1.out.trans (G2.of_gr g2))⟩
  · obtain ⟨rfl, g1⟩ := hR.2 h1
    exact ⟨rfl, PtP.left (by rw [HX.out, PK.bnd_bad h1]) h1 g1⟩

set_option maxRecDepth 100000 in
set_option maxHeartbeats 2000000 in
theorem rparts_11 (r p : Nat) (s : ByteArray) (a : Int) (P : Pk) (w : World) (hk : P.kind = 11) (hB : Bare P) (h : RdAt r s a w) (hp : PbAt p P (.slice none 0 0) (.slice none 0 0) (.slice none 0 0) (.slice none 0 0) (.slice none 0 0) w) (hs : s.size ≤ 140737488351232) (hT : ∀ W, G2 r p w W → Tabs W) (hrp : r ≠ p) :
    Calls Tryz.prog 51 #[.pointer (some ⟨r, 0, none⟩), .pointer (some ⟨p, 0, none⟩)] w (PtP r p s w (PK.partsK P.kind s a P)) := by
  have z0 : w.cell? ⟨p, 0, none⟩ = some (.int .i64 11) := by rw [cell_heap hp]; exact congrArg (fun x => some (Value.int .i64 x)) hk
  have HB := Lib.hid hB
  have C1 : Hid (Calls Tryz.prog 89 #[.pointer (some ⟨r, 0, none⟩), .pointer (some ⟨p, 0, none⟩)] w (HdP r p s P (.slice none 0 0) (.slice none 0 0) (.slice none 0 0) (.slice none 0 0) w (PK.rdHd s a P.kind))) := rhead_any r p s a P _ _ _ _ _ w h hp hs hT hrp
  rw [hk] at C1
  obtain ⟨X, hX⟩ : ∃ X, X = PK.partsK P.kind s a P := ⟨_, rfl⟩
  rw [← hX]
  rw [hk] at hX
  have e0 : PK.partsK 11 s a P = PK.bnd P (PK.rdHd s a 11) (fun h a => PK.bnd P (PK.lst (PK.rdC s) s.size 66 a []) (fun l a => ({ P with id := h.1, props := h.2, codes := l }, a, 0))) := rfl
  rw [e0] at hX
  have HX := Lib.hid hX
  have hlr := lt_heap h
  have hlp := lt_heap hp
  have hpr : p ≠ r := fun e => hrp e.symm
  have hmf : ∀ (fn : Fn) (first cap : Array Value) (w : World), (Instr.makeFunc fn first cap).run Tryz.prog w = .ok (.func fn first cap) w := fun _ _ _ _ => rfl
  clear e0 hX h hp hT hB hk
  go_enter Tryz.func51, Tryz.ntmps51
  generalize PK.rdHd s a 11 = Y at *
  obtain ⟨⟨n, q⟩, a1, c1⟩ := Y
  go_wp2_with fail
  refine C1.out.mono ?_
  rintro e w1 hR
  by_cases h1 : c1 = 0
  · obtain ⟨v, rfl, o1, r1, p1, g1⟩ := hR.1 h1
    have X1 := HX.out
    rw [PK.bnd_ok h1] at X1
    simp only at X1 o1 r1 p1
    have C2 : Hid (Calls Tryz.prog 94 #[.pointer (some ⟨r, 0, none⟩), .func (.func 86) #[.pointer (some ⟨r, 0, none⟩)] #[]] w1 (LsP 23 1 flatC r s w1 (PK.lst (PK.rdC s) s.size 66 a1 []))) := rlistc_any r s a1 w1 r1 hs
    generalize PK.lst (PK.rdC s) s.size 66 a1 [] = Z at *
    obtain ⟨l, a2, c2⟩ := Z
    have HX1 := Lib.hid X1
    have HP1 := Lib.hid p1
    have HG1 := Lib.hid g1
    have HO1 := Lib.hid o1
    clear hR o1 r1 p1 g1 C1 HX X1 h1
    go_wp2_with fail
    refine C2.out.mono ?_
    rintro e w2 hR
    by_cases h2 : c2 = 0
    · obtain ⟨v2, rfl, o2, r2, g2⟩ := hR.1 h2
      have p2 := HP1.out.gr g2 hpr
      have zc : w2.cell? ⟨p, 8, none⟩ = some (.slice none 0 0) := by rw [cell_heap p2]; rfl
      have fc : w2.frozen? ⟨p, 8, none⟩ = false := frozen_heap p2
      obtain ⟨A, cap, rfl⟩ := own_form o2
      simp only at o2 zc p2 r2
      have o3 : w2.ownsRow w.heap.size 23 1 (.slice A l.length cap) l.length (flatC l) := own_base' o2 HG1.out.size
      have L4 : Hid ((w2.setCell ⟨p, 8, none⟩ (.slice A l.length cap)).ownsRow w.heap.size 23 1 (.slice A l.length cap) l.length (flatC l)) := Lib.hid (own_set o3 (row_ne o3 hlp))
      have m2 := own_gr HO1.out g2 (row_ne HO1.out hlr)
      have O4 : Hid ((w2.setCell ⟨p, 8, none⟩ (.slice A l.length cap)).ownsRow w.heap.size 148 4 v q.length (flatP q)) := Lib.hid (own_set m2 (row_ne m2 hlp))
      have P4 : Hid (PbAt p { P with id := n, props := q, codes := l } (.slice A l.length cap) v (.slice none 0 0) (.slice none 0 0) (.slice none 0 0) (w2.setCell ⟨p, 8, none⟩ (.slice A l.length cap))) := Lib.hid (set_block p2 rfl)
      have R4 : Hid (RdAt r s a2 (w2.setCell ⟨p, 8, none⟩ (.slice A l.length cap))) := Lib.hid (r2.setOther hrp _ _)
      have G4 : Hid (G2 r p w (w2.setCell ⟨p, 8, none⟩ (.slice A l.length cap))) := Lib.hid ((HG1.out.trans (G2.of_gr g2)).setCell 8 _)
      have E : Hid (X = ({ P with id := n, props := q, codes := l }, a2, 0)) := Lib.hid (by rw [HX1.out, PK.bnd_ok h2])
      clear hR o2 r2 g2 p2 o3 m2 h2 C2 HX1 HP1 HG1 HO1
      go_wp2
      go_end0
      rw [E.out]
      exact ⟨fun _ => ⟨_, _, _, _, _, rfl, ⟨L4.out, O4.out, by simp only; rw [HB.out.wprops]; exact own_nil _ _ _ _, by simp only; rw [HB.out.subs]; exact own_nil _ _ _ _, by simp only; rw [HB.out.filters]; exact own_nil _ _ _ _⟩, R4.out, P4.out, G4.out⟩, fun h => absurd rfl h⟩
    · obtain ⟨rfl, g2⟩ := hR.2 h2
      exact ⟨rfl, PtP.left (by rw [HX1.out, PK.bnd_bad h2]) h2 (HG1.out.trans (G2.of_gr g2))⟩
  · obtain ⟨rfl, g1⟩ := hR.2 h1
    exact ⟨rfl, PtP.left (by rw [HX.out, PK.bnd_bad h1]) h1 g1⟩
end Go.Proofs.YtlfgndhdifpngaaGreatDoor
namespace Go.Proofs.YtlfgndhdifpngaaGreatDoor
open Go.RowKit
attribute [local go_sem ↓] Go.wp_at_zero Go.wp_at_succ

set_option maxRecDepth 100000 in
set_option maxHeartbeats 2000000 in
theorem rparts_2 (r p : Nat) (s : ByteArray) (a : Int) (P : Pk) (w : World) (hk : P.kind = 2) (hB : Bare P) (h : RdAt r s a w) (hp : PbAt p P (.slice none 0 0) (.slice none 0 0) (.slice none 0 0) (.slice none 0 0) (.slice none 0 0) w) (hs : s.size ≤ 140737488351232) (hT : ∀ W, G2 r p w W → Tabs W) (hrp : r ≠ p) :
    Calls Tryz.prog 51 #[.pointer (some ⟨r, 0, none⟩), .pointer (some ⟨p, 0, none⟩)] w (PtP r p s w (PK.partsK P.kind s a P)) := by
  have z0 : w.cell? ⟨p, 0, none⟩ = some (.int .i64 2) := by rw [cell_heap hp]; exact congrArg (fun x => some (Value.int .i64 x)) hk
  have HB := Lib.hid hB
  have HP := Lib.hid hp
  have C1 := Lib.hid (rsession_any r s a w h hs)
  have CC : Hid (∀ a W, RdAt r s a W → Calls Tryz.prog 86 #[.pointer (some ⟨r, 0, none⟩)] W (RdP r s W (.int .u8 (PK.rdC s a).1) (PK.rdC s a).2.1 (PK.rdC s a).2.2)) := fun a W hW => rreason_any r s a W hW hs
  have CR : Hid (∀ a W, G2 r p w W → RdAt r s a W → Calls Tryz.prog 87 #[.pointer (some ⟨r, 0, none⟩), .int .i64 2] W (RdPP r s W (PK.rdPr s a 2).1 (PK.rdPr s a 2).2.1 (PK.rdPr s a 2).2.2)) := fun a W hg hW => rprops_any r s a 2 W hW hs (hT W hg)
  obtain ⟨X, hX⟩ : ∃ X, X = PK.partsK P.kind s a P := ⟨_, rfl⟩
  rw [← hX]
  rw [hk] at hX
  have e0 : PK.partsK 2 s a P = PK.bnd P (PK.rdSes s a) (fun v a => PK.bnd P (PK.rdC s a) (fun c a => PK.bnd P (PK.rdPr s a 2) (fun l a => ({ P with session := v, code := c, props := l }, a, 0)))) := rfl
  rw [e0] at hX
  have HX := Lib.hid hX
  have HK := Lib.hid hk
  have hlp := lt_heap hp
  have hpr : p ≠ r := fun e => hrp e.symm
  clear e0 hX h hp hT hB hk
  go_enter Tryz.func51, Tryz.ntmps51
  generalize PK.rdSes s a = Y at *
  obtain ⟨b, a1, c1⟩ := Y
  simp only at C1
  go_wp2_with fail
  refine C1.out.mono ?_
  rintro e w1 hR
  by_cases h1 : c1 = 0
  · obtain ⟨rfl, r1, g1⟩ := hR.1 h1
    have X1 := HX.out
    rw [PK.bnd_ok h1] at X1
    have p1 := HP.out.gr g1 hpr
    have z23 : w1.cell? ⟨p, 23, none⟩ = some (.bool P.session) := by rw [cell_heap p1]; rfl
    have f23 : w1.frozen? ⟨p, 23, none⟩ = false := frozen_heap p1
    have P2 : Hid (PbAt p { P with session := b } (.slice none 0 0) (.slice none 0 0) (.slice none 0 0) (.slice none 0 0) (.slice none 0 0) (w1.setCell ⟨p, 23, none⟩ (.bool b))) := Lib.hid (set_block p1 rfl)
    have r2 : RdAt r s a1 (w1.setCell ⟨p, 23, none⟩ (.bool b)) := r1.setOther hrp _ _
    have HG2 : Hid (G2 r p w (w1.setCell ⟨p, 23, none⟩ (.bool b))) := Lib.hid ((G2.of_gr g1).setCell 23 _)
    have D2 := CC.out a1 _ r2
    generalize PK.rdC s a1 = Y at *
    obtain ⟨c, a2, c2⟩ := Y
    simp only at D2
    have E2 := Lib.hid D2
    have HX1 := Lib.hid X1
    clear hR r1 g1 p1 r2 D2 X1 HX C1 CC h1 HP
    go_wp2_with fail
    refine E2.out.mono ?_
    rintro e w3 hR
    by_cases h2 : c2 = 0
    · obtain ⟨rfl, r3, g3⟩ := hR.1 h2
      have X2 := HX1.out
      rw [PK.bnd_ok h2] at X2
      have p3 := P2.out.gr g3 hpr
      have z7 : w3.cell? ⟨p, 7, none⟩ = some (.int .u8 P.code) := by rw [cell_heap p3]; rfl
      have f7 : w3.frozen? ⟨p, 7, none⟩ = false := frozen_heap p3
      have y0 : w3.cell? ⟨p, 0, none⟩ = some (.int .i64 2) := by rw [cell_heap p3]; exact congrArg (fun x => some (Value.int .i64 x)) HK.out
      have P4 : Hid (PbAt p { P with session := b, code := c } (.slice none 0 0) (.slice none 0 0) (.slice none 0 0) (.slice none 0 0) (.slice none 0 0) (w3.setCell ⟨p, 7, none⟩ (.int .u8 c))) := Lib.hid (set_block p3 rfl)
      have r4 : RdAt r s a2 (w3.setCell ⟨p, 7, none⟩ (.int .u8 c)) := r3.setOther hrp _ _
      have HG4 : Hid (G2 r p w (w3.setCell ⟨p, 7, none⟩ (.int .u8 c))) := Lib.hid ((HG2.out.trans (G2.of_gr g3)).setCell 7 _)
      have D4 := CR.out a2 _ HG4.out r4
      generalize PK.rdPr s a2 2 = Y at *
      obtain ⟨l, a3, c3⟩ := Y
      simp only at D4
      have E4 := Lib.hid D4
      have HX2 := Lib.hid X2
      clear hR r3 g3 p3 r4 D4 X2 HX1 E2 CR h2 P2 HG2 HK
      go_wp2_with fail
      refine E4.out.mono ?_
      rintro e w5 hR
      by_cases h3 : c3 = 0
      · obtain ⟨v, rfl, o5, r5, g5⟩ := hR.1 h3
        have p5 := P4.out.gr g5 hpr
        have z9 : w5.cell? ⟨p, 9, none⟩ = some (.slice none 0 0) := by rw [cell_heap p5]; rfl
        have f9 : w5.frozen? ⟨p, 9, none⟩ = false := frozen_heap p5
        obtain ⟨A, cap, rfl⟩ := own_form o5
        have o6 : w5.ownsRow w.heap.size 148 4 (.slice A l.length cap) l.length (flatP l) := own_base' o5 HG4.out.size
        have O6 : Hid ((w5.setCell ⟨p, 9, none⟩ (.slice A l.length cap)).ownsRow w.heap.size 148 4 (.slice A l.length cap) l.length (flatP l)) := Lib.hid (own_set o6 (row_ne o6 hlp))
        have P6 : Hid (PbAt p { P with session := b, code := c, props := l } (.slice none 0 0) (.slice A l.length cap) (.slice none 0 0) (.slice none 0 0) (.slice none 0 0) (w5.setCell ⟨p, 9, none⟩ (.slice A l.length cap))) := Lib.hid (set_block p5 rfl)
        have R6 : Hid (RdAt r s a3 (w5.setCell ⟨p, 9, none⟩ (.slice A l.length cap))) := Lib.hid (r5.setOther hrp _ _)
        have G6 : Hid (G2 r p w (w5.setCell ⟨p, 9, none⟩ (.slice A l.length cap))) := Lib.hid ((HG4.out.trans (G2.of_gr g5)).setCell 9 _)
        have E : Hid (X = ({ P with session := b, code := c, props := l }, a3, 0)) := Lib.hid (by rw [HX2.out, PK.bnd_ok h3])
        clear hR o5 r5 g5 p5 o6 E4 h3 HX2 P4 HG4
        go_wp2
        go_end0
        rw [E.out]
        exact ⟨fun _ => ⟨_, _, _, _, _, rfl, ⟨by simp only; rw [HB.out.codes]; exact own_nil _ _ _ _, O6.out, by simp only; rw [HB.out.wprops]; exact own_nil _ _ _ _, by simp only; rw [HB.out.subs]; exact own_nil _ _ _ _, by simp only; rw [HB.out.filters]; exact own_nil _ _ _ _⟩, R6.out, P6.out, G6.out⟩, fun h => absurd rfl h⟩
      · obtain ⟨rfl, g5⟩ := hR.2 h3
        exact ⟨rfl, PtP.left (by rw [HX2.out, PK.bnd_bad h3]) h3 (HG4.out.trans (G2.of_gr g5))⟩
    · obtain ⟨rfl, g3⟩ := hR.2 h2
      exact ⟨rfl, PtP.left (by rw [HX1.out, PK.bnd_bad h2]) h2 (HG2.out.trans (G2.of_gr g3))⟩
  · obtain ⟨rfl, g1⟩ := hR.2 h1
    exact ⟨rfl, PtP.left (by rw [HX.out, PK.bnd_bad h1]) h1 (G2.of_gr g1)⟩
theorem rparts_any (r p : Nat) (s : ByteArray) (a : Int) (P : Pk) (w : World) (hk1 : 1 ≤ P.kind) (hk2 : P.kind ≤ 15) (hB : Bare P) (h : RdAt r s a w) (hp : PbAt p P (.slice none 0 0) (.slice none 0 0) (.slice none 0 0) (.slice none 0 0) (.slice none 0 0) w) (hs : s.size ≤ 140737488351232) (hT : ∀ W, G2 r p w W → Tabs W) (hrp : r ≠ p) :
    Calls Tryz.prog 51 #[.pointer (some ⟨r, 0, none⟩), .pointer (some ⟨p, 0, none⟩)] w (PtP r p s w (PK.partsK P.kind s a P)) := by
  have hc : P.kind = 1 ∨ P.kind = 2 ∨ P.kind = 3 ∨ P.kind = 4 ∨ P.kind = 5 ∨ P.kind = 6 ∨ P.kind = 7 ∨ P.kind = 8 ∨ P.kind = 9 ∨ P.kind = 10 ∨ P.kind = 11 ∨ P.kind = 12 ∨ P.kind = 13 ∨ P.kind = 14 ∨ P.kind = 15 := by omega
  rcases hc with hc | hc | hc | hc | hc | hc | hc | hc | hc | hc | hc | hc | hc | hc | hc
  · exact rparts_1 r p s a P w hc hB h hp hs hT hrp
  · exact rparts_2 r p s a P w hc hB h hp hs hT hrp
  · exact rparts_3 r p s a P w hc hB h hp hs hT hrp
  · exact rparts_4 r p s a P w hc hB h hp hs hT hrp
  · exact rparts_5 r p s a P w hc hB h hp hs hT hrp
  · exact rparts_6 r p s a P w hc hB h hp hs hT hrp
  · exact rparts_7 r p s a P w hc hB h hp hs hT hrp
  · exact rparts_8 r p s a P w hc hB h hp hs hT hrp
  · exact rparts_9 r p s a P w hc hB h hp hs hT hrp
  · exact rparts_10 r p s a P w hc hB h hp hs hT hrp
  · exact rparts_11 r p s a P w hc hB h hp hs hT hrp
  · exact rparts_12 r p s a P w hc hB h hp hs hT hrp
  · exact rparts_13 r p s a P w hc hB h hp hs hT hrp
  · exact rparts_14 r p s a P w hc hB h hp hs hT hrp
  · exact rparts_15 r p s a P w hc hB h hp hs hT hrp
end Go.Proofs.YtlfgndhdifpngaaGreatDoor
namespace Go.Proofs.YtlfgndhdifpngaaGreatDoor
open Go.RowKit
attribute [local go_sem ↓] Go.wp_at_zero Go.wp_at_succ

namespace PK
def lenC (n m : Int) : Int := if 65536 < n then 149 else if m < n then 242 else if n < m then 129 else 0
end PK
theorem lencode_any (n m : Int) (w : World) : Calls Tryz.prog 22 #[.int .i64 n, .int .i64 m] w fun e w' => e = .returned (.int .u8 (PK.lenC n m)) ∧ w = w' := by
  obtain ⟨X, hX⟩ : ∃ X, X = PK.lenC n m := ⟨_, rfl⟩
  rw [← hX]
  unfold PK.lenC at hX
  have HX := Lib.hid hX
  clear hX
  by_cases h1 : 65536 < n
  · have E : Hid (X = 149) := Lib.hid (by rw [HX.out, if_pos h1])
    clear HX
    go_enter Tryz.func22, Tryz.ntmps22
    go_wp2
    go_ret
    exact ⟨by rw [E.out]; rfl, rfl⟩
  · by_cases h2 : m < n
    · have E : Hid (X = 242) := Lib.hid (by rw [HX.out, if_neg h1, if_pos h2])
      clear HX
      go_enter Tryz.func22, Tryz.ntmps22
      go_wp2
      go_ret
      exact ⟨by rw [E.out]; rfl, rfl⟩
    · by_cases h3 : n < m
      · have E : Hid (X = 129) := Lib.hid (by rw [HX.out, if_neg h1, if_neg h2, if_pos h3])
        clear HX
        go_enter Tryz.func22, Tryz.ntmps22
        go_wp2
        go_ret
        exact ⟨by rw [E.out]; rfl, rfl⟩
      · have E : Hid (X = 0) := Lib.hid (by rw [HX.out, if_neg h1, if_neg h2, if_neg h3])
        clear HX
        go_enter Tryz.func22, Tryz.ntmps22
        go_wp2
        go_ret
        exact ⟨by rw [E.out]; rfl, rfl⟩
end Go.Proofs.YtlfgndhdifpngaaGreatDoor
namespace Go.Proofs.YtlfgndhdifpngaaGreatDoor
open Go.RowKit
attribute [local go_sem ↓] Go.wp_at_zero Go.wp_at_succ

namespace PK
def rdWhole (s : ByteArray) (a : Int) (P : Pk) : Pk × Int := ((partsK P.kind s a P).1, thn (partsK P.kind s a P).2.2 (if (partsK P.kind s a P).2.1 = (s.size : Int) then 0 else 129))
def zeroPk : Pk := ⟨0, false, false, 0, 0, ⟨#[]⟩, ⟨#[]⟩, 0, [], [], ⟨#[]⟩, false, 0, false, ⟨#[]⟩, ⟨#[]⟩, 0, false, [], false, false, ⟨#[]⟩, ⟨#[]⟩, false, [], []⟩
end PK
/-- The cells of a packet without rows. -/
def pkNil (P : Pk) : Array Value := pkCells P (.slice none 0 0) (.slice none 0 0) (.slice none 0 0) (.slice none 0 0) (.slice none 0 0)
/-- What the reader's whole answers. -/
def WhP (r : Nat) (w : World) (X : Pk × Int) (e : Ending) (w' : World) : Prop :=
  (X.2 = 0 → ∃ vc vp vw vs vf, e = .returned (.agg (pkCells X.1 vc vp vw vs vf)) ∧ Own5 w.heap.size X.1 vc vp vw vs vf w' ∧ Gr r w w') ∧ (X.2 ≠ 0 → e = leftBy X.2 ∧ Gr r w w')
theorem Gr.of_g2 {r p : Nat} {w W W' : World} (h : Gr r w W) (hp : w.heap.size ≤ p) (g : G2 r p W W') : Gr r w W' :=
  ⟨g.os.trans h.os, g.tape.trans h.tape, g.output.trans h.output, Nat.le_trans h.size g.size, fun i hi hne => (g.block i (Nat.lt_of_lt_of_le hi h.size) (fun e => hne (by rw [e])) (by omega)).trans (h.block i hi hne)⟩
theorem setRow_heap {w : World} {g : Nat} {old cs : Array Value} {t : TypeId} (h : w.heap[g]? = some (.cells old t (0, 0))) : (w.setRow g cs).heap[g]? = some (.cells cs t (0, 0)) := by
  simp [World.setRow, Array.getElem?_modify, h]
theorem setRow_other {w : World} {g i : Nat} (cs : Array Value) (h : i ≠ g) : (w.setRow g cs).heap[i]? = w.heap[i]? := by
  simp [World.setRow, Array.getElem?_modify, Ne.symm h]
theorem Gr.setRow {r g : Nat} {w w' : World} (h : Gr r w w') (hg : w.heap.size ≤ g) (cs : Array Value) : Gr r w (w'.setRow g cs) :=
  ⟨h.os, h.tape, h.output, by simp [World.setRow]; exact h.size, fun i hi hne => (setRow_other cs (by omega)).trans (h.block i hi hne)⟩
theorem own_setRow {w : World} {g B : Nat} {e : TypeId} {k : Nat} {v : Value} {n : Nat} {xs : List Value} (cs : Array Value) (h : w.ownsRow B e k v n xs) (hne : v.ownBlock ≠ some g) : (w.setRow g cs).ownsRow B e k v n xs :=
  h.kept (row := some g) ⟨rfl, rfl, rfl, by simp [World.setRow], fun i _ hi => setRow_other cs (fun e => hi (by rw [e]))⟩ (.inr hne)
theorem Own5.below {B C : Nat} {P : Pk} {vc vp vw vs vf : Value} {w w' : World} (h : Own5 C P vc vp vw vs vf w) (hb : Below w.heap.size w w') (hC : B ≤ C) : Own5 B P vc vp vw vs vf w' :=
  ⟨own_base' (own_gr h.codes (Gr.of_below (r := w.heap.size) hb) (fun hv => Nat.lt_irrefl _ (h.codes.lt _ hv).2)) hC, own_base' (own_gr h.props (Gr.of_below (r := w.heap.size) hb) (fun hv => Nat.lt_irrefl _ (h.props.lt _ hv).2)) hC, own_base' (own_gr h.wprops (Gr.of_below (r := w.heap.size) hb) (fun hv => Nat.lt_irrefl _ (h.wprops.lt _ hv).2)) hC, own_base' (own_gr h.subs (Gr.of_below (r := w.heap.size) hb) (fun hv => Nat.lt_irrefl _ (h.subs.lt _ hv).2)) hC, own_base' (own_gr h.filters (Gr.of_below (r := w.heap.size) hb) (fun hv => Nat.lt_irrefl _ (h.filters.lt _ hv).2)) hC⟩
theorem pk_one (P : Pk) {B : Nat} {vc vp vw vs vf : Value} {w : World} (h : Own5 B P vc vp vw vs vf w) : (pkCells P vc vp vw vs vf).all (·.oneCell') = true := by
  obtain ⟨A1, n1, rfl⟩ := own_form h.codes
  obtain ⟨A2, n2, rfl⟩ := own_form h.props
  obtain ⟨A3, n3, rfl⟩ := own_form h.wprops
  obtain ⟨A4, n4, rfl⟩ := own_form h.subs
  obtain ⟨A5, n5, rfl⟩ := own_form h.filters
  simp [pkCells, Value.oneCell']
theorem pk_size (P : Pk) (vc vp vw vs vf : Value) : (pkCells P vc vp vw vs vf).size = 26 := rfl
theorem pk_info : (Tryz.prog.info? 31).map (·.size) = some 26 := by kernel_rfl

set_option maxRecDepth 100000 in
set_option maxHeartbeats 2000000 in
theorem rwhole_any (r : Nat) (s : ByteArray) (a : Int) (P : Pk) (w : World) (hk1 : 1 ≤ P.kind) (hk2 : P.kind ≤ 15) (hB : Bare P) (h : RdAt r s a w) (hs : s.size ≤ 140737488351232) (hT : ∀ W, Gr r w W → Tabs W) :
    Calls Tryz.prog 25 #[.pointer (some ⟨r, 0, none⟩), .agg (pkNil P)] w (WhP r w (PK.rdWhole s a P)) := by
  have b1 := (Below.refl w.heap.size w).alloc (Nat.le_refl _) (.cells (pkNil P) 31)
  have b2 := (Below.refl (w.alloc (.cells (pkNil P) 31)).heap.size (w.alloc (.cells (pkNil P) 31))).alloc (Nat.le_refl _) (.cells (pkNil PK.zeroPk) 31)
  have hsz : (w.alloc (.cells (pkNil P) 31)).heap.size = w.heap.size + 1 := by simp
  have B1 : (w.alloc (.cells (pkNil P) 31)).heap[w.heap.size]? = some (.cells (pkNil P) 31 (0, 0)) := heap_alloc_new w _
  have B2 : ((w.alloc (.cells (pkNil P) 31)).alloc (.cells (pkNil PK.zeroPk) 31)).heap[w.heap.size + 1]? = some (.cells (pkNil PK.zeroPk) 31 (0, 0)) := by rw [← hsz]; exact heap_alloc_new _ _
  have hlt := lt_heap h
  have R0 := (h.below b1).below b2
  have P0 : PbAt w.heap.size P (.slice none 0 0) (.slice none 0 0) (.slice none 0 0) (.slice none 0 0) (.slice none 0 0) ((w.alloc (.cells (pkNil P) 31)).alloc (.cells (pkNil PK.zeroPk) 31)) := (b2.block _ (lt_heap B1)).trans B1
  have G0 : Gr r w ((w.alloc (.cells (pkNil P) 31)).alloc (.cells (pkNil PK.zeroPk) 31)) := (Gr.of_below b1).trans (Gr.of_below b2)
  have C1 := Lib.hid (rparts_any r w.heap.size s a P _ hk1 hk2 hB R0 P0 hs (fun W hg => hT W (G0.of_g2 (Nat.le_refl _) hg)) (by omega))
  have CE : Hid (∀ a W, RdAt r s a W → Calls Tryz.prog 52 #[.pointer (some ⟨r, 0, none⟩)] W fun e w' => e = .returned (.bool (a == (s.size : Int))) ∧ Below W.heap.size W w') := fun a W hW => ended_any r s a W hW
  have CL := Lib.hid leave_any
  have HG0 := Lib.hid G0
  have HB2 := Lib.hid B2
  obtain ⟨X, hX⟩ : ∃ X, X = PK.rdWhole s a P := ⟨_, rfl⟩
  rw [← hX]
  unfold PK.rdWhole at hX
  generalize PK.partsK P.kind s a P = Y at *
  obtain ⟨Q, a1, c1⟩ := Y
  simp only at hX
  have HX := Lib.hid hX
  obtain ⟨cs, hcs⟩ : ∃ cs, cs = pkNil P := ⟨_, rfl⟩
  clear b1 b2 B1 B2 R0 P0 G0 hX h hT hk1 hk2 hB
  go_enter Tryz.func25, Tryz.ntmps25
  go_wp2_with fail
  refine C1.out.mono ?_
  rintro e w1 hR
  by_cases h1 : c1 = 0
  · obtain ⟨vc, vp, vw, vs, vf, rfl, o1, r1, p1, g1⟩ := hR.1 h1
    simp only at o1 r1 p1
    have G1 : Hid (Gr r w w1) := Lib.hid (HG0.out.of_g2 (Nat.le_refl _) g1)
    have z1 : w1.heap[w.heap.size + 1]? = some (.cells (pkNil PK.zeroPk) 31 (0, 0)) := (g1.block _ (lt_heap HB2.out) (by omega) (by omega)).trans HB2.out
    have D1 := CE.out a1 w1 r1
    have O1 := Lib.hid o1
    have P1 := Lib.hid p1
    have Z1 := Lib.hid z1
    have X1 := HX.out
    rw [PK.thn_ok h1] at X1
    have HX1 := Lib.hid X1
    clear hR r1 g1 o1 p1 z1 C1 HX X1 h1 CE
    by_cases h2 : a1 = (s.size : Int)
    · have e2 : (a1 == (s.size : Int)) = true := by simp [h2]
      rw [e2] at D1
      have E1 := Lib.hid D1
      have EX : Hid (X = (Q, 0)) := Lib.hid (by rw [HX1.out, if_pos h2])
      clear D1 e2 h2 HX1
      go_wp2_with fail
      refine E1.out.mono ?_
      rintro e w2 ⟨rfl, b2⟩
      have P2 := Lib.hid ((b2.block _ (lt_heap P1.out)).trans P1.out)
      have Z2 := Lib.hid ((b2.block _ (lt_heap Z1.out)).trans Z1.out)
      have G2' : Hid (Gr r w w2) := Lib.hid (G1.out.trans (Gr.of_below b2))
      have hsz2 : w.heap.size ≤ ((w.alloc (.cells (pkNil P) 31)).alloc (.cells (pkNil PK.zeroPk) 31)).heap.size := HG0.out.size
      have hz2 : w.heap.size + 1 < ((w.alloc (.cells (pkNil P) 31)).alloc (.cells (pkNil PK.zeroPk) 31)).heap.size := lt_heap HB2.out
      have o2 := O1.out.below b2 (Nat.le_refl _)
      have O2 := Lib.hid o2
      have W1 := Lib.hid (pk_one Q o2)
      clear b2 o2
      go_wp2_with (first
        | refine wpl_load_pk (by rfl) (.tmp 3) (by rfl) w.heap.size (by rfl) P2.out ?_
        | refine wpList_store_row (by rfl) 31 (.tmp 4) (.tmp 11) (by rfl) (w.heap.size + 1) (pkCells Q vc vp vw vs vf) (by rfl) (by rfl) 31 (pkNil PK.zeroPk) Z2.out pk_info rfl W1.out ?_)
      have Z3 := setRow_heap (cs := pkCells Q vc vp vw vs vf) Z2.out
      refine bodyPost_ret (v := .agg (pkCells Q vc vp vw vs vf)) ?_ rfl ?_
      · have hl : (loadVar 31 ⟨w.heap.size + 1, 0, none⟩).run Tryz.prog (w2.setRow (w.heap.size + 1) (pkCells Q vc vp vw vs vf)) = .ok (.agg (pkCells Q vc vp vw vs vf)) (w2.setRow (w.heap.size + 1) (pkCells Q vc vp vw vs vf)) :=
          run_loadVar_mid _ (w.heap.size + 1) 0 31 (pkCells Q vc vp vw vs vf).toList _ (fun j v hv => by rw [Nat.zero_add, cell_heap Z3, ← hv]; simp) Tryz.underlying31 rfl (by kernel_rfl)
        simp [results, Tryz.results25, Act.put]
        exact hl
      · rw [EX.out]
        refine ⟨fun _ => ⟨_, _, _, _, _, rfl, ?_, G2'.out.setRow (by omega) _⟩, fun h => absurd rfl h⟩
        have n5 := fun {e : TypeId} {k : Nat} {v : Value} {n : Nat} {xs : List Value} (ho : w2.ownsRow ((w.alloc (.cells (pkNil P) 31)).alloc (.cells (pkNil PK.zeroPk) 31)).heap.size e k v n xs) => own_base' (own_setRow (g := w.heap.size + 1) (pkCells Q vc vp vw vs vf) ho (row_ne ho hz2)) hsz2
        exact ⟨n5 O2.out.codes, n5 O2.out.props, n5 O2.out.wprops, n5 O2.out.subs, n5 O2.out.filters⟩
    · have e2 : (a1 == (s.size : Int)) = false := by rw [beq_eq_false_iff_ne]; exact h2
      rw [e2] at D1
      have E1 := Lib.hid D1
      have EX : Hid (X = (Q, 129)) := Lib.hid (by rw [HX1.out, if_neg h2])
      clear D1 e2 h2 HX1
      go_wp2_with fail
      refine E1.out.mono ?_
      rintro e w2 ⟨rfl, b2⟩
      have G2' : Hid (Gr r w w2) := Lib.hid (G1.out.trans (Gr.of_below b2))
      clear b2
      go_wp2_with fail
      refine (CL.out _ _).mono ?_
      rintro e w' ⟨rfl, rfl⟩
      exact ⟨rfl, by rw [EX.out]; exact ⟨fun h => absurd h (show (129 : Int) ≠ 0 by decide), fun _ => ⟨rfl, G2'.out⟩⟩⟩
  · obtain ⟨rfl, g1⟩ := hR.2 h1
    have EX : X = (Q, c1) := by rw [HX.out, PK.thn_bad h1]
    exact ⟨rfl, by rw [EX]; exact ⟨fun h => absurd h h1, fun _ => ⟨rfl, HG0.out.of_g2 (Nat.le_refl _) g1⟩⟩⟩
end Go.Proofs.YtlfgndhdifpngaaGreatDoor
namespace Go.Proofs.YtlfgndhdifpngaaGreatDoor
open Go.RowKit
attribute [local go_sem ↓] Go.wp_at_zero Go.wp_at_succ

namespace PK
/-- A packet of which nothing is known but its first byte. -/
def barePk (k : Int) (d r : Bool) (q : Int) : Pk := ⟨k, d, r, q, 0, ⟨#[]⟩, ⟨#[]⟩, 0, [], [], ⟨#[]⟩, false, 0, false, ⟨#[]⟩, ⟨#[]⟩, 0, false, [], false, false, ⟨#[]⟩, ⟨#[]⟩, false, [], []⟩
/-- What a first byte tells of a packet. -/
def begPk (n : Int) : Pk := if n / 16 = 3 then barePk 3 (bits .and .i64 (n % 16) 8 != 0) (bits .and .i64 (n % 16) 1 != 0) (bits .and .i64 (n % 16 / 2) 3) else barePk (n / 16) false false 0
def begOk (n : Int) : Bool := if n / 16 = 3 then canPub (begPk n) else isK (n / 16) && (n % 16 == fixN (n / 16))
end PK
theorem pkNil_one (P : Pk) : (pkNil P).all (·.oneCell') = true := by simp [pkNil, pkCells, Value.oneCell']
theorem below_setRow {n g : Nat} {w w' : World} (h : Below n w w') (hg : n ≤ g) (cs : Array Value) : Below n w (w'.setRow g cs) :=
  ⟨h.os, h.tape, h.output, by simp [World.setRow]; exact h.size, fun i hi => (setRow_other cs (by omega)).trans (h.block i hi)⟩
theorem load_pk_var {w : World} {g : Nat} {P : Pk} {vc vp vw vs vf : Value} (h : w.heap[g]? = some (.cells (pkCells P vc vp vw vs vf) 31 (0, 0))) :
    (loadVar 31 ⟨g, 0, none⟩).run Tryz.prog w = .ok (.agg (pkCells P vc vp vw vs vf)) w :=
  run_loadVar_mid _ g 0 31 (pkCells P vc vp vw vs vf).toList _ (fun j v hv => by rw [Nat.zero_add, cell_heap h, ← hv]; simp) Tryz.underlying31 rfl (by kernel_rfl)
theorem read_two {P : Program} {W : World} {g : Nat} {T : TypeId} {x y : Value} (hl : (loadVar T ⟨g, 0, none⟩).run P W = .ok x W) :
    ((Sem.run P (asAddr (.pointer (some ⟨g, 0, none⟩))) W).andThen fun a w' => (Sem.run P (loadVar T a) w').andThen fun a w' => Result.ok (Value.tuple #[a, y]) w') = .ok (Value.tuple #[x, y]) W := by
  show ((Sem.run P (loadVar T ⟨g, 0, none⟩) W).andThen _) = _
  rw [hl]
  rfl
theorem step_load_pk {ops : Array Oper} {o : Oper} {a : Act} {w : World} {K : Act → World → Prop} {Q : Exit → Act → World → Prop} {E : Prop} (hgd : o.guard = none) (x : Operand) (ho : o.op = .load 31 x)
    (n : Nat) (hx : a.eval x = .pointer (some ⟨n, 0, none⟩)) {p : Pk} {vc vp vw vs vf : Value} (hb : w.heap[n]? = some (.cells (pkCells p vc vp vw vs vf) 31 (0, 0)))
    (h : K (a.put o.dst (.agg (pkCells p vc vp vw vs vf))) w) : if Region.wanted o (yielded ops a.tmps) = true then Oper.wp Tryz.prog o a w K Q else E := by
  rw [if_pos (by simp [Region.wanted, hgd])]
  exact wp_load_mid 31 x ho n 0 hx (pkCells p vc vp vw vs vf).toList _ (fun j v hv => by rw [Nat.zero_add, cell_heap hb, ← hv]; simp) Tryz.underlying31 rfl (by kernel_rfl) h
theorem step_store_pk {ops : Array Oper} {o : Oper} {a : Act} {w : World} {K : Act → World → Prop} {Q : Exit → Act → World → Prop} {E : Prop} (hgd : o.guard = none) (x y : Operand) (ho : o.op = .store 31 x y)
    (g : Nat) (cells : Array Value) (hx : a.eval x = .pointer (some ⟨g, 0, none⟩)) (hy : a.eval y = .agg cells)
    {t : TypeId} {old : Array Value} (hg : w.heap[g]? = some (.cells old t (0, 0))) (hi : (Tryz.prog.info? 31).map (·.size) = some cells.size)
    (hold : old.size = cells.size) (h1 : cells.all (·.oneCell') = true)
    (h : K (a.put o.dst undef) (w.setRow g cells)) : if Region.wanted o (yielded ops a.tmps) = true then Oper.wp Tryz.prog o a w K Q else E := by
  rw [if_pos (by simp [Region.wanted, hgd])]
  exact wp_store_row 31 x y ho g cells hx hy t old hg hi hold h1 h
theorem and15 (n : Int) (h0 : 0 ≤ n) (h1 : n ≤ 255) : bits .and .u8 n 15 = n % 16 := by
  obtain ⟨k, rfl⟩ := Int.eq_ofNat_of_zero_le h0
  have h : ∀ k : Fin 256, bits .and .u8 ((k.val : Nat) : Int) 15 = ((k.val : Nat) : Int) % 16 := by decide +kernel
  exact h ⟨k, by omega⟩

set_option maxRecDepth 100000 in
set_option maxHeartbeats 2000000 in
theorem begin_other (n : Int) (h0 : 0 ≤ n) (h1 : n ≤ 255) (h3 : n / 16 ≠ 3) (w : World) :
    Calls Tryz.prog 20 #[.int .u8 n] w fun e w' => e = .returned (.tuple #[.agg (pkNil (PK.begPk n)), .bool (PK.begOk n)]) ∧ Below w.heap.size w w' := by
  have hA := and15 n h0 h1
  have E1 : Hid (PK.begPk n = PK.barePk (n / 16) false false 0) := Lib.hid (by unfold PK.begPk; rw [if_neg h3])
  have E2 : Hid (PK.begOk n = (PK.isK (n / 16) && (n % 16 == PK.fixN (n / 16)))) := Lib.hid (by unfold PK.begOk; rw [if_neg h3])
  have hne : (n / 16 != 3) = true := by rw [bne_iff_ne]; exact h3
  have CK := Lib.hid iskind_any
  have CF := Lib.hid fixed_flags
  have Z : Hid ((w.alloc (.cells (pkNil PK.zeroPk) 31)).heap[w.heap.size]? = some (.cells (pkNil PK.zeroPk) 31 (0, 0))) := Lib.hid (heap_alloc_new w _)
  have hk0 : 0 ≤ n / 16 := by omega
  have hk1 : n / 16 ≤ 15 := by omega
  have hf0 : 0 ≤ n % 16 := by omega
  have hf1 : n % 16 ≤ 15 := by omega
  have O1 := Lib.hid (pkNil_one (PK.barePk (n / 16) false false 0))
  have HB : Hid (Below w.heap.size w (w.alloc (.cells (pkNil PK.zeroPk) 31))) := Lib.hid ((Below.refl _ _).alloc (Nat.le_refl _) _)
  rw [E1.out, E2.out]
  clear h3 E1 E2
  cases hq : PK.isK (n / 16)
  · go_enter Tryz.func20, Tryz.ntmps20
    go_wp2_with fail
    refine (CK.out _ _).mono ?_
    rintro e w' ⟨rfl, rfl⟩
    rw [hq]
    go_wp2_with (refine wpList_store_row (by rfl) 31 (.tmp 2) (.tmp 16) (by rfl) w.heap.size (pkNil (PK.barePk (n / 16) false false 0)) (by rfl) (by rfl) 31 (pkNil PK.zeroPk) Z.out pk_info rfl O1.out ?_)
    have Z3 : Hid (((w.alloc (.cells (pkNil PK.zeroPk) 31)).setRow w.heap.size (pkNil (PK.barePk (n / 16) false false 0))).heap[w.heap.size]? = some (.cells (pkNil (PK.barePk (n / 16) false false 0)) 31 (0, 0))) := Lib.hid (setRow_heap Z.out)
    have B3 : Hid (Below w.heap.size w ((w.alloc (.cells (pkNil PK.zeroPk) 31)).setRow w.heap.size (pkNil (PK.barePk (n / 16) false false 0)))) := Lib.hid (below_setRow HB.out (Nat.le_refl _) _)
    have hl := load_pk_var (P := PK.barePk (n / 16) false false 0) (vc := .slice none 0 0) (vp := .slice none 0 0) (vw := .slice none 0 0) (vs := .slice none 0 0) (vf := .slice none 0 0) Z3.out
    refine bodyPost_ret (v := .tuple #[.agg (pkNil (PK.barePk (n / 16) false false 0)), .bool false]) ?_ rfl ⟨rfl, B3.out⟩
    simp only [results, Tryz.results20]
    simp
    exact read_two hl
  · have Hq := Lib.hid hq
    clear hq
    go_enter Tryz.func20, Tryz.ntmps20
    go_wp2_with fail
    refine (CK.out _ _).mono ?_
    rintro e w' ⟨rfl, rfl⟩
    rw [Hq.out]
    go_wp2_with fail
    refine (CF.out _ _).mono ?_
    rintro e w' ⟨rfl, rfl⟩
    go_wp2_with (refine wpList_store_row (by rfl) 31 (.tmp 2) (.tmp 16) (by rfl) w.heap.size (pkNil (PK.barePk (n / 16) false false 0)) (by rfl) (by rfl) 31 (pkNil PK.zeroPk) Z.out pk_info rfl O1.out ?_)
    have Z3 : Hid (((w.alloc (.cells (pkNil PK.zeroPk) 31)).setRow w.heap.size (pkNil (PK.barePk (n / 16) false false 0))).heap[w.heap.size]? = some (.cells (pkNil (PK.barePk (n / 16) false false 0)) 31 (0, 0))) := Lib.hid (setRow_heap Z.out)
    have B3 : Hid (Below w.heap.size w ((w.alloc (.cells (pkNil PK.zeroPk) 31)).setRow w.heap.size (pkNil (PK.barePk (n / 16) false false 0)))) := Lib.hid (below_setRow HB.out (Nat.le_refl _) _)
    have hl := load_pk_var (P := PK.barePk (n / 16) false false 0) (vc := .slice none 0 0) (vp := .slice none 0 0) (vw := .slice none 0 0) (vs := .slice none 0 0) (vf := .slice none 0 0) Z3.out
    refine bodyPost_ret (v := .tuple #[.agg (pkNil (PK.barePk (n / 16) false false 0)), .bool (n % 16 == PK.fixN (n / 16))]) ?_ rfl ⟨by simp, B3.out⟩
    simp only [results, Tryz.results20]
    simp
    exact read_two hl
set_option maxRecDepth 100000 in
set_option maxHeartbeats 2000000 in
theorem begin_pub (n : Int) (h0 : 0 ≤ n) (h1 : n ≤ 255) (h3 : n / 16 = 3) (w : World) :
    Calls Tryz.prog 20 #[.int .u8 n] w fun e w' => e = .returned (.tuple #[.agg (pkNil (PK.begPk n)), .bool (PK.begOk n)]) ∧ Below w.heap.size w w' := by
  have hA := and15 n h0 h1
  have hf0 : 0 ≤ n % 16 := by omega
  have hf1 : n % 16 ≤ 15 := by omega
  have E1 : Hid (PK.begPk n = PK.barePk 3 (bits .and .i64 (n % 16) 8 != 0) (bits .and .i64 (n % 16) 1 != 0) (bits .and .i64 (n % 16 / 2) 3)) := Lib.hid (by unfold PK.begPk; rw [if_pos h3])
  have E2 : Hid (PK.begOk n = PK.canPub (PK.begPk n)) := Lib.hid (by unfold PK.begOk; rw [if_pos h3])
  rw [E2.out, E1.out]
  clear E2 E1
  have Z : Hid ((w.alloc (.cells (pkNil PK.zeroPk) 31)).heap[w.heap.size]? = some (.cells (pkNil PK.zeroPk) 31 (0, 0))) := Lib.hid (heap_alloc_new w _)
  have HB : Hid (Below w.heap.size w (w.alloc (.cells (pkNil PK.zeroPk) 31))) := Lib.hid ((Below.refl _ _).alloc (Nat.le_refl _) _)
  have O1 := Lib.hid (pkNil_one (PK.barePk 3 (bits .and .i64 (n % 16) 8 != 0) (bits .and .i64 (n % 16) 1 != 0) (bits .and .i64 (n % 16 / 2) 3)))
  have CP := Lib.hid (canpub_any (PK.barePk 3 (bits .and .i64 (n % 16) 8 != 0) (bits .and .i64 (n % 16) 1 != 0) (bits .and .i64 (n % 16 / 2) 3)) (.slice none 0 0) (.slice none 0 0) (.slice none 0 0) (.slice none 0 0) (.slice none 0 0))
  have Z2 : Hid (((w.alloc (.cells (pkNil PK.zeroPk) 31)).alloc (.cells (pkNil PK.zeroPk) 31)).heap[w.heap.size + 1]? = some (.cells (pkNil PK.zeroPk) 31 (0, 0))) := Lib.hid (by
    rw [show w.heap.size + 1 = (w.alloc (.cells (pkNil PK.zeroPk) 31)).heap.size by simp]; exact heap_alloc_new _ _)
  have Z1 : Hid (((w.alloc (.cells (pkNil PK.zeroPk) 31)).alloc (.cells (pkNil PK.zeroPk) 31)).heap[w.heap.size]? = some (.cells (pkNil PK.zeroPk) 31 (0, 0))) := Lib.hid ((Below.heap_alloc _ _ _ (lt_heap Z.out)).trans Z.out)
  have HB2 : Hid (Below w.heap.size w ((w.alloc (.cells (pkNil PK.zeroPk) 31)).alloc (.cells (pkNil PK.zeroPk) 31))) := Lib.hid (HB.out.alloc (by simp) _)
  generalize e8 : (bits .and .i64 (n % 16) 8 != 0) = b8 at *
  generalize e1 : (bits .and .i64 (n % 16) 1 != 0) = b1 at *
  generalize e3 : bits .and .i64 (n % 16 / 2) 3 = q3 at *
  clear Z HB
  go_enter Tryz.func20, Tryz.ntmps20
  go_upto_region 5 with (refine wpList_store_row (by rfl) 31 (.tmp 6) (.tmp 35) (by rfl) (w.heap.size + 1) (pkNil (PK.barePk 3 b8 b1 q3)) (by rfl) (by rfl) 31 (pkNil PK.zeroPk) Z2.out pk_info rfl O1.out ?_)
  obtain ⟨wA, hwA⟩ : ∃ wA, wA = ((w.alloc (.cells (pkNil PK.zeroPk) 31)).alloc (.cells (pkNil PK.zeroPk) 31)).setRow (w.heap.size + 1) (pkNil (PK.barePk 3 b8 b1 q3)) := ⟨_, rfl⟩
  have X1 : wA.heap[w.heap.size + 1]? = some (.cells (pkNil (PK.barePk 3 b8 b1 q3)) 31 (0, 0)) := by rw [hwA]; exact setRow_heap Z2.out
  have X0 : wA.heap[w.heap.size]? = some (.cells (pkNil PK.zeroPk) 31 (0, 0)) := by rw [hwA]; exact (setRow_other _ (by omega)).trans Z1.out
  have HBA : Hid (Below w.heap.size w wA) := Lib.hid (by rw [hwA]; exact below_setRow HB2.out (by omega) _)
  have hsA := HBA.out.size
  change Code.wp _ _ _ _ (((w.alloc (.cells (pkNil PK.zeroPk) 31)).alloc (.cells (pkNil PK.zeroPk) 31)).setRow (w.heap.size + 1) (pkNil (PK.barePk 3 b8 b1 q3)))
  rw [← hwA]
  clear hwA Z2 Z1 HB2
  -- REGION5
  refine wp_region_any (by kernel_rfl) ?_
  change wpAny _ _ _ _ _ _ _ (World.drew _)
  refine wpAny_ready (rs := [0, 1]) (by kernel_rfl) (by simp) ?_
  refine AllReady.cons rfl (fun K hK => ?_) (AllReady.cons rfl (fun K hK => ?_) AllReady.nil)
  · skip
    refine step_load_pk (by rfl) (.tmp 6) (by rfl) (w.heap.size + 1) (by rfl) X1 ?_
    refine hK _ _ ?_
    clear hK K
    refine wpAny_ready (rs := [1]) (by kernel_rfl) (by simp) (AllReady.cons rfl (fun K hK => ?_) AllReady.nil)
    refine step_load_pk (by rfl) (.tmp 6) (by rfl) (w.heap.size + 1) (by rfl) X1 ?_
    refine hK _ _ ?_
    clear hK K
    refine wpAny_ready (rs := [2]) (by kernel_rfl) (by simp) (AllReady.cons rfl (fun K hK => ?_) AllReady.nil)
    go_simp
    refine (CP.out _).mono ?_
    rintro e w1 ⟨rfl, bb⟩
    dsimp only
    have hb1 : Below wA.heap.size wA w1 := below_of_drew bb
    have Y0 := (hb1.block _ (lt_heap X0)).trans X0
    have Y1 := (hb1.block _ (lt_heap X1)).trans X1
    refine hK _ _ ?_
    clear hK K
    refine wpAny_ready (rs := [3]) (by kernel_rfl) (by simp) (AllReady.cons rfl (fun K hK => ?_) AllReady.nil)
    refine step_store_pk (by rfl) (.tmp 2) (.tmp 36) (by rfl) w.heap.size (pkNil (PK.barePk 3 b8 b1 q3)) (by rfl) (by rfl) Y0 pk_info rfl O1.out ?_
    refine hK _ _ ?_
    clear hK K
    refine wpAny_ready (rs := [4]) (by kernel_rfl) (by simp) (AllReady.cons rfl (fun K hK => ?_) AllReady.nil)
    go_simp
    refine hK _ _ ?_
    clear hK K
    refine wpAny_done (by kernel_rfl) ?_ _
    have Z3 : Hid ((w1.setRow w.heap.size (pkNil (PK.barePk 3 b8 b1 q3))).heap[w.heap.size]? = some (.cells (pkNil (PK.barePk 3 b8 b1 q3)) 31 (0, 0))) := Lib.hid (setRow_heap Y0)
    have B3 : Hid (Below w.heap.size w (w1.setRow w.heap.size (pkNil (PK.barePk 3 b8 b1 q3)))) := Lib.hid (below_setRow (HBA.out.trans (hb1.mono hsA)) (Nat.le_refl _) _)
    have hl := load_pk_var (P := (PK.barePk 3 b8 b1 q3)) (vc := .slice none 0 0) (vp := .slice none 0 0) (vw := .slice none 0 0) (vs := .slice none 0 0) (vf := .slice none 0 0) Z3.out
    clear Y0 Y1 X0 X1 bb hb1
    go_wp2_with fail
    refine bodyPost_ret (v := .tuple #[.agg (pkNil (PK.barePk 3 b8 b1 q3)), .bool (PK.canPub (PK.barePk 3 b8 b1 q3))]) ?_ rfl ⟨rfl, B3.out⟩
    simp only [results, Tryz.results20]
    simp
    exact read_two hl
  · skip
    refine step_load_pk (by rfl) (.tmp 6) (by rfl) (w.heap.size + 1) (by rfl) X1 ?_
    refine hK _ _ ?_
    clear hK K
    refine wpAny_ready (rs := [0, 2]) (by kernel_rfl) (by simp) ?_
    refine AllReady.cons rfl (fun K hK => ?_) (AllReady.cons rfl (fun K hK => ?_) AllReady.nil)
    · skip
      refine step_load_pk (by rfl) (.tmp 6) (by rfl) (w.heap.size + 1) (by rfl) X1 ?_
      refine hK _ _ ?_
      clear hK K
      refine wpAny_ready (rs := [2]) (by kernel_rfl) (by simp) (AllReady.cons rfl (fun K hK => ?_) AllReady.nil)
      go_simp
      refine (CP.out _).mono ?_
      rintro e w1 ⟨rfl, bb⟩
      dsimp only
      have hb1 : Below wA.heap.size wA w1 := below_of_drew bb
      have Y0 := (hb1.block _ (lt_heap X0)).trans X0
      have Y1 := (hb1.block _ (lt_heap X1)).trans X1
      refine hK _ _ ?_
      clear hK K
      refine wpAny_ready (rs := [3]) (by kernel_rfl) (by simp) (AllReady.cons rfl (fun K hK => ?_) AllReady.nil)
      refine step_store_pk (by rfl) (.tmp 2) (.tmp 36) (by rfl) w.heap.size (pkNil (PK.barePk 3 b8 b1 q3)) (by rfl) (by rfl) Y0 pk_info rfl O1.out ?_
      refine hK _ _ ?_
      clear hK K
      refine wpAny_ready (rs := [4]) (by kernel_rfl) (by simp) (AllReady.cons rfl (fun K hK => ?_) AllReady.nil)
      go_simp
      refine hK _ _ ?_
      clear hK K
      refine wpAny_done (by kernel_rfl) ?_ _
      have Z3 : Hid ((w1.setRow w.heap.size (pkNil (PK.barePk 3 b8 b1 q3))).heap[w.heap.size]? = some (.cells (pkNil (PK.barePk 3 b8 b1 q3)) 31 (0, 0))) := Lib.hid (setRow_heap Y0)
      have B3 : Hid (Below w.heap.size w (w1.setRow w.heap.size (pkNil (PK.barePk 3 b8 b1 q3)))) := Lib.hid (below_setRow (HBA.out.trans (hb1.mono hsA)) (Nat.le_refl _) _)
      have hl := load_pk_var (P := (PK.barePk 3 b8 b1 q3)) (vc := .slice none 0 0) (vp := .slice none 0 0) (vw := .slice none 0 0) (vs := .slice none 0 0) (vf := .slice none 0 0) Z3.out
      clear Y0 Y1 X0 X1 bb hb1
      go_wp2_with fail
      refine bodyPost_ret (v := .tuple #[.agg (pkNil (PK.barePk 3 b8 b1 q3)), .bool (PK.canPub (PK.barePk 3 b8 b1 q3))]) ?_ rfl ⟨rfl, B3.out⟩
      simp only [results, Tryz.results20]
      simp
      exact read_two hl
    · skip
      go_simp
      refine (CP.out _).mono ?_
      rintro e w1 ⟨rfl, bb⟩
      dsimp only
      have hb1 : Below wA.heap.size wA w1 := below_of_drew bb
      have Y0 := (hb1.block _ (lt_heap X0)).trans X0
      have Y1 := (hb1.block _ (lt_heap X1)).trans X1
      refine hK _ _ ?_
      clear hK K
      refine wpAny_ready (rs := [0]) (by kernel_rfl) (by simp) (AllReady.cons rfl (fun K hK => ?_) AllReady.nil)
      refine step_load_pk (by rfl) (.tmp 6) (by rfl) (w.heap.size + 1) (by rfl) Y1 ?_
      refine hK _ _ ?_
      clear hK K
      refine wpAny_ready (rs := [3]) (by kernel_rfl) (by simp) (AllReady.cons rfl (fun K hK => ?_) AllReady.nil)
      refine step_store_pk (by rfl) (.tmp 2) (.tmp 36) (by rfl) w.heap.size (pkNil (PK.barePk 3 b8 b1 q3)) (by rfl) (by rfl) Y0 pk_info rfl O1.out ?_
      refine hK _ _ ?_
      clear hK K
      refine wpAny_ready (rs := [4]) (by kernel_rfl) (by simp) (AllReady.cons rfl (fun K hK => ?_) AllReady.nil)
      go_simp
      refine hK _ _ ?_
      clear hK K
      refine wpAny_done (by kernel_rfl) ?_ _
      have Z3 : Hid ((w1.setRow w.heap.size (pkNil (PK.barePk 3 b8 b1 q3))).heap[w.heap.size]? = some (.cells (pkNil (PK.barePk 3 b8 b1 q3)) 31 (0, 0))) := Lib.hid (setRow_heap Y0)
      have B3 : Hid (Below w.heap.size w (w1.setRow w.heap.size (pkNil (PK.barePk 3 b8 b1 q3)))) := Lib.hid (below_setRow (HBA.out.trans (hb1.mono hsA)) (Nat.le_refl _) _)
      have hl := load_pk_var (P := (PK.barePk 3 b8 b1 q3)) (vc := .slice none 0 0) (vp := .slice none 0 0) (vw := .slice none 0 0) (vs := .slice none 0 0) (vf := .slice none 0 0) Z3.out
      clear Y0 Y1 X0 X1 bb hb1
      go_wp2_with fail
      refine bodyPost_ret (v := .tuple #[.agg (pkNil (PK.barePk 3 b8 b1 q3)), .bool (PK.canPub (PK.barePk 3 b8 b1 q3))]) ?_ rfl ⟨rfl, B3.out⟩
      simp only [results, Tryz.results20]
      simp
      exact read_two hl
end Go.Proofs.YtlfgndhdifpngaaGreatDoor
namespace Go.Proofs.YtlfgndhdifpngaaGreatDoor
open Go.RowKit
attribute [local go_sem ↓] Go.wp_at_zero Go.wp_at_succ

theorem WhP.mono {r : Nat} {w W : World} {X : Pk × Int} {e : Ending} {w' : World} (hg : Gr r w W) (h : WhP r W X e w') : WhP r w X e w' := by
  refine ⟨fun h0 => ?_, fun h0 => ?_⟩
  · obtain ⟨vc, vp, vw, vs, vf, he, ho, hg'⟩ := h.1 h0
    have b := fun {e : TypeId} {k : Nat} {v : Value} {n : Nat} {xs : List Value} (ho : w'.ownsRow W.heap.size e k v n xs) => own_base' ho hg.size
    exact ⟨vc, vp, vw, vs, vf, he, ⟨b ho.codes, b ho.props, b ho.wprops, b ho.subs, b ho.filters⟩, hg.trans hg'⟩
  · obtain ⟨he, hg'⟩ := h.2 h0
    exact ⟨he, hg.trans hg'⟩

set_option maxRecDepth 100000 in
set_option maxHeartbeats 2000000 in
theorem getfn_any (r pb : Nat) (s : ByteArray) (a : Int) (P : Pk) (w : World) (hk1 : 1 ≤ P.kind) (hk2 : P.kind ≤ 15) (hB : Bare P) (h : RdAt r s a w) (hp : w.heap[pb]? = some (.cells (pkNil P) 31 (0, 0))) (hs : s.size ≤ 140737488351232) (hT : ∀ W, Gr r w W → Tabs W) :
    Calls Tryz.prog 24 #[.pointer (some ⟨r, 0, none⟩), .pointer (some ⟨pb, 0, none⟩)] w (WhP r w (PK.rdWhole s a P)) := by
  have b1 := (Below.refl w.heap.size w).alloc (Nat.le_refl _) (.cells (pkNil PK.zeroPk) 31)
  have B1 : (w.alloc (.cells (pkNil PK.zeroPk) 31)).heap[w.heap.size]? = some (.cells (pkNil PK.zeroPk) 31 (0, 0)) := heap_alloc_new w _
  have G0 : Gr r w (w.alloc (.cells (pkNil PK.zeroPk) 31)) := Gr.of_below b1
  have P1 := Lib.hid ((b1.block _ (lt_heap hp)).trans hp)
  have hlt := lt_heap h
  have C1 := Lib.hid (rwhole_any r s a P _ hk1 hk2 hB (h.below b1) hs (fun W hg => hT W (G0.trans hg)))
  have HG0 := Lib.hid G0
  have HB1 := Lib.hid B1
  have hsz : (w.alloc (.cells (pkNil PK.zeroPk) 31)).heap.size = w.heap.size + 1 := by simp
  have HSZ := Lib.hid hsz
  generalize PK.rdWhole s a P = X at *
  clear b1 B1 G0 hp h hT hk1 hk2 hB hsz
  go_enter Tryz.func24, Tryz.ntmps24
  go_wp2_with (refine wpl_load_pk (by rfl) (.tmp 1) (by rfl) pb (by rfl) P1.out ?_)
  refine C1.out.mono ?_
  rintro e w1 hR
  by_cases h1 : X.2 = 0
  · obtain ⟨vc, vp, vw, vs, vf, rfl, o1, g1⟩ := hR.1 h1
    have Z1 := Lib.hid ((g1.block _ (lt_heap HB1.out) (fun e => by injection e with e; omega)).trans HB1.out)
    have G1 := Lib.hid (HG0.out.trans g1)
    have O1 := Lib.hid o1
    have W1 := Lib.hid (pk_one X.1 o1)
    clear hR o1 g1 C1
    go_wp2_with (refine wpList_store_row (by rfl) 31 (.tmp 2) (.tmp 4) (by rfl) w.heap.size (pkCells X.1 vc vp vw vs vf) (by rfl) (by rfl) 31 (pkNil PK.zeroPk) Z1.out pk_info rfl W1.out ?_)
    have Z3 := setRow_heap (cs := pkCells X.1 vc vp vw vs vf) Z1.out
    refine bodyPost_ret (v := .agg (pkCells X.1 vc vp vw vs vf)) ?_ rfl ?_
    · have hl : (loadVar 31 ⟨w.heap.size, 0, none⟩).run Tryz.prog (w1.setRow w.heap.size (pkCells X.1 vc vp vw vs vf)) = .ok (.agg (pkCells X.1 vc vp vw vs vf)) (w1.setRow w.heap.size (pkCells X.1 vc vp vw vs vf)) :=
        run_loadVar_mid _ w.heap.size 0 31 (pkCells X.1 vc vp vw vs vf).toList _ (fun j v hv => by rw [Nat.zero_add, cell_heap Z3, ← hv]; simp) Tryz.underlying31 rfl (by kernel_rfl)
      simp [results, Tryz.results24, Act.put]
      exact hl
    · refine ⟨fun _ => ⟨_, _, _, _, _, rfl, ?_, G1.out.setRow (Nat.le_refl _) _⟩, fun h => absurd h1 h⟩
      have hz := HSZ.out
      have n5 := fun {e : TypeId} {k : Nat} {v : Value} {n : Nat} {xs : List Value} (ho : w1.ownsRow (w.alloc (.cells (pkNil PK.zeroPk) 31)).heap.size e k v n xs) => own_base' (C := w.heap.size) (own_setRow (g := w.heap.size) (pkCells X.1 vc vp vw vs vf) ho (row_ne ho (by omega))) (by omega)
      exact ⟨n5 O1.out.codes, n5 O1.out.props, n5 O1.out.wprops, n5 O1.out.subs, n5 O1.out.filters⟩
  · obtain ⟨rfl, g1⟩ := hR.2 h1
    exact ⟨rfl, fun h => absurd h h1, fun _ => ⟨rfl, HG0.out.trans g1⟩⟩
end Go.Proofs.YtlfgndhdifpngaaGreatDoor
namespace Go.Proofs.YtlfgndhdifpngaaGreatDoor
open Go.RowKit
attribute [local go_sem ↓] Go.wp_at_zero Go.wp_at_succ

theorem caught_world {p q : Nat} {cs : Array Value} {x c : Int} {w : World} (hpq : p ≠ q) (hp : w.heap[p]? = some (.cells cs 31 (0, 0))) (hq : w.heap[q]? = some (.cells #[.int .u8 x] 23 (0, 0))) (o : Obj) :
    ((((w.setRow p (pkNil PK.zeroPk)).setCell ⟨q, 0, none⟩ (.int .u8 128)).setCell ⟨q, 0, none⟩ (.int .u8 c)).alloc o).heap[p]? = some (.cells (pkNil PK.zeroPk) 31 (0, 0)) ∧
    ((((w.setRow p (pkNil PK.zeroPk)).setCell ⟨q, 0, none⟩ (.int .u8 128)).setCell ⟨q, 0, none⟩ (.int .u8 c)).alloc o).heap[q]? = some (.cells #[.int .u8 c] 23 (0, 0)) ∧
    G2 p q w ((((w.setRow p (pkNil PK.zeroPk)).setCell ⟨q, 0, none⟩ (.int .u8 128)).setCell ⟨q, 0, none⟩ (.int .u8 c)).alloc o) := by
  have e1 : (w.setRow p (pkNil PK.zeroPk)).heap[q]? = some (.cells #[.int .u8 x] 23 (0, 0)) := (setRow_other _ (Ne.symm hpq)).trans hq
  have e2 := one_setCell (u := .int .u8 128) e1
  have e3 := one_setCell (u := .int .u8 c) e2
  have hz : (((w.setRow p (pkNil PK.zeroPk)).setCell ⟨q, 0, none⟩ (.int .u8 128)).setCell ⟨q, 0, none⟩ (.int .u8 c)).heap.size = w.heap.size := by simp [World.setCell, World.setRow]
  have other : ∀ i, i ≠ q → (((w.setRow p (pkNil PK.zeroPk)).setCell ⟨q, 0, none⟩ (.int .u8 128)).setCell ⟨q, 0, none⟩ (.int .u8 c)).heap[i]? = (w.setRow p (pkNil PK.zeroPk)).heap[i]? := fun i hi => (Below.heap_setCell _ _ _ _ (fun e => hi (by simpa using e))).trans (Below.heap_setCell _ _ _ _ (fun e => hi (by simpa using e)))
  refine ⟨(Below.heap_alloc _ _ _ (by rw [hz]; exact lt_heap hp)).trans ((other p hpq).trans (setRow_heap hp)), (Below.heap_alloc _ _ _ (by rw [hz]; exact lt_heap hq)).trans e3, rfl, rfl, rfl, by simp, fun i hi h1 h2 => (Below.heap_alloc _ _ _ (by rw [hz]; exact hi)).trans ((other i h2).trans (setRow_other _ h1))⟩
theorem taU (v : Value) (xT : TypeId) (w : World) : (Instr.typeAssert (.iface 131 v) xT 131 true).run Tryz.prog w = .ok (.tuple #[v, .bool true]) w := by kernel_rfl

set_option maxRecDepth 100000 in
set_option maxHeartbeats 2000000 in
theorem catch_left (p q : Nat) (cs : Array Value) (x c : Int) (older : List PanicEntry) (w : World) (hpq : p ≠ q) (hcs : cs.size = 26) (hp : w.heap[p]? = some (.cells cs 31 (0, 0))) (hq : w.heap[q]? = some (.cells #[.int .u8 x] 23 (0, 0))) :
    CallsD Tryz.prog 50 #[.pointer (some ⟨p, 0, none⟩), .pointer (some ⟨q, 0, none⟩)] (.panicking ({ v := .iface 131 (.agg #[.int .u8 c]), recovered := false } :: older)) w fun e u' w' =>
      e = .returned (.tuple #[]) ∧ u' = .panicking ({ v := .iface 131 (.agg #[.int .u8 c]), recovered := true } :: older) ∧
        w'.heap[p]? = some (.cells (pkNil PK.zeroPk) 31 (0, 0)) ∧ w'.heap[q]? = some (.cells #[.int .u8 c] 23 (0, 0)) ∧ G2 p q w w' := by
  refine callsD_of_wpS Tryz.func50 rfl fun c₀ cs₀ hu => ?_
  apply wpS_seq
  apply wpS_region
  simp [wpOpsS, go_sem, recoverD, hu, Tryz.ntmps50, Exit.thenS]
  refine wpS_of_wp ?_
  have hta := taU (.agg #[.int .u8 c]) 20
  have hlq := lt_heap hq
  have hs1 : (w.setRow p (pkNil PK.zeroPk)).heap.size = w.heap.size := by simp [World.setRow]
  have Q0 := Lib.hid (setRow_heap (cs := pkNil PK.zeroPk) hp)
  have q1 : (w.setRow p (pkNil PK.zeroPk)).cell? ⟨q, 0, none⟩ = some (.int .u8 x) := by rw [cell_heap ((setRow_other _ (Ne.symm hpq)).trans hq)]; rfl
  have f1 : (w.setRow p (pkNil PK.zeroPk)).frozen? ⟨q, 0, none⟩ = false := frozen_heap ((setRow_other _ (Ne.symm hpq)).trans hq)
  have O1 := Lib.hid (pkNil_one PK.zeroPk)
  change Code.wp _ _ _ { tmps := #[.pointer (some ⟨p, 0, none⟩), .pointer (some ⟨q, 0, none⟩), .iface 131 (.agg #[.int .u8 c]), undef, undef, .iface 131 (.agg #[.int .u8 c]), undef, undef, undef, undef, undef, undef, undef, undef, undef, undef, undef], defers := [] } w
  go_wp2_with (refine wpList_store_row (by rfl) 31 (.tmp 0) (.tmp 8) (by rfl) p (pkNil PK.zeroPk) (by rfl) (by rfl) 31 cs hp pk_info hcs O1.out ?_)
  obtain ⟨r1, r2, r3⟩ := caught_world (c := c) (x := x) hpq hp hq (.cells #[.int .u8 c] 131)
  generalize ((((w.setRow p (pkNil PK.zeroPk)).setCell ⟨q, 0, none⟩ (.int .u8 128)).setCell ⟨q, 0, none⟩ (.int .u8 c)).alloc (.cells #[.int .u8 c] 131)) = W' at r1 r2 r3 ⊢
  simp [bodyPostS, results, Tryz.results50, r1, r2, r3]

set_option maxRecDepth 100000 in
theorem catch_none (p q : Nat) (w : World) :
    CallsD Tryz.prog 50 #[.pointer (some ⟨p, 0, none⟩), .pointer (some ⟨q, 0, none⟩)] .returning w fun e u' w' => e = .returned (.tuple #[]) ∧ u' = .returning ∧ w' = w := by
  refine callsD_of_wpS Tryz.func50 rfl fun c₀ cs hu => ?_
  apply wpS_seq
  apply wpS_region
  simp [wpOpsS, go_sem, recoverD, hu, Tryz.ntmps50, Exit.thenS]
  refine wpS_of_wp ?_
  change Code.wp _ _ _ { tmps := #[.pointer (some ⟨p, 0, none⟩), .pointer (some ⟨q, 0, none⟩), .nilIface, undef, undef, .nilIface, undef, undef, undef, undef, undef, undef, undef, undef, undef, undef, undef], defers := [] } w
  go_wp2
  cases c₀
  simp_all [bodyPostS, results, Tryz.results50]
theorem load_code_var {w : World} {q : Nat} {c : Int} (h : w.heap[q]? = some (.cells #[.int .u8 c] 23 (0, 0))) :
    (loadVar 23 ⟨q, 0, none⟩).run Tryz.prog w = .ok (.int .u8 c) w := by
  have hc : w.cell? ⟨q, 0, none⟩ = some (.int .u8 c) := by rw [cell_heap h]; rfl
  simp [go_sem, hc]
set_option maxRecDepth 100000 in
theorem read_both {w : World} {p q : Nat} {P : Pk} {vc vp vw vs vf : Value} {c : Int} (hp : w.heap[p]? = some (.cells (pkCells P vc vp vw vs vf) 31 (0, 0))) (hq : w.heap[q]? = some (.cells #[.int .u8 c] 23 (0, 0))) :
    ((Sem.run Tryz.prog (asAddr (.pointer (some ⟨p, 0, none⟩))) w).andThen fun a w' => (Sem.run Tryz.prog (loadVar 31 a) w').andThen fun a w' =>
      (Sem.run Tryz.prog (asAddr (.pointer (some ⟨q, 0, none⟩))) w').andThen fun a_1 w' => (Sem.run Tryz.prog (loadVar 23 a_1) w').andThen fun a_2 w' => Result.ok (Value.tuple #[a, a_2]) w') = .ok (.tuple #[.agg (pkCells P vc vp vw vs vf), .int .u8 c]) w := by
  show ((Sem.run Tryz.prog (loadVar 31 ⟨p, 0, none⟩) w).andThen _) = _
  rw [load_pk_var hp]
  show ((Sem.run Tryz.prog (loadVar 23 ⟨q, 0, none⟩) w).andThen _) = _
  rw [load_code_var hq]
  rfl
/-- What caught answers. -/
def CaP (r : Nat) (w : World) (X : Pk × Int) (e : Ending) (w' : World) : Prop :=
  (X.2 = 0 → ∃ vc vp vw vs vf, e = .returned (.tuple #[.agg (pkCells X.1 vc vp vw vs vf), .int .u8 0]) ∧ Own5 w.heap.size X.1 vc vp vw vs vf w' ∧ Gr r w w') ∧ (X.2 ≠ 0 → e = .returned (.tuple #[.agg (pkNil PK.zeroPk), .int .u8 X.2]) ∧ Gr r w w')

set_option maxRecDepth 100000 in
set_option maxHeartbeats 2000000 in
theorem caught_any (r : Nat) (cap : Array Value) (X : Pk × Int) (w : World) (hr : r < w.heap.size)
    (hC : ∀ W, Below w.heap.size w W → Calls Tryz.prog 24 cap W (WhP r W X)) :
    Calls Tryz.prog 23 #[.func (.func 24) #[] cap] w (CaP r w X) := by
  have hmf : ∀ (fn : Fn) (first cap : Array Value) (w : World), (Instr.makeFunc fn first cap).run Tryz.prog w = .ok (.func fn first cap) w := fun _ _ _ _ => rfl
  have b1 := (Below.refl w.heap.size w).alloc (Nat.le_refl _) (.cells (pkNil PK.zeroPk) 31)
  have hsz : (w.alloc (.cells (pkNil PK.zeroPk) 31)).heap.size = w.heap.size + 1 := by simp
  have b2 := b1.alloc (by omega) (.cells #[.int .u8 0] 23)
  have P1 : (w.alloc (.cells (pkNil PK.zeroPk) 31)).heap[w.heap.size]? = some (.cells (pkNil PK.zeroPk) 31 (0, 0)) := heap_alloc_new w _
  have P2 : ((w.alloc (.cells (pkNil PK.zeroPk) 31)).alloc (.cells #[.int .u8 0] 23)).heap[w.heap.size]? = some (.cells (pkNil PK.zeroPk) 31 (0, 0)) := (Below.heap_alloc _ _ _ (lt_heap P1)).trans P1
  have Q2 : ((w.alloc (.cells (pkNil PK.zeroPk) 31)).alloc (.cells #[.int .u8 0] 23)).heap[w.heap.size + 1]? = some (.cells #[.int .u8 0] 23 (0, 0)) := by rw [← hsz]; exact heap_alloc_new _ _
  have C1 := Lib.hid (hC _ b2)
  have hs2 : ((w.alloc (.cells (pkNil PK.zeroPk) 31)).alloc (.cells #[.int .u8 0] 23)).heap.size = w.heap.size + 2 := by simp
  have HB2 := Lib.hid b2
  have HP2 := Lib.hid P2
  have HQ2 := Lib.hid Q2
  have HS2 := Lib.hid hs2
  clear b1 b2 P1 P2 Q2 hs2 hsz hC
  go_enter_defers Tryz.func23, Tryz.ntmps23
  go_wp2_with fail
  refine C1.out.mono ?_
  rintro e w1 hR
  by_cases h1 : X.2 = 0
  · obtain ⟨vc, vp, vw, vs, vf, rfl, o1, g1⟩ := hR.1 h1
    have p1 := (g1.block _ (lt_heap HP2.out) (fun e => by injection e with e; omega)).trans HP2.out
    have q1 := (g1.block _ (lt_heap HQ2.out) (fun e => by injection e with e; omega)).trans HQ2.out
    have W1 := Lib.hid (pk_one X.1 o1)
    have HPP := Lib.hid p1
    have c1 : (w1.setRow w.heap.size (pkCells X.1 vc vp vw vs vf)).cell? ⟨w.heap.size + 1, 0, none⟩ = some (.int .u8 0) := by rw [cell_heap ((setRow_other _ (by omega)).trans q1)]; rfl
    have f1 : (w1.setRow w.heap.size (pkCells X.1 vc vp vw vs vf)).frozen? ⟨w.heap.size + 1, 0, none⟩ = false := frozen_heap ((setRow_other _ (by omega)).trans q1)
    clear hR C1
    go_wp2_with (refine wpList_store_row (by rfl) 31 (.tmp 2) (.tmp 6) (by rfl) w.heap.size (pkCells X.1 vc vp vw vs vf) (by rfl) (by rfl) 31 (pkNil PK.zeroPk) HPP.out pk_info rfl W1.out ?_)
    refine leaves_cons (f := 50) (args := #[.pointer (some ⟨w.heap.size, 0, none⟩), .pointer (some ⟨w.heap.size + 1, 0, none⟩)]) (by simp) (by simp [go_sem]) ?_
    refine (catch_none _ _ _).mono ?_
    rintro e u' w'' ⟨rfl, rfl, rfl⟩
    simp [Leaves, settle, results, Tryz.results23]
    have hp' := setRow_heap (cs := pkCells X.1 vc vp vw vs vf) HPP.out
    have hq' := one_setCell (u := .int .u8 0) ((setRow_other (g := w.heap.size) (pkCells X.1 vc vp vw vs vf) (by omega)).trans q1)
    refine ⟨_, read_both ((Below.heap_setCell _ _ _ _ (fun e => by simp at e)).trans hp') hq', fun _ => ⟨_, _, _, _, _, rfl, ?_, ?_⟩, fun h => absurd h1 h⟩
    · have hz := HS2.out
      have n5 := fun {e : TypeId} {k : Nat} {v : Value} {n : Nat} {xs : List Value} (ho : w1.ownsRow ((w.alloc (.cells (pkNil PK.zeroPk) 31)).alloc (.cells #[.int .u8 0] 23)).heap.size e k v n xs) => own_base' (C := w.heap.size) (ownsRow_setCell_other (own_setRow (g := w.heap.size) (pkCells X.1 vc vp vw vs vf) ho (row_ne ho (by omega))) (a := ⟨w.heap.size + 1, 0, none⟩) (row_ne (r := w.heap.size + 1) ho (by omega)) (.int .u8 0)) (by omega)
      exact ⟨n5 o1.codes, n5 o1.props, n5 o1.wprops, n5 o1.subs, n5 o1.filters⟩
    · exact (((Gr.of_below HB2.out).trans g1).setRow (Nat.le_refl _) _).setNew (by omega) 0 _
  · obtain ⟨rfl, g1⟩ := hR.2 h1
    have p1 := (g1.block _ (lt_heap HP2.out) (fun e => by injection e with e; omega)).trans HP2.out
    have q1 := (g1.block _ (lt_heap HQ2.out) (fun e => by injection e with e; omega)).trans HQ2.out
    change bodyPostD _ _ _ (Exit.panic [{ v := .iface 131 (.agg #[.int .u8 X.2]), recovered := false }]) _ _
    refine leaves_cons (f := 50) (args := #[.pointer (some ⟨w.heap.size, 0, none⟩), .pointer (some ⟨w.heap.size + 1, 0, none⟩)]) (by simp) (by simp [go_sem]) ?_
    refine (catch_left w.heap.size (w.heap.size + 1) (pkNil PK.zeroPk) 0 X.2 [] w1 (by omega) rfl p1 q1).mono ?_
    rintro e u' w'' ⟨rfl, rfl, r1, r2, r3⟩
    simp [Leaves, settle, results, Tryz.results23]
    refine ⟨_, read_both (P := PK.zeroPk) (vc := .slice none 0 0) (vp := .slice none 0 0) (vw := .slice none 0 0) (vs := .slice none 0 0) (vf := .slice none 0 0) r1 r2, fun h => absurd h h1, fun _ => ⟨rfl, ?_⟩⟩
    have g0 := (Gr.of_below (r := r) HB2.out).trans g1
    exact ⟨r3.os.trans g0.os, r3.tape.trans g0.tape, r3.output.trans g0.output, Nat.le_trans g0.size r3.size, fun i hi hne => (r3.block i (Nat.lt_of_lt_of_le hi g0.size) (by omega) (by omega)).trans (g0.block i hi hne)⟩
end Go.Proofs.YtlfgndhdifpngaaGreatDoor
namespace Go.Proofs.YtlfgndhdifpngaaGreatDoor
namespace VP

theorem str_at (xs : List Int) (i : Nat) (h : i < (strOfNums xs).size) (h' : i < xs.length) (h0 : 0 ≤ xs[i]) (h1 : xs[i] < 256) : (((strOfNums xs)[i]'h).toNat : Int) = xs[i] := by
  have e : (strOfNums xs)[i]'h = UInt8.ofNat (xs[i]).toNat := by
    show (strOfNums xs).data[i] = _
    simp [strOfNums]
  rw [e, UInt8.toNat_ofNat']
  omega

theorem got1 (s : ByteArray) (k : Nat) (a : Int) (h : k < s.size) (b0 : ((s[k]'(by omega)).toNat : Int) = a) (hl : a < 128) (hz : sz (0 + a) = 1) :
    get s k = (0 + a, (k : Int) + 1, 0) := by
  rw [get_in s k (by omega)]
  rw [last0 s k _ h (by omega) (by rw [b0]; exact hz), b0]

theorem got2 (s : ByteArray) (k : Nat) (a b : Int) (h : k + 1 < s.size) (b0 : ((s[k]'(by omega)).toNat : Int) = a) (b1 : ((s[k + 1]'(by omega)).toNat : Int) = b) (h0 : 128 ≤ a) (hl : b < 128) (hz : sz (0 + (a - 128) + b * 128) = 2) :
    get s k = (0 + (a - 128) + b * 128, (k : Int) + 1 + 1, 0) := by
  rw [get_in s k (by omega)]
  rw [more0 s k _ (by omega) (by omega), b0]
  rw [last1 s k _ h (by omega) (by rw [b1]; exact hz), b1]

theorem got3 (s : ByteArray) (k : Nat) (a b c : Int) (h : k + 2 < s.size) (b0 : ((s[k]'(by omega)).toNat : Int) = a) (b1 : ((s[k + 1]'(by omega)).toNat : Int) = b) (b2 : ((s[k + 2]'(by omega)).toNat : Int) = c) (h0 : 128 ≤ a) (h1 : 128 ≤ b) (hl : c < 128) (hz : sz (0 + (a - 128) + (b - 128) * 128 + c * 16384) = 3) :
    get s k = (0 + (a - 128) + (b - 128) * 128 + c * 16384, (k : Int) + 2 + 1, 0) := by
  rw [get_in s k (by omega)]
  rw [more0 s k _ (by omega) (by omega), b0]
  rw [more1 s k _ (by omega) (by omega), b1]
  rw [last2 s k _ h (by omega) (by rw [b2]; exact hz), b2]

theorem got4 (s : ByteArray) (k : Nat) (a b c d : Int) (h : k + 3 < s.size) (b0 : ((s[k]'(by omega)).toNat : Int) = a) (b1 : ((s[k + 1]'(by omega)).toNat : Int) = b) (b2 : ((s[k + 2]'(by omega)).toNat : Int) = c) (b3 : ((s[k + 3]'(by omega)).toNat : Int) = d) (h0 : 128 ≤ a) (h1 : 128 ≤ b) (h2 : 128 ≤ c) (hl : d < 128) (hz : sz (0 + (a - 128) + (b - 128) * 128 + (c - 128) * 16384 + d * 2097152) = 4) :
    get s k = (0 + (a - 128) + (b - 128) * 128 + (c - 128) * 16384 + d * 2097152, (k : Int) + 3 + 1, 0) := by
  rw [get_in s k (by omega)]
  rw [more0 s k _ (by omega) (by omega), b0]
  rw [more1 s k _ (by omega) (by omega), b1]
  rw [more2 s k _ (by omega) (by omega), b2]
  rw [last3 s k _ h (by omega) (by rw [b3]; exact hz), b3]

theorem get_put1 {n : Int} (h : 0 ≤ n) (h' : n < 128) : get (strOfNums (putL n)) 0 = (n, 1, 0) := by
  rw [putL_1 h h']
  generalize hs : strOfNums [n] = s
  have hz : s.size = 1 := by rw [← hs, strOfNums_size]; rfl
  have b0 : ((s[0]'(by omega)).toNat : Int) = n := by subst hs; exact str_at _ 0 (by omega) (by simp) (by simp; omega) (by simp; omega)
  have e : 0 + n = n := by omega
  have g := got1 s 0 (n) (by omega) (by simpa using b0) (by omega) (by rw [e]; exact sz_1 h h')
  rw [e] at g
  simpa using g

theorem get_put2 {n : Int} (h : 128 ≤ n) (h' : n < 16384) : get (strOfNums (putL n)) 0 = (n, 2, 0) := by
  rw [putL_2 h h']
  generalize hs : strOfNums [n % 128 + 128, n / 128] = s
  have hz : s.size = 2 := by rw [← hs, strOfNums_size]; rfl
  have b0 : ((s[0]'(by omega)).toNat : Int) = n % 128 + 128 := by subst hs; exact str_at _ 0 (by omega) (by simp) (by simp; omega) (by simp; omega)
  have b1 : ((s[1]'(by omega)).toNat : Int) = n / 128 := by subst hs; exact str_at _ 1 (by omega) (by simp) (by simp; omega) (by simp; omega)
  have e : 0 + ((n % 128 + 128) - 128) + n / 128 * 128 = n := by omega
  have g := got2 s 0 (n % 128 + 128) (n / 128) (by omega) (by simpa using b0) (by simpa using b1) (by omega) (by omega) (by rw [e]; exact sz_2 h h')
  rw [e] at g
  simpa using g

theorem get_put3 {n : Int} (h : 16384 ≤ n) (h' : n < 2097152) : get (strOfNums (putL n)) 0 = (n, 3, 0) := by
  rw [putL_3 h h']
  generalize hs : strOfNums [n % 128 + 128, n / 128 % 128 + 128, n / 16384] = s
  have hz : s.size = 3 := by rw [← hs, strOfNums_size]; rfl
  have b0 : ((s[0]'(by omega)).toNat : Int) = n % 128 + 128 := by subst hs; exact str_at _ 0 (by omega) (by simp) (by simp; omega) (by simp; omega)
  have b1 : ((s[1]'(by omega)).toNat : Int) = n / 128 % 128 + 128 := by subst hs; exact str_at _ 1 (by omega) (by simp) (by simp; omega) (by simp; omega)
  have b2 : ((s[2]'(by omega)).toNat : Int) = n / 16384 := by subst hs; exact str_at _ 2 (by omega) (by simp) (by simp; omega) (by simp; omega)
  have e : 0 + ((n % 128 + 128) - 128) + ((n / 128 % 128 + 128) - 128) * 128 + n / 16384 * 16384 = n := by omega
  have g := got3 s 0 (n % 128 + 128) (n / 128 % 128 + 128) (n / 16384) (by omega) (by simpa using b0) (by simpa using b1) (by simpa using b2) (by omega) (by omega) (by omega) (by rw [e]; exact sz_3 h h')
  rw [e] at g
  simpa using g

theorem get_put4 {n : Int} (h : 2097152 ≤ n) (h' : n ≤ 268435455) : get (strOfNums (putL n)) 0 = (n, 4, 0) := by
  rw [putL_4 h h']
  generalize hs : strOfNums [n % 128 + 128, n / 128 % 128 + 128, n / 16384 % 128 + 128, n / 2097152] = s
  have hz : s.size = 4 := by rw [← hs, strOfNums_size]; rfl
  have b0 : ((s[0]'(by omega)).toNat : Int) = n % 128 + 128 := by subst hs; exact str_at _ 0 (by omega) (by simp) (by simp; omega) (by simp; omega)
  have b1 : ((s[1]'(by omega)).toNat : Int) = n / 128 % 128 + 128 := by subst hs; exact str_at _ 1 (by omega) (by simp) (by simp; omega) (by simp; omega)
  have b2 : ((s[2]'(by omega)).toNat : Int) = n / 16384 % 128 + 128 := by subst hs; exact str_at _ 2 (by omega) (by simp) (by simp; omega) (by simp; omega)
  have b3 : ((s[3]'(by omega)).toNat : Int) = n / 2097152 := by subst hs; exact str_at _ 3 (by omega) (by simp) (by simp; omega) (by simp; omega)
  have e : 0 + ((n % 128 + 128) - 128) + ((n / 128 % 128 + 128) - 128) * 128 + ((n / 16384 % 128 + 128) - 128) * 16384 + n / 2097152 * 2097152 = n := by omega
  have g := got4 s 0 (n % 128 + 128) (n / 128 % 128 + 128) (n / 16384 % 128 + 128) (n / 2097152) (by omega) (by simpa using b0) (by simpa using b1) (by simpa using b2) (by simpa using b3) (by omega) (by omega) (by omega) (by omega) (by rw [e]; exact sz_4 h h')
  rw [e] at g
  simpa using g

theorem putL_len {n : Int} (h : 0 ≤ n) (h' : n ≤ 268435455) : ((putL n).length : Int) = sz n := by
  rcases (show (n < 128) ∨ (128 ≤ n ∧ n < 16384) ∨ (16384 ≤ n ∧ n < 2097152) ∨ (2097152 ≤ n) from by omega) with g | ⟨g, g'⟩ | ⟨g, g'⟩ | g
  · rw [putL_1 h g, sz_1 h g]; rfl
  · rw [putL_2 g g', sz_2 g g']; rfl
  · rw [putL_3 g g', sz_3 g g']; rfl
  · rw [putL_4 g h', sz_4 g h']; rfl

theorem get_put {n : Int} (h : 0 ≤ n) (h' : n ≤ 268435455) : get (strOfNums (putL n)) 0 = (n, ((putL n).length : Int), 0) := by
  rw [putL_len h h']
  rcases (show (n < 128) ∨ (128 ≤ n ∧ n < 16384) ∨ (16384 ≤ n ∧ n < 2097152) ∨ (2097152 ≤ n) from by omega) with g | ⟨g, g'⟩ | ⟨g, g'⟩ | g
  · rw [get_put1 h g, sz_1 h g]
  · rw [get_put2 g g', sz_2 g g']
  · rw [get_put3 g g', sz_3 g g']
  · rw [get_put4 g h', sz_4 g h']

theorem sz_inv1 {x : Int} (h : sz x = 1) : 0 ≤ x ∧ x < 128 := by unfold sz at h; repeat' split at h; all_goals omega
theorem sz_inv2 {x : Int} (h : sz x = 2) : 128 ≤ x ∧ x < 16384 := by unfold sz at h; repeat' split at h; all_goals omega
theorem sz_inv3 {x : Int} (h : sz x = 3) : 16384 ≤ x ∧ x < 2097152 := by unfold sz at h; repeat' split at h; all_goals omega
theorem sz_inv4 {x : Int} (h : sz x = 4) : 2097152 ≤ x ∧ x ≤ 268435455 := by unfold sz at h; repeat' split at h; all_goals omega

theorem byte_lt (s : ByteArray) (k : Nat) (h : k < s.size) : ((s[k]'h).toNat : Int) < 256 := by
  have := (s[k]'h).toNat_lt
  omega

/-- What it is that a number was read of: its bytes, and no others. -/
def Read (s : ByteArray) (k : Nat) : Prop :=
  ∃ (x : Int) (m : Nat), 1 ≤ m ∧ k + m ≤ s.size ∧ 0 ≤ x ∧ x ≤ 268435455 ∧ (putL x).length = m ∧ get s k = (x, (k : Int) + m, 0) ∧
    ∀ i (h : k + i < s.size) (h' : i < (putL x).length), ((s[k + i]'h).toNat : Int) = (putL x)[i]

theorem read_got1 (s : ByteArray) (k : Nat) (a : Int) (h : k < s.size) (b0 : ((s[k]'(by omega)).toNat : Int) = a) (_h0 : 0 ≤ a) (hl : a < 128) (hz : sz (0 + a) = 1) : Read s k := by
  obtain ⟨r0, r1⟩ := sz_inv1 hz
  have hp := putL_1 r0 r1
  refine ⟨0 + a, 1, by omega, by omega, by omega, by omega, by rw [hp]; rfl, ?_, ?_⟩
  · rw [got1 s k a h b0 hl hz]
    simp
    try omega
  · intro j hj hj'
    simp only [hp]
    rw [hp] at hj'
    match j, hj' with
    | 0, _ => simp only [Nat.add_zero]; simp; omega

theorem read_got2 (s : ByteArray) (k : Nat) (a b : Int) (h : k + 1 < s.size) (b0 : ((s[k]'(by omega)).toNat : Int) = a) (b1 : ((s[k + 1]'(by omega)).toNat : Int) = b) (h0 : 128 ≤ a) (g0 : a < 256) (_h1 : 0 ≤ b) (hl : b < 128) (hz : sz (0 + (a - 128) + b * 128) = 2) : Read s k := by
  obtain ⟨r0, r1⟩ := sz_inv2 hz
  have hp := putL_2 r0 r1
  refine ⟨0 + (a - 128) + b * 128, 2, by omega, by omega, by omega, by omega, by rw [hp]; rfl, ?_, ?_⟩
  · rw [got2 s k a b h b0 b1 h0 hl hz]
    simp
    try omega
  · intro j hj hj'
    simp only [hp]
    rw [hp] at hj'
    match j, hj' with
    | 0, _ => simp only [Nat.add_zero]; simp; omega
    | 1, _ => simp; omega

theorem read_got3 (s : ByteArray) (k : Nat) (a b c : Int) (h : k + 2 < s.size) (b0 : ((s[k]'(by omega)).toNat : Int) = a) (b1 : ((s[k + 1]'(by omega)).toNat : Int) = b) (b2 : ((s[k + 2]'(by omega)).toNat : Int) = c) (h0 : 128 ≤ a) (g0 : a < 256) (h1 : 128 ≤ b) (g1 : b < 256) (_h2 : 0 ≤ c) (hl : c < 128) (hz : sz (0 + (a - 128) + (b - 128) * 128 + c * 16384) = 3) : Read s k := by
  obtain ⟨r0, r1⟩ := sz_inv3 hz
  have hp := putL_3 r0 r1
  refine ⟨0 + (a - 128) + (b - 128) * 128 + c * 16384, 3, by omega, by omega, by omega, by omega, by rw [hp]; rfl, ?_, ?_⟩
  · rw [got3 s k a b c h b0 b1 b2 h0 h1 hl hz]
    simp
    try omega
  · intro j hj hj'
    simp only [hp]
    rw [hp] at hj'
    match j, hj' with
    | 0, _ => simp only [Nat.add_zero]; simp; omega
    | 1, _ => simp; omega
    | 2, _ => simp; omega

theorem read_got4 (s : ByteArray) (k : Nat) (a b c d : Int) (h : k + 3 < s.size) (b0 : ((s[k]'(by omega)).toNat : Int) = a) (b1 : ((s[k + 1]'(by omega)).toNat : Int) = b) (b2 : ((s[k + 2]'(by omega)).toNat : Int) = c) (b3 : ((s[k + 3]'(by omega)).toNat : Int) = d) (h0 : 128 ≤ a) (g0 : a < 256) (h1 : 128 ≤ b) (g1 : b < 256) (h2 : 128 ≤ c) (g2 : c < 256) (_h3 : 0 ≤ d) (hl : d < 128) (hz : sz (0 + (a - 128) + (b - 128) * 128 + (c - 128) * 16384 + d * 2097152) = 4) : Read s k := by
  obtain ⟨r0, r1⟩ := sz_inv4 hz
  have hp := putL_4 r0 r1
  refine ⟨0 + (a - 128) + (b - 128) * 128 + (c - 128) * 16384 + d * 2097152, 4, by omega, by omega, by omega, by omega, by rw [hp]; rfl, ?_, ?_⟩
  · rw [got4 s k a b c d h b0 b1 b2 b3 h0 h1 h2 hl hz]
    simp
    try omega
  · intro j hj hj'
    simp only [hp]
    rw [hp] at hj'
    match j, hj' with
    | 0, _ => simp only [Nat.add_zero]; simp; omega
    | 1, _ => simp; omega
    | 2, _ => simp; omega
    | 3, _ => simp; omega

theorem get_inv (s : ByteArray) (k : Nat) (hk : k ≤ s.size) (hc : (get s k).2.2 = 0) : Read s k := by
  have hg := get_in s k hk
  by_cases l0 : k < s.size
  · have w0 := byte_lt s k l0
    by_cases c0 : ((s[k]'l0).toNat : Int) < 128
    · refine read_got1 s k _ l0 rfl (by omega) c0 ?_
      exact sz_1 (by omega) (by omega)
    · rw [more0 s k 0 l0 c0] at hg
      by_cases l1 : k + 1 < s.size
      · have w1 := byte_lt s (k + 1) l1
        by_cases c1 : ((s[k + 1]'l1).toNat : Int) < 128
        · by_cases hz : sz (0 + (((s[k]'l0).toNat : Int) - 128) + ((s[k + 1]'l1).toNat : Int) * 128) = 2
          · exact read_got2 s k _ _ l1 rfl rfl (by omega) w0 (by omega) c1 hz
          · rw [bad1 s k _ l1 c1 hz] at hg; rw [hg] at hc; exact absurd hc (by decide)
        · rw [more1 s k _ l1 c1] at hg
          by_cases l2 : k + 2 < s.size
          · have w2 := byte_lt s (k + 2) l2
            by_cases c2 : ((s[k + 2]'l2).toNat : Int) < 128
            · by_cases hz : sz (0 + (((s[k]'l0).toNat : Int) - 128) + (((s[k + 1]'l1).toNat : Int) - 128) * 128 + ((s[k + 2]'l2).toNat : Int) * 16384) = 3
              · exact read_got3 s k _ _ _ l2 rfl rfl rfl (by omega) w0 (by omega) w1 (by omega) c2 hz
              · rw [bad2 s k _ l2 c2 hz] at hg; rw [hg] at hc; exact absurd hc (by decide)
            · rw [more2 s k _ l2 c2] at hg
              by_cases l3 : k + 3 < s.size
              · have w3 := byte_lt s (k + 3) l3
                by_cases c3 : ((s[k + 3]'l3).toNat : Int) < 128
                · by_cases hz : sz (0 + (((s[k]'l0).toNat : Int) - 128) + (((s[k + 1]'l1).toNat : Int) - 128) * 128 + (((s[k + 2]'l2).toNat : Int) - 128) * 16384 + ((s[k + 3]'l3).toNat : Int) * 2097152) = 4
                  · exact read_got4 s k _ _ _ _ l3 rfl rfl rfl rfl (by omega) w0 (by omega) w1 (by omega) w2 (by omega) c3 hz
                  · rw [bad3 s k _ l3 c3 hz] at hg; rw [hg] at hc; exact absurd hc (by decide)
                · rw [more3 s k _ l3 c3, getG_0] at hg; rw [hg] at hc; exact absurd hc (by decide)
              · rw [ends3 s k _ l3] at hg; rw [hg] at hc; exact absurd hc (by decide)
          · rw [ends2 s k _ l2] at hg; rw [hg] at hc; exact absurd hc (by decide)
      · rw [ends1 s k _ l1] at hg; rw [hg] at hc; exact absurd hc (by decide)
  · rw [ends0 s k _ l0] at hg; rw [hg] at hc; exact absurd hc (by decide)

theorem extract_eq (s : ByteArray) (m : Nat) (xs : List Int) (hm : xs.length = m) (hs : m ≤ s.size) (hb : ∀ i (h : i < s.size) (h' : i < xs.length), ((s[i]'h).toNat : Int) = xs[i]) : s.extract 0 m = strOfNums xs := by
  apply ByteArray.ext
  apply Array.ext
  · simp [strOfNums, hm]; omega
  · intro i h1 h2
    have hi : i < xs.length := by simpa [strOfNums] using h2
    have hx := hb i (by omega) hi
    have hx' : xs[i].toNat = (s[i]'(by omega)).toNat := by omega
    simp only [strOfNums, ByteArray.data_extract]
    simp only [Array.getElem_extract, List.getElem_toArray, List.getElem_map, Nat.zero_add, hx', UInt8.ofNat_toNat]
    rfl

theorem read_back (s : ByteArray) (hc : (get s 0).2.2 = 0) : ∃ (x : Int) (m : Nat), 1 ≤ m ∧ m ≤ s.size ∧ 0 ≤ x ∧ x ≤ 268435455 ∧ get s 0 = (x, (m : Int), 0) ∧ s.extract 0 m = strOfNums (putL x) := by
  obtain ⟨x, m, h1, h2, h3, h4, h5, h6, h7⟩ := get_inv s 0 (Nat.zero_le _) hc
  refine ⟨x, m, h1, by omega, h3, h4, by simpa using h6, ?_⟩
  exact extract_eq s m (putL x) h5 (by omega) (fun i h h' => by have := h7 i (by omega) h'; simpa using this)

end VP
end Go.Proofs.YtlfgndhdifpngaaGreatDoor
namespace Go.Proofs.YtlfgndhdifpngaaGreatDoor
namespace ST
/-- How many bytes the packet has that stands whole at the beginning of s, and the code. -/
def first (s : ByteArray) (most : Int) : Int × Int :=
  if s.size = 0 then (0, 242) else if (VP.get s 1).2.2 ≠ 0 then (0, (VP.get s 1).2.2) else
  if most < (VP.get s 1).2.1 + (VP.get s 1).1 then (0, 149) else
  if (s.size : Int) < (VP.get s 1).2.1 + (VP.get s 1).1 then (0, 242) else ((VP.get s 1).2.1 + (VP.get s 1).1, 0)
theorem get1 (s : ByteArray) (h : s.size ≠ 0) (hc : (VP.get s 1).2.2 = 0) : ∃ n b : Nat, VP.get s 1 = ((n : Int), (b : Int), 0) ∧ n ≤ 268435455 ∧ 2 ≤ b ∧ b ≤ s.size := by
  obtain ⟨x, m, h1, h2, h3, h4, _, h6, _⟩ := VP.get_inv s 1 (by omega) hc
  obtain ⟨n, rfl⟩ := Int.eq_ofNat_of_zero_le h3
  exact ⟨n, 1 + m, by rw [show ((1 : Int)) = ((1 : Nat) : Int) from rfl, h6]; simp, by omega, by omega, by omega⟩
theorem first_ok (s : ByteArray) (most : Int) (h : (first s most).2 = 0) : ∃ k : Nat, first s most = ((k : Int), 0) ∧ 2 ≤ k ∧ k ≤ s.size := by
  unfold first at h ⊢
  by_cases h0 : s.size = 0
  · rw [if_pos h0] at h; exact absurd h (by decide)
  rw [if_neg h0] at h ⊢
  by_cases h1 : (VP.get s 1).2.2 ≠ 0
  · rw [if_pos h1] at h; exact absurd h h1
  rw [if_neg h1] at h ⊢
  obtain ⟨n, b, hg, hn, hb1, hb2⟩ := get1 s h0 (Classical.not_not.1 h1)
  rw [hg] at h ⊢
  simp only at h ⊢
  by_cases h2 : most < (b : Int) + n
  · rw [if_pos h2] at h; exact absurd h (by decide)
  rw [if_neg h2] at h ⊢
  by_cases h3 : (s.size : Int) < (b : Int) + n
  · rw [if_pos h3] at h; exact absurd h (by decide)
  rw [if_neg h3]
  exact ⟨b + n, by simp, by omega, by omega⟩
/-- The packets from a place on whose f is no code; the place behind them, and the code. -/
def thr (s : ByteArray) (most : Int) (f : ByteArray → Int) : Nat → Nat → List ByteArray × Nat × Int
  | 0, a => ([], a, 0)
  | u + 1, a =>
    if (first (s.extract a s.size) most).2 = 0 then
      if f (s.extract a (a + (first (s.extract a s.size) most).1.toNat)) = 0 then
        (s.extract a (a + (first (s.extract a s.size) most).1.toNat) :: (thr s most f u (a + (first (s.extract a s.size) most).1.toNat)).1, (thr s most f u (a + (first (s.extract a s.size) most).1.toNat)).2)
      else ([], a, f (s.extract a (a + (first (s.extract a s.size) most).1.toNat)))
    else ([], a, if (first (s.extract a s.size) most).2 = 242 then 0 else (first (s.extract a s.size) most).2)
/-- What a loop has done of them. -/
def Thr (s : ByteArray) (most : Int) (f : ByteArray → Int) (l : List ByteArray) (a : Nat) : Prop :=
  ∃ u, s.size < a + u ∧ a ≤ s.size ∧ 2 * l.length ≤ a ∧ thr s most f (s.size + 1) 0 = (l ++ (thr s most f u a).1, (thr s most f u a).2)
theorem Thr.start (s : ByteArray) (most : Int) (f : ByteArray → Int) : Thr s most f [] 0 := ⟨s.size + 1, by omega, by omega, by simp, by simp⟩
theorem Thr.step {s : ByteArray} {most : Int} {f : ByteArray → Int} {l : List ByteArray} {a k : Nat} (h : Thr s most f l a) (hf : first (s.extract a s.size) most = ((k : Int), 0)) (hk : 2 ≤ k) (hk2 : a + k ≤ s.size) (h0 : f (s.extract a (a + k)) = 0) : Thr s most f (l ++ [s.extract a (a + k)]) (a + k) := by
  obtain ⟨u, h1, h2, h3, h4⟩ := h
  obtain ⟨v, rfl⟩ : ∃ v, u = v + 1 := ⟨u - 1, by omega⟩
  refine ⟨v, by omega, hk2, by simp; omega, ?_⟩
  rw [h4, thr, hf]
  simp [h0]
theorem Thr.left {s : ByteArray} {most : Int} {f : ByteArray → Int} {l : List ByteArray} {a k : Nat} (h : Thr s most f l a) (hf : first (s.extract a s.size) most = ((k : Int), 0)) (h0 : f (s.extract a (a + k)) ≠ 0) : thr s most f (s.size + 1) 0 = (l, a, f (s.extract a (a + k))) := by
  obtain ⟨u, h1, h2, h3, h4⟩ := h
  obtain ⟨v, rfl⟩ : ∃ v, u = v + 1 := ⟨u - 1, by omega⟩
  rw [h4, thr, hf]
  simp [h0]
theorem Thr.stop {s : ByteArray} {most : Int} {f : ByteArray → Int} {l : List ByteArray} {a : Nat} (h : Thr s most f l a) (hf : (first (s.extract a s.size) most).2 ≠ 0) : thr s most f (s.size + 1) 0 = (l, a, if (first (s.extract a s.size) most).2 = 242 then 0 else (first (s.extract a s.size) most).2) := by
  obtain ⟨u, h1, h2, h3, h4⟩ := h
  obtain ⟨v, rfl⟩ : ∃ v, u = v + 1 := ⟨u - 1, by omega⟩
  rw [h4, thr, if_neg hf]
  simp
theorem Thr.size {s : ByteArray} {most : Int} {f : ByteArray → Int} {l : List ByteArray} {a : Nat} (h : Thr s most f l a) : a ≤ s.size ∧ 2 * l.length ≤ a := by
  obtain ⟨u, h1, h2, h3, h4⟩ := h
  exact ⟨h2, h3⟩
end ST
end Go.Proofs.YtlfgndhdifpngaaGreatDoor
namespace Go.Proofs.YtlfgndhdifpngaaGreatDoor
open Go.RowKit

theorem empty_list {s : ByteArray} (h : s.size = 0) : s = ⟨#[]⟩ := by
  cases s with | mk d => cases d with | mk l => cases l with
    | nil => rfl
    | cons a b => simp [ByteArray.size] at h
theorem nonempty_list {s : ByteArray} (h : s.size ≠ 0) : (s.toList == []) = false := by
  rw [beq_eq_false_iff_ne]
  intro e
  rw [ByteArray.toList_eq] at e
  apply h
  cases s with | mk d => cases d with | mk l => cases l with
    | nil => rfl
    | cons a b => simp at e
theorem st_from (s : ByteArray) (k : Nat) (h : k ≤ s.size) (w : World) :
    (Instr.slice 9 (.string s) (some (.int .i64 (k : Int))) none none).run Tryz.prog w = .ok (.string (s.extract k s.size)) w := by
  rw [run_slice_string_from_if w 9 s .i64 _ Tryz.underlying9, if_pos (by omega)]
  rfl
theorem st_upto (s : ByteArray) (k : Nat) (h : k ≤ s.size) (w : World) :
    (Instr.slice 9 (.string s) none (some (.int .i64 (k : Int))) none).run Tryz.prog w = .ok (.string (s.extract 0 k)) w := by
  rw [run_slice_string_to_if w 9 s .i64 _ Tryz.underlying9, if_pos (by omega)]
  rfl
theorem st_part (s : ByteArray) (a k : Nat) (h : a + k ≤ s.size) (w : World) :
    (Instr.slice 9 (.string s) (some (.int .i64 (a : Int))) (some (.int .i64 ((a : Int) + (k : Int)))) none).run Tryz.prog w = .ok (.string (s.extract a (a + k))) w := by
  rw [run_slice_string_if w 9 s .i64 .i64 _ _ Tryz.underlying9, if_pos (by omega), if_pos (by omega)]
  have e1 : ((a : Int)).toNat = a := by omega
  have e2 : ((a : Int) + (k : Int)).toNat = a + k := by omega
  rw [e1, e2]

set_option maxRecDepth 100000 in
set_option maxHeartbeats 1000000 in
theorem first_any (s : ByteArray) (most : Int) (hs : s.size ≤ 140737488351232) (w : World) :
    Calls Tryz.prog 65 #[.string s, .int .i64 most] w fun e w' => e = .returned (.tuple #[.int .i64 (ST.first s most).1, .int .u8 (ST.first s most).2]) ∧ w = w' := by
  by_cases h0 : s.size = 0
  · have e : ST.first s most = (0, 242) := by unfold ST.first; rw [if_pos h0]
    rw [e]
    obtain rfl := empty_list h0
    go_enter Tryz.func65, Tryz.ntmps65
    go_wp2
    go_ret2
    exact ⟨rfl, rfl⟩
  have hne := nonempty_list h0
  have C := Lib.hid (get_any s 1 (by unfold maxLen; omega))
  by_cases h1 : (VP.get s 1).2.2 ≠ 0
  · have e : ST.first s most = (0, (VP.get s 1).2.2) := by unfold ST.first; rw [if_neg h0, if_pos h1]
    rw [e]
    generalize VP.get s 1 = X at *
    obtain ⟨n, b, c⟩ := X
    simp only at C h1 ⊢
    have hc : (c != 0) = true := by rw [bne_iff_ne]; exact h1
    go_enter Tryz.func65, Tryz.ntmps65
    go_wp2_with fail
    refine (C.out _).mono ?_
    rintro e w' ⟨rfl, rfl⟩
    go_wp2
    go_ret2
    exact ⟨rfl, rfl⟩
  obtain ⟨n, b, hg, hn, hb1, hb2⟩ := ST.get1 s h0 (Classical.not_not.1 h1)
  have e : ST.first s most = if most < (b : Int) + n then (0, 149) else if (s.size : Int) < (b : Int) + n then (0, 242) else ((b : Int) + n, 0) := by unfold ST.first; rw [if_neg h0, if_neg h1, hg]
  rw [e]
  rw [hg] at C
  simp only at C
  clear hg h1 e h0
  by_cases h2 : most < (b : Int) + n
  · rw [if_pos h2]
    go_enter Tryz.func65, Tryz.ntmps65
    go_wp2_with fail
    refine (C.out _).mono ?_
    rintro e w' ⟨rfl, rfl⟩
    go_wp2
    go_ret2
    exact ⟨rfl, rfl⟩
  rw [if_neg h2]
  by_cases h3 : (s.size : Int) < (b : Int) + n
  · rw [if_pos h3]
    go_enter Tryz.func65, Tryz.ntmps65
    go_wp2_with fail
    refine (C.out _).mono ?_
    rintro e w' ⟨rfl, rfl⟩
    go_wp2
    go_ret2
    exact ⟨rfl, rfl⟩
  rw [if_neg h3]
  go_enter Tryz.func65, Tryz.ntmps65
  go_wp2_with fail
  refine (C.out _).mono ?_
  rintro e w' ⟨rfl, rfl⟩
  go_wp2
  go_ret2
  exact ⟨rfl, rfl⟩
end Go.Proofs.YtlfgndhdifpngaaGreatDoor
namespace Go.Proofs.YtlfgndhdifpngaaGreatDoor
open Go.RowKit
attribute [local go_sem ↓] Go.wp_at_zero Go.wp_at_succ

namespace PK
/-- The first byte. -/
def b0 (s : ByteArray) : Int := if h : 0 < s.size then ((s[0]'h).toNat : Int) else 0
/-- What speaks against a packet's length. -/
def hdC (s : ByteArray) : Int := if (VP.get s 1).2.2 = 0 then lenC (VP.get s 1).1 ((s.size : Int) - (VP.get s 1).2.1) else (VP.get s 1).2.2
/-- The packet that bytes are, and the code. -/
def getPk (s : ByteArray) : Pk × Int :=
  if s.size = 0 then (zeroPk, 242) else if begOk (b0 s) = false then (zeroPk, 129) else if hdC s ≠ 0 then (zeroPk, hdC s)
  else if (rdWhole s (VP.get s 1).2.1 (begPk (b0 s))).2 ≠ 0 then (zeroPk, (rdWhole s (VP.get s 1).2.1 (begPk (b0 s))).2) else ((rdWhole s (VP.get s 1).2.1 (begPk (b0 s))).1, 0)
end PK
/-- What Get answers. -/
def GtP (w : World) (X : Pk × Int) (e : Ending) (w' : World) : Prop :=
  (X.2 = 0 → ∃ vc vp vw vs vf, e = .returned (.tuple #[.agg (pkCells X.1 vc vp vw vs vf), .int .u8 0]) ∧ Own5 w.heap.size X.1 vc vp vw vs vf w') ∧ (X.2 ≠ 0 → e = .returned (.tuple #[.agg (pkNil PK.zeroPk), .int .u8 X.2])) ∧ Below w.heap.size w w'
theorem GtP.bad {w w' : World} {c : Int} (hc : c ≠ 0) (hb : Below w.heap.size w w') : GtP w (PK.zeroPk, c) (.returned (.tuple #[.agg (pkNil PK.zeroPk), .int .u8 c])) w' :=
  ⟨fun h => absurd h hc, fun _ => rfl, hb⟩
theorem below_of_gr {n r : Nat} {w W W' : World} (h : Below n w W) (hn : n ≤ W.heap.size) (hr : n ≤ r) (g : Gr r W W') : Below n w W' :=
  h.trans ⟨g.os, g.tape, g.output, g.size, fun i hi => g.block i (by omega) (fun e => by injection e with e; omega)⟩
theorem pbegin_any (n : Int) (h0 : 0 ≤ n) (h1 : n ≤ 255) (w : World) :
    Calls Tryz.prog 20 #[.int .u8 n] w fun e w' => e = .returned (.tuple #[.agg (pkNil (PK.begPk n)), .bool (PK.begOk n)]) ∧ Below w.heap.size w w' := by
  by_cases h3 : n / 16 = 3
  · exact begin_pub n h0 h1 h3 w
  · exact begin_other n h0 h1 h3 w
theorem beg_kind (n : Int) (h : PK.begOk n = true) : 1 ≤ (PK.begPk n).kind ∧ (PK.begPk n).kind ≤ 15 ∧ Bare (PK.begPk n) := by
  by_cases h3 : n / 16 = 3
  · unfold PK.begPk; rw [if_pos h3]
    exact ⟨(by decide : (1 : Int) ≤ 3), (by decide : (3 : Int) ≤ 15), ⟨rfl, rfl, rfl, rfl, rfl, rfl⟩⟩
  · unfold PK.begOk at h
    rw [if_neg h3] at h
    unfold PK.begPk; rw [if_neg h3]
    simp [PK.isK] at h
    exact ⟨h.1.1, h.1.2, ⟨rfl, rfl, rfl, rfl, rfl, rfl⟩⟩

set_option maxRecDepth 100000 in
set_option maxHeartbeats 4000000 in
theorem get_pk_any (s : ByteArray) (hs : s.size ≤ 140737488351232) (w : World) (hT : ∀ W, Below w.heap.size w W → Tabs W) :
    Calls Tryz.prog 7 #[.string s] w (GtP w (PK.getPk s)) := by
  have Z : Hid ((w.alloc (.cells (pkNil PK.zeroPk) 31)).heap[w.heap.size]? = some (.cells (pkNil PK.zeroPk) 31 (0, 0))) := Lib.hid (heap_alloc_new w _)
  have HB : Hid (Below w.heap.size w (w.alloc (.cells (pkNil PK.zeroPk) 31))) := Lib.hid ((Below.refl _ _).alloc (Nat.le_refl _) _)
  have O1 := Lib.hid (pkNil_one PK.zeroPk)
  have fin : ∀ (W : World) (c : Int), Below w.heap.size w W → W.heap[w.heap.size]? = some (.cells (pkNil PK.zeroPk) 31 (0, 0)) → c ≠ 0 →
      ((Sem.run Tryz.prog (asAddr (.pointer (some ⟨w.heap.size, 0, none⟩))) (W.setRow w.heap.size (pkNil PK.zeroPk))).andThen fun a w' => (Sem.run Tryz.prog (loadVar 31 a) w').andThen fun a w' => Result.ok (Value.tuple #[a, .int .u8 c]) w') = .ok (Value.tuple #[.agg (pkNil PK.zeroPk), .int .u8 c]) (W.setRow w.heap.size (pkNil PK.zeroPk)) ∧ GtP w (PK.zeroPk, c) (.returned (.tuple #[.agg (pkNil PK.zeroPk), .int .u8 c])) (W.setRow w.heap.size (pkNil PK.zeroPk)) :=
    fun W c hb hz hc => ⟨read_two (load_pk_var (P := PK.zeroPk) (vc := .slice none 0 0) (vp := .slice none 0 0) (vw := .slice none 0 0) (vs := .slice none 0 0) (vf := .slice none 0 0) (setRow_heap hz)), GtP.bad hc (below_setRow hb (Nat.le_refl _) _)⟩
  have FIN := Lib.hid fin
  clear fin
  obtain ⟨X, hX⟩ : ∃ X, X = PK.getPk s := ⟨_, rfl⟩
  rw [← hX]
  unfold PK.getPk at hX
  by_cases h0 : s.size = 0
  · rw [if_pos h0] at hX
    subst hX
    obtain rfl := empty_list h0
    go_enter Tryz.func7, Tryz.ntmps7
    go_wp2_with (refine wpList_store_row (by rfl) 31 (.tmp 2) (.tmp 12) (by rfl) w.heap.size (pkNil PK.zeroPk) (by rfl) (by rfl) 31 (pkNil PK.zeroPk) Z.out pk_info rfl O1.out ?_)
    obtain ⟨f1, f2⟩ := FIN.out _ 242 HB.out Z.out (by decide)
    refine bodyPost_ret (v := .tuple #[.agg (pkNil PK.zeroPk), .int .u8 242]) ?_ rfl f2
    simp only [results, Tryz.results7]
    simp
    exact f1
  rw [if_neg h0] at hX
  have hne := nonempty_list h0
  have hpos : 0 < s.size := by omega
  have hn : PK.b0 s = ((s[0]'hpos).toNat : Int) := by unfold PK.b0; rw [dif_pos hpos]
  have hn1 := VP.byte_lt s 0 hpos
  have hnn : 0 ≤ PK.b0 s ∧ PK.b0 s ≤ 255 := by rw [hn]; omega
  have CB : Hid (∀ W, Calls Tryz.prog 20 #[.int .u8 ((s[0]'hpos).toNat : Int)] W fun e w' => e = .returned (.tuple #[.agg (pkNil (PK.begPk (PK.b0 s))), .bool (PK.begOk (PK.b0 s))]) ∧ Below W.heap.size W w') := Lib.hid (fun W => by
    have := pbegin_any (PK.b0 s) hnn.1 hnn.2 W
    rwa [show Value.int .u8 (PK.b0 s) = .int .u8 ((s[0]'hpos).toNat : Int) from by rw [hn]] at this)
  have HK := Lib.hid (beg_kind (PK.b0 s))
  generalize PK.begPk (PK.b0 s) = P at *
  generalize PK.begOk (PK.b0 s) = ok at *
  clear hn hnn
  have HX := Lib.hid hX
  clear hX
  cases ok
  · have EX : Hid (X = (PK.zeroPk, 129)) := Lib.hid (by rw [HX.out, if_pos rfl])
    clear HX HK
    go_enter Tryz.func7, Tryz.ntmps7
    go_wp2_with fail
    refine (CB.out _).mono ?_
    rintro e w1 ⟨rfl, b1⟩
    have z1 := (b1.block _ (lt_heap Z.out)).trans Z.out
    have hw1 := HB.out.trans (b1.mono HB.out.size)
    have Z1 : Hid ((w1.alloc (.cells (pkNil PK.zeroPk) 31)).heap[w1.heap.size]? = some (.cells (pkNil PK.zeroPk) 31 (0, 0))) := Lib.hid (heap_alloc_new w1 _)
    have OP := Lib.hid (pkNil_one P)
    have hlt := lt_heap z1
    have Z2 : Hid (((w1.alloc (.cells (pkNil PK.zeroPk) 31)).setRow w1.heap.size (pkNil P)).heap[w.heap.size]? = some (.cells (pkNil PK.zeroPk) 31 (0, 0))) := Lib.hid ((setRow_other _ (by omega)).trans ((Below.heap_alloc _ _ _ hlt).trans z1))
    have B2 : Hid (Below w.heap.size w ((w1.alloc (.cells (pkNil PK.zeroPk) 31)).setRow w1.heap.size (pkNil P))) := Lib.hid (below_setRow (hw1.alloc (by omega) _) (by omega) _)
    clear b1 z1 hw1 CB
    go_wp2_with (first
      | refine wpList_store_row (by rfl) 31 (.tmp 4) (.tmp 17) (by rfl) w1.heap.size (pkNil P) (by rfl) (by rfl) 31 (pkNil PK.zeroPk) Z1.out pk_info rfl OP.out ?_
      | refine wpList_store_row (by rfl) 31 (.tmp 2) (.tmp 21) (by rfl) w.heap.size (pkNil PK.zeroPk) (by rfl) (by rfl) 31 (pkNil PK.zeroPk) Z2.out pk_info rfl O1.out ?_)
    obtain ⟨f1, f2⟩ := FIN.out _ 129 B2.out Z2.out (by decide)
    rw [EX.out]
    refine bodyPost_ret (v := .tuple #[.agg (pkNil PK.zeroPk), .int .u8 129]) ?_ rfl f2
    simp only [results, Tryz.results7]
    simp
    exact f1
  · obtain ⟨hk1, hk2, hB⟩ := HK.out rfl
    have HK1 := Lib.hid hk1; have HK2 := Lib.hid hk2; have HBa := Lib.hid hB
    have CG := Lib.hid (get_any s 1 (by unfold maxLen; omega))
    have CL := Lib.hid lencode_any
    clear HK hk1 hk2 hB
    go_enter Tryz.func7, Tryz.ntmps7
    go_wp2_with fail
    refine (CB.out _).mono ?_
    rintro e w1 ⟨rfl, b1⟩
    have z1 := (b1.block _ (lt_heap Z.out)).trans Z.out
    have hw1 := HB.out.trans (b1.mono HB.out.size)
    have Z1 : Hid ((w1.alloc (.cells (pkNil PK.zeroPk) 31)).heap[w1.heap.size]? = some (.cells (pkNil PK.zeroPk) 31 (0, 0))) := Lib.hid (heap_alloc_new w1 _)
    have OP := Lib.hid (pkNil_one P)
    have hlt := lt_heap z1
    go_upto_region 4 with (refine wpList_store_row (by rfl) 31 (.tmp 4) (.tmp 17) (by rfl) w1.heap.size (pkNil P) (by rfl) (by rfl) 31 (pkNil PK.zeroPk) Z1.out pk_info rfl OP.out ?_)
    obtain ⟨wA, hwA⟩ : ∃ wA, wA = (w1.alloc (.cells (pkNil PK.zeroPk) 31)).setRow w1.heap.size (pkNil P) := ⟨_, rfl⟩
    have Z2 : Hid (wA.heap[w.heap.size]? = some (.cells (pkNil PK.zeroPk) 31 (0, 0))) := Lib.hid (by rw [hwA]; exact (setRow_other _ (by omega)).trans ((Below.heap_alloc _ _ _ hlt).trans z1))
    have B2 : Hid (Below w.heap.size w wA) := Lib.hid (by rw [hwA]; exact below_setRow (hw1.alloc (by omega) _) (by omega) _)
    have P2 : Hid (wA.heap[w1.heap.size]? = some (.cells (pkNil P) 31 (0, 0))) := Lib.hid (by rw [hwA]; exact setRow_heap Z1.out)
    change Code.wp _ _ _ _ ((w1.alloc (.cells (pkNil PK.zeroPk) 31)).setRow w1.heap.size (pkNil P))
    rw [← hwA]
    have hsA : w1.heap.size < wA.heap.size := lt_heap P2.out
    clear hwA Z1 b1 z1 hw1 CB OP
    by_cases hc : (VP.get s 1).2.2 = 0
    · obtain ⟨m, b, hg, hm, hb1, hb2⟩ := ST.get1 s h0 hc
      have hd : PK.hdC s = PK.lenC (m : Int) ((s.size : Int) - (b : Int)) := by unfold PK.hdC; rw [if_pos hc, hg]
      rw [hg] at CG
      have EX : Hid (X = if PK.lenC (m : Int) ((s.size : Int) - (b : Int)) ≠ 0 then (PK.zeroPk, PK.lenC (m : Int) ((s.size : Int) - (b : Int))) else if (PK.rdWhole s (b : Int) P).2 ≠ 0 then (PK.zeroPk, (PK.rdWhole s (b : Int) P).2) else ((PK.rdWhole s (b : Int) P).1, 0)) := Lib.hid (by rw [HX.out, if_neg (by decide), hd, hg])
      simp only at CG
      clear hc hd hg HX
      have DL := Lib.hid (CL.out (m : Int) ((s.size : Int) - (b : Int)))
      generalize PK.lenC (m : Int) ((s.size : Int) - (b : Int)) = c at *
      clear CL
      by_cases hc : c = 0
      · subst hc
        have EX2 : Hid (X = if (PK.rdWhole s (b : Int) P).2 ≠ 0 then (PK.zeroPk, (PK.rdWhole s (b : Int) P).2) else ((PK.rdWhole s (b : Int) P).1, 0)) := Lib.hid (by rw [EX.out, if_neg (by decide)])
        have hsz3 : (wA.alloc (.cells #[.string s, .int .i64 (b : Int)] 85)).heap.size = wA.heap.size + 1 := by simp
        have B3 : Below w.heap.size w (wA.alloc (.cells #[.string s, .int .i64 (b : Int)] 85)) := B2.out.alloc (by omega) _
        have R3 : RdAt wA.heap.size s (b : Int) (wA.alloc (.cells #[.string s, .int .i64 (b : Int)] 85)) := heap_alloc_new wA _
        have P3 := (Below.heap_alloc wA (.cells #[.string s, .int .i64 (b : Int)] 85) _ hsA).trans P2.out
        have Z3 := Lib.hid ((Below.heap_alloc wA (.cells #[.string s, .int .i64 (b : Int)] 85) _ (lt_heap Z2.out)).trans Z2.out)
        have CC := Lib.hid (caught_any wA.heap.size #[.pointer (some ⟨wA.heap.size, 0, none⟩), .pointer (some ⟨w1.heap.size, 0, none⟩)] (PK.rdWhole s (b : Int) P) _ (by omega)
          (fun W hW => getfn_any wA.heap.size w1.heap.size s (b : Int) P W HK1.out HK2.out HBa.out (R3.below hW) ((hW.block _ (lt_heap P3)).trans P3) hs
            (fun W' hg => hT W' (below_of_gr (B3.trans (hW.mono B3.size)) (by have := hW.size; omega) (by omega) hg))))
        have HB3 := Lib.hid B3
        have HSZ := Lib.hid hsz3
        generalize PK.rdWhole s (b : Int) P = Y at *
        have hmf : ∀ (fn : Fn) (first cap : Array Value) (w : World), (Instr.makeFunc fn first cap).run Tryz.prog w = .ok (.func fn first cap) w := fun _ _ _ _ => rfl
        clear EX B3 R3 P3 hT P2 Z2 B2 hsz3
        go_wp2_with fail
        refine (CG.out _).mono ?_
        rintro e w' ⟨rfl, rfl⟩
        go_wp2_with fail
        refine (DL.out _).mono ?_
        rintro e w' ⟨rfl, rfl⟩
        go_wp2_with fail
        refine CC.out.mono ?_
        rintro e w4 hR
        by_cases h1 : Y.2 = 0
        · obtain ⟨vc, vp, vw, vs, vf, rfl, o1, g1⟩ := hR.1 h1
          have z4 := Lib.hid ((g1.block _ (lt_heap Z3.out) (fun e => by injection e with e; omega)).trans Z3.out)
          have W1 := Lib.hid (pk_one Y.1 o1)
          have B4 := Lib.hid (below_of_gr HB3.out HB3.out.size (by omega) g1)
          have O4 := Lib.hid o1
          have EX3 : Hid (X = (Y.1, 0)) := Lib.hid (by rw [EX2.out, if_neg (by simp [h1])])
          clear hR o1 g1 CC CG DL EX2 h1 Z3
          go_wp2_with (refine wpList_store_row (by rfl) 31 (.tmp 2) (.tmp 45) (by rfl) w.heap.size (pkCells Y.1 vc vp vw vs vf) (by rfl) (by rfl) 31 (pkNil PK.zeroPk) z4.out pk_info rfl W1.out ?_)
          rw [EX3.out]
          refine bodyPost_ret (v := .tuple #[.agg (pkCells Y.1 vc vp vw vs vf), .int .u8 0]) ?_ rfl ⟨fun _ => ⟨_, _, _, _, _, rfl, ?_⟩, fun h => absurd rfl h, below_setRow B4.out (Nat.le_refl _) _⟩
          · simp only [results, Tryz.results7]
            simp
            exact read_two (load_pk_var (setRow_heap z4.out))
          · have hz := HSZ.out
            have n5 := fun {e : TypeId} {k : Nat} {v : Value} {n : Nat} {xs : List Value} (ho : w4.ownsRow (wA.alloc (.cells #[.string s, .int .i64 (b : Int)] 85)).heap.size e k v n xs) => own_base' (C := w.heap.size) (own_setRow (g := w.heap.size) (pkCells Y.1 vc vp vw vs vf) ho (row_ne ho (by omega))) (by omega)
            exact ⟨n5 O4.out.codes, n5 O4.out.props, n5 O4.out.wprops, n5 O4.out.subs, n5 O4.out.filters⟩
        · obtain ⟨rfl, g1⟩ := hR.2 h1
          have z4 := Lib.hid ((g1.block _ (lt_heap Z3.out) (fun e => by injection e with e; omega)).trans Z3.out)
          have B4 := Lib.hid (below_of_gr HB3.out HB3.out.size (by omega) g1)
          have EX3 : Hid (X = (PK.zeroPk, Y.2)) := Lib.hid (by rw [EX2.out, if_pos h1])
          have H1 := Lib.hid h1
          clear hR g1 CC CG DL EX2 h1 Z3
          go_wp2_with (refine wpList_store_row (by rfl) 31 (.tmp 2) (.tmp 45) (by rfl) w.heap.size (pkNil PK.zeroPk) (by rfl) (by rfl) 31 (pkNil PK.zeroPk) z4.out pk_info rfl O1.out ?_)
          obtain ⟨f1, f2⟩ := FIN.out _ Y.2 B4.out z4.out H1.out
          rw [EX3.out]
          refine bodyPost_ret (v := .tuple #[.agg (pkNil PK.zeroPk), .int .u8 Y.2]) ?_ rfl f2
          simp only [results, Tryz.results7]
          simp
          exact f1
      · have e2 : (c != 0) = true := by rw [bne_iff_ne]; exact hc
        have EX2 : Hid (X = (PK.zeroPk, c)) := Lib.hid (by rw [EX.out, if_pos hc])
        have HC := Lib.hid hc
        clear EX hc
        go_wp2_with fail
        refine (CG.out _).mono ?_
        rintro e w' ⟨rfl, rfl⟩
        go_wp2_with fail
        refine (DL.out _).mono ?_
        rintro e w' ⟨rfl, rfl⟩
        go_wp2_with (refine wpList_store_row (by rfl) 31 (.tmp 2) (.tmp 38) (by rfl) w.heap.size (pkNil PK.zeroPk) (by rfl) (by rfl) 31 (pkNil PK.zeroPk) Z2.out pk_info rfl O1.out ?_)
        obtain ⟨f1, f2⟩ := FIN.out _ c B2.out Z2.out HC.out
        rw [EX2.out]
        refine bodyPost_ret (v := .tuple #[.agg (pkNil PK.zeroPk), .int .u8 c]) ?_ rfl f2
        simp only [results, Tryz.results7]
        simp
        exact f1
    · have hd : PK.hdC s = (VP.get s 1).2.2 := by unfold PK.hdC; rw [if_neg hc]
      have EX : Hid (X = (PK.zeroPk, (VP.get s 1).2.2)) := Lib.hid (by rw [HX.out, if_neg (by decide), hd, if_pos hc])
      generalize VP.get s 1 = Y at *
      obtain ⟨n, b, c⟩ := Y
      simp only at CG EX hc
      have e1 : (c == 0) = false := by rw [beq_eq_false_iff_ne]; exact hc
      have e2 : (c != 0) = true := by rw [bne_iff_ne]; exact hc
      clear hd HX
      have HC := Lib.hid hc
      clear hc
      go_wp2_with fail
      refine (CG.out _).mono ?_
      rintro e w' ⟨rfl, rfl⟩
      go_wp2_with (refine wpList_store_row (by rfl) 31 (.tmp 2) (.tmp 38) (by rfl) w.heap.size (pkNil PK.zeroPk) (by rfl) (by rfl) 31 (pkNil PK.zeroPk) Z2.out pk_info rfl O1.out ?_)
      obtain ⟨f1, f2⟩ := FIN.out _ c B2.out Z2.out HC.out
      rw [EX.out]
      refine bodyPost_ret (v := .tuple #[.agg (pkNil PK.zeroPk), .int .u8 c]) ?_ rfl f2
      simp only [results, Tryz.results7]
      simp
      exact f1
end Go.Proofs.YtlfgndhdifpngaaGreatDoor
namespace Go.Proofs.YtlfgndhdifpngaaGreatDoor
namespace PR

/-- X stands at the beginning of Y. -/
def Begins (X Y : ByteArray) : Prop := X.size ≤ Y.size ∧ ∀ (j : Nat) (h : j < X.size) (h' : j < Y.size), X[j]'h = Y[j]'h'
theorem begins_app (a b : ByteArray) : Begins a (a ++ b) := by
  refine ⟨by rw [ByteArray.size_append]; omega, fun j h h' => ?_⟩
  rw [ByteArray.getElem_append_left h]
theorem begins_cut (s : ByteArray) (k : Nat) : Begins (s.extract 0 k) s := by
  refine ⟨by rw [ByteArray.size_extract]; omega, fun j h h' => ?_⟩
  rw [ByteArray.getElem_extract]
  simp
theorem begins_both {X Y s : ByteArray} (hx : Begins X s) (hy : Begins Y s) (h : X.size ≤ Y.size) : Begins X Y := ⟨h, fun j h1 h2 => by
  have h3 : j < s.size := by have := hx.1; omega
  rw [hx.2 j h1 h3, hy.2 j h2 h3]⟩
theorem getG_more {X Y : ByteArray} (hb : Begins X Y) (k : Nat) : ∀ (u i : Nat) (n : Int), (VP.getG X k u i n).2.2 = 0 → VP.getG Y k u i n = VP.getG X k u i n
  | 0, i, n, h => by rw [VP.getG_0, VP.getG_0]
  | u + 1, i, n, h => by
    by_cases hx : k + i < X.size
    · have hy : k + i < Y.size := by have := hb.1; omega
      have he := hb.2 (k + i) hx hy
      unfold VP.getG at h ⊢
      rw [dif_pos hx] at h
      rw [dif_pos hx, dif_pos hy, ← he]
      by_cases hl : ((X[k + i]'hx).toNat : Int) < 128
      · rw [if_pos hl, if_pos hl]
      · rw [if_neg hl] at h
        rw [if_neg hl, if_neg hl]
        exact getG_more hb k u (i + 1) _ h
    · rw [VP.getG_end X k u i n hx] at h
      exact absurd h (by decide)
theorem getG_less {X Y : ByteArray} (hb : Begins X Y) (k : Nat) : ∀ (u i : Nat) (n : Int), (VP.getG Y k u i n).2.2 = 0 → (X.size : Int) < (VP.getG Y k u i n).2.1 → (VP.getG X k u i n).2.2 = 242
  | 0, i, n, h, _ => by rw [VP.getG_0] at h; exact absurd h (by decide)
  | u + 1, i, n, h, he => by
    by_cases hx : k + i < X.size
    · have hy : k + i < Y.size := by have := hb.1; omega
      have hxy := hb.2 (k + i) hx hy
      unfold VP.getG at h he ⊢
      rw [dif_pos hy] at h he
      rw [dif_pos hx, hxy]
      by_cases hl : ((Y[k + i]'hy).toNat : Int) < 128
      · rw [if_pos hl] at h he
        exfalso
        split at he
        · simp only at he; omega
        · rename_i hz
          rw [if_neg hz] at h
          exact absurd h (by decide)
      · rw [if_neg hl] at h he
        rw [if_neg hl]
        exact getG_less hb k u (i + 1) _ h he
    · rw [VP.getG_end X k u i n hx]
theorem get_0 (s : ByteArray) : VP.get s 0 = VP.getG s 0 4 0 0 := by
  unfold VP.get
  rw [if_neg (by omega)]
  rfl
theorem get_more {X Y : ByteArray} (hb : Begins X Y) (h : (VP.get X 0).2.2 = 0) : VP.get Y 0 = VP.get X 0 := by
  rw [get_0] at h
  rw [get_0, get_0]
  exact getG_more hb 0 4 0 0 h
theorem get_less {X Y : ByteArray} (hb : Begins X Y) (h : (VP.get Y 0).2.2 = 0) (he : (X.size : Int) < (VP.get Y 0).2.1) : (VP.get X 0).2.2 = 242 := by
  rw [get_0] at h he ⊢
  exact getG_less hb 0 4 0 0 h he

theorem putS_is {l : List Pr} (h : putC l = 0) : l.length ≤ 64 ∧ restC l 0 l = 0 ∧ putS l = strOfNums (VP.putL (allS l).size) ++ allS l := by
  unfold putC at h
  by_cases h1 : 64 < l.length
  · rw [if_pos h1] at h; exact absurd h (by decide)
  · rw [if_neg h1] at h
    by_cases h2 : restC l 0 l = 0
    · refine ⟨by omega, h2, ?_⟩
      unfold putS
      rw [if_neg h1, if_neg (by simp [h2])]
    · rw [if_pos h2] at h; exact absurd h h2
/-- A beginning of Put's bytes has the code Nothing. -/
theorem get_cut {l : List Pr} (h : putC l = 0) (k : Nat) (hk : k < (putS l).size) : (getL ((putS l).extract 0 k) 0).2.2 = 242 := by
  obtain ⟨hl, _, he⟩ := putS_is h
  have hz := allS_size l
  have hn : ((allS l).size : Int) ≤ 268435455 := by omega
  have hg := VP.get_put (n := ((allS l).size : Int)) (by omega) hn
  have hX := begins_cut (putS l) k
  have hH : Begins (strOfNums (VP.putL (allS l).size)) (putS l) := by rw [he]; exact begins_app _ _
  have hsz : (putS l).size = (VP.putL (allS l).size).length + (allS l).size := by rw [he, ByteArray.size_append, strOfNums_size]
  have hks : ((putS l).extract 0 k).size = k := by rw [ByteArray.size_extract]; omega
  by_cases hm : k < (VP.putL (allS l).size).length
  · have hb := begins_both hX hH (by rw [hks, strOfNums_size]; omega)
    have hc := get_less hb (by rw [hg]) (by rw [hg, hks]; simp only; omega)
    rw [getL_bad _ _ (by rw [hc]; decide)]
    exact hc
  · have hb := begins_both hH hX (by rw [hks, strOfNums_size]; omega)
    have hc := get_more hb (by rw [hg])
    rw [hg] at hc
    rw [getL_few _ 0 (allS l).size (VP.putL (allS l).size).length hc (by rw [hks]; omega)]

theorem rest_zero {l : List Pr} : ∀ (r : List Pr) (k : Nat), restC l k r = 0 → ∀ (j : Nat) (p : Pr), r[j]? = some p → oneC (l.take (k + j)) p = 0
  | [], k, _, j, p, hp => by simp at hp
  | q :: r, k, h, j, p, hp => by
    unfold restC at h
    by_cases h1 : oneC (l.take k) q = 0
    · rw [if_neg (by simp [h1])] at h
      match j, hp with
      | 0, hp => simp at hp; subst hp; exact h1
      | j + 1, hp =>
        have := rest_zero r (k + 1) h j p (by simpa using hp)
        rwa [show k + (j + 1) = k + 1 + j by omega]
    · rw [if_pos h1] at h; exact absurd h h1
theorem rest_all {L : List Pr} : ∀ (r s : List Pr) (k : Nat), (∀ (j : Nat) (p : Pr), r[j]? = some p → oneC (L.take (k + j)) p = 0) → restC L k (r ++ s) = restC L (k + r.length) s
  | [], s, k, _ => rfl
  | q :: r, s, k, h => by
    rw [List.cons_append, restC, if_neg (by simp [show oneC (L.take k) q = 0 from h 0 q rfl])]
    rw [rest_all r s (k + 1) (fun j p hp => by
      have := h (j + 1) p (by simpa using hp)
      rwa [show k + (j + 1) = k + 1 + j by omega] at this)]
    rw [List.length_cons, show k + 1 + r.length = k + (r.length + 1) by omega]
theorem ix_mem {id : Int} : ∀ (l : List Pr) (k : Nat), (∃ p ∈ l, p.id = id) → 0 ≤ ix id k l
  | [], k, h => by obtain ⟨p, hp, _⟩ := h; simp at hp
  | q :: l, k, h => by
    unfold ix
    by_cases hq : q.id = id
    · rw [if_pos (by simp [hq])]; omega
    · rw [if_neg (by simp [hq])]
      obtain ⟨p, hp, he⟩ := h
      rcases List.mem_cons.1 hp with rfl | hp
      · exact absurd he hq
      · exact ix_mem l (k + 1) ⟨p, hp, he⟩
/-- Put's code where the last property stands once more behind. -/
theorem put_again {l : List Pr} {q : Pr} (h : putC l = 0) (h64 : l.length < 64) (hq : l[l.length - 1]? = some q) : putC (l ++ [q]) = if q.id = 38 then 0 else 130 := by
  obtain ⟨_, hr, _⟩ := putS_is h
  have hz := rest_zero l 0 hr
  have h1 : restC (l ++ [q]) 0 (l ++ [q]) = oneC l q := by
    rw [rest_all l [q] 0 (fun j p hp => by
      have h2 := hz j p hp
      have hj : j < l.length := (List.getElem?_eq_some_iff.1 hp).1
      rwa [Nat.zero_add, List.take_append_of_le_length (by omega), ← Nat.zero_add j])]
    rw [Nat.zero_add, restC, restC, List.take_append_of_le_length (Nat.le_refl _), List.take_length]
    split
    · rfl
    · rename_i h3; have : oneC l q = 0 := by simpa using h3
      rw [this]
  have ho := hz _ q hq
  rw [Nat.zero_add] at ho
  have hid : idC (l.take (l.length - 1)) q.id = 0 := by
    unfold oneC at ho
    by_cases hi : idC (l.take (l.length - 1)) q.id = 0
    · exact hi
    · rw [if_pos hi] at ho; exact absurd ho hi
  have hv : valC q = 0 := by unfold oneC at ho; rwa [if_neg (by simp [hid])] at ho
  have hk : kd q.id ≠ 0 := by
    intro hk
    unfold idC at hid
    rw [if_pos hk] at hid
    exact absurd hid (by decide)
  unfold putC
  rw [if_neg (by rw [List.length_append, List.length_singleton]; omega), h1]
  by_cases h38 : q.id = 38
  · have hd : dup l q.id = false := by unfold dup; simp [h38]
    have : oneC l q = 0 := by unfold oneC idC; rw [if_neg hk, hd]; simp [hv]
    rw [this, if_pos h38]; simp
  · have hd : dup l q.id = true := by
      unfold dup
      have := ix_mem (id := q.id) l 0 ⟨q, List.mem_of_getElem? hq, rfl⟩
      simp [h38, this]
    have : oneC l q = 130 := by unfold oneC idC; rw [if_neg hk, hd]; simp
    rw [this, if_neg h38]; simp
end PR
end Go.Proofs.YtlfgndhdifpngaaGreatDoor
namespace Go.Proofs.YtlfgndhdifpngaaGreatDoor
namespace PR

/-- The bytes B stand in U from P on. -/
def Has (U : ByteArray) (P : Nat) (B : ByteArray) : Prop := P + B.size ≤ U.size ∧ ∀ (i : Nat) (hi : i < B.size) (hu : P + i < U.size), U[P + i]'hu = B[i]'hi

theorem ba_ext {A B : ByteArray} (hs : A.size = B.size) (h : ∀ (i : Nat) (h1 : i < A.size) (h2 : i < B.size), A[i]'h1 = B[i]'h2) : A = B := by
  apply ByteArray.ext
  apply Array.ext
  · exact hs
  · intro i h1 h2
    exact h i h1 h2

section
variable {U A B : ByteArray} {P : Nat}
theorem has_ext (h : Has U P B) : U.extract P (P + B.size) = B :=
  ba_ext (by have := h.1; rw [ByteArray.size_extract]; omega) (fun i h1 h2 => by rw [ByteArray.getElem_extract]; exact h.2 i h2 _)
theorem has_mk {q : Nat} (hpq : P ≤ q) (hq : q ≤ U.size) : Has U P (U.extract P q) :=
  ⟨by rw [ByteArray.size_extract]; omega, fun i hi hu => by rw [ByteArray.getElem_extract]⟩
theorem has_left (h : Has U P (A ++ B)) : Has U P A :=
  ⟨by have := h.1; rw [ByteArray.size_append] at this; omega, fun i hi hu => by rw [h.2 i (by rw [ByteArray.size_append]; omega) hu, ByteArray.getElem_append_left hi]⟩
theorem has_right (h : Has U P (A ++ B)) : Has U (P + A.size) B := by
  have h0 := h.1
  rw [ByteArray.size_append] at h0
  refine ⟨by omega, fun i hi hu => ?_⟩
  have h1 := h.2 (A.size + i) (by rw [ByteArray.size_append]; omega) (by omega)
  rw [ByteArray.getElem_append_right (by omega)] at h1
  simp only [Nat.add_sub_cancel_left, ← Nat.add_assoc] at h1
  exact h1
theorem has_both (ha : Has U P A) (hb : Has U (P + A.size) B) : Has U P (A ++ B) := by
  have h1 := ha.1; have h2 := hb.1
  refine ⟨by rw [ByteArray.size_append]; omega, fun i hi hu => ?_⟩
  rw [ByteArray.size_append] at hi
  by_cases h : i < A.size
  · rw [ByteArray.getElem_append_left h]; exact ha.2 i h hu
  · rw [ByteArray.getElem_append_right (by omega)]
    have h3 := hb.2 (i - A.size) (by omega) (by omega)
    have e : P + A.size + (i - A.size) = P + i := by omega
    simp only [e] at h3
    exact h3
theorem has_self (B : ByteArray) : Has B 0 B := ⟨by omega, fun i hi hu => by simp only [Nat.zero_add]⟩
theorem has_front (A B : ByteArray) : Has (A ++ B) 0 A := has_left (has_self _)
theorem has_back (A B : ByteArray) : Has (A ++ B) A.size B := by simpa using has_right (has_self (A ++ B))
theorem has_nil (h : P ≤ U.size) : Has U P ⟨#[]⟩ := ⟨h, fun i hi _ => absurd hi (Nat.not_lt_zero i)⟩
theorem has_num {xs : List Int} (h : Has U P (strOfNums xs)) (i : Nat) (hi : i < xs.length) (h0 : 0 ≤ xs[i]) (h1 : xs[i] < 256) (hu : P + i < U.size) : ((U[P + i]'hu).toNat : Int) = xs[i] := by
  rw [h.2 i (by rw [strOfNums_size]; exact hi) hu]
  exact VP.str_at xs i _ hi h0 h1
theorem num_has {xs : List Int} (hl : P + xs.length ≤ U.size) (h : ∀ (i : Nat) (hi : i < xs.length) (hu : P + i < U.size), ((U[P + i]'hu).toNat : Int) = xs[i]) : Has U P (strOfNums xs) := by
  refine ⟨by rw [strOfNums_size]; exact hl, fun i hi hu => ?_⟩
  have hi' : i < xs.length := by rw [strOfNums_size] at hi; exact hi
  have e1 := h i hi' hu
  have h2 := (U[P + i]'hu).toNat_lt
  have e2 := VP.str_at xs i hi hi' (by omega) (by omega)
  apply UInt8.toNat_inj.1
  omega

theorem get_has {n : Int} (h0 : 0 ≤ n) (h1 : n ≤ 268435455) (h : Has U P (strOfNums (VP.putL n))) : VP.get U P = (n, ((P + (strOfNums (VP.putL n)).size : Nat) : Int), 0) := by
  have hz := h.1
  have e : U.extract 0 U.size = U := by simp
  have hp := get_part (s := U) (f := P) (e := U.size) (by omega) (Nat.le_refl _) 0 (by omega)
  rw [e, Nat.add_zero] at hp
  have hb : Begins (strOfNums (VP.putL n)) (U.extract P U.size) := ⟨by rw [ByteArray.size_extract]; omega, fun j h2 h3 => by rw [ByteArray.getElem_extract]; exact (h.2 j h2 _).symm⟩
  have hg := VP.get_put h0 h1
  have hm := get_more hb (by rw [hg])
  rw [hg] at hm
  rw [show ((0 : Nat) : Int) = 0 from rfl, hm] at hp
  rw [hp, strOfNums_size]
  simp only [sh, if_true]
  refine Prod.ext rfl (Prod.ext ?_ rfl)
  simp only
  omega
theorem get_inv (hP : P ≤ U.size) (hc : (VP.get U P).2.2 = 0) : ∃ n, 0 ≤ n ∧ n ≤ 268435455 ∧ VP.get U P = (n, ((P + (strOfNums (VP.putL n)).size : Nat) : Int), 0) ∧ Has U P (strOfNums (VP.putL n)) ∧ 0 < (strOfNums (VP.putL n)).size := by
  obtain ⟨x, m, h1, h2, h3, h4, h5, h6, h7⟩ := VP.get_inv U P hP hc
  refine ⟨x, h3, h4, ?_, num_has (by omega) (fun i hi hu => h7 i hu hi), by rw [strOfNums_size]; omega⟩
  rw [h6, strOfNums_size, h5]
  refine Prod.ext rfl (Prod.ext ?_ rfl)
  simp only
  omega
theorem rd_has {w n : Int} (hc : VP.fixC w n = 0) (h : Has U P (strOfNums (VP.fixL w n))) : VP.rd U P w = (n, ((P + (strOfNums (VP.fixL w n)).size : Nat) : Int), 0) := by
  by_cases hw : VP.isW w
  · rcases hw with rfl | rfl | rfl
    · by_cases hn : n < 0 ∨ 255 < n
      · rw [(VP.fix_1out hn).2] at hc; exact absurd hc (by decide)
      · rw [(VP.fix_1 (n := n) (by omega) (by omega)).1] at h ⊢
        have hz := h.1
        rw [strOfNums_size] at hz ⊢
        simp only [List.length_cons, List.length_nil] at hz ⊢
        have b0 := has_num h 0 (by simp) (by simp; omega) (by simp; omega) (by omega)
        simp only [Nat.add_zero, List.getElem_cons_zero] at b0
        rw [VP.rd_1 U P (by omega), b0]
        refine Prod.ext rfl (Prod.ext ?_ rfl)
        simp only
        omega
    · by_cases hn : n < 0 ∨ 65535 < n
      · rw [(VP.fix_2out hn).2] at hc; exact absurd hc (by decide)
      · rw [(VP.fix_2 (n := n) (by omega) (by omega)).1] at h ⊢
        have hz := h.1
        rw [strOfNums_size] at hz ⊢
        simp only [List.length_cons, List.length_nil] at hz ⊢
        have b0 := has_num h 0 (by simp) (by simp; omega) (by simp; omega) (by omega)
        have b1 := has_num h 1 (by simp) (by simp; omega) (by simp; omega) (by omega)
        simp only [Nat.add_zero, List.getElem_cons_zero, List.getElem_cons_succ] at b0 b1
        rw [VP.rd_2 U P (by omega), b0, b1]
        refine Prod.ext ?_ (Prod.ext ?_ rfl)
        · simp only; omega
        · simp only; omega
    · by_cases hn : n < 0 ∨ 4294967295 < n
      · rw [(VP.fix_4out hn).2] at hc; exact absurd hc (by decide)
      · rw [(VP.fix_4 (n := n) (by omega) (by omega)).1] at h ⊢
        have hz := h.1
        rw [strOfNums_size] at hz ⊢
        simp only [List.length_cons, List.length_nil] at hz ⊢
        have b0 := has_num h 0 (by simp) (by simp; omega) (by simp; omega) (by omega)
        have b1 := has_num h 1 (by simp) (by simp; omega) (by simp; omega) (by omega)
        have b2 := has_num h 2 (by simp) (by simp; omega) (by simp; omega) (by omega)
        have b3 := has_num h 3 (by simp) (by simp; omega) (by simp; omega) (by omega)
        simp only [Nat.add_zero, List.getElem_cons_zero, List.getElem_cons_succ] at b0 b1 b2 b3
        rw [VP.rd_4 U P (by omega), b0, b1, b2, b3]
        refine Prod.ext ?_ (Prod.ext ?_ rfl)
        · simp only; omega
        · simp only; omega
  · rw [(VP.fix_no hw).2] at hc; exact absurd hc (by decide)
theorem rd_inv {w : Int} (hc : (VP.rd U P w).2.2 = 0) : ∃ n, VP.fixC w n = 0 ∧ VP.rd U P w = (n, ((P + (strOfNums (VP.fixL w n)).size : Nat) : Int), 0) ∧ Has U P (strOfNums (VP.fixL w n)) := by
  suffices h : VP.fixC w (VP.rd U P w).1 = 0 ∧ Has U P (strOfNums (VP.fixL w (VP.rd U P w).1)) from ⟨_, h.1, rd_has h.1 h.2, h.2⟩
  by_cases hP : P ≤ U.size
  · by_cases hw : VP.isW w
    · rcases hw with rfl | rfl | rfl
      · by_cases hs : P < U.size
        · rw [VP.rd_1 U P hs]
          have h0 := (U[P]'hs).toNat_lt
          obtain ⟨f1, f2⟩ := VP.fix_1 (n := ((U[P]'hs).toNat : Int)) (by omega) (by omega)
          simp only
          rw [f1, f2]
          refine ⟨rfl, num_has (by simp; omega) (fun i hi hu => ?_)⟩
          match i, hi with
          | 0, _ => simp
        · rw [VP.rd_1few U P hP hs] at hc; exact absurd hc (by decide)
      · by_cases hs : P + 1 < U.size
        · rw [VP.rd_2 U P hs]
          have h0 := (U[P]'(by omega)).toNat_lt
          have h1 := (U[P + 1]'hs).toNat_lt
          obtain ⟨f1, f2⟩ := VP.fix_2 (n := ((U[P]'(by omega)).toNat : Int) * 256 + (U[P + 1]'hs).toNat) (by omega) (by omega)
          simp only
          rw [f1, f2]
          refine ⟨rfl, num_has (by simp; omega) (fun i hi hu => ?_)⟩
          match i, hi with
          | 0, _ => simp only [Nat.add_zero, List.getElem_cons_zero]; omega
          | 1, _ => simp only [List.getElem_cons_succ, List.getElem_cons_zero]; omega
        · rw [VP.rd_2few U P hP hs] at hc; exact absurd hc (by decide)
      · by_cases hs : P + 3 < U.size
        · rw [VP.rd_4 U P hs]
          have h0 := (U[P]'(by omega)).toNat_lt
          have h1 := (U[P + 1]'(by omega)).toNat_lt
          have h2 := (U[P + 2]'(by omega)).toNat_lt
          have h3 := (U[P + 3]'hs).toNat_lt
          obtain ⟨f1, f2⟩ := VP.fix_4 (n := ((((U[P]'(by omega)).toNat : Int) * 256 + (U[P + 1]'(by omega)).toNat) * 256 + (U[P + 2]'(by omega)).toNat) * 256 + (U[P + 3]'hs).toNat) (by omega) (by omega)
          simp only
          rw [f1, f2]
          refine ⟨rfl, num_has (by simp; omega) (fun i hi hu => ?_)⟩
          match i, hi with
          | 0, _ => simp only [Nat.add_zero, List.getElem_cons_zero]; omega
          | 1, _ => simp only [List.getElem_cons_succ, List.getElem_cons_zero]; omega
          | 2, _ => simp only [List.getElem_cons_succ, List.getElem_cons_zero]; omega
          | 3, _ => simp only [List.getElem_cons_succ, List.getElem_cons_zero]; omega
        · rw [VP.rd_4few U P hP hs] at hc; exact absurd hc (by decide)
    · rw [VP.rd_no _ _ _ hw] at hc; exact absurd hc (by decide)
  · rw [VP.rd_out _ _ _ (.inr (by omega))] at hc; exact absurd hc (by decide)

theorem dataS_is {s : ByteArray} (hs : s.size ≤ 65535) : TX.dataS s = strOfNums (VP.fixL 2 s.size) ++ s := by
  unfold TX.dataS
  rw [if_pos hs, (VP.fix_2 (n := (s.size : Int)) (by omega) (by omega)).1]
theorem fix2_size {n : Int} (h0 : 0 ≤ n) (h1 : n ≤ 65535) : (strOfNums (VP.fixL 2 n)).size = 2 := by
  rw [(VP.fix_2 h0 h1).1, strOfNums_size]; rfl
theorem dat_has {s : ByteArray} (hs : s.size ≤ 65535) (h : Has U P (TX.dataS s)) : VP.dat U P = (s, ((P + (TX.dataS s).size : Nat) : Int), 0) := by
  rw [dataS_is hs] at h ⊢
  have hz := h.1
  have f2 := fix2_size (n := (s.size : Int)) (by omega) (by omega)
  rw [ByteArray.size_append, f2] at hz ⊢
  have hr := rd_has (VP.fix_2 (n := (s.size : Int)) (by omega) (by omega)).2 (has_left h)
  have hb := has_right h
  rw [f2] at hr hb
  have hr' : VP.rd U P 2 = ((s.size : Int), (P : Int) + 2, 0) := by rw [hr]; refine Prod.ext rfl (Prod.ext ?_ rfl); simp only; omega
  rw [VP.dat_ok U P s.size hr' (by omega), has_ext hb]
  refine Prod.ext rfl (Prod.ext ?_ rfl)
  simp only
  omega
theorem dat_inv (hc : (VP.dat U P).2.2 = 0) : ∃ s : ByteArray, s.size ≤ 65535 ∧ VP.dat U P = (s, ((P + (TX.dataS s).size : Nat) : Int), 0) ∧ Has U P (TX.dataS s) := by
  suffices h : (VP.dat U P).1.size ≤ 65535 ∧ Has U P (TX.dataS (VP.dat U P).1) from ⟨_, h.1, dat_has h.1 h.2, h.2⟩
  by_cases h2 : (VP.rd U P 2).2.2 = 0
  · obtain ⟨k, L, hk, hk2, hL, hr⟩ := VP.rd2_ok _ _ h2
    have hkp : k = P := by omega
    subst hkp
    by_cases hl : (U.size : Int) - (k + 2) < L
    · rw [VP.dat_few U k L hr hl] at hc; exact absurd hc (by decide)
    · rw [VP.dat_ok U k L hr hl]
      simp only
      have hz : (U.extract (k + 2) (k + 2 + L)).size = L := by rw [ByteArray.size_extract]; omega
      refine ⟨by omega, ?_⟩
      rw [dataS_is (by omega), hz]
      obtain ⟨n, n1, n2, n3⟩ := rd_inv h2
      have hn : n = (L : Int) := by rw [hr] at n2; injection n2 with n2; exact n2.symm
      subst hn
      refine has_both n3 ?_
      rw [fix2_size (by omega) (by omega)]
      exact has_mk (by omega) (by omega)
  · rw [VP.dat_bad _ _ h2] at hc; exact absurd hc h2
theorem getT_has {s : ByteArray} (hc : TX.putC s = 0) (h : Has U P (TX.putS s)) : TX.getT U P = (s, ((P + (TX.putS s).size : Nat) : Int), 0) := by
  unfold TX.putC at hc
  unfold TX.putS at h ⊢
  by_cases hb : TX.bad s = true
  · rw [if_pos hb] at hc; exact absurd hc (by decide)
  · rw [if_neg hb] at hc h ⊢
    have hs : s.size ≤ 65535 := by
      unfold TX.dataC at hc
      by_cases hs : s.size ≤ 65535
      · exact hs
      · rw [if_neg hs] at hc; exact absurd hc (by decide)
    have hd := dat_has hs h
    unfold TX.getT
    rw [hd]
    simp only [ne_eq, not_true_eq_false, if_false]
    rw [if_neg hb]
theorem getT_inv (hc : (TX.getT U P).2.2 = 0) : ∃ s : ByteArray, TX.putC s = 0 ∧ TX.getT U P = (s, ((P + (TX.putS s).size : Nat) : Int), 0) ∧ Has U P (TX.putS s) := by
  suffices h : TX.putC (TX.getT U P).1 = 0 ∧ Has U P (TX.putS (TX.getT U P).1) from ⟨_, h.1, getT_has h.1 h.2, h.2⟩
  unfold TX.getT at hc ⊢
  by_cases h1 : (VP.dat U P).2.2 = 0
  · rw [if_neg (by simp [h1])] at hc ⊢
    by_cases hb : TX.bad (VP.dat U P).1 = true
    · rw [if_pos hb] at hc; exact absurd hc (by decide)
    · rw [if_neg hb]
      obtain ⟨s, s1, s2, s3⟩ := dat_inv h1
      rw [s2] at hb ⊢
      simp only at hb ⊢
      unfold TX.putC TX.putS TX.dataC
      rw [if_neg hb, if_neg hb, if_pos s1]
      exact ⟨rfl, s3⟩
  · rw [if_pos h1] at hc; exact absurd hc h1
end

/-- A property with what its kind asks for alone. -/
def nrm (p : Pr) : Pr := if kd p.id = 4 then ⟨p.id, p.n, ⟨#[]⟩, ⟨#[]⟩⟩ else if kd p.id = 5 then ⟨p.id, 0, p.s, ⟨#[]⟩⟩ else if kd p.id = 6 then ⟨p.id, 0, p.s, ⟨#[]⟩⟩ else if kd p.id = 7 then ⟨p.id, 0, p.s, p.t⟩ else ⟨p.id, p.n, ⟨#[]⟩, ⟨#[]⟩⟩
theorem nrm_id (p : Pr) : (nrm p).id = p.id := by unfold nrm; repeat' split
                                                  all_goals rfl
theorem pairC_zero {s t : ByteArray} (h : pairC s t = 0) : TX.putC s = 0 ∧ TX.putC t = 0 := by
  unfold pairC at h
  by_cases h1 : TX.putC s = 0
  · rw [if_neg (by simp [h1])] at h; exact ⟨h1, h⟩
  · rw [if_pos h1] at h; exact absurd h h1
theorem pairC_both {s t : ByteArray} (h1 : TX.putC s = 0) (h2 : TX.putC t = 0) : pairC s t = 0 ∧ pairS s t = TX.putS s ++ TX.putS t := by
  unfold pairC pairS
  rw [if_neg (by simp [h1]), if_neg (by simp [h1]), if_neg (by simp [h2])]
  exact ⟨h2, rfl⟩
theorem putC_inv {n : Int} (h : VP.putC n = 0) : 0 ≤ n ∧ n ≤ 268435455 := by
  unfold VP.putC at h
  split at h
  · exact absurd h (by decide)
  · omega

section
variable {U : ByteArray} {P : Nat}
theorem rdv_has {p : Pr} (hc : valC p = 0) (h : Has U P (valS p)) : rdv U P p.id = (nrm p, ((P + (valS p).size : Nat) : Int), 0) := by
  unfold valC at hc
  unfold valS at h ⊢
  unfold rdv nrm
  by_cases k4 : kd p.id = 4
  · simp only [k4, if_true] at hc h ⊢
    obtain ⟨h0, h1⟩ := putC_inv hc
    rw [get_has h0 h1 h]
  · by_cases k5 : kd p.id = 5
    · simp only [k5, show ((5 : Int) = 4) = False by decide, if_true, if_false] at hc h ⊢
      have hs : p.s.size ≤ 65535 := by
        unfold TX.dataC at hc
        by_cases hs : p.s.size ≤ 65535
        · exact hs
        · rw [if_neg hs] at hc; exact absurd hc (by decide)
      rw [dat_has hs h]
    · by_cases k6 : kd p.id = 6
      · simp only [k6, show ((6 : Int) = 4) = False by decide, show ((6 : Int) = 5) = False by decide, if_true, if_false] at hc h ⊢
        rw [getT_has hc h]
      · by_cases k7 : kd p.id = 7
        · simp only [k7, show ((7 : Int) = 4) = False by decide, show ((7 : Int) = 5) = False by decide, show ((7 : Int) = 6) = False by decide, if_true, if_false] at hc h ⊢
          obtain ⟨c1, c2⟩ := pairC_zero hc
          rw [(pairC_both c1 c2).2] at h ⊢
          have g1 := getT_has c1 (has_left h)
          have g2 := getT_has c2 (has_right h)
          rw [g1]
          simp only [ne_eq, not_true_eq_false, if_false]
          rw [g2, ByteArray.size_append, Nat.add_assoc]
        · simp only [k4, k5, k6, k7, if_false] at hc h ⊢
          rw [rd_has hc h]
theorem rdv_inv {id : Int} (hP : P ≤ U.size) (hc : (rdv U P id).2.2 = 0) : ∃ p : Pr, p.id = id ∧ nrm p = p ∧ valC p = 0 ∧ rdv U P id = (p, ((P + (valS p).size : Nat) : Int), 0) ∧ Has U P (valS p) := by
  suffices h : ∃ p : Pr, p.id = id ∧ nrm p = p ∧ valC p = 0 ∧ Has U P (valS p) by
    obtain ⟨p, rfl, h1, h2, h3⟩ := h
    exact ⟨p, rfl, h1, h2, by rw [rdv_has h2 h3, h1], h3⟩
  unfold rdv at hc
  by_cases k4 : kd id = 4
  · simp only [k4, if_true] at hc
    obtain ⟨n, n0, n1, n2, n3, _⟩ := get_inv hP hc
    refine ⟨⟨id, n, ⟨#[]⟩, ⟨#[]⟩⟩, rfl, ?_, ?_, ?_⟩
    · unfold nrm; simp only [k4, if_true]
    · unfold valC; simp only [k4, if_true]; exact VP.putC_in n0 n1
    · unfold valS; simp only [k4, if_true]; exact n3
  · by_cases k5 : kd id = 5
    · simp only [k5, show ((5 : Int) = 4) = False by decide, if_true, if_false] at hc
      obtain ⟨s, s1, s2, s3⟩ := dat_inv hc
      refine ⟨⟨id, 0, s, ⟨#[]⟩⟩, rfl, ?_, ?_, ?_⟩
      · unfold nrm; simp only [k5, show ((5 : Int) = 4) = False by decide, if_true, if_false]
      · unfold valC; simp only [k5, show ((5 : Int) = 4) = False by decide, if_true, if_false]; unfold TX.dataC; rw [if_pos s1]
      · unfold valS; simp only [k5, show ((5 : Int) = 4) = False by decide, if_true, if_false]; exact s3
    · by_cases k6 : kd id = 6
      · simp only [k6, show ((6 : Int) = 4) = False by decide, show ((6 : Int) = 5) = False by decide, if_true, if_false] at hc
        obtain ⟨s, s1, s2, s3⟩ := getT_inv hc
        refine ⟨⟨id, 0, s, ⟨#[]⟩⟩, rfl, ?_, ?_, ?_⟩
        · unfold nrm; simp only [k6, show ((6 : Int) = 4) = False by decide, show ((6 : Int) = 5) = False by decide, if_true, if_false]
        · unfold valC; simp only [k6, show ((6 : Int) = 4) = False by decide, show ((6 : Int) = 5) = False by decide, if_true, if_false]; exact s1
        · unfold valS; simp only [k6, show ((6 : Int) = 4) = False by decide, show ((6 : Int) = 5) = False by decide, if_true, if_false]; exact s3
      · by_cases k7 : kd id = 7
        · simp only [k7, show ((7 : Int) = 4) = False by decide, show ((7 : Int) = 5) = False by decide, show ((7 : Int) = 6) = False by decide, if_true, if_false] at hc
          by_cases h1 : (TX.getT U P).2.2 = 0
          · rw [if_neg (by simp [h1])] at hc
            obtain ⟨s, s1, s2, s3⟩ := getT_inv h1
            rw [s2] at hc
            simp only at hc
            obtain ⟨t, t1, t2, t3⟩ := getT_inv hc
            obtain ⟨b1, b2⟩ := pairC_both s1 t1
            refine ⟨⟨id, 0, s, t⟩, rfl, ?_, ?_, ?_⟩
            · unfold nrm; simp only [k7, show ((7 : Int) = 4) = False by decide, show ((7 : Int) = 5) = False by decide, show ((7 : Int) = 6) = False by decide, if_true, if_false]
            · unfold valC; simp only [k7, show ((7 : Int) = 4) = False by decide, show ((7 : Int) = 5) = False by decide, show ((7 : Int) = 6) = False by decide, if_true, if_false]; exact b1
            · unfold valS; simp only [k7, show ((7 : Int) = 4) = False by decide, show ((7 : Int) = 5) = False by decide, show ((7 : Int) = 6) = False by decide, if_true, if_false]; rw [b2]; exact has_both s3 t3
          · rw [if_pos h1] at hc; exact absurd hc h1
        · simp only [k4, k5, k6, k7, if_false] at hc
          obtain ⟨n, n1, n2, n3⟩ := rd_inv hc
          refine ⟨⟨id, n, ⟨#[]⟩, ⟨#[]⟩⟩, rfl, ?_, ?_, ?_⟩
          · unfold nrm; simp only [k4, k5, k6, k7, if_false]
          · unfold valC; simp only [k4, k5, k6, k7, if_false]; exact n1
          · unfold valS; simp only [k4, k5, k6, k7, if_false]; exact n3

theorem one_zero {out : List Pr} {p : Pr} (h : oneC out p = 0) : idC out p.id = 0 ∧ valC p = 0 := by
  unfold oneC at h
  by_cases hi : idC out p.id = 0
  · rw [if_neg (by simp [hi])] at h; exact ⟨hi, h⟩
  · rw [if_pos hi] at h; exact absurd h hi
theorem one_mk {out : List Pr} {p : Pr} (h1 : idC out p.id = 0) (h2 : valC p = 0) : oneC out p = 0 := by
  unfold oneC; rw [if_neg (by simp [h1])]; exact h2
theorem idC_kd {out : List Pr} {id : Int} (h : idC out id = 0) : 0 ≤ id ∧ id ≤ 42 := by
  by_cases hr : id < 0 ∨ 42 < id
  · unfold idC at h; rw [if_pos (kd_none hr)] at h; exact absurd h (by decide)
  · omega
theorem oneS_pos {out : List Pr} {p : Pr} (h : oneC out p = 0) : 0 < (oneS p).size := by
  obtain ⟨h0, h1⟩ := idC_kd (one_zero h).1
  unfold oneS
  rw [ByteArray.size_append, strOfNums_size, VP.putL_1 h0 (by omega)]
  simp; omega
theorem g1_has {out : List Pr} {p : Pr} (hl : out.length < 64) (ho : oneC out p = 0) (h : Has U P (oneS p)) : g1 U P out = (nrm p, ((P + (oneS p).size : Nat) : Int), 0) := by
  obtain ⟨hi, hv⟩ := one_zero ho
  obtain ⟨h0, h1⟩ := idC_kd hi
  unfold oneS at h ⊢
  have hg := get_has h0 (by omega) (has_left h)
  have hr := rdv_has hv (has_right h)
  unfold g1
  rw [if_neg (by omega), hg]
  simp only [ne_eq, not_true_eq_false, if_false]
  rw [hi, hr]
  simp only [not_true_eq_false, if_false]
  rw [ByteArray.size_append, Nat.add_assoc]
theorem g1_inv {out : List Pr} (hP : P ≤ U.size) (hc : (g1 U P out).2.2 = 0) : ∃ p : Pr, nrm p = p ∧ oneC out p = 0 ∧ out.length < 64 ∧ g1 U P out = (p, ((P + (oneS p).size : Nat) : Int), 0) ∧ Has U P (oneS p) := by
  suffices h : ∃ p : Pr, nrm p = p ∧ oneC out p = 0 ∧ out.length < 64 ∧ Has U P (oneS p) by
    obtain ⟨p, h1, h2, h3, h4⟩ := h
    exact ⟨p, h1, h2, h3, by rw [g1_has h3 h2 h4, h1], h4⟩
  unfold g1 at hc
  by_cases a1 : 64 ≤ out.length
  · rw [if_pos a1] at hc; exact absurd hc (by decide)
  · rw [if_neg a1] at hc
    by_cases a2 : (VP.get U P).2.2 = 0
    · rw [if_neg (by simp [a2])] at hc
      obtain ⟨id, i0, i1, i2, i3, _⟩ := get_inv hP a2
      rw [i2] at hc
      simp only at hc
      by_cases a3 : idC out id = 0
      · rw [if_neg (by simp [a3])] at hc
        by_cases a4 : (rdv U ((P + (strOfNums (VP.putL id)).size : Nat) : Int) id).2.2 = 0
        · obtain ⟨p, rfl, p1, p2, p3, p4⟩ := rdv_inv (by have := i3.1; omega) a4
          exact ⟨p, p1, one_mk a3 p2, by omega, has_both i3 p4⟩
        · rw [if_pos a4] at hc; exact absurd hc (by decide)
      · rw [if_pos a3] at hc; exact absurd hc a3
    · rw [if_pos a2] at hc; exact absurd hc (by decide)
end

theorem ix_nrm (id : Int) : ∀ (l : List Pr) (k : Nat), ix id k (l.map nrm) = ix id k l
  | [], k => rfl
  | p :: l, k => by rw [List.map_cons, ix, ix, nrm_id, ix_nrm id l]
theorem oneC_nrm (l : List Pr) (p : Pr) : oneC (l.map nrm) p = oneC l p := by
  unfold oneC idC dup
  rw [ix_nrm]
theorem gl_has {U : ByteArray} : ∀ (r out : List Pr) (u P : Nat), Has U P (allS r) → P + (allS r).size = U.size → r.length < u → out.length + r.length ≤ 64 → (∀ (j : Nat) (p : Pr), r[j]? = some p → oneC (out ++ r.take j) p = 0) → gl U u P (out.map nrm) = ((out ++ r).map nrm, 0)
  | r, out, 0, P, _, _, h, _, _ => absurd h (Nat.not_lt_zero _)
  | [], out, u + 1, P, _, hz, _, _, _ => by
    unfold gl
    have hz' : P = U.size := hz
    rw [if_pos (by omega), List.append_nil]
  | p :: r, out, u + 1, P, h, hz, hu, hl, ho => by
    have h0 := ho 0 p rfl
    rw [List.take_zero, List.append_nil] at h0
    rw [allS] at h hz
    rw [ByteArray.size_append] at hz
    simp only [List.length_cons] at hu hl
    have hp := oneS_pos h0
    have hg := g1_has (out := out.map nrm) (by rw [List.length_map]; omega) (by rw [oneC_nrm]; exact h0) (has_left h)
    unfold gl
    rw [if_neg (by omega), hg]
    simp only [ne_eq, not_true_eq_false, if_false]
    have e : out.map nrm ++ [nrm p] = (out ++ [p]).map nrm := by simp
    rw [e]
    have ih := gl_has r (out ++ [p]) u (P + (oneS p).size) (has_right h) (by omega) (by omega) (by rw [List.length_append, List.length_singleton]; omega) (fun j q hq => by
      have := ho (j + 1) q (by simpa using hq)
      rw [List.append_assoc]
      simpa using this)
    rw [ih, List.append_assoc, List.singleton_append]
theorem gl_inv {U : ByteArray} : ∀ (u : Nat) (P : Nat) (out : List Pr), P ≤ U.size → (gl U u P out).2 = 0 → out.length ≤ 64 → out.map nrm = out → Has U 0 (allS out) → (allS out).size = P → (∀ (j : Nat) (p : Pr), out[j]? = some p → oneC (out.take j) p = 0) →
    Has U 0 (allS (gl U u P out).1) ∧ (allS (gl U u P out).1).size = U.size ∧ (gl U u P out).1.length ≤ 64 ∧ (gl U u P out).1.map nrm = (gl U u P out).1 ∧ ∀ (j : Nat) (p : Pr), (gl U u P out).1[j]? = some p → oneC ((gl U u P out).1.take j) p = 0
  | 0, P, out, _, hc, _, _, _, _, _ => absurd hc (by unfold gl; decide)
  | u + 1, P, out, hP, hc, hl, hn, hh, hz, ho => by
    unfold gl at hc ⊢
    by_cases h1 : (P : Int) < (U.size : Int)
    · rw [if_neg (by simp [h1])] at hc ⊢
      by_cases h2 : (g1 U P out).2.2 = 0
      · rw [if_neg (by simp [h2])] at hc ⊢
        obtain ⟨p, p1, p2, p3, p4, p5⟩ := g1_inv hP h2
        rw [p4] at hc ⊢
        simp only at hc ⊢
        have hs : allS (out ++ [p]) = allS out ++ oneS p := all_snoc out p
        refine gl_inv u (P + (oneS p).size) (out ++ [p]) p5.1 hc (by rw [List.length_append, List.length_singleton]; omega) (by rw [List.map_append, hn]; simp [p1]) ?_ ?_ ?_
        · rw [hs]; refine has_both hh ?_; rw [hz, Nat.zero_add]; exact p5
        · rw [hs, ByteArray.size_append, hz]
        · intro j q hq
          by_cases hj : j < out.length
          · rw [List.getElem?_append_left hj] at hq
            rw [List.take_append_of_le_length (by omega)]
            exact ho j q hq
          · rw [List.getElem?_append_right (by omega)] at hq
            have hj2 : j = out.length := by
              have := (List.getElem?_eq_some_iff.1 hq).1
              simp at this; omega
            subst hj2
            simp at hq
            subst hq
            rw [List.take_append_of_le_length (Nat.le_refl _), List.take_length]
            exact p2
      · rw [if_pos h2] at hc; exact absurd hc h2
    · rw [if_pos h1]
      exact ⟨hh, by show (allS out).size = U.size; omega, hl, hn, ho⟩

/-- Properties are read back from their bytes, with what their kinds ask for alone. -/
theorem getL_back {l : List Pr} (h : putC l = 0) : getL (putS l) 0 = (l.map nrm, ((putS l).size : Int), 0) := by
  obtain ⟨hl, hr, he⟩ := putS_is h
  have hz := allS_size l
  have ha : Has (putS l) 0 (strOfNums (VP.putL (allS l).size)) := by rw [he]; exact has_front _ _
  have hb : Has (putS l) (strOfNums (VP.putL (allS l).size)).size (allS l) := by rw [he]; exact has_back _ _
  have hg := get_has (n := ((allS l).size : Int)) (by omega) (by omega) ha
  rw [Nat.zero_add] at hg
  have hs : (putS l).size = (strOfNums (VP.putL (allS l).size)).size + (allS l).size := by rw [he, ByteArray.size_append]
  have hgl := gl_has (U := allS l) l [] 66 0 (has_self _) (by omega) (by omega) (by simpa using hl) (fun j p hp => by
    have := rest_zero l 0 hr j p hp
    simpa using this)
  rw [List.nil_append, List.map_nil] at hgl
  unfold getL
  rw [show ((0 : Nat) : Int) = 0 from rfl] at hg hgl
  rw [hg]
  simp only [ne_eq, not_true_eq_false, if_false]
  have e1 : (((strOfNums (VP.putL (allS l).size)).size : Nat) : Int).toNat = (strOfNums (VP.putL (allS l).size)).size := by omega
  have e2 : ((((strOfNums (VP.putL (allS l).size)).size : Nat) : Int) + ((allS l).size : Int)).toNat = (strOfNums (VP.putL (allS l).size)).size + (allS l).size := by omega
  rw [if_neg (by omega), e1, e2, has_ext hb, hgl]
  simp only [not_true_eq_false, if_false]
  refine Prod.ext rfl (Prod.ext ?_ rfl)
  simp only
  omega
/-- Bytes that are read are just what Put gives. -/
theorem getL_inv {s : ByteArray} (hc : (getL s 0).2.2 = 0) : ∃ n : Nat, n ≤ s.size ∧ (getL s 0).2.1 = (n : Int) ∧ putC (getL s 0).1 = 0 ∧ putS (getL s 0).1 = s.extract 0 n ∧ (getL s 0).1.map nrm = (getL s 0).1 := by
  unfold getL at hc ⊢
  by_cases h1 : (VP.get s 0).2.2 = 0
  · rw [if_neg (by simp [h1])] at hc ⊢
    obtain ⟨n, n0, n1, n2, n3, _⟩ := get_inv (U := s) (P := 0) (Nat.zero_le _) h1
    rw [show ((0 : Nat) : Int) = 0 from rfl, Nat.zero_add] at n2
    rw [n2] at hc ⊢
    simp only at hc ⊢
    obtain ⟨m, rfl⟩ := Int.eq_ofNat_of_zero_le n0
    by_cases h2 : (s.size : Int) - ((strOfNums (VP.putL (m : Int))).size : Nat) < (m : Int)
    · rw [if_pos h2] at hc; exact absurd hc (by decide)
    · rw [if_neg h2] at hc ⊢
      have e1 : (((strOfNums (VP.putL (m : Int))).size : Nat) : Int).toNat = (strOfNums (VP.putL (m : Int))).size := by omega
      have e2 : ((((strOfNums (VP.putL (m : Int))).size : Nat) : Int) + (m : Int)).toNat = (strOfNums (VP.putL (m : Int))).size + m := by omega
      rw [e1, e2] at hc ⊢
      generalize hU : s.extract (strOfNums (VP.putL (m : Int))).size ((strOfNums (VP.putL (m : Int))).size + m) = U at hc ⊢
      have hUz : U.size = m := by rw [← hU, ByteArray.size_extract]; omega
      by_cases h3 : (gl U 66 0 []).2 = 0
      · rw [if_neg (by simp [h3])]
        obtain ⟨g1, g2, g3, g4, g5⟩ := gl_inv (U := U) 66 0 [] (Nat.zero_le _) h3 (by simp) rfl (has_nil (Nat.zero_le _)) rfl (fun j p hp => by simp at hp)
        rw [show ((0 : Nat) : Int) = 0 from rfl] at g1 g2 g3 g4 g5
        have hall : allS (gl U 66 0 []).1 = U := by
          have := has_ext g1
          rw [g2, Nat.zero_add] at this
          rw [← this]
          simp
        have hrest : restC (gl U 66 0 []).1 0 (gl U 66 0 []).1 = 0 := by
          have := rest_all (L := (gl U 66 0 []).1) (gl U 66 0 []).1 [] 0 (fun j p hp => by rw [Nat.zero_add]; exact g5 j p hp)
          rw [List.append_nil] at this
          rw [this]; rfl
        refine ⟨(strOfNums (VP.putL (m : Int))).size + m, by omega, by simp only; omega, ?_, ?_, g4⟩
        · unfold putC; simp only; rw [if_neg (by omega), if_neg (by simp [hrest])]
        · unfold putS; simp only; rw [if_neg (by omega), if_neg (by simp [hrest]), hall, hUz]
          have hb : Has s 0 (strOfNums (VP.putL (m : Int)) ++ U) := by
            refine has_both n3 ?_
            rw [Nat.zero_add, ← hU]
            exact has_mk (by omega) (by omega)
          have := has_ext hb
          rw [ByteArray.size_append, hUz, Nat.zero_add] at this
          exact this.symm
      · rw [if_pos h3] at hc; exact absurd hc h3
  · rw [if_pos h1] at hc; exact absurd hc h1
end PR
end Go.Proofs.YtlfgndhdifpngaaGreatDoor
namespace Go.Proofs.YtlfgndhdifpngaaGreatDoor
namespace PK
open PR (Has has_both has_ext has_nil has_mk)

/-- What the writer has put so far stands in U from p on, and the reader is behind it. -/
def At (U : ByteArray) (p : Nat) (o : ByteArray × Int) (a : Int) : Prop := o.2 = 0 ∧ Has U p o.1 ∧ a = ((p + o.1.size : Nat) : Int)
theorem cm0 {c : Int} (h : cm c = 0) : c = 0 := by
  unfold cm at h
  split at h
  · exact absurd h (by decide)
  · exact h
theorem thn0 {c d : Int} (h : thn c d = 0) : c = 0 ∧ d = 0 := by
  unfold thn at h
  split at h
  · rename_i hc; exact absurd h hc
  · rename_i hc; exact ⟨Classical.not_not.1 hc, h⟩
theorem ad_at {U : ByteArray} {p : Nat} {o : ByteArray × Int} {B : ByteArray} {c : Int} (ho : o.2 = 0) (hU : Has U p o.1) (hc : c = 0) (hB : Has U (p + o.1.size) B) : At U p (ad o B c) ((p + o.1.size + B.size : Nat) : Int) := by
  subst hc
  rw [ad_ok ho B]
  exact ⟨rfl, has_both hU hB, by simp only; rw [ByteArray.size_append]; congr 1; omega⟩
theorem rdT_inv {U : ByteArray} {p : Nat} {o : ByteArray × Int} {a : Int} (h : At U p o a) (hc : (rdT U a).2.2 = 0) : ∃ t a', rdT U a = (t, a', 0) ∧ At U p (tx o t) a' := by
  obtain ⟨ho, hU, rfl⟩ := h
  obtain ⟨t, h1, h2, h3⟩ := PR.getT_inv (cm0 hc)
  refine ⟨t, _, ?_, ad_at ho hU h1 h3⟩
  unfold rdT
  rw [h2]; rfl
theorem rdN_inv {U : ByteArray} {p : Nat} {o : ByteArray × Int} {a : Int} (wd : Int) (h : At U p o a) (hc : (rdN U a wd).2.2 = 0) : ∃ n a', rdN U a wd = (n, a', 0) ∧ At U p (nm o wd n) a' ∧ VP.fixC wd n = 0 := by
  obtain ⟨ho, hU, rfl⟩ := h
  obtain ⟨n, h1, h2, h3⟩ := PR.rd_inv (w := wd) (cm0 hc)
  refine ⟨n, _, ?_, ad_at ho hU h1 h3, h1⟩
  unfold rdN
  rw [h2]; rfl
theorem rdD_inv {U : ByteArray} {p : Nat} {o : ByteArray × Int} {a : Int} (h : At U p o a) (hc : (rdD U a).2.2 = 0) : ∃ d a', rdD U a = (d, a', 0) ∧ At U p (dt o d) a' := by
  obtain ⟨ho, hU, rfl⟩ := h
  obtain ⟨d, h1, h2, h3⟩ := PR.dat_inv (cm0 hc)
  refine ⟨d, _, ?_, ad_at ho hU (by unfold TX.dataC; rw [if_pos (by omega)]) h3⟩
  unfold rdD
  rw [h2]; rfl
theorem getL_part (s : ByteArray) (f : Nat) (hf : f ≤ s.size) (h : (PR.getL s f).2.2 = 0) : (PR.getL (s.extract f s.size) 0).2.2 = 0 ∧ (PR.getL s f).1 = (PR.getL (s.extract f s.size) 0).1 ∧ (PR.getL s f).2.1 = (f : Int) + (PR.getL (s.extract f s.size) 0).2.1 := by
  have e0 : s.extract 0 s.size = s := by simp
  have hg := PR.get_part (s := s) (f := f) (e := s.size) hf (Nat.le_refl _) 0 (Nat.zero_le _)
  rw [e0, Nat.add_zero] at hg
  rw [show ((0 : Nat) : Int) = 0 from rfl] at hg
  have hz : (s.extract f s.size).size = s.size - f := by rw [ByteArray.size_extract]; omega
  by_cases hc : (VP.get s (f : Int)).2.2 = 0
  · obtain ⟨m, q, h1, h2⟩ := PR.get_at s f hc
    have hc' : (VP.get (s.extract f s.size) 0).2.2 = 0 := by rw [hg] at hc; unfold PR.sh at hc; split at hc <;> simp_all
    obtain ⟨m', q', h1', h2'⟩ := PR.get_at (s.extract f s.size) 0 hc'
    have hsh : PR.sh f ((m' : Int), (q' : Int), 0) = ((m' : Int), ((f + q' : Nat) : Int), 0) := by unfold PR.sh; simp
    rw [h1', hsh, h1] at hg
    simp only [Prod.mk.injEq] at hg
    obtain ⟨g1, g2, _⟩ := hg
    have g1' : m = m' := by omega
    have g2' : q = f + q' := by omega
    subst g1' g2'
    by_cases hl : (s.size : Int) - ((f + q' : Nat) : Int) < (m : Int)
    · rw [PR.getL_few s f m (f + q') h1 hl] at h; exact absurd h (by simp)
    · have hl' : ¬ ((s.extract f s.size).size : Int) - (q' : Int) < (m : Int) := by rw [hz]; omega
      have ex : (s.extract f s.size).extract q' (q' + m) = s.extract (f + q') (f + q' + m) := by
        rw [ByteArray.extract_extract]; congr 1; omega
      have e1 := PR.getL_in s f m (f + q') h1 hl rfl
      have e2 := PR.getL_in (s.extract f s.size) 0 m q' h1' hl' rfl
      rw [ex] at e2
      rw [e1] at h ⊢
      rw [e2]
      generalize PR.gl (s.extract (f + q') (f + q' + m)) 66 0 [] = Y at *
      by_cases hy : Y.2 ≠ 0
      · rw [if_pos hy] at h; exact absurd h hy
      · rw [if_neg hy, if_neg hy]
        exact ⟨rfl, rfl, by simp only; omega⟩
  · rw [PR.getL_bad s f hc] at h; exact absurd h hc
theorem rdPr_inv {U : ByteArray} {p : Nat} {o : ByteArray × Int} {a : Int} (k : Int) (h : At U p o a) (hc : (rdPr U a k).2.2 = 0) : ∃ l a', rdPr U a k = (l, a', 0) ∧ At U p (pr o k l) a' := by
  obtain ⟨ho, hU, rfl⟩ := h
  obtain ⟨c1, c2⟩ := thn0 hc
  have hle : p + o.1.size ≤ U.size := hU.1
  obtain ⟨g1, g2, g3⟩ := getL_part U (p + o.1.size) hle (cm0 c1)
  obtain ⟨n, n1, n2, n3, n4, _⟩ := PR.getL_inv g1
  have hal : alAll k (PR.getL U ((p + o.1.size : Nat) : Int)).1 = true := by
    split at c2
    · assumption
    · exact absurd c2 (by decide)
  rw [← g2] at n3 n4
  have hz : (U.extract (p + o.1.size) U.size).size = U.size - (p + o.1.size) := by rw [ByteArray.size_extract]; omega
  have hput : PR.putS (PR.getL U ((p + o.1.size : Nat) : Int)).1 = U.extract (p + o.1.size) (p + o.1.size + n) := by
    rw [n4, ByteArray.extract_extract]; congr 1; omega
  have hps : (PR.putS (PR.getL U ((p + o.1.size : Nat) : Int)).1).size = n := by rw [hput, ByteArray.size_extract]; omega
  have hB : Has U (p + o.1.size) (PR.putS (PR.getL U ((p + o.1.size : Nat) : Int)).1) := by rw [hput]; exact has_mk (by omega) (by omega)
  refine ⟨(PR.getL U ((p + o.1.size : Nat) : Int)).1, ((p + o.1.size + (PR.putS (PR.getL U ((p + o.1.size : Nat) : Int)).1).size : Nat) : Int), ?_, ?_⟩
  · unfold rdPr
    rw [cm0 c1, hal, if_pos rfl, g3, n2]
    refine Prod.ext rfl (Prod.ext ?_ rfl)
    simp only
    rw [hps]; omega
  · unfold pr
    rw [if_pos hal]
    exact ad_at ho hU n3 hB
end PK
end Go.Proofs.YtlfgndhdifpngaaGreatDoor
namespace Go.Proofs.YtlfgndhdifpngaaGreatDoor
namespace PK
open PR (Has has_both has_ext has_nil has_mk)

theorem bnd_inv {α : Type} {P : Pk} {x : α × Int × Int} {f : α → Int → Pk × Int × Int} (h : (bnd P x f).2.2 = 0) : x.2.2 = 0 ∧ bnd P x f = f x.1 x.2.1 := by
  unfold bnd at h ⊢
  split at h
  · rename_i hc; exact absurd h hc
  · rename_i hc; exact ⟨Classical.not_not.1 hc, by rw [if_neg hc]⟩
theorem rdC_inv {U : ByteArray} {p : Nat} {o : ByteArray × Int} {a : Int} (h : At U p o a) (hc : (rdC U a).2.2 = 0) : ∃ n a', rdC U a = (n, a', 0) ∧ At U p (nm o 1 n) a' := by
  obtain ⟨n, a', h1, h2, _⟩ := rdN_inv 1 h hc
  exact ⟨n, a', h1, h2⟩
theorem fix2_le {n : Int} (h : VP.fixC 2 n = 0) : n ≤ 65535 := by
  unfold VP.fixC at h
  repeat' split at h
  all_goals first | omega | exact absurd h (by decide)
theorem rdId_inv {U : ByteArray} {p : Nat} {o : ByteArray × Int} {a : Int} (h : At U p o a) (hc : (rdId U a).2.2 = 0) : ∃ n a', rdId U a = (n, a', 0) ∧ At U p (idd o n) a' := by
  obtain ⟨c1, c2⟩ := thn0 hc
  obtain ⟨n, a', h1, h2, h3⟩ := rdN_inv 2 h c1
  have e1 : (VP.rd U a 2).1 = n := congrArg Prod.fst h1
  have e2 : (VP.rd U a 2).2.1 = a' := congrArg (fun x => x.2.1) h1
  have hn : n ≠ 0 := by
    rw [e1] at c2
    split at c2
    · exact absurd c2 (by decide)
    · assumption
  have hnn := (rd_nn U a 2).1
  rw [e1] at hnn
  have hle := fix2_le h3
  refine ⟨n, a', ?_, ?_⟩
  · unfold rdId
    rw [c1, e1, e2, if_neg hn]; rfl
  · unfold idd
    rw [if_neg (by omega)]
    exact h2
theorem rdSes_inv {U : ByteArray} {p : Nat} {o : ByteArray × Int} {a : Int} (h : At U p o a) (hc : (rdSes U a).2.2 = 0) : ∃ b a', rdSes U a = (b, a', 0) ∧ At U p (nm o 1 (fl b 1)) a' := by
  obtain ⟨c1, c2⟩ := thn0 hc
  obtain ⟨n, a', h1, h2, _⟩ := rdN_inv 1 h c1
  have e1 : (VP.rd U a 1).1 = n := congrArg Prod.fst h1
  have e2 : (VP.rd U a 1).2.1 = a' := congrArg (fun x => x.2.1) h1
  have hn : n ≤ 1 := by
    rw [e1] at c2
    split at c2
    · exact absurd c2 (by decide)
    · omega
  have hnn := (rd_nn U a 1).1
  rw [e1] at hnn
  refine ⟨n == 1, a', ?_, ?_⟩
  · unfold rdSes
    rw [c1, e1, e2, if_neg (by omega)]; rfl
  · have : fl (n == 1) 1 = n := by
      rcases (show n = 0 ∨ n = 1 by omega) with rfl | rfl <;> rfl
    rw [this]
    exact h2
theorem sub_bits (n : Int) (h0 : 0 ≤ n) (h1 : n ≤ 255) (h : subC n = 0) : (isQ (bits .and .i64 n 3) && isQ (bits .and .i64 (n / 16) 3)) = true ∧ bits .and .i64 n 3 + fl (bits .and .i64 n 4 != 0) 4 + fl (bits .and .i64 n 8 != 0) 8 + 16 * bits .and .i64 (n / 16) 3 = n := by
  obtain ⟨k, rfl⟩ := Int.eq_ofNat_of_zero_le h0
  have hd : ∀ k : Fin 256, subC ((k.val : Nat) : Int) = 0 → (isQ (bits .and .i64 ((k.val : Nat) : Int) 3) && isQ (bits .and .i64 (((k.val : Nat) : Int) / 16) 3)) = true ∧ bits .and .i64 ((k.val : Nat) : Int) 3 + fl (bits .and .i64 ((k.val : Nat) : Int) 4 != 0) 4 + fl (bits .and .i64 ((k.val : Nat) : Int) 8 != 0) 8 + 16 * bits .and .i64 (((k.val : Nat) : Int) / 16) 3 = ((k.val : Nat) : Int) := by decide +kernel
  exact hd ⟨k, by omega⟩ h
theorem rdSub_inv {U : ByteArray} {p : Nat} {o : ByteArray × Int} {a : Int} (h : At U p o a) (hc : (rdSub U a).2.2 = 0) : ∃ s a', rdSub U a = (s, a', 0) ∧ At U p (sub o s) a' := by
  obtain ⟨c1, c23⟩ := thn0 hc
  obtain ⟨c2, c3⟩ := thn0 c23
  obtain ⟨t, a1, h1, hA1⟩ := rdT_inv h c1
  have e1 : (TX.getT U a).1 = t := congrArg Prod.fst h1
  have e2 : (TX.getT U a).2.1 = a1 := congrArg (fun x => x.2.1) h1
  rw [e2] at c2 c3
  obtain ⟨n, a2, h2, hA2, _⟩ := rdN_inv 1 hA1 c2
  have e3 : (VP.rd U a1 1).1 = n := congrArg Prod.fst h2
  have e4 : (VP.rd U a1 1).2.1 = a2 := congrArg (fun x => x.2.1) h2
  have hn0 := (rd_nn U a1 1).1
  have hn1 := rd_1le U a1
  rw [e3] at hn0 hn1 c3
  obtain ⟨b1, b2⟩ := sub_bits n hn0 hn1 c3
  refine ⟨subOf t n, a2, ?_, ?_⟩
  · unfold rdSub
    rw [c1, e1, e2, c2, e3, e4, c3]; rfl
  · unfold sub
    rw [if_pos (by exact b1)]
    have : subN (subOf t n) = n := b2
    rw [this]
    exact hA2
theorem lst_inv {α : Type} {U : ByteArray} {p : Nat} {rd : Int → α × Int × Int} {f : ByteArray × Int → α → ByteArray × Int} (hstep : ∀ o a, At U p o a → (rd a).2.2 = 0 → ∃ x a', rd a = (x, a', 0) ∧ At U p (f o x) a') (o0 : ByteArray × Int) :
    ∀ (u : Nat) (a : Int) (out : List α), At U p (out.foldl f o0) a → out.length ≤ 64 → (lst rd U.size u a out).2.2 = 0 → ∃ l, lst rd U.size u a out = (l, (U.size : Int), 0) ∧ At U p (l.foldl f o0) (U.size : Int) ∧ l.length ≠ 0 ∧ ¬ 64 < l.length
  | 0, a, out, _, _, h => by rw [lst] at h; exact absurd h (by simp)
  | u + 1, a, out, hA, hl, h => by
    rw [lst] at h ⊢
    by_cases h1 : a = (U.size : Int)
    · rw [if_pos h1] at h ⊢
      by_cases h2 : out = []
      · rw [if_pos h2] at h; exact absurd h (by simp)
      · rw [if_neg h2]
        exact ⟨out, by rw [h1], by rw [← h1]; exact hA, by intro e; exact h2 (List.eq_nil_of_length_eq_zero e), by omega⟩
    · rw [if_neg h1] at h ⊢
      by_cases h2 : out.length = 64
      · rw [if_pos h2] at h; exact absurd h (by simp)
      · rw [if_neg h2] at h ⊢
        by_cases h3 : (rd a).2.2 ≠ 0
        · rw [if_pos h3] at h; exact absurd h h3
        · rw [if_neg h3] at h ⊢
          obtain ⟨x, a', hx, hA'⟩ := hstep _ _ hA (Classical.not_not.1 h3)
          rw [hx] at h ⊢
          exact lst_inv hstep o0 u a' (out ++ [x]) (by rw [List.foldl_append]; exact hA') (by simp; omega) h
theorem rdHd_inv {U : ByteArray} {p : Nat} {o : ByteArray × Int} {a : Int} (k : Int) (h : At U p o a) (hc : (rdHd U a k).2.2 = 0) : ∃ i l a', rdHd U a k = ((i, l), a', 0) ∧ At U p (pr (idd o i) k l) a' := by
  obtain ⟨c1, c2⟩ := thn0 hc
  obtain ⟨i, a1, h1, hA1⟩ := rdId_inv h c1
  rw [h1] at c2
  obtain ⟨l, a2, h2, hA2⟩ := rdPr_inv k hA1 c2
  refine ⟨i, l, a2, ?_, hA2⟩
  unfold rdHd
  rw [h1]
  simp only
  rw [h2]; rfl
theorem cfl_bits (n : Int) (h0 : 0 ≤ n) (h1 : n ≤ 255) (h : cflC n = 0) : ((bits .and .i64 n 4 != 0) && !isQ (bits .and .i64 (n / 8) 3)) = false ∧
    fl (bits .and .i64 n 2 != 0) 2 + fl (bits .and .i64 n 64 != 0) 64 + fl (bits .and .i64 n 128 != 0) 128 + (if (bits .and .i64 n 4 != 0) = true then 4 + 8 * bits .and .i64 (n / 8) 3 + fl (bits .and .i64 n 32 != 0) 32 else 0) = n := by
  obtain ⟨k, rfl⟩ := Int.eq_ofNat_of_zero_le h0
  have hd : ∀ k : Fin 256, cflC ((k.val : Nat) : Int) = 0 → ((bits .and .i64 ((k.val : Nat) : Int) 4 != 0) && !isQ (bits .and .i64 (((k.val : Nat) : Int) / 8) 3)) = false ∧
    fl (bits .and .i64 ((k.val : Nat) : Int) 2 != 0) 2 + fl (bits .and .i64 ((k.val : Nat) : Int) 64 != 0) 64 + fl (bits .and .i64 ((k.val : Nat) : Int) 128 != 0) 128 + (if (bits .and .i64 ((k.val : Nat) : Int) 4 != 0) = true then 4 + 8 * bits .and .i64 (((k.val : Nat) : Int) / 8) 3 + fl (bits .and .i64 ((k.val : Nat) : Int) 32 != 0) 32 else 0) = ((k.val : Nat) : Int) := by decide +kernel
  exact hd ⟨k, by omega⟩ h
theorem rdFl_inv {U : ByteArray} {p : Nat} {o : ByteArray × Int} {a : Int} (P : Pk) (h : At U p o a) (hc : (rdFl U a).2.2 = 0) : ∃ n a', rdFl U a = (n, a', 0) ∧ At U p (cflags o (cflPk P n)) a' := by
  obtain ⟨c1, c2⟩ := thn0 hc
  obtain ⟨n, a1, h1, hA1, _⟩ := rdN_inv 1 h c1
  have e1 : (VP.rd U a 1).1 = n := congrArg Prod.fst h1
  have e2 : (VP.rd U a 1).2.1 = a1 := congrArg (fun x => x.2.1) h1
  have hn0 := (rd_nn U a 1).1
  have hn1 := rd_1le U a
  rw [e1] at hn0 hn1 c2
  obtain ⟨b1, b2⟩ := cfl_bits n hn0 hn1 c2
  refine ⟨n, a1, ?_, ?_⟩
  · unfold rdFl
    rw [c1, e1, e2, c2]; rfl
  · have e : cflagsN (cflPk P n) = n := b2
    unfold cflags
    rw [if_neg (by rw [show ((cflPk P n).hasWill && !isQ (cflPk P n).wqos) = false from b1]; decide), e]
    exact hA1
end PK
end Go.Proofs.YtlfgndhdifpngaaGreatDoor
namespace Go.Proofs.YtlfgndhdifpngaaGreatDoor
namespace PK
open PR (Has has_both has_ext has_nil has_mk)

section
variable {U : ByteArray} {p : Nat} {o : ByteArray × Int}
theorem rdPass_inv {a : Int} (P : Pk) (h : At U p o a) (hc : (rdPass U a P).2.2 = 0) : ∃ Q a', rdPass U a P = (Q, a', 0) ∧ At U p (conn4 o Q) a' ∧ (∃ v, Q = { P with pass := v }) := by
  unfold rdPass at hc ⊢
  by_cases hp : P.hasPass = true
  · rw [if_pos hp] at hc ⊢
    obtain ⟨c1, e1⟩ := bnd_inv hc
    obtain ⟨v, a1, h1, hA⟩ := rdD_inv h c1
    rw [e1, h1]
    exact ⟨_, _, rfl, by unfold conn4; rw [if_pos (by exact hp)]; exact hA, v, rfl⟩
  · rw [if_neg hp]
    exact ⟨_, _, rfl, by unfold conn4; rw [if_neg hp]; exact h, P.pass, rfl⟩
theorem rdUser_inv {a : Int} (P : Pk) (h : At U p o a) (hc : (rdUser U a P).2.2 = 0) : ∃ Q a', rdUser U a P = (Q, a', 0) ∧ At U p (conn4 (conn3 o Q) Q) a' ∧ (∃ u v, Q = { P with user := u, pass := v }) := by
  unfold rdUser at hc ⊢
  by_cases hp : P.hasUser = true
  · rw [if_pos hp] at hc ⊢
    obtain ⟨c1, e1⟩ := bnd_inv hc
    obtain ⟨u, a1, h1, hA⟩ := rdT_inv h c1
    rw [e1, h1] at hc
    rw [e1, h1]
    obtain ⟨Q, a2, h2, hA2, v, rfl⟩ := rdPass_inv _ hA hc
    exact ⟨_, _, h2, by unfold conn3; rw [if_pos (by exact hp)]; exact hA2, u, v, rfl⟩
  · rw [if_neg hp] at hc ⊢
    obtain ⟨Q, a2, h2, hA2, v, rfl⟩ := rdPass_inv _ h hc
    exact ⟨_, _, h2, by unfold conn3; rw [if_neg (by exact hp)]; exact hA2, P.user, v, rfl⟩
theorem rdWill_inv {a : Int} (P : Pk) (h : At U p o a) (hc : (rdWill U a P).2.2 = 0) : ∃ Q a', rdWill U a P = (Q, a', 0) ∧ At U p (conn4 (conn3 (conn2 o Q) Q) Q) a' ∧ (∃ l t d u v, Q = { P with wprops := l, wtopic := t, wpay := d, user := u, pass := v }) := by
  unfold rdWill at hc ⊢
  by_cases hp : P.hasWill = true
  · rw [if_pos hp] at hc ⊢
    obtain ⟨c1, e1⟩ := bnd_inv hc
    obtain ⟨l, a1, h1, hA1⟩ := rdPr_inv 0 h c1
    rw [e1, h1] at hc
    rw [e1, h1]
    obtain ⟨c2, e2⟩ := bnd_inv hc
    obtain ⟨t, a2, h2, hA2⟩ := rdT_inv hA1 c2
    rw [e2, h2] at hc
    rw [e2, h2]
    obtain ⟨c3, e3⟩ := bnd_inv hc
    obtain ⟨d, a3, h3, hA3⟩ := rdD_inv hA2 c3
    rw [e3, h3] at hc
    rw [e3, h3]
    obtain ⟨Q, a4, h4, hA4, u, v, rfl⟩ := rdUser_inv _ hA3 hc
    exact ⟨_, _, h4, by unfold conn2; rw [if_pos (by exact hp)]; exact hA4, l, t, d, u, v, rfl⟩
  · rw [if_neg hp] at hc ⊢
    obtain ⟨Q, a4, h4, hA4, u, v, rfl⟩ := rdUser_inv _ h hc
    exact ⟨_, _, h4, by unfold conn2; rw [if_neg (by exact hp)]; exact hA4, P.wprops, P.wtopic, P.wpay, u, v, rfl⟩
theorem rdConn_inv {a : Int} (P : Pk) (hk : P.kind = 1) (h : At U p o a) (hc : (rdConn U a P).2.2 = 0) : ∃ Q a', rdConn U a P = (Q, a', 0) ∧ At U p (conn o Q) a' ∧ Q.kind = 1 := by
  unfold rdConn at hc ⊢
  obtain ⟨c1, e1⟩ := bnd_inv hc
  obtain ⟨t, a1, h1, hA1⟩ := rdT_inv h c1
  rw [e1, h1] at hc
  rw [e1, h1]
  simp only at hc ⊢
  by_cases ht : t ≠ ⟨#[77, 81, 84, 84]⟩
  · rw [if_pos ht] at hc; exact absurd hc (by simp)
  rw [if_neg ht] at hc ⊢
  have ht' := Classical.not_not.1 ht
  obtain ⟨c2, e2⟩ := bnd_inv hc
  obtain ⟨v, a2, h2, hA2, _⟩ := rdN_inv 1 hA1 c2
  rw [e2, h2] at hc
  rw [e2, h2]
  simp only at hc ⊢
  by_cases hv : v ≠ 5
  · rw [if_pos hv] at hc; exact absurd hc (by simp)
  rw [if_neg hv] at hc ⊢
  have hv' := Classical.not_not.1 hv
  obtain ⟨c3, e3⟩ := bnd_inv hc
  obtain ⟨n, a3, h3, hA3⟩ := rdFl_inv P hA2 c3
  rw [e3, h3] at hc
  rw [e3, h3]
  simp only at hc ⊢
  unfold rdConn1 at hc ⊢
  obtain ⟨c4, e4⟩ := bnd_inv hc
  obtain ⟨ke, a4, h4, hA4, _⟩ := rdN_inv 2 hA3 c4
  rw [e4, h4] at hc
  rw [e4, h4]
  simp only at hc ⊢
  obtain ⟨c5, e5⟩ := bnd_inv hc
  obtain ⟨l, a5, h5, hA5⟩ := rdPr_inv (cflPk P n).kind hA4 c5
  rw [e5, h5] at hc
  rw [e5, h5]
  simp only at hc ⊢
  obtain ⟨c6, e6⟩ := bnd_inv hc
  obtain ⟨cl, a6, h6, hA6⟩ := rdT_inv hA5 c6
  rw [e6, h6] at hc
  rw [e6, h6]
  simp only at hc ⊢
  obtain ⟨Q, a7, h7, hA7, wl, wt, wd, us, pa, rfl⟩ := rdWill_inv _ hA6 hc
  refine ⟨_, _, h7, ?_, hk⟩
  rw [ht', hv', show (cflPk P n).kind = 1 from hk] at hA7
  exact hA7
end
/-- What follows the length, put again: for all kinds but those that may end early. -/
theorem parts_inv {U : ByteArray} {p : Nat} {o : ByteArray × Int} {a : Int} (P : Pk) (hk : P.kind = 1 ∨ P.kind = 2 ∨ P.kind = 3 ∨ P.kind = 8 ∨ P.kind = 9 ∨ P.kind = 10 ∨ P.kind = 11 ∨ P.kind = 12 ∨ P.kind = 13) (h : At U p o a)
    (hc : (partsK P.kind U a P).2.2 = 0) (he : (partsK P.kind U a P).2.1 = (U.size : Int)) : At U p (parts o (partsK P.kind U a P).1) (U.size : Int) ∧ (partsK P.kind U a P).1.kind = P.kind := by
  rcases hk with hk | hk | hk | hk | hk | hk | hk | hk | hk
  · have e : partsK P.kind U a P = rdConn U a P := by unfold partsK; rw [if_pos hk]
    rw [e] at hc he ⊢
    obtain ⟨Q, a', h1, h2, h3⟩ := rdConn_inv P hk h hc
    rw [h1] at he ⊢
    simp only at he ⊢
    rw [he] at h2
    exact ⟨by unfold parts; rw [if_pos h3]; exact h2, by rw [h3, hk]⟩
  · have e : partsK P.kind U a P = bnd P (rdSes U a) (fun v a => bnd P (rdC U a) (fun c a => bnd P (rdPr U a P.kind) (fun l a => ({ P with session := v, code := c, props := l }, a, 0)))) := by unfold partsK; rw [if_neg (by omega), if_pos hk]
    rw [e] at hc he ⊢
    obtain ⟨c1, e1⟩ := bnd_inv hc
    obtain ⟨v, a1, h1, hA1⟩ := rdSes_inv h c1
    rw [e1, h1] at hc he
    rw [e1, h1]
    obtain ⟨c2, e2⟩ := bnd_inv hc
    obtain ⟨c, a2, h2, hA2⟩ := rdC_inv hA1 c2
    rw [e2, h2] at hc he
    rw [e2, h2]
    obtain ⟨c3, e3⟩ := bnd_inv hc
    obtain ⟨l, a3, h3, hA3⟩ := rdPr_inv P.kind hA2 c3
    rw [e3, h3] at he
    rw [e3, h3]
    simp only at he ⊢
    rw [he] at hA3
    exact ⟨by unfold parts; rw [if_neg (by simp only; omega), if_pos hk]; exact hA3, by first | rfl | trivial⟩
  · have e : partsK P.kind U a P = ({ P with topic := (rdPub U a P.kind P.qos P.id).1.1, id := (rdPub U a P.kind P.qos P.id).1.2.1, props := (rdPub U a P.kind P.qos P.id).1.2.2.1, pay := (rdPub U a P.kind P.qos P.id).1.2.2.2 }, (rdPub U a P.kind P.qos P.id).2.1, (rdPub U a P.kind P.qos P.id).2.2) := by unfold partsK; rw [if_neg (by omega), if_neg (by omega), if_pos hk]
    rw [e] at hc ⊢
    simp only at hc ⊢
    obtain ⟨c1, c23⟩ := thn0 hc
    obtain ⟨c2, c3⟩ := thn0 c23
    obtain ⟨t, a1, h1, hA1⟩ := rdT_inv h c1
    have hid : ∃ i a2, rdI U a1 P.qos P.id = (i, a2, 0) ∧ At U p (if 0 < P.qos then idd (tx o t) i else tx o t) a2 := by
      rw [h1] at c2
      unfold rdI at c2 ⊢
      by_cases hq : 0 < P.qos
      · rw [if_pos hq] at c2
        simp only [if_pos hq]
        exact rdId_inv hA1 c2
      · simp only [if_neg hq]
        exact ⟨_, _, rfl, hA1⟩
    obtain ⟨i, a2, h2, hA2⟩ := hid
    rw [h1] at c3
    simp only at c3
    rw [h2] at c3
    obtain ⟨l, a3, h3, hA3⟩ := rdPr_inv P.kind hA2 c3
    have hpub : rdPub U a P.kind P.qos P.id = ((t, i, l, U.extract a3.toNat U.size), (U.size : Int), 0) := by
      unfold rdPub
      rw [h1]
      simp only
      rw [h2]
      simp only
      rw [h3]; rfl
    rw [hpub]
    simp only
    obtain ⟨z, hU, ha3⟩ := hA3
    generalize hS : pr (if 0 < P.qos then idd (tx o t) i else tx o t) P.kind l = S at z hU ha3
    have hz : p + S.1.size ≤ U.size := hU.1
    have e3 : a3.toNat = p + S.1.size := by omega
    have hA4 := ad_at (c := 0) z hU rfl (has_mk (q := U.size) hz (Nat.le_refl _))
    have e4 : p + S.1.size + (U.extract (p + S.1.size) U.size).size = U.size := by rw [ByteArray.size_extract]; omega
    rw [e4] at hA4
    refine ⟨?_, by first | rfl | trivial⟩
    unfold parts
    rw [if_neg (by simp only; omega), if_neg (by simp only; omega), if_pos hk]
    unfold pub pub1
    simp only
    rw [hS, e3]
    exact hA4
  · have e : partsK P.kind U a P = bnd P (rdHd U a P.kind) (fun h a => bnd P (lst (rdSub U) U.size 66 a []) (fun l a => ({ P with id := h.1, props := h.2, subs := l }, a, 0))) := by unfold partsK; rw [if_neg (by omega), if_neg (by omega), if_neg (by omega), if_pos hk]
    rw [e] at hc ⊢
    obtain ⟨c1, e1⟩ := bnd_inv hc
    obtain ⟨i, l, a1, h1, hA1⟩ := rdHd_inv P.kind h c1
    rw [e1, h1] at hc
    rw [e1, h1]
    obtain ⟨c2, e2⟩ := bnd_inv hc
    obtain ⟨ls, h2, hA2, n1, n2⟩ := lst_inv (fun o a => rdSub_inv) (pr (idd o i) P.kind l) 66 a1 [] hA1 (by simp) c2
    rw [e2, h2]
    refine ⟨?_, rfl⟩
    unfold parts
    rw [if_neg (by simp only; omega), if_neg (by simp only; omega), if_neg (by simp only; omega), if_pos hk]
    unfold eachO
    rw [if_neg n1, if_neg n2]
    exact hA2
  · have e : partsK P.kind U a P = bnd P (rdHd U a P.kind) (fun h a => bnd P (lst (rdC U) U.size 66 a []) (fun l a => ({ P with id := h.1, props := h.2, codes := l }, a, 0))) := by unfold partsK; rw [if_neg (by omega), if_neg (by omega), if_neg (by omega), if_neg (by omega), if_neg (by omega), if_pos (.inl hk)]
    rw [e] at hc ⊢
    obtain ⟨c1, e1⟩ := bnd_inv hc
    obtain ⟨i, l, a1, h1, hA1⟩ := rdHd_inv P.kind h c1
    rw [e1, h1] at hc
    rw [e1, h1]
    obtain ⟨c2, e2⟩ := bnd_inv hc
    obtain ⟨ls, h2, hA2, n1, n2⟩ := lst_inv (f := fun o c => nm o 1 c) (fun o a => rdC_inv) (pr (idd o i) P.kind l) 66 a1 [] hA1 (by simp) c2
    rw [e2, h2]
    refine ⟨?_, rfl⟩
    unfold parts
    rw [if_neg (by simp only; omega), if_neg (by simp only; omega), if_neg (by simp only; omega), if_neg (by simp only; omega), if_neg (by simp only; omega), if_pos (.inl hk)]
    unfold eachO
    rw [if_neg n1, if_neg n2]
    exact hA2
  · have e : partsK P.kind U a P = bnd P (rdHd U a P.kind) (fun h a => bnd P (lst (rdT U) U.size 66 a []) (fun l a => ({ P with id := h.1, props := h.2, filters := l }, a, 0))) := by unfold partsK; rw [if_neg (by omega), if_neg (by omega), if_neg (by omega), if_neg (by omega), if_pos hk]
    rw [e] at hc ⊢
    obtain ⟨c1, e1⟩ := bnd_inv hc
    obtain ⟨i, l, a1, h1, hA1⟩ := rdHd_inv P.kind h c1
    rw [e1, h1] at hc
    rw [e1, h1]
    obtain ⟨c2, e2⟩ := bnd_inv hc
    obtain ⟨ls, h2, hA2, n1, n2⟩ := lst_inv (fun o a => rdT_inv) (pr (idd o i) P.kind l) 66 a1 [] hA1 (by simp) c2
    rw [e2, h2]
    refine ⟨?_, rfl⟩
    unfold parts
    rw [if_neg (by simp only; omega), if_neg (by simp only; omega), if_neg (by simp only; omega), if_neg (by simp only; omega), if_pos hk]
    unfold eachO
    rw [if_neg n1, if_neg n2]
    exact hA2
  · have e : partsK P.kind U a P = bnd P (rdHd U a P.kind) (fun h a => bnd P (lst (rdC U) U.size 66 a []) (fun l a => ({ P with id := h.1, props := h.2, codes := l }, a, 0))) := by unfold partsK; rw [if_neg (by omega), if_neg (by omega), if_neg (by omega), if_neg (by omega), if_neg (by omega), if_pos (.inr hk)]
    rw [e] at hc ⊢
    obtain ⟨c1, e1⟩ := bnd_inv hc
    obtain ⟨i, l, a1, h1, hA1⟩ := rdHd_inv P.kind h c1
    rw [e1, h1] at hc
    rw [e1, h1]
    obtain ⟨c2, e2⟩ := bnd_inv hc
    obtain ⟨ls, h2, hA2, n1, n2⟩ := lst_inv (f := fun o c => nm o 1 c) (fun o a => rdC_inv) (pr (idd o i) P.kind l) 66 a1 [] hA1 (by simp) c2
    rw [e2, h2]
    refine ⟨?_, rfl⟩
    unfold parts
    rw [if_neg (by simp only; omega), if_neg (by simp only; omega), if_neg (by simp only; omega), if_neg (by simp only; omega), if_neg (by simp only; omega), if_pos (.inr hk)]
    unfold eachO
    rw [if_neg n1, if_neg n2]
    exact hA2
  all_goals
    have e : partsK P.kind U a P = (P, a, 0) := by unfold partsK; rw [if_neg (by omega), if_neg (by omega), if_neg (by omega), if_neg (by omega), if_neg (by omega), if_neg (by omega), if_neg (by omega), if_neg (by omega)]
    rw [e] at he ⊢
    simp only at he ⊢
    rw [he] at h
    exact ⟨by unfold parts; rw [if_neg (by omega), if_neg (by omega), if_neg (by omega), if_neg (by omega), if_neg (by omega), if_neg (by omega), if_neg (by omega), if_neg (by omega)]; exact h, by first | rfl | trivial⟩
end PK
end Go.Proofs.YtlfgndhdifpngaaGreatDoor
namespace Go.Proofs.YtlfgndhdifpngaaGreatDoor
namespace PK
open PR (Has has_both has_ext has_nil has_mk has_left has_right has_self)

theorem fix1_size {n : Int} (h0 : 0 ≤ n) (h1 : n ≤ 255) : (strOfNums (VP.fixL 1 n)).size = 1 ∧ VP.fixC 1 n = 0 := by
  have e : VP.fixC 1 n = 0 := by unfold VP.fixC; repeat' split
                                 all_goals first | rfl | omega
  refine ⟨?_, e⟩
  unfold VP.fixL
  repeat' split
  all_goals first | omega | rfl
/-- The first byte is told by its flags. -/
theorem beg_first (n : Int) (h0 : 0 ≤ n) (h1 : n ≤ 255) (h : begOk n = true) : 16 * (begPk n).kind + flagsN (begPk n) = n ∧ (if (begPk n).kind = 3 ∧ canPub (begPk n) = false then ((⟨#[]⟩, 129) : ByteArray × Int) else (⟨#[]⟩, 0)) = (⟨#[]⟩, 0) := by
  obtain ⟨k, rfl⟩ := Int.eq_ofNat_of_zero_le h0
  by_cases h3 : ((k : Int)) / 16 = 3
  · have hd : ∀ k : Fin 256, ((k.val : Nat) : Int) / 16 = 3 → begOk ((k.val : Nat) : Int) = true → 16 * (begPk ((k.val : Nat) : Int)).kind + flagsN (begPk ((k.val : Nat) : Int)) = ((k.val : Nat) : Int) := by decide +kernel
    refine ⟨hd ⟨k, by omega⟩ h3 h, ?_⟩
    have hc : canPub (begPk (k : Int)) = true := by unfold begOk at h; rw [if_pos h3] at h; exact h
    rw [if_neg (by rw [hc]; simp)]
  · have hb : begPk (k : Int) = barePk ((k : Int) / 16) false false 0 := by unfold begPk; rw [if_neg h3]
    unfold begOk at h
    rw [if_neg h3] at h
    simp at h
    rw [hb]
    refine ⟨?_, by rw [if_neg (by intro e; exact h3 e.1)]⟩
    have : flagsN (barePk ((k : Int) / 16) false false 0) = fixN ((k : Int) / 16) := by unfold flagsN fixN; rw [if_neg (show ¬ (barePk ((k : Int) / 16) false false 0).kind = 3 from h3)]; rfl
    rw [this, ← h.2]
    show 16 * ((k : Int) / 16) + (k : Int) % 16 = k
    omega
/-- What getPk found, where it found a packet. -/
theorem getPk_inv {s : ByteArray} (h : (getPk s).2 = 0) : ∃ (m b : Nat), begOk (b0 s) = true ∧ 0 < s.size ∧ VP.get s 1 = ((m : Int), (b : Int), 0) ∧ m ≤ 65536 ∧ b + m = s.size ∧ b = 1 + (strOfNums (VP.putL m)).size ∧ Has s 1 (strOfNums (VP.putL m)) ∧
    (partsK (begPk (b0 s)).kind s b (begPk (b0 s))).2.2 = 0 ∧ (partsK (begPk (b0 s)).kind s b (begPk (b0 s))).2.1 = (s.size : Int) ∧ getPk s = ((partsK (begPk (b0 s)).kind s b (begPk (b0 s))).1, 0) := by
  unfold getPk at h ⊢
  by_cases h0 : s.size = 0
  · rw [if_pos h0] at h; exact absurd h (by simp)
  rw [if_neg h0] at h ⊢
  by_cases h1 : begOk (b0 s) = false
  · rw [if_pos h1] at h; exact absurd h (by simp)
  rw [if_neg h1] at h ⊢
  by_cases h2 : hdC s ≠ 0
  · rw [if_pos h2] at h; exact absurd h h2
  rw [if_neg h2] at h ⊢
  by_cases h3 : (rdWhole s (VP.get s 1).2.1 (begPk (b0 s))).2 ≠ 0
  · rw [if_pos h3] at h; exact absurd h h3
  rw [if_neg h3]
  have hh := Classical.not_not.1 h2
  have hc : (VP.get s 1).2.2 = 0 := by
    unfold hdC at hh
    split at hh
    · assumption
    · exact hh
  obtain ⟨n, n0, n1, n2, n3, _⟩ := PR.get_inv (U := s) (P := 1) (by omega) hc
  obtain ⟨m, rfl⟩ := Int.eq_ofNat_of_zero_le n0
  have n2' : VP.get s 1 = ((m : Int), ((1 + (strOfNums (VP.putL (m : Int))).size : Nat) : Int), 0) := n2
  unfold hdC at hh
  rw [if_pos hc, n2'] at hh
  unfold lenC at hh
  have hb2 : 1 + (strOfNums (VP.putL (m : Int))).size ≤ s.size := n3.1
  have hm : m ≤ 65536 ∧ (m : Int) = (s.size : Int) - ((1 + (strOfNums (VP.putL (m : Int))).size : Nat) : Int) := by
    simp only at hh
    repeat' split at hh
    all_goals first | exact absurd hh (by decide) | (constructor <;> omega)
  have h3' := Classical.not_not.1 h3
  rw [n2'] at h3' ⊢
  unfold rdWhole at h3' ⊢
  obtain ⟨c1, c2⟩ := thn0 h3'
  have he : (partsK (begPk (b0 s)).kind s ((1 + (strOfNums (VP.putL (m : Int))).size : Nat) : Int) (begPk (b0 s))).2.1 = (s.size : Int) := by
    split at c2
    · assumption
    · exact absurd c2 (by decide)
  exact ⟨m, _, by simpa using h1, by omega, rfl, hm.1, by omega, rfl, n3, c1, he, rfl⟩
/-- Bytes that are put so, are read so: what is known of a packet's beginning. -/
theorem putS_head {Q : Pk} (hk : 1 ≤ Q.kind ∧ Q.kind ≤ 15) (hc : putC Q = 0) (hf : 0 ≤ 16 * Q.kind + flagsN Q ∧ 16 * Q.kind + flagsN Q ≤ 255) : ∃ b : Nat, VP.get (putS Q) 1 = (((bodyO Q).1.size : Int), (b : Int), 0) ∧ b + (bodyO Q).1.size = (putS Q).size ∧ Has (putS Q) b (bodyO Q).1 ∧ b0 (putS Q) = 16 * Q.kind + flagsN Q ∧ (bodyO Q).1.size ≤ 65536 ∧ (bodyO Q).2 = 0 ∧ 0 < (putS Q).size := by
  have hb : (bodyO Q).2 = 0 ∧ (bodyO Q).1.size ≤ 65536 := by
    unfold putC at hc
    rw [if_neg (by omega)] at hc
    by_cases h1 : (bodyO Q).2 ≠ 0
    · rw [if_pos h1] at hc; exact absurd hc h1
    · rw [if_neg h1] at hc
      by_cases h2 : 65536 < (bodyO Q).1.size
      · rw [if_pos h2] at hc; exact absurd hc (by decide)
      · exact ⟨Classical.not_not.1 h1, by omega⟩
  have e : putS Q = strOfNums (VP.fixL 1 (16 * Q.kind + flagsN Q)) ++ strOfNums (VP.putL (bodyO Q).1.size) ++ (bodyO Q).1 := by unfold putS; rw [if_neg (by simp [hc])]
  obtain ⟨f1, f2⟩ := fix1_size hf.1 hf.2
  generalize hF : strOfNums (VP.fixL 1 (16 * Q.kind + flagsN Q)) = F at *
  generalize hL : strOfNums (VP.putL ((bodyO Q).1.size : Int)) = L at *
  have hs : Has (putS Q) 0 (F ++ L ++ (bodyO Q).1) := by rw [← e]; exact has_self _
  have hFL := has_left hs
  have hB := has_right hs
  have hF1 := has_left hFL
  have hL1 := has_right hFL
  rw [Nat.zero_add, ByteArray.size_append, f1] at hB
  rw [Nat.zero_add, f1] at hL1
  have hg := PR.get_has (U := putS Q) (P := 1) (n := ((bodyO Q).1.size : Int)) (by omega) (by omega) (by rw [hL]; exact hL1)
  rw [hL] at hg
  have hsz : (putS Q).size = 1 + L.size + (bodyO Q).1.size := by rw [e, ByteArray.size_append, ByteArray.size_append, f1]
  refine ⟨1 + L.size, hg, by omega, hB, ?_, hb.2, hb.1, by omega⟩
  have hr := PR.rd_has (U := putS Q) (P := 0) (w := 1) (n := 16 * Q.kind + flagsN Q) f2 (by rw [hF]; exact hF1)
  have hpos : 0 < (putS Q).size := by omega
  unfold b0
  rw [dif_pos hpos]
  unfold VP.rd at hr
  have := congrArg Prod.fst hr
  simp [hpos] at this
  exact this
/-- All of it as it was. -/
theorem exact_done {s : ByteArray} {Q : Pk} {m b : Nat} (hk : 1 ≤ Q.kind ∧ Q.kind ≤ 15) (hA : At s b (bodyO Q) (s.size : Int)) (hm : m ≤ 65536) (hbm : b + m = s.size) (hb : b = 1 + (strOfNums (VP.putL m)).size) (hL : Has s 1 (strOfNums (VP.putL m)))
    (hn : 16 * Q.kind + flagsN Q = b0 s) (hpos : 0 < s.size) : putC Q = 0 ∧ putS Q = s := by
  obtain ⟨h1, h2, h3⟩ := hA
  have hsz : (bodyO Q).1.size = m := by omega
  have hc : putC Q = 0 := by
    unfold putC
    rw [if_neg (by omega), if_neg (by simp [h1]), if_neg (by omega)]
  refine ⟨hc, ?_⟩
  have e : putS Q = strOfNums (VP.fixL 1 (16 * Q.kind + flagsN Q)) ++ strOfNums (VP.putL (bodyO Q).1.size) ++ (bodyO Q).1 := by unfold putS; rw [if_neg (by simp [hc])]
  have hbn : 0 ≤ b0 s ∧ b0 s ≤ 255 := by
    unfold b0
    rw [dif_pos hpos]
    have := VP.byte_lt s 0 hpos
    omega
  obtain ⟨f1, f2⟩ := fix1_size hbn.1 hbn.2
  have hF : Has s 0 (strOfNums (VP.fixL 1 (b0 s))) := by
    have hrc : (VP.rd s ((0 : Nat) : Int) 1).2.2 = 0 := by
      unfold VP.rd
      simp [hpos]
      rw [if_neg (by omega)]
    obtain ⟨n, n1, n2, n3⟩ := PR.rd_inv (U := s) (P := 0) (w := 1) hrc
    have hn0 : n = b0 s := by
      have := congrArg Prod.fst n2
      unfold VP.rd at this
      simp [hpos] at this
      unfold b0
      rw [dif_pos hpos]
      exact this.symm
    rw [← hn0]; exact n3
  rw [e, hn, hsz]
  have hall : Has s 0 (strOfNums (VP.fixL 1 (b0 s)) ++ strOfNums (VP.putL m) ++ (bodyO Q).1) := by
    refine has_both (has_both hF (by rw [Nat.zero_add, f1]; exact hL)) ?_
    rw [Nat.zero_add, ByteArray.size_append, f1, ← hb]
    exact h2
  have hx := has_ext hall
  rw [ByteArray.size_append, ByteArray.size_append, f1, hsz, ← hb, Nat.zero_add, hbm] at hx
  rw [← hx]
  simp
end PK
end Go.Proofs.YtlfgndhdifpngaaGreatDoor
