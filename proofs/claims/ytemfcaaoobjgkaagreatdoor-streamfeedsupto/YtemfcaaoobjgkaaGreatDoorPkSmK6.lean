/- The law's own test whether two packets are the same. (Written by wip/tools/gen_smk.py.) -/
import Derived.Test.YtemfcaaoobjgkaaGreatDoorMC
import Derived.Test.YtemfcaaoobjgkaaGreatDoorMD
import Derived.Test.YtemfcaaoobjgkaaGreatDoorME
import Derived.BigQuiet
import Derived.Deep.CutRange
namespace Go.Proofs.YtemfcaaoobjgkaaGreatDoor
open Go.RowKit
set_option maxRecDepth 100000 in
set_option maxHeartbeats 8000000 in
theorem smprops6_any (A1 A2 : Option Addr) (c1 c2 : Nat) (l : List Pr) (w : World) (hl : l.length ≤ 1000) (h1 : Props w A1 l) (h2 : Props w A2 l) :
    Calls Tryz.prog 23 #[.slice A1 l.length c1, .slice A2 l.length c2] w fun e w' => e = .returned (.bool true) ∧ Below w.heap.size w w' := by
  have H1 := Lib.hid h1
  have H2 := Lib.hid h2
  have hnn : ((l.length : Int) != (l.length : Int)) = false := by simp
  clear h1 h2
  go_enter Tryz.func23, Tryz.ntmps23
  go_wp2_with fail
  go_loopw [13] (fun i wr => ∃ k : Nat, i = .int .i64 k ∧ k ≤ l.length ∧ Hid (Below w.heap.size w wr)) (fun i _ => l.length - (intOf i).toNat)
  case atStart => exact ⟨0, rfl, by omega, Lib.hid (Below.refl _ _)⟩
  case round =>
    obtain ⟨k, rfl, hk, hbr⟩ := hrel
    by_cases hlt2 : k < l.length
    · obtain ⟨p, hp⟩ : ∃ p, l[k]? = some p := ⟨l[k], List.getElem?_eq_getElem hlt2⟩
      obtain ⟨g, o, rfl, hg, r0, r1, r2, r3⟩ := H1.out k p hp
      obtain ⟨g', o', rfl, hg', r0', r1', r2', r3'⟩ := H2.out k p hp
      have q0 := (hbr.out.cell (p := ⟨g, _, none⟩) hg).trans r0
      have q1 := (hbr.out.cell (p := ⟨g, _, none⟩) hg).trans r1
      have q2 := (hbr.out.cell (p := ⟨g, _, none⟩) hg).trans r2
      have q3 := (hbr.out.cell (p := ⟨g, _, none⟩) hg).trans r3
      have q0' := (hbr.out.cell (p := ⟨g', _, none⟩) hg').trans r0'
      have q1' := (hbr.out.cell (p := ⟨g', _, none⟩) hg').trans r1'
      have q2' := (hbr.out.cell (p := ⟨g', _, none⟩) hg').trans r2'
      have q3' := (hbr.out.cell (p := ⟨g', _, none⟩) hg').trans r3'
      have i1 : (0 : Int) ≤ (k : Int) := by omega
      have i2 : (k : Int) < (l.length : Int) := by omega
      clear r0 r1 r2 r3 r0' r1' r2' r3' hp
      obtain ⟨id', n', s', t'⟩ := p
      simp only at q0 q1 q2 q3 q0' q1' q2' q3'
      go_wp2_with fail
      go_quiet (fail)
      go_wp2
      go_roundw
      case rel => exact ⟨k + 1, by go_num, by omega, Lib.hid (hbr.out.trans (drewN_below _ _ _))⟩
      case measure => simp [intOf]; omega
    · have hkl : k = l.length := by omega
      subst hkl
      go_wp2
      go_ret
      exact ⟨rfl, hbr.out⟩
set_option linter.unusedSimpArgs false in
set_option linter.unusedVariables false in
set_option maxRecDepth 100000 in
set_option maxHeartbeats 16000000 in
theorem samepk6_any (P : Pk) (hf : PkF P) (B B' : Nat) (vc vp vw vs vf uc up uw us uf : Value) (w : World) (o : Own5 B P vc vp vw vs vf w) (r : Own5R B' P uc up uw us uf w) :
    Calls Tryz.prog 10 #[.agg (pkCells P vc vp vw vs vf), .agg (rkCells P uc up uw us uf)] w fun e w' => e = .returned (.bool true) ∧ Below w.heap.size w w' := by
  obtain ⟨A1, n1, rfl⟩ := own_form o.codes
  obtain ⟨A2, n2, rfl⟩ := own_form o.props
  obtain ⟨A3, n3, rfl⟩ := own_form o.wprops
  obtain ⟨A4, n4, rfl⟩ := own_form o.subs
  obtain ⟨A5, n5, rfl⟩ := own_form o.filters
  obtain ⟨B1, m1, rfl⟩ := own_form r.codes
  obtain ⟨B2, m2, rfl⟩ := own_form r.props
  obtain ⟨B3, m3, rfl⟩ := own_form r.wprops
  obtain ⟨B4, m4, rfl⟩ := own_form r.subs
  obtain ⟨B5, m5, rfl⟩ := own_form r.filters
  have HF := Lib.hid hf
  obtain ⟨W0, hW0⟩ : ∃ W0, W0 = (w.alloc (.cells (pkCells P (.slice A1 P.codes.length n1) (.slice A2 P.props.length n2) (.slice A3 P.wprops.length n3) (.slice A4 P.subs.length n4) (.slice A5 P.filters.length n5)) 45)).alloc (.cells (rkCells P (.slice B1 P.codes.length m1) (.slice B2 P.props.length m2) (.slice B3 P.wprops.length m3) (.slice B4 P.subs.length m4) (.slice B5 P.filters.length m5)) 52) := ⟨_, rfl⟩
  have bw : Below w.heap.size w W0 := by rw [hW0]; exact ((Below.refl _ _).alloc (Nat.le_refl _) _).alloc (by simp) _
  have q1 : W0.heap[w.heap.size]? = some (.cells (pkCells P (.slice A1 P.codes.length n1) (.slice A2 P.props.length n2) (.slice A3 P.wprops.length n3) (.slice A4 P.subs.length n4) (.slice A5 P.filters.length n5)) 45 (0, 0)) := by
    rw [hW0]; exact (Below.heap_alloc _ _ _ (by simp)).trans (heap_alloc_new w _)
  have q2 : W0.heap[w.heap.size + 1]? = some (.cells (rkCells P (.slice B1 P.codes.length m1) (.slice B2 P.props.length m2) (.slice B3 P.wprops.length m3) (.slice B4 P.subs.length m4) (.slice B5 P.filters.length m5)) 52 (0, 0)) := by
    have e := heap_alloc_new (w.alloc (.cells (pkCells P (.slice A1 P.codes.length n1) (.slice A2 P.props.length n2) (.slice A3 P.wprops.length n3) (.slice A4 P.subs.length n4) (.slice A5 P.filters.length n5)) 45)) (.cells (rkCells P (.slice B1 P.codes.length m1) (.slice B2 P.props.length m2) (.slice B3 P.wprops.length m3) (.slice B4 P.subs.length m4) (.slice B5 P.filters.length m5)) 52)
    rw [hW0]; simpa using e
  have HO := Lib.hid (own5_below o bw)
  have HR := Lib.hid (r.below bw)
  have HC1 := Lib.hid (own_codes HO.out.codes); have HC2 := Lib.hid (own_ints HR.out.codes)
  have HS1 := Lib.hid (own_subs rfl HO.out.subs); have HS2 := Lib.hid (own_subs2 rfl HR.out.subs)
  have HT1 := Lib.hid (own_texts HO.out.filters); have HT2 := Lib.hid (own_texts HR.out.filters)
  have CP : Hid (∀ W, Below W0.heap.size W0 W → Calls Tryz.prog 23 #[.slice A2 P.props.length n2, .slice B2 P.props.length m2] W fun e w' => e = .returned (.bool true) ∧ Below W.heap.size W w') := Lib.hid (fun W hb => smprops6_any A2 B2 n2 m2 P.props W (by have := HF.out.pr.1; omega) ((own_props HO.out.props).below hb) ((own_props HR.out.props).below hb))
  have CW : Hid (∀ W, Below W0.heap.size W0 W → Calls Tryz.prog 23 #[.slice A3 P.wprops.length n3, .slice B3 P.wprops.length m3] W fun e w' => e = .returned (.bool true) ∧ Below W.heap.size W w') := Lib.hid (fun W hb => smprops6_any A3 B3 n3 m3 P.wprops W (by have := HF.out.wpr.1; omega) ((own_props HO.out.wprops).below hb) ((own_props HR.out.wprops).below hb))
  have HB0 := Lib.hid bw; have Q1 := Lib.hid q1; have Q2 := Lib.hid q2; have HW0 := Lib.hid hW0
  clear hf o r bw q1 q2 hW0
  go_enter Tryz.func10, Tryz.ntmps10
  go_upto_region 1 with fail
  change Code.wp _ _ _ _ ((w.alloc (.cells (pkCells P (.slice A1 P.codes.length n1) (.slice A2 P.props.length n2) (.slice A3 P.wprops.length n3) (.slice A4 P.subs.length n4) (.slice A5 P.filters.length n5)) 45)).alloc (.cells (rkCells P (.slice B1 P.codes.length m1) (.slice B2 P.props.length m2) (.slice B3 P.wprops.length m3) (.slice B4 P.subs.length m4) (.slice B5 P.filters.length m5)) 52))
  rw [← HW0.out]
  clear HW0
  go_cut [83] from 8 to 255 (fun b wx => b = .bool false ∧ W0 = wx)
  case first =>
    have a0 := (cell_heap (i := 0) Q1.out).trans (show _ = some (.int .i64 P.kind) from rfl)
    have b0 := (cell_heap (i := 0) Q2.out).trans (show _ = some (.int .i64 P.kind) from rfl)
    have a1 := (cell_heap (i := 1) Q1.out).trans (show _ = some (.bool P.dup) from rfl)
    have b1 := (cell_heap (i := 1) Q2.out).trans (show _ = some (.bool P.dup) from rfl)
    have a2 := (cell_heap (i := 2) Q1.out).trans (show _ = some (.bool P.ret) from rfl)
    have b2 := (cell_heap (i := 2) Q2.out).trans (show _ = some (.bool P.ret) from rfl)
    have a3 := (cell_heap (i := 3) Q1.out).trans (show _ = some (.int .i64 P.qos) from rfl)
    have b3 := (cell_heap (i := 3) Q2.out).trans (show _ = some (.int .i64 P.qos) from rfl)
    have a4 := (cell_heap (i := 4) Q1.out).trans (show _ = some (.int .i64 P.id) from rfl)
    have b4 := (cell_heap (i := 4) Q2.out).trans (show _ = some (.int .i64 P.id) from rfl)
    have a5 := (cell_heap (i := 5) Q1.out).trans (show _ = some (.string P.topic) from rfl)
    have b5 := (cell_heap (i := 5) Q2.out).trans (show _ = some (.string P.topic) from rfl)
    have a6 := (cell_heap (i := 6) Q1.out).trans (show _ = some (.string P.pay) from rfl)
    have b6 := (cell_heap (i := 6) Q2.out).trans (show _ = some (.string P.pay) from rfl)
    have a7 := (cell_heap (i := 7) Q1.out).trans (show _ = some (.int .u8 P.code) from rfl)
    have b7 := (cell_heap (i := 7) Q2.out).trans (show _ = some (.int .i64 P.code) from rfl)
    have a10 := (cell_heap (i := 10) Q1.out).trans (show _ = some (.string P.client) from rfl)
    have b10 := (cell_heap (i := 10) Q2.out).trans (show _ = some (.string P.client) from rfl)
    have a11 := (cell_heap (i := 11) Q1.out).trans (show _ = some (.bool P.clean) from rfl)
    have b11 := (cell_heap (i := 11) Q2.out).trans (show _ = some (.bool P.clean) from rfl)
    have a12 := (cell_heap (i := 12) Q1.out).trans (show _ = some (.int .i64 P.keep) from rfl)
    have b12 := (cell_heap (i := 12) Q2.out).trans (show _ = some (.int .i64 P.keep) from rfl)
    have ec : IntKind.i64.wrap P.code = P.code := i64_byte HF.out.fine.code
    go_wp2
    go_meet
    exact ⟨rfl, rfl⟩
  case rest => as_aux_lemma =>
  obtain ⟨rfl, rfl⟩ := hcut
  go_upto_region 3 with fail
  go_cut [123] from 8 to 255 (fun b wx => b = .bool false ∧ W0 = wx)
  case first =>
    have a13 := (cell_heap (i := 13) Q1.out).trans (show _ = some (.bool P.hasWill) from rfl)
    have b13 := (cell_heap (i := 13) Q2.out).trans (show _ = some (.bool P.hasWill) from rfl)
    have a19 := (cell_heap (i := 19) Q1.out).trans (show _ = some (.bool P.hasUser) from rfl)
    have b19 := (cell_heap (i := 19) Q2.out).trans (show _ = some (.bool P.hasUser) from rfl)
    have a20 := (cell_heap (i := 20) Q1.out).trans (show _ = some (.bool P.hasPass) from rfl)
    have b20 := (cell_heap (i := 20) Q2.out).trans (show _ = some (.bool P.hasPass) from rfl)
    have a21 := (cell_heap (i := 21) Q1.out).trans (show _ = some (.string P.user) from rfl)
    have b21 := (cell_heap (i := 21) Q2.out).trans (show _ = some (.string P.user) from rfl)
    have a22 := (cell_heap (i := 22) Q1.out).trans (show _ = some (.string P.pass) from rfl)
    have b22 := (cell_heap (i := 22) Q2.out).trans (show _ = some (.string P.pass) from rfl)
    have a23 := (cell_heap (i := 23) Q1.out).trans (show _ = some (.bool P.session) from rfl)
    have b23 := (cell_heap (i := 23) Q2.out).trans (show _ = some (.bool P.session) from rfl)
    go_wp2
    go_meet
    exact ⟨rfl, rfl⟩
  case rest => as_aux_lemma =>
  obtain ⟨rfl, rfl⟩ := hcut
  go_upto_region 5 with fail
  go_cut [175] from 8 to 255 (fun b wx => b = .bool false ∧ Below W0.heap.size W0 wx)
  case first =>
    have a14 := (cell_heap (i := 14) Q1.out).trans (show _ = some (.string P.wtopic) from rfl)
    have b14 := (cell_heap (i := 14) Q2.out).trans (show _ = some (.string P.wtopic) from rfl)
    have a15 := (cell_heap (i := 15) Q1.out).trans (show _ = some (.string P.wpay) from rfl)
    have b15 := (cell_heap (i := 15) Q2.out).trans (show _ = some (.string P.wpay) from rfl)
    have a16 := (cell_heap (i := 16) Q1.out).trans (show _ = some (.int .i64 P.wqos) from rfl)
    have b16 := (cell_heap (i := 16) Q2.out).trans (show _ = some (.int .i64 P.wqos) from rfl)
    have a17 := (cell_heap (i := 17) Q1.out).trans (show _ = some (.bool P.wret) from rfl)
    have b17 := (cell_heap (i := 17) Q2.out).trans (show _ = some (.bool P.wret) from rfl)
    have a18 := (cell_heap (i := 18) Q1.out).trans (show _ = some (.slice A3 P.wprops.length n3) from rfl)
    have b18 := (cell_heap (i := 18) Q2.out).trans (show _ = some (.slice B3 P.wprops.length m3) from rfl)
    go_wp2_with fail
    refine (CW.out _ (Below.refl _ _)).mono ?_
    rintro e v1 ⟨rfl, b1⟩
    have a9 := (cell_heap (i := 9) ((b1.block _ (lt_heap Q1.out)).trans Q1.out)).trans (show _ = some (.slice A2 P.props.length n2) from rfl)
    have b9 := (cell_heap (i := 9) ((b1.block _ (lt_heap Q2.out)).trans Q2.out)).trans (show _ = some (.slice B2 P.props.length m2) from rfl)
    have BB := Lib.hid b1
    clear b1 a14 b14 a15 b15 a16 b16 a17 b17 a18 b18
    go_wp2_with fail
    refine (CP.out _ BB.out).mono ?_
    rintro e v2 ⟨rfl, b2⟩
    have BB2 := Lib.hid (BB.out.trans (b2.mono BB.out.size))
    clear b2 BB a9 b9
    go_wp2
    go_meet
    exact ⟨rfl, BB2.out⟩
  case rest => as_aux_lemma =>
  obtain ⟨rfl, hb⟩ := hcut
  have R1 := Lib.hid ((hb.block _ (lt_heap Q1.out)).trans Q1.out)
  have R2 := Lib.hid ((hb.block _ (lt_heap Q2.out)).trans Q2.out)
  have HB := Lib.hid (HB0.out.trans (hb.mono HB0.out.size))
  have HC1' := Lib.hid (HC1.out.below hb)
  have HC2' : Hid (Ints wc B1 P.codes) := Lib.hid (fun i x hx => by
    obtain ⟨g, o, hA, hg, h0⟩ := HC2.out i x hx
    have := hb.size
    exact ⟨g, o, hA, by omega, (hb.cell (p := ⟨g, _, none⟩) hg).trans h0⟩)
  have HS1' := Lib.hid (HS1.out.below hb)
  have HS2' := Lib.hid (HS2.out.below hb)
  have HT1' := Lib.hid (HT1.out.below hb)
  have HT2' := Lib.hid (HT2.out.below hb)
  clear Q1 Q2 HB0 HC1 HC2 HS1 HS2 HT1 HT2 CP CW HO HR hb
  generalize wc = W1 at *
  clear W0
  go_upto_region 7 with fail
  go_cut [200] from 8 to 255 (fun b wx => b = .bool false ∧ W1 = wx)
  case first =>
    have a8 := (cell_heap (i := 8) R1.out).trans (show _ = some (.slice A1 P.codes.length n1) from rfl)
    have b8 := (cell_heap (i := 8) R2.out).trans (show _ = some (.slice B1 P.codes.length m1) from rfl)
    have a24 := (cell_heap (i := 24) R1.out).trans (show _ = some (.slice A4 P.subs.length n4) from rfl)
    have b24 := (cell_heap (i := 24) R2.out).trans (show _ = some (.slice B4 P.subs.length m4) from rfl)
    have a25 := (cell_heap (i := 25) R1.out).trans (show _ = some (.slice A5 P.filters.length n5) from rfl)
    have b25 := (cell_heap (i := 25) R2.out).trans (show _ = some (.slice B5 P.filters.length m5) from rfl)
    go_wp2
    go_meet
    exact ⟨rfl, rfl⟩
  case rest => as_aux_lemma =>
  obtain ⟨rfl, rfl⟩ := hcut
  have hl1 := HF.out.fine.codes.1
  have hl4 := HF.out.fine.subs.1
  have hl5 := HF.out.fine.filters.1
  go_upto_region 9 with fail
  have a8 := (cell_heap (i := 8) R1.out).trans (show _ = some (.slice A1 P.codes.length n1) from rfl)
  go_wp2_with fail
  clear a8
  go_loopw [204] (fun i wr => ∃ k : Nat, i = .int .i64 k ∧ k ≤ P.codes.length ∧ Hid (Below W1.heap.size W1 wr)) (fun i _ => P.codes.length - (intOf i).toNat)
  case atStart => exact ⟨0, rfl, by omega, Lib.hid (Below.refl _ _)⟩
  case round =>
    obtain ⟨k, rfl, hk, hbr⟩ := hrel
    by_cases hlt2 : k < P.codes.length
    · obtain ⟨x, hx⟩ : ∃ x, P.codes[k]? = some x := ⟨P.codes[k], List.getElem?_eq_getElem hlt2⟩
      have mem := List.mem_of_getElem? hx
      obtain ⟨g, o, hA, hg, r0⟩ := HC1'.out k x hx
      obtain ⟨g', o', hA', hg', r0'⟩ := HC2'.out k x hx
      have q0 := (hbr.out.cell (p := ⟨g, _, none⟩) hg).trans r0
      have q0' := (hbr.out.cell (p := ⟨g', _, none⟩) hg').trans r0'
      have ex : IntKind.i64.wrap x = x := i64_byte (HF.out.fine.codes.2 x mem)
      have a8 := (cell_heap (i := 8) ((hbr.out.block _ (lt_heap R1.out)).trans R1.out)).trans (show _ = some (.slice (some ⟨g, o, none⟩) P.codes.length n1) from by rw [← hA]; rfl)
      have b8 := (cell_heap (i := 8) ((hbr.out.block _ (lt_heap R2.out)).trans R2.out)).trans (show _ = some (.slice (some ⟨g', o', none⟩) P.codes.length m1) from by rw [← hA']; rfl)
      have i1 : (0 : Int) ≤ (k : Int) := by omega
      have i2 : (k : Int) < (P.codes.length : Int) := by omega
      clear hA hA' hx mem r0 r0'
      go_wp2_with fail
      go_quiet (fail)
      go_wp2
      go_roundw
      case rel => exact ⟨k + 1, by go_num, by omega, Lib.hid (hbr.out.trans (drewN_below _ _ _))⟩
      case measure => simp [intOf]; omega
    · have hkl : k = P.codes.length := by omega
      subst hkl
      clear hk hlt2
      have a24 := (cell_heap (i := 24) ((hbr.out.block _ (lt_heap R1.out)).trans R1.out)).trans (show _ = some (.slice A4 P.subs.length n4) from rfl)
      go_wp2_with fail
      clear a24
      go_loopw [223] (fun i wr => ∃ k : Nat, i = .int .i64 k ∧ k ≤ P.subs.length ∧ Hid (Below W1.heap.size W1 wr)) (fun i _ => P.subs.length - (intOf i).toNat)
      case atStart => exact ⟨0, rfl, by omega, hbr⟩
      case round =>
        obtain ⟨k, rfl, hk, hbr⟩ := hrel
        by_cases hlt2 : k < P.subs.length
        · obtain ⟨x, hx⟩ : ∃ x, P.subs[k]? = some x := ⟨P.subs[k], List.getElem?_eq_getElem hlt2⟩
          have mem := List.mem_of_getElem? hx
          obtain ⟨g, o, hA, hg, r0, r1, r2, r3, r4⟩ := HS1'.out k x hx
          obtain ⟨g', o', hA', hg', r0', r1', r2', r3', r4'⟩ := HS2'.out k x hx
          have q0 := (hbr.out.cell (p := ⟨g, _, none⟩) hg).trans r0
          have q0' := (hbr.out.cell (p := ⟨g', _, none⟩) hg').trans r0'
          have q1 := (hbr.out.cell (p := ⟨g, _, none⟩) hg).trans r1
          have q1' := (hbr.out.cell (p := ⟨g', _, none⟩) hg').trans r1'
          have q2 := (hbr.out.cell (p := ⟨g, _, none⟩) hg).trans r2
          have q2' := (hbr.out.cell (p := ⟨g', _, none⟩) hg').trans r2'
          have q3 := (hbr.out.cell (p := ⟨g, _, none⟩) hg).trans r3
          have q3' := (hbr.out.cell (p := ⟨g', _, none⟩) hg').trans r3'
          have q4 := (hbr.out.cell (p := ⟨g, _, none⟩) hg).trans r4
          have q4' := (hbr.out.cell (p := ⟨g', _, none⟩) hg').trans r4'
          have a24 := (cell_heap (i := 24) ((hbr.out.block _ (lt_heap R1.out)).trans R1.out)).trans (show _ = some (.slice (some ⟨g, o, none⟩) P.subs.length n4) from by rw [← hA]; rfl)
          have b24 := (cell_heap (i := 24) ((hbr.out.block _ (lt_heap R2.out)).trans R2.out)).trans (show _ = some (.slice (some ⟨g', o', none⟩) P.subs.length m4) from by rw [← hA']; rfl)
          have i1 : (0 : Int) ≤ (k : Int) := by omega
          have i2 : (k : Int) < (P.subs.length : Int) := by omega
          clear hA hA' hx mem r0 r0' r1 r1' r2 r2' r3 r3' r4 r4'
          obtain ⟨sf, sq, sn, sa, sh⟩ := x
          simp only at q0 q1 q2 q3 q4 q0' q1' q2' q3' q4'
          go_wp2_with fail
          go_quiet (fail)
          go_wp2
          go_roundw
          case rel => exact ⟨k + 1, by go_num, by omega, Lib.hid (hbr.out.trans (drewN_below _ _ _))⟩
          case measure => simp [intOf]; omega
        · have hkl : k = P.subs.length := by omega
          subst hkl
          clear hk hlt2
          have a25 := (cell_heap (i := 25) ((hbr.out.block _ (lt_heap R1.out)).trans R1.out)).trans (show _ = some (.slice A5 P.filters.length n5) from rfl)
          go_wp2_with fail
          clear a25
          go_loopw [241] (fun i wr => ∃ k : Nat, i = .int .i64 k ∧ k ≤ P.filters.length ∧ Hid (Below W1.heap.size W1 wr)) (fun i _ => P.filters.length - (intOf i).toNat)
          case atStart => exact ⟨0, rfl, by omega, hbr⟩
          case round =>
            obtain ⟨k, rfl, hk, hbr⟩ := hrel
            by_cases hlt2 : k < P.filters.length
            · obtain ⟨x, hx⟩ : ∃ x, P.filters[k]? = some x := ⟨P.filters[k], List.getElem?_eq_getElem hlt2⟩
              have mem := List.mem_of_getElem? hx
              obtain ⟨g, o, hA, hg, r0⟩ := HT1'.out k x hx
              obtain ⟨g', o', hA', hg', r0'⟩ := HT2'.out k x hx
              have q0 := (hbr.out.cell (p := ⟨g, _, none⟩) hg).trans r0
              have q0' := (hbr.out.cell (p := ⟨g', _, none⟩) hg').trans r0'
              have a25 := (cell_heap (i := 25) ((hbr.out.block _ (lt_heap R1.out)).trans R1.out)).trans (show _ = some (.slice (some ⟨g, o, none⟩) P.filters.length n5) from by rw [← hA]; rfl)
              have b25 := (cell_heap (i := 25) ((hbr.out.block _ (lt_heap R2.out)).trans R2.out)).trans (show _ = some (.slice (some ⟨g', o', none⟩) P.filters.length m5) from by rw [← hA']; rfl)
              have i1 : (0 : Int) ≤ (k : Int) := by omega
              have i2 : (k : Int) < (P.filters.length : Int) := by omega
              clear hA hA' hx mem r0 r0'
              go_wp2_with fail
              go_quiet (fail)
              go_wp2
              go_roundw
              case rel => exact ⟨k + 1, by go_num, by omega, Lib.hid (hbr.out.trans (drewN_below _ _ _))⟩
              case measure => simp [intOf]; omega
            · have hkl : k = P.filters.length := by omega
              subst hkl
              clear hk hlt2
              go_wp2
              go_ret
              exact ⟨rfl, HB.out.trans (hbr.out.mono HB.out.size)⟩
end Go.Proofs.YtemfcaaoobjgkaaGreatDoor
