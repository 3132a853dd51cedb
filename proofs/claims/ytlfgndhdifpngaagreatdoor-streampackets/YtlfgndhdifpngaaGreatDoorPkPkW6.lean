/- The law's helper that makes packets (layer 6's own). -/
import Derived.Test.YtlfgndhdifpngaaGreatDoorME
import Derived.Test.YtlfgndhdifpngaaGreatDoorMF
namespace Go.Proofs.YtlfgndhdifpngaaGreatDoor
open Go.RowKit
attribute [local go_sem ↓] Go.wp_at_zero Go.wp_at_succ

set_option maxRecDepth 100000 in
set_option maxHeartbeats 4000000 in
theorem packets_any6 (X : Pk) (w : World) (Ac Ap Aw As Af : Option Addr) (cc cp cw cs cf : Nat) (hcd : 0 ≤ X.code ∧ X.code ≤ 255) (hcs : ∀ c ∈ X.codes, 0 ≤ c ∧ c ≤ 255)
    (rc : Codes w Ac X.codes) (rp : Props w Ap X.props) (rw' : Props w Aw X.wprops) (rs : Subs w As X.subs) (rf : Texts w Af X.filters)
    (lc : X.codes.length ≤ maxLen ∧ X.codes.length ≤ cc) (lp : X.props.length ≤ maxLen ∧ X.props.length ≤ cp) (lw : X.wprops.length ≤ maxLen ∧ X.wprops.length ≤ cw) (ls : X.subs.length ≤ maxLen ∧ X.subs.length ≤ cs) (lf : X.filters.length ≤ maxLen ∧ X.filters.length ≤ cf) :
    Calls Tryz.prog 16 #[.agg (pkCells X (.slice Ac X.codes.length cc) (.slice Ap X.props.length cp) (.slice Aw X.wprops.length cw) (.slice As X.subs.length cs) (.slice Af X.filters.length cf))] w (PksP w X) := by
  have hz1 : (w.alloc (.cells (pkCells X (.slice Ac X.codes.length cc) (.slice Ap X.props.length cp) (.slice Aw X.wprops.length cw) (.slice As X.subs.length cs) (.slice Af X.filters.length cf)) 66)).heap.size = w.heap.size + 1 := by simp
  have hz2 : ((w.alloc (.cells (pkCells X (.slice Ac X.codes.length cc) (.slice Ap X.props.length cp) (.slice Aw X.wprops.length cw) (.slice As X.subs.length cs) (.slice Af X.filters.length cf)) 66)).alloc (.cells (pkNil PK.zeroPk) 31)).heap.size = w.heap.size + 2 := by simp
  have k0 := heap_alloc_new w (.cells (pkCells X (.slice Ac X.codes.length cc) (.slice Ap X.props.length cp) (.slice Aw X.wprops.length cw) (.slice As X.subs.length cs) (.slice Af X.filters.length cf)) 66)
  have k1 : ((w.alloc (.cells (pkCells X (.slice Ac X.codes.length cc) (.slice Ap X.props.length cp) (.slice Aw X.wprops.length cw) (.slice As X.subs.length cs) (.slice Af X.filters.length cf)) 66)).alloc (.cells (pkNil PK.zeroPk) 31)).heap[w.heap.size + 1]? = some (.cells (pkNil PK.zeroPk) 31 (0, 0)) := by rw [← hz1]; exact heap_alloc_new _ _
  have k2 : (((w.alloc (.cells (pkCells X (.slice Ac X.codes.length cc) (.slice Ap X.props.length cp) (.slice Aw X.wprops.length cw) (.slice As X.subs.length cs) (.slice Af X.filters.length cf)) 66)).alloc (.cells (pkNil PK.zeroPk) 31)).alloc (.cells (rkNil PK.zeroPk) 40)).heap[w.heap.size + 2]? = some (.cells (rkNil PK.zeroPk) 40 (0, 0)) := by rw [← hz2]; exact heap_alloc_new _ _
  have bA1 := (Below.refl w.heap.size w).alloc (Nat.le_refl _) (.cells (pkCells X (.slice Ac X.codes.length cc) (.slice Ap X.props.length cp) (.slice Aw X.wprops.length cw) (.slice As X.subs.length cs) (.slice Af X.filters.length cf)) 66)
  have bA2 := (Below.refl _ (w.alloc (.cells (pkCells X (.slice Ac X.codes.length cc) (.slice Ap X.props.length cp) (.slice Aw X.wprops.length cw) (.slice As X.subs.length cs) (.slice Af X.filters.length cf)) 66))).alloc (Nat.le_refl _) (.cells (pkNil PK.zeroPk) 31)
  have bA3 := (Below.refl _ ((w.alloc (.cells (pkCells X (.slice Ac X.codes.length cc) (.slice Ap X.props.length cp) (.slice Aw X.wprops.length cw) (.slice As X.subs.length cs) (.slice Af X.filters.length cf)) 66)).alloc (.cells (pkNil PK.zeroPk) 31))).alloc (Nat.le_refl _) (.cells (rkNil PK.zeroPk) 40)
  obtain ⟨wA, hwA⟩ : ∃ wA, wA = (((w.alloc (.cells (pkCells X (.slice Ac X.codes.length cc) (.slice Ap X.props.length cp) (.slice Aw X.wprops.length cw) (.slice As X.subs.length cs) (.slice Af X.filters.length cf)) 66)).alloc (.cells (pkNil PK.zeroPk) 31)).alloc (.cells (rkNil PK.zeroPk) 40)) := ⟨_, rfl⟩
  have a0 : wA.heap[w.heap.size]? = some (.cells (pkCells X (.slice Ac X.codes.length cc) (.slice Ap X.props.length cp) (.slice Aw X.wprops.length cw) (.slice As X.subs.length cs) (.slice Af X.filters.length cf)) 66 (0, 0)) := by rw [hwA]; exact (bA3.block _ (by omega)).trans ((bA2.block _ (by omega)).trans k0)
  have a1 : wA.heap[w.heap.size + 1]? = some (.cells (pkNil PK.zeroPk) 31 (0, 0)) := by rw [hwA]; exact (bA3.block _ (by omega)).trans k1
  have a2 : wA.heap[w.heap.size + 2]? = some (.cells (rkNil PK.zeroPk) 40 (0, 0)) := by rw [hwA]; exact k2
  have bA : Below w.heap.size w wA := by rw [hwA]; exact (bA1.trans (bA2.mono (by omega))).trans (bA3.mono (by omega))
  have sA : wA.heap.size = w.heap.size + 3 := by rw [hwA]; simp
  clear k0 k1 k2 bA1 bA2 bA3 hz1 hz2
  have HwA := Lib.hid hwA
  have HA0 := Lib.hid a0; have HA1 := Lib.hid a1; have HA2 := Lib.hid a2; have HBA := Lib.hid bA
  clear hwA a0 a1 a2 bA
  go_enter Tryz.func16, Tryz.ntmps16
  go_upto_region 1 with fail
  change Code.wp _ _ _ _ (((w.alloc (.cells (pkCells X (.slice Ac X.codes.length cc) (.slice Ap X.props.length cp) (.slice Aw X.wprops.length cw) (.slice As X.subs.length cs) (.slice Af X.filters.length cf)) 66)).alloc (.cells (pkNil PK.zeroPk) 31)).alloc (.cells (rkNil PK.zeroPk) 40))
  rw [← HwA.out]
  clear HwA
  obtain ⟨wB, hwB⟩ : ∃ wB, wB = (wA.alloc (.cells (pkNil PK.zeroPk) 31)).setRow (w.heap.size + 3) (pkNil (bareX X)) := ⟨_, rfl⟩
  have Z1 : (wA.alloc (.cells (pkNil PK.zeroPk) 31)).heap[w.heap.size + 3]? = some (.cells (pkNil PK.zeroPk) 31 (0, 0)) := by rw [← sA]; exact heap_alloc_new wA _
  have bB : Below wA.heap.size wA wB := by rw [hwB]; exact below_setRow ((Below.refl _ _).alloc (Nat.le_refl _) _) (by omega) _
  have q3 : wB.heap[w.heap.size + 3]? = some (.cells (pkNil (bareX X)) 31 (0, 0)) := by rw [hwB]; exact setRow_heap Z1
  have sB : wB.heap.size = w.heap.size + 4 := by rw [hwB]; simp [World.setRow]; omega
  obtain ⟨wC, hwC⟩ : ∃ wC, wC = (wB.alloc (.cells (rkNil PK.zeroPk) 40)).setRow (w.heap.size + 4) (rkNil (bareX X)) := ⟨_, rfl⟩
  have Z2 : (wB.alloc (.cells (rkNil PK.zeroPk) 40)).heap[w.heap.size + 4]? = some (.cells (rkNil PK.zeroPk) 40 (0, 0)) := by rw [← sB]; exact heap_alloc_new wB _
  have bC : Below wB.heap.size wB wC := by rw [hwC]; exact below_setRow ((Below.refl _ _).alloc (Nat.le_refl _) _) (by omega) _
  have q4 : wC.heap[w.heap.size + 4]? = some (.cells (rkNil (bareX X)) 40 (0, 0)) := by rw [hwC]; exact setRow_heap Z2
  have bAC := bB.trans (bC.mono bB.size)
  have nl : ∀ (e : TypeId) (k : Nat), wC.ownsRow (w.heap.size + 5) e k (.slice none 0 0) 0 [] := fun e k => own_nil _ _ _ _
  have HP0 : Hid (PE 66 w (pkCells X (.slice Ac X.codes.length cc) (.slice Ap X.props.length cp) (.slice Aw X.wprops.length cw) (.slice As X.subs.length cs) (.slice Af X.filters.length cf)) (bareX X) wC) :=
    Lib.hid ⟨.slice none 0 0, .slice none 0 0, .slice none 0 0, .slice none 0 0, .slice none 0 0, .slice none 0 0, .slice none 0 0, .slice none 0 0, .slice none 0 0, .slice none 0 0, (bAC.block _ (lt_heap HA0.out)).trans HA0.out, (bAC.block _ (lt_heap HA1.out)).trans HA1.out, (bAC.block _ (lt_heap HA2.out)).trans HA2.out, (bC.block _ (lt_heap q3)).trans q3, q4, ⟨nl _ _, nl _ _, nl _ _, nl _ _, nl _ _⟩, ⟨nl _ _, nl _ _, nl _ _, nl _ _, nl _ _⟩, .inl rfl, HBA.out.trans (bAC.mono HBA.out.size)⟩
  have HZ1 := Lib.hid Z1; have HZ2 := Lib.hid Z2; have HwB := Lib.hid hwB; have HwC := Lib.hid hwC
  have HO1 := Lib.hid (pkNil_one (bareX X)); have HO2 := Lib.hid (rkNil_one (bareX X))
  have i8 := i64_byte hcd
  have HB0 := Lib.hid ((bB.block _ (lt_heap HA0.out)).trans HA0.out)
  clear bB bC bAC nl q3 q4 Z1 Z2 hwB hwC HA1 HA2 HBA
  go_cut [4] (fun v wx => v = .pointer (some ⟨w.heap.size + 3, 0, none⟩) ∧ wB = wx)
  case first =>
    obtain ⟨e0, e1, e2, e3, e4, e5, e6, e7, -, -, e10, e11, e12, e13, -, -, -, -, -, e19, e20, e21, e22, e23, -, -⟩ := pk_cells HA0.out
    go_wp2_with (refine wpList_store_row (by rfl) 31 (.tmp 4) (.tmp 46) (by rfl) (w.heap.size + 3) (pkNil (bareX X)) (by rfl) (by rfl) 31 (pkNil PK.zeroPk) HZ1.out pk_info rfl HO1.out ?_)
    go_meet
    case rel => exact ⟨rfl, HwB.out⟩
  case rest =>
    obtain ⟨rfl, rfl⟩ := hcut
    clear HZ1 HwB HO1 HA0
    go_upto_region 2 with fail
    go_cut [5] (fun v wx => v = .pointer (some ⟨w.heap.size + 4, 0, none⟩) ∧ wC = wx)
    case first =>
      obtain ⟨e0, e1, e2, e3, e4, e5, e6, e7, -, -, e10, e11, e12, e13, -, -, -, -, -, e19, e20, e21, e22, e23, -, -⟩ := pk_cells HB0.out
      go_wp2_with (refine wpList_store_row (by rfl) 40 (.tmp 5) (.tmp 82) (by rfl) (w.heap.size + 4) (rkNil (bareX X)) (by rfl) (by rfl) 40 (rkNil PK.zeroPk) HZ2.out rk_info rfl HO2.out ?_)
      go_meet
      case rel => exact ⟨rfl, HwC.out⟩
    case rest =>
      obtain ⟨rfl, rfl⟩ := hcut
      clear HZ2 HwC HO2 HB0 sA sB i8
      go_upto_region 3 with fail
      go_cut [83] (fun _ wx => Hid (PE 66 w (pkCells X (.slice Ac X.codes.length cc) (.slice Ap X.props.length cp) (.slice Aw X.wprops.length cw) (.slice As X.subs.length cs) (.slice Af X.filters.length cf)) (pks1 X) wx))
      case first =>
        obtain ⟨vc, vp, vw, vs, vf, uc, up, uw, us, uf, h⟩ := HP0.out
        have e9 : wC.cell? ⟨w.heap.size, 9, none⟩ = some (.slice Ap X.props.length cp) := (cell_heap (i := 9) h.b0).trans rfl
        have CPr := Lib.hid (props5_any6 Ap cp X.props lp.1 wC (rp.below h.below) lp.2)
        have H := Lib.hid h
        clear h
        go_wp2_with fail
        refine CPr.out.mono ?_
        rintro e w1 ⟨v1, v2, rfl, hR, hb⟩
        obtain ⟨A1, l1, n1, rfl⟩ := row_form hR.1
        obtain ⟨A2, l2, n2, rfl⟩ := row_form hR.2
        have n := H.out.next hb
        have c3 := (cell_heap (i := 9) n.b3).trans (show _ = some vp from rfl)
        have c4 := (cell_heap (i := 9) n.b4).trans (show _ = some up from rfl)
        have z3 : w1.frozen? ⟨w.heap.size + 3, 9, none⟩ = false := frozen_heap n.b3
        have z4 : w1.frozen? ⟨w.heap.size + 4, 9, none⟩ = false := frozen_heap n.b4
        have HN := Lib.hid (H.out.props hR hb)
        clear n hb hR CPr H e9
        go_wp2_with fail
        go_meet
        case rel => exact Lib.hid ⟨_, _, _, _, _, _, _, _, _, _, HN.out⟩
      case rest =>
        clear HP0
        generalize wc = wD at *
        have HP1 := hcut
        clear hcut
        go_upto_region 4 with fail
        go_cut [103] (fun _ wx => setW wD (w.heap.size + 3) X.wtopic X.wpay X.wqos X.wret = wx)
        case first =>
          obtain ⟨vc, vp, vw, vs, vf, uc, up, uw, us, uf, h⟩ := HP1.out
          obtain ⟨-, -, -, -, -, -, -, -, -, -, -, -, -, -, e14, e15, e16, e17, -, -, -, -, -, -, -, -⟩ := pk_cells h.b0
          obtain ⟨-, -, -, -, -, -, -, -, -, -, -, -, -, -, g14, g15, g16, g17, g18, -, -, -, -, -, -, -⟩ := pk_cells h.b3
          have z : wD.frozen? ⟨w.heap.size + 3, 14, none⟩ = false := frozen_heap h.b3
          have z' : wD.frozen? ⟨w.heap.size + 3, 15, none⟩ = false := frozen_heap h.b3
          have z'' : wD.frozen? ⟨w.heap.size + 3, 16, none⟩ = false := frozen_heap h.b3
          have z3 : wD.frozen? ⟨w.heap.size + 3, 17, none⟩ = false := frozen_heap h.b3
          have z4 : wD.frozen? ⟨w.heap.size + 3, 18, none⟩ = false := frozen_heap h.b3
          clear h
          go_wp2_with fail
          go_meet
          case rel => exact rfl
        case rest =>
          subst hcut
          go_upto_region 5 with fail
          go_cut [117] (fun _ wx => setW (setW wD (w.heap.size + 3) X.wtopic X.wpay X.wqos X.wret) (w.heap.size + 4) X.wtopic X.wpay X.wqos X.wret = wx)
          case first =>
            obtain ⟨vc, vp, vw, vs, vf, uc, up, uw, us, uf, h⟩ := HP1.out
            have b0 := (setW_far (t := X.wtopic) (p := X.wpay) (q := X.wqos) (r := X.wret) (show w.heap.size ≠ w.heap.size + 3 by omega)).trans h.b0
            have b4 := (setW_far (t := X.wtopic) (p := X.wpay) (q := X.wqos) (r := X.wret) (show w.heap.size + 4 ≠ w.heap.size + 3 by omega)).trans h.b4
            clear h
            generalize setW wD (w.heap.size + 3) X.wtopic X.wpay X.wqos X.wret = wE at *
            obtain ⟨-, -, -, -, -, -, -, -, -, -, -, -, -, -, e14, e15, e16, e17, -, -, -, -, -, -, -, -⟩ := pk_cells b0
            have g14 : wE.cell? ⟨w.heap.size + 4, 14, none⟩ = some _ := (cell_heap (i := 14) b4).trans rfl
            have g15 : wE.cell? ⟨w.heap.size + 4, 15, none⟩ = some _ := (cell_heap (i := 15) b4).trans rfl
            have g16 : wE.cell? ⟨w.heap.size + 4, 16, none⟩ = some _ := (cell_heap (i := 16) b4).trans rfl
            have g17 : wE.cell? ⟨w.heap.size + 4, 17, none⟩ = some _ := (cell_heap (i := 17) b4).trans rfl
            have g18 : wE.cell? ⟨w.heap.size + 4, 18, none⟩ = some _ := (cell_heap (i := 18) b4).trans rfl
            have z : wE.frozen? ⟨w.heap.size + 4, 14, none⟩ = false := frozen_heap b4
            have z' : wE.frozen? ⟨w.heap.size + 4, 15, none⟩ = false := frozen_heap b4
            have z'' : wE.frozen? ⟨w.heap.size + 4, 16, none⟩ = false := frozen_heap b4
            have z3 : wE.frozen? ⟨w.heap.size + 4, 17, none⟩ = false := frozen_heap b4
            have z4 : wE.frozen? ⟨w.heap.size + 4, 18, none⟩ = false := frozen_heap b4
            clear b0 b4
            go_wp2_with fail
            go_meet
            case rel => exact rfl
          case rest =>
            subst hcut
            have HP2 : Hid (PE 66 w (pkCells X (.slice Ac X.codes.length cc) (.slice Ap X.props.length cp) (.slice Aw X.wprops.length cw) (.slice As X.subs.length cs) (.slice Af X.filters.length cf)) (pks2 X) (setW (setW wD (w.heap.size + 3) X.wtopic X.wpay X.wqos X.wret) (w.heap.size + 4) X.wtopic X.wpay X.wqos X.wret)) := Lib.hid (HP1.out.will rfl X.wtopic X.wpay X.wqos X.wret)
            clear HP1
            generalize setW (setW wD (w.heap.size + 3) X.wtopic X.wpay X.wqos X.wret) (w.heap.size + 4) X.wtopic X.wpay X.wqos X.wret = wE at *
            go_upto_region 6 with fail
            go_cut [119] (fun _ wx => Hid (PE 66 w (pkCells X (.slice Ac X.codes.length cc) (.slice Ap X.props.length cp) (.slice Aw X.wprops.length cw) (.slice As X.subs.length cs) (.slice Af X.filters.length cf)) (pks3 X) wx))
            case first =>
              obtain ⟨vc, vp, vw, vs, vf, uc, up, uw, us, uf, h⟩ := HP2.out
              have e9 : wE.cell? ⟨w.heap.size, 18, none⟩ = some (.slice Aw X.wprops.length cw) := (cell_heap (i := 18) h.b0).trans rfl
              have CPr := Lib.hid (props5_any6 Aw cw X.wprops lw.1 wE (rw'.below h.below) lw.2)
              have H := Lib.hid h
              clear h
              go_wp2_with fail
              refine CPr.out.mono ?_
              rintro e w1 ⟨v1, v2, rfl, hR, hb⟩
              obtain ⟨A1, l1, n1, rfl⟩ := row_form hR.1
              obtain ⟨A2, l2, n2, rfl⟩ := row_form hR.2
              have n := H.out.next hb
              have c3 := (cell_heap (i := 18) n.b3).trans (show _ = some vw from rfl)
              have c4 := (cell_heap (i := 18) n.b4).trans (show _ = some uw from rfl)
              have z3 : w1.frozen? ⟨w.heap.size + 3, 18, none⟩ = false := frozen_heap n.b3
              have z4 : w1.frozen? ⟨w.heap.size + 4, 18, none⟩ = false := frozen_heap n.b4
              have HN := Lib.hid (H.out.wprops hR hb)
              clear n hb hR CPr H e9
              go_wp2_with fail
              go_meet
              case rel => exact Lib.hid ⟨_, _, _, _, _, _, _, _, _, _, HN.out⟩
            case rest =>
              clear HP2
              generalize wc = wF at *
              have HP3 := hcut
              clear hcut
              go_upto_region 7 with fail
              obtain ⟨m, hm, hm1, hm2, hm5⟩ : ∃ m : Nat, min (X.codes.length : Int) 80 = (m : Int) ∧ m ≤ 80 ∧ m ≤ X.codes.length ∧ X.codes.take m = X.codes.take 80 := by
                by_cases h80 : X.codes.length ≤ 80
                · exact ⟨X.codes.length, by omega, by omega, by omega, by rw [List.take_of_length_le (Nat.le_refl _), List.take_of_length_le h80]⟩
                · exact ⟨80, by omega, by omega, by omega, rfl⟩
              have hm3 : ((m : Int)).toNat = m := by omega
              have hm4 : max (m : Int) 0 = m := by omega
              have Hm5 := Lib.hid hm5
              have Hm := Lib.hid hm
              clear hm5 hm
              have l1 := lc.1; have l2 := lc.2
              unfold maxLen at l1
              have e8 : wF.cell? ⟨w.heap.size, 8, none⟩ = some (.slice Ac X.codes.length cc) := by
                obtain ⟨vc, vp, vw, vs, vf, uc, up, uw, us, uf, h⟩ := HP3.out
                exact (cell_heap (i := 8) h.b0).trans rfl
              go_wp2_with fail
              rw [Hm.out, hm3, hm4]
              clear hm3 hm4 Hm e8 l1 l2
              go_loopw [138] (fun i wr => ∃ k : Nat, i = .int .i64 k ∧ k ≤ m ∧ Hid (PE 66 w (pkCells X (.slice Ac X.codes.length cc) (.slice Ap X.props.length cp) (.slice Aw X.wprops.length cw) (.slice As X.subs.length cs) (.slice Af X.filters.length cf)) (pksC X k) wr)) (fun i _ => m - (intOf i).toNat)
              case atStart => exact ⟨0, rfl, by omega, HP3⟩
              case round =>
                obtain ⟨k, rfl, hk, hP⟩ := hrel
                clear HP3
                by_cases hlt : k < m
                · obtain ⟨x, hx⟩ : ∃ x, X.codes[k]? = some x := ⟨X.codes[k]'(by omega), List.getElem?_eq_getElem _⟩
                  obtain ⟨g, o, rfl, hg, r0⟩ := rc k x hx
                  obtain ⟨vc, vp, vw, vs, vf, uc, up, uw, us, uf, h⟩ := hP.out
                  have E1 : Hid (X.codes.take (k + 1) = X.codes.take k ++ [x]) := Lib.hid (by obtain ⟨h1, h2⟩ := List.getElem?_eq_some_iff.1 hx; rw [List.take_succ_eq_append_getElem h1, h2])
                  have hl80 : (X.codes.take k).length < 1000 := by simp; omega
                  have q0 : wr.cell? ⟨g, o + k, none⟩ = some (.int .u8 x) := (h.below.cell (p := ⟨g, _, none⟩) hg).trans r0
                  have i0 : (0 : Int) ≤ (k : Int) := by omega
                  have i1 : (k : Int) < (m : Int) := by omega
                  have H := Lib.hid h
                  have hxb := hcs x (List.mem_of_getElem? hx)
                  clear h r0 hP hx
                  go_upto_region 10 with fail
                  have Hd := H.out.next ((Below.refl _ wr).drew)
                  refine wp_region_noPanic (wp_region_T (by kernel_rfl) (rg_codes6 (fun _ _ _ _ _ h => h) _ (by kernel_rfl) _ rfl (w.heap.size + 3) (w.heap.size + 4) rfl rfl x hxb rfl (w.heap.size + 5) _ vc uc _ _ _ Hd.own.codes Hd.ref.codes (rows_apart Hd.ref.codes Hd.own.codes (by decide)) hl80 _ _ Hd.b3 Hd.b4 rfl rfl (by omega) (by omega) (by omega) Hd.size ?_))
                  intro x1 x2 v1 v2 w2 hp
                  refine NoPanic.normal ?_
                  have HN := Lib.hid (PE.codes Hd x E1.out hp)
                  clear hp Hd H
                  simp only [Act.put, List.setIfInBounds_toArray, List.set_cons_zero, List.set_cons_succ]
                  go_wp2_with fail
                  go_roundw
                  case rel => exact ⟨k + 1, by go_num, by omega, HN⟩
                  case measure => simp [intOf]; omega
                · have hkm : k = m := by omega
                  subst hkm
                  have HN : Hid (PE 66 w (pkCells X (.slice Ac X.codes.length cc) (.slice Ap X.props.length cp) (.slice Aw X.wprops.length cw) (.slice As X.subs.length cs) (.slice Af X.filters.length cf)) (pksC X 80) wr) := by
                    have h0 := hP.out
                    unfold pksC at h0 ⊢
                    rw [Hm5.out] at h0
                    exact Lib.hid h0
                  clear hP Hm5
                  generalize wr = wG at *
                  go_upto_region 12 with fail
                  have HQ := HN
                  clear HN
                  obtain ⟨m2, hm2, hm21, hm22, hm25⟩ : ∃ m : Nat, min (X.subs.length : Int) 80 = (m : Int) ∧ m ≤ 80 ∧ m ≤ X.subs.length ∧ X.subs.take m = X.subs.take 80 := by
                    by_cases h80 : X.subs.length ≤ 80
                    · exact ⟨X.subs.length, by omega, by omega, by omega, by rw [List.take_of_length_le (Nat.le_refl _), List.take_of_length_le h80]⟩
                    · exact ⟨80, by omega, by omega, by omega, rfl⟩
                  have hm23 : ((m2 : Int)).toNat = m2 := by omega
                  have hm24 : max (m2 : Int) 0 = m2 := by omega
                  have Hm25 := Lib.hid hm25
                  have Hm2 := Lib.hid hm2
                  clear hm25 hm2
                  have l1 := ls.1; have l2 := ls.2
                  unfold maxLen at l1
                  have e8 : wG.cell? ⟨w.heap.size, 24, none⟩ = some (.slice As X.subs.length cs) := by
                    obtain ⟨vc, vp, vw, vs, vf, uc, up, uw, us, uf, h⟩ := HQ.out
                    exact (cell_heap (i := 24) h.b0).trans rfl
                  go_wp2_with fail
                  rw [Hm2.out, hm23, hm24]
                  clear hm23 hm24 Hm2 e8 l1 l2
                  go_loopw [164] (fun i wr => ∃ k : Nat, i = .int .i64 k ∧ k ≤ m2 ∧ Hid (PE 66 w (pkCells X (.slice Ac X.codes.length cc) (.slice Ap X.props.length cp) (.slice Aw X.wprops.length cw) (.slice As X.subs.length cs) (.slice Af X.filters.length cf)) (pksS X k) wr)) (fun i _ => m2 - (intOf i).toNat)
                  case atStart => exact ⟨0, rfl, by omega, HQ⟩
                  case round =>
                    obtain ⟨k, rfl, hk, hP⟩ := hrel
                    clear HQ
                    by_cases hlt : k < m2
                    · obtain ⟨x, hx⟩ : ∃ x, X.subs[k]? = some x := ⟨X.subs[k]'(by omega), List.getElem?_eq_getElem _⟩
                      obtain ⟨g, o, rfl, hg, r0, r1, r2, r3, r4⟩ := rs k x hx
                      obtain ⟨vc, vp, vw, vs, vf, uc, up, uw, us, uf, h⟩ := hP.out
                      have E1 : Hid (X.subs.take (k + 1) = X.subs.take k ++ [x]) := Lib.hid (by obtain ⟨h1, h2⟩ := List.getElem?_eq_some_iff.1 hx; rw [List.take_succ_eq_append_getElem h1, h2])
                      have hl80 : (X.subs.take k).length < 1000 := by simp; omega
                      have q0 : wr.cell? ⟨g, o + k * 5, none⟩ = some (.string x.f) := (h.below.cell (p := ⟨g, _, none⟩) hg).trans r0
                      have q1 : wr.cell? ⟨g, o + k * 5 + 1, none⟩ = some (.int .i64 x.q) := (h.below.cell (p := ⟨g, _, none⟩) hg).trans r1
                      have q2 : wr.cell? ⟨g, o + k * 5 + 2, none⟩ = some (.bool x.nl) := (h.below.cell (p := ⟨g, _, none⟩) hg).trans r2
                      have q3 : wr.cell? ⟨g, o + k * 5 + 3, none⟩ = some (.bool x.ap) := (h.below.cell (p := ⟨g, _, none⟩) hg).trans r3
                      have q4 : wr.cell? ⟨g, o + k * 5 + 4, none⟩ = some (.int .i64 x.h) := (h.below.cell (p := ⟨g, _, none⟩) hg).trans r4
                      have i0 : (0 : Int) ≤ (k : Int) := by omega
                      have i1 : (k : Int) < (m2 : Int) := by omega
                      have H := Lib.hid h
                      clear h r0 r1 r2 r3 r4 hP hx
                      obtain ⟨xf, xq, xn, xa, xh⟩ := x
                      simp only at q0 q1 q2 q3 q4
                      go_upto_region 15 with fail
                      have bal := (Below.refl wr.heap.size wr).alloc (Nat.le_refl _) (.cells #[.string xf, .int .i64 xq, .bool xn, .bool xa, .int .i64 xh] 116)
                      have hnb : (wr.alloc (.cells #[.string xf, .int .i64 xq, .bool xn, .bool xa, .int .i64 xh] 116)).heap[wr.heap.size]? = some (.cells #[.string xf, .int .i64 xq, .bool xn, .bool xa, .int .i64 xh] 116 (0, 0)) := heap_alloc_new wr _
                      change Code.wp _ _ _ _ (wr.alloc (.cells #[.string xf, .int .i64 xq, .bool xn, .bool xa, .int .i64 xh] 116))
                      have n9 : vs.ownBlock ≠ some wr.heap.size := fun e => by have := (H.out.own.subs.lt _ e).2; omega
                      have m9 : us.ownBlock ≠ some wr.heap.size := fun e => by have := (H.out.ref.subs.lt _ e).2; omega
                      have Hd := H.out.next (bal.drew)
                      have b9 : (wr.alloc (.cells #[.string xf, .int .i64 xq, .bool xn, .bool xa, .int .i64 xh] 116)).drew.heap[wr.heap.size]? = some (.cells #[.string xf, .int .i64 xq, .bool xn, .bool xa, .int .i64 xh] 116 (0, 0)) := (((Below.refl _ (wr.alloc (.cells #[.string xf, .int .i64 xq, .bool xn, .bool xa, .int .i64 xh] 116))).drew).block _ (lt_heap hnb)).trans hnb
                      refine wp_region_noPanic (wp_region_T (by kernel_rfl) (rg_subs6 (fun _ _ _ _ _ h => h) _ (by kernel_rfl) _ rfl (w.heap.size + 3) (w.heap.size + 4) rfl rfl xf xq xn xa xh wr.heap.size rfl (w.heap.size + 5) _ vs us _ _ _ Hd.own.subs Hd.ref.subs (rows_apart Hd.ref.subs Hd.own.subs (by decide)) hl80 _ _ Hd.b3 Hd.b4 rfl rfl (by omega) (by omega) (by omega) Hd.size b9 n9 m9 ?_))
                      intro x1 x2 v1 v2 w2 hp
                      refine NoPanic.normal ?_
                      have HN := Lib.hid (PE.subs Hd ⟨xf, xq, xn, xa, xh⟩ E1.out hp)
                      clear hp Hd H b9 n9 m9 hnb bal q0 q1 q2 q3 q4
                      simp only [Act.put, List.setIfInBounds_toArray, List.set_cons_zero, List.set_cons_succ]
                      go_wp2_with fail
                      go_roundw
                      case rel => exact ⟨k + 1, by go_num, by omega, HN⟩
                      case measure => simp [intOf]; omega
                    · have hkm : k = m2 := by omega
                      subst hkm
                      have HN : Hid (PE 66 w (pkCells X (.slice Ac X.codes.length cc) (.slice Ap X.props.length cp) (.slice Aw X.wprops.length cw) (.slice As X.subs.length cs) (.slice Af X.filters.length cf)) (pksS X 80) wr) := by
                        have h0 := hP.out
                        unfold pksS at h0 ⊢
                        rw [Hm25.out] at h0
                        exact Lib.hid h0
                      clear hP Hm25
                      generalize wr = wH at *
                      go_upto_region 17 with fail
                      have HQ := HN
                      clear HN
                      obtain ⟨m3, hm3, hm31, hm32, hm35⟩ : ∃ m : Nat, min (X.filters.length : Int) 80 = (m : Int) ∧ m ≤ 80 ∧ m ≤ X.filters.length ∧ X.filters.take m = X.filters.take 80 := by
                        by_cases h80 : X.filters.length ≤ 80
                        · exact ⟨X.filters.length, by omega, by omega, by omega, by rw [List.take_of_length_le (Nat.le_refl _), List.take_of_length_le h80]⟩
                        · exact ⟨80, by omega, by omega, by omega, rfl⟩
                      have hm33 : ((m3 : Int)).toNat = m3 := by omega
                      have hm34 : max (m3 : Int) 0 = m3 := by omega
                      have Hm35 := Lib.hid hm35
                      have Hm3 := Lib.hid hm3
                      clear hm35 hm3
                      have l1 := lf.1; have l2 := lf.2
                      unfold maxLen at l1
                      have e8 : wH.cell? ⟨w.heap.size, 25, none⟩ = some (.slice Af X.filters.length cf) := by
                        obtain ⟨vc, vp, vw, vs, vf, uc, up, uw, us, uf, h⟩ := HQ.out
                        exact (cell_heap (i := 25) h.b0).trans rfl
                      go_wp2_with fail
                      rw [Hm3.out, hm33, hm34]
                      clear hm33 hm34 Hm3 e8 l1 l2
                      go_loopw [189] (fun i wr => ∃ k : Nat, i = .int .i64 k ∧ k ≤ m3 ∧ Hid (PE 66 w (pkCells X (.slice Ac X.codes.length cc) (.slice Ap X.props.length cp) (.slice Aw X.wprops.length cw) (.slice As X.subs.length cs) (.slice Af X.filters.length cf)) (pksF X k) wr)) (fun i _ => m3 - (intOf i).toNat)
                      case atStart => exact ⟨0, rfl, by omega, HQ⟩
                      case round =>
                        obtain ⟨k, rfl, hk, hP⟩ := hrel
                        clear HQ
                        by_cases hlt : k < m3
                        · obtain ⟨x, hx⟩ : ∃ x, X.filters[k]? = some x := ⟨X.filters[k]'(by omega), List.getElem?_eq_getElem _⟩
                          obtain ⟨g, o, rfl, hg, r0⟩ := rf k x hx
                          obtain ⟨vc, vp, vw, vs, vf, uc, up, uw, us, uf, h⟩ := hP.out
                          have E1 : Hid (X.filters.take (k + 1) = X.filters.take k ++ [x]) := Lib.hid (by obtain ⟨h1, h2⟩ := List.getElem?_eq_some_iff.1 hx; rw [List.take_succ_eq_append_getElem h1, h2])
                          have hl80 : (X.filters.take k).length < 1000 := by simp; omega
                          have q0 : wr.cell? ⟨g, o + k, none⟩ = some (.string x) := (h.below.cell (p := ⟨g, _, none⟩) hg).trans r0
                          have i0 : (0 : Int) ≤ (k : Int) := by omega
                          have i1 : (k : Int) < (m3 : Int) := by omega
                          have H := Lib.hid h
                          clear h r0 hP hx
                          go_upto_region 20 with fail
                          have Hd := H.out.next ((Below.refl _ wr).drew)
                          refine wp_region_noPanic (wp_region_T (by kernel_rfl) (rg_texts6 (fun _ _ _ _ _ h => h) _ (by kernel_rfl) _ rfl (w.heap.size + 3) (w.heap.size + 4) rfl rfl x rfl (w.heap.size + 5) _ vf uf _ _ _ Hd.own.filters Hd.ref.filters Hd.apart hl80 _ _ Hd.b3 Hd.b4 rfl rfl (by omega) (by omega) (by omega) Hd.size ?_))
                          intro x1 x2 v1 v2 w2 hp
                          refine NoPanic.normal ?_
                          have HN := Lib.hid (PE.texts Hd x E1.out hp)
                          clear hp Hd H
                          simp only [Act.put, List.setIfInBounds_toArray, List.set_cons_zero, List.set_cons_succ]
                          go_wp2_with fail
                          go_roundw
                          case rel => exact ⟨k + 1, by go_num, by omega, HN⟩
                          case measure => simp [intOf]; omega
                        · have hkm : k = m3 := by omega
                          subst hkm
                          have HN : Hid (PE 66 w (pkCells X (.slice Ac X.codes.length cc) (.slice Ap X.props.length cp) (.slice Aw X.wprops.length cw) (.slice As X.subs.length cs) (.slice Af X.filters.length cf)) (pksF X 80) wr) := by
                            have h0 := hP.out
                            unfold pksF at h0 ⊢
                            rw [Hm35.out] at h0
                            exact Lib.hid h0
                          clear hP Hm35
                          generalize wr = wI at *
                          go_upto_region 22 with fail
                          rw [pksF_is] at HN
                          obtain ⟨vc, vp, vw, vs, vf, uc, up, uw, us, uf, h⟩ := HN.out
                          clear HN
                          generalize hY : cut80 X = Y at *
                          have HY := Lib.hid hY
                          clear hY
                          have hd := h.next ((Below.refl _ wI).drew)
                          have O3 := Lib.hid (pk_one Y h.own); have O4 := Lib.hid (rk_one Y h.ref)
                          have fin : ∀ W, W = (wI.drew.setRow (w.heap.size + 1) (pkCells Y vc vp vw vs vf)).setRow (w.heap.size + 2) (rkCells Y uc up uw us uf) →
                              W.heap[w.heap.size + 1]? = some (.cells (pkCells Y vc vp vw vs vf) 31 (0, 0)) ∧ W.heap[w.heap.size + 2]? = some (.cells (rkCells Y uc up uw us uf) 40 (0, 0)) ∧ Own5 w.heap.size Y vc vp vw vs vf W ∧ Own5R w.heap.size Y uc up uw us uf W ∧ Below w.heap.size w W := by
                            intro W hW
                            subst hW
                            have h1 := setRow_heap (cs := pkCells Y vc vp vw vs vf) hd.b1
                            have h2 : (wI.drew.setRow (w.heap.size + 1) (pkCells Y vc vp vw vs vf)).heap[w.heap.size + 2]? = some (.cells (rkNil PK.zeroPk) 40 (0, 0)) := (setRow_other _ (by omega)).trans hd.b2
                            have K := fun {e : TypeId} {k : Nat} {v : Value} {n : Nat} {xs : List Value} (ho : wI.drew.ownsRow (w.heap.size + 5) e k v n xs) => own_base' (own_setRow (g := w.heap.size + 2) (rkCells Y uc up uw us uf) (own_setRow (g := w.heap.size + 1) (pkCells Y vc vp vw vs vf) ho (row_ne ho (by omega))) (row_ne ho (by omega))) (show w.heap.size ≤ w.heap.size + 5 by omega)
                            exact ⟨(setRow_other _ (by omega)).trans h1, setRow_heap h2, ⟨K hd.own.codes, K hd.own.props, K hd.own.wprops, K hd.own.subs, K hd.own.filters⟩, ⟨K hd.ref.codes, K hd.ref.props, K hd.ref.wprops, K hd.ref.subs, K hd.ref.filters⟩, below_setRow (below_setRow hd.below (by omega) _) (by omega) _⟩
                          have FIN := Lib.hid fin
                          have B1 := Lib.hid hd.b1; have B2 := Lib.hid hd.b2; have B3 := Lib.hid hd.b3; have B4 := Lib.hid hd.b4
                          clear h hd fin
                          refine wp_region_any (by kernel_rfl) ?_
                          change wpAny _ _ _ _ _ _ _ (World.drew _)
                          refine wpAny_ready (rs := [0, 1]) (by kernel_rfl) (by simp) (AllReady.cons rfl (fun K hK => ?_) (AllReady.cons rfl (fun K hK => ?_) (AllReady.nil)))
                          · skip
                            refine step_load_pk (by rfl) (.tmp 4) (by rfl) (w.heap.size + 3) (by rfl) B3.out ?_
                            refine hK _ _ ?_
                            clear hK K
                            refine wpAny_ready (rs := [1, 2]) (by kernel_rfl) (by simp) (AllReady.cons rfl (fun K hK => ?_) (AllReady.cons rfl (fun K hK => ?_) (AllReady.nil)))
                            · skip
                              refine step_load_rk (by rfl) (.tmp 5) (by rfl) (w.heap.size + 4) (by rfl) B4.out ?_
                              refine hK _ _ ?_
                              clear hK K
                              refine wpAny_ready (rs := [2]) (by kernel_rfl) (by simp) (AllReady.cons rfl (fun K hK => ?_) (AllReady.nil))
                              refine step_store_pk (by rfl) (.tmp 2) (.tmp 206) (by rfl) (w.heap.size + 1) (pkCells Y vc vp vw vs vf) (by rfl) (by rfl) B1.out pk_info rfl O3.out ?_
                              refine hK _ _ ?_
                              clear hK K
                              refine wpAny_ready (rs := [3]) (by kernel_rfl) (by simp) (AllReady.cons rfl (fun K hK => ?_) (AllReady.nil))
                              refine step_store_rk (by rfl) (.tmp 3) (.tmp 207) (by rfl) (w.heap.size + 2) (rkCells Y uc up uw us uf) (by rfl) (by rfl) ((setRow_other _ (by omega)).trans B2.out) rk_info rfl O4.out ?_
                              refine hK _ _ ?_
                              clear hK K
                              refine wpAny_done (by kernel_rfl) ?_ _
                              obtain ⟨W, hW⟩ : ∃ W, W = (wI.drew.setRow (w.heap.size + 1) (pkCells Y vc vp vw vs vf)).setRow (w.heap.size + 2) (rkCells Y uc up uw us uf) := ⟨_, rfl⟩
                              obtain ⟨f1, f2, f3, f4, f5⟩ := FIN.out W hW
                              rw [← hW]
                              have l1 := load_pk_var f1
                              have l2 := load_rk_var f2
                              have F345 := Lib.hid (And.intro f3 (And.intro f4 f5))
                              clear f1 f2 f3 f4 f5 hW FIN B1 B2 B3 B4 O3 O4
                              go_wp2_with fail
                              refine bodyPost_ret (v := .tuple #[.agg (pkCells Y vc vp vw vs vf), .agg (rkCells Y uc up uw us uf)]) ?_ rfl ⟨vc, vp, vw, vs, vf, uc, up, uw, us, uf, by rw [HY.out], by rw [HY.out]; exact F345.out⟩
                              simp only [results, Tryz.results16]
                              simp
                              exact read_pair l1 l2
                            · skip
                              refine step_store_pk (by rfl) (.tmp 2) (.tmp 206) (by rfl) (w.heap.size + 1) (pkCells Y vc vp vw vs vf) (by rfl) (by rfl) B1.out pk_info rfl O3.out ?_
                              refine hK _ _ ?_
                              clear hK K
                              refine wpAny_ready (rs := [1]) (by kernel_rfl) (by simp) (AllReady.cons rfl (fun K hK => ?_) (AllReady.nil))
                              refine step_load_rk (by rfl) (.tmp 5) (by rfl) (w.heap.size + 4) (by rfl) ((setRow_other _ (by omega)).trans B4.out) ?_
                              refine hK _ _ ?_
                              clear hK K
                              refine wpAny_ready (rs := [3]) (by kernel_rfl) (by simp) (AllReady.cons rfl (fun K hK => ?_) (AllReady.nil))
                              refine step_store_rk (by rfl) (.tmp 3) (.tmp 207) (by rfl) (w.heap.size + 2) (rkCells Y uc up uw us uf) (by rfl) (by rfl) ((setRow_other _ (by omega)).trans B2.out) rk_info rfl O4.out ?_
                              refine hK _ _ ?_
                              clear hK K
                              refine wpAny_done (by kernel_rfl) ?_ _
                              obtain ⟨W, hW⟩ : ∃ W, W = (wI.drew.setRow (w.heap.size + 1) (pkCells Y vc vp vw vs vf)).setRow (w.heap.size + 2) (rkCells Y uc up uw us uf) := ⟨_, rfl⟩
                              obtain ⟨f1, f2, f3, f4, f5⟩ := FIN.out W hW
                              rw [← hW]
                              have l1 := load_pk_var f1
                              have l2 := load_rk_var f2
                              have F345 := Lib.hid (And.intro f3 (And.intro f4 f5))
                              clear f1 f2 f3 f4 f5 hW FIN B1 B2 B3 B4 O3 O4
                              go_wp2_with fail
                              refine bodyPost_ret (v := .tuple #[.agg (pkCells Y vc vp vw vs vf), .agg (rkCells Y uc up uw us uf)]) ?_ rfl ⟨vc, vp, vw, vs, vf, uc, up, uw, us, uf, by rw [HY.out], by rw [HY.out]; exact F345.out⟩
                              simp only [results, Tryz.results16]
                              simp
                              exact read_pair l1 l2
                          · skip
                            refine step_load_rk (by rfl) (.tmp 5) (by rfl) (w.heap.size + 4) (by rfl) B4.out ?_
                            refine hK _ _ ?_
                            clear hK K
                            refine wpAny_ready (rs := [0]) (by kernel_rfl) (by simp) (AllReady.cons rfl (fun K hK => ?_) (AllReady.nil))
                            refine step_load_pk (by rfl) (.tmp 4) (by rfl) (w.heap.size + 3) (by rfl) B3.out ?_
                            refine hK _ _ ?_
                            clear hK K
                            refine wpAny_ready (rs := [2]) (by kernel_rfl) (by simp) (AllReady.cons rfl (fun K hK => ?_) (AllReady.nil))
                            refine step_store_pk (by rfl) (.tmp 2) (.tmp 206) (by rfl) (w.heap.size + 1) (pkCells Y vc vp vw vs vf) (by rfl) (by rfl) B1.out pk_info rfl O3.out ?_
                            refine hK _ _ ?_
                            clear hK K
                            refine wpAny_ready (rs := [3]) (by kernel_rfl) (by simp) (AllReady.cons rfl (fun K hK => ?_) (AllReady.nil))
                            refine step_store_rk (by rfl) (.tmp 3) (.tmp 207) (by rfl) (w.heap.size + 2) (rkCells Y uc up uw us uf) (by rfl) (by rfl) ((setRow_other _ (by omega)).trans B2.out) rk_info rfl O4.out ?_
                            refine hK _ _ ?_
                            clear hK K
                            refine wpAny_done (by kernel_rfl) ?_ _
                            obtain ⟨W, hW⟩ : ∃ W, W = (wI.drew.setRow (w.heap.size + 1) (pkCells Y vc vp vw vs vf)).setRow (w.heap.size + 2) (rkCells Y uc up uw us uf) := ⟨_, rfl⟩
                            obtain ⟨f1, f2, f3, f4, f5⟩ := FIN.out W hW
                            rw [← hW]
                            have l1 := load_pk_var f1
                            have l2 := load_rk_var f2
                            have F345 := Lib.hid (And.intro f3 (And.intro f4 f5))
                            clear f1 f2 f3 f4 f5 hW FIN B1 B2 B3 B4 O3 O4
                            go_wp2_with fail
                            refine bodyPost_ret (v := .tuple #[.agg (pkCells Y vc vp vw vs vf), .agg (rkCells Y uc up uw us uf)]) ?_ rfl ⟨vc, vp, vw, vs, vf, uc, up, uw, us, uf, by rw [HY.out], by rw [HY.out]; exact F345.out⟩
                            simp only [results, Tryz.results16]
                            simp
                            exact read_pair l1 l2
end Go.Proofs.YtlfgndhdifpngaaGreatDoor
