/- PacketCuts: a packet's bytes, cut off anywhere, are too few; with one more they are none. -/
import Derived.Test.YtjajandjdclifaaGreatDoorPkLawP
namespace Go.Proofs.YtjajandjdclifaaGreatDoor
open Go.RowKit
attribute [local go_sem ↓] Go.wp_at_zero Go.wp_at_succ

set_option maxRecDepth 100000 in
set_option maxHeartbeats 4000000 in
theorem packetCuts_walk (w : World) (X : Pk) (Ac Ap Aw As Af : Option Addr) (cc cp cw cs cf : Nat) (hX : ArgX w X Ac Ap Aw As Af cc cp cw cs cf) (cut : Int) (_hcut : (Lit.int .i64 cut).wf = true) (more : Int) (_hmore : (Lit.int .u8 more).wf = true) (hT0 : Tabs w) :
    Calls Tryz.prog 6 #[.agg (pkCells X (.slice Ac X.codes.length cc) (.slice Ap X.props.length cp) (.slice Aw X.wprops.length cw) (.slice As X.subs.length cs) (.slice Af X.filters.length cf)), .int .i64 cut, .int .u8 more] w fun e w' => e = .returned (.bool true) ∧ Below w.heap.size w w' := by
  have HTb : Hid (∀ W, Below w.heap.size w W → Tabs W) := Lib.hid (fun W hW => hT0.below hW)
  obtain ⟨w0, hw0⟩ : ∃ w0, w0 = w.alloc (.cells (pkCells X (.slice Ac X.codes.length cc) (.slice Ap X.props.length cp) (.slice Aw X.wprops.length cw) (.slice As X.subs.length cs) (.slice Af X.filters.length cf)) 51) := ⟨_, rfl⟩
  have p0 : w0.heap[w.heap.size]? = some (.cells (pkCells X (.slice Ac X.codes.length cc) (.slice Ap X.props.length cp) (.slice Aw X.wprops.length cw) (.slice As X.subs.length cs) (.slice Af X.filters.length cf)) 51 (0, 0)) := by rw [hw0]; exact heap_alloc_new w _
  have b0 : Below w.heap.size w w0 := by rw [hw0]; exact (Below.refl _ _).alloc (Nat.le_refl _) _
  have CK := Lib.hid (packets_any X w0 Ac Ap Aw As Af cc cp cw cs cf hX.fine.code hX.fine.codes (hX.codes.below b0) (hX.props.below b0) (hX.wprops.below b0) (hX.subs.below b0) (hX.filters.below b0) hX.lc hX.lp hX.lw hX.ls hX.lf)
  have HPf := Lib.hid (cut80_f hX.fine)
  unfold PksP at CK
  obtain ⟨P, hP⟩ : ∃ P, P = cut80 X := ⟨_, rfl⟩
  rw [← hP] at CK HPf
  have P0 := Lib.hid p0; have HB0 := Lib.hid b0; have HW0 := Lib.hid hw0
  clear hX hT0 hP p0 b0 hw0
  by_cases hc : PK.putC P = 0
  · obtain ⟨hsm, hsp⟩ := PK.putS_small P hc
    have hcn := PK.cut_none P hc
    have hmb := PK.more_bad P hc
    generalize hS : PK.putS P = S at *
    have HS := Lib.hid hS; have HC := Lib.hid hc
    have hne : S.toList.isEmpty = false := str_some hsp
    obtain ⟨k, hk, hk2⟩ : ∃ k : Nat, max 0 cut % (S.size : Int) = (k : Int) ∧ k < S.size := ⟨(max 0 cut % (S.size : Int)).toNat, by rw [Int.toNat_of_nonneg (Int.emod_nonneg _ (by omega))], by have := Int.emod_lt_of_pos (max 0 cut) (show 0 < (S.size : Int) by omega); have := Int.emod_nonneg (max 0 cut) (show (S.size : Int) ≠ 0 by omega); omega⟩
    have hk0 : (0 : Int) ≤ (k : Int) := by omega
    have hk3 : (k : Int) ≤ (S.size : Int) := by omega
    clear hS hc
    go_enter Tryz.func6, Tryz.ntmps6
    go_upto_region 1 with fail
    change Code.wp _ _ _ _ (w.alloc (.cells (pkCells X (.slice Ac X.codes.length cc) (.slice Ap X.props.length cp) (.slice Aw X.wprops.length cw) (.slice As X.subs.length cs) (.slice Af X.filters.length cf)) 51))
    rw [← HW0.out]
    clear HW0
    go_wp2_with (refine wpl_load_x (by rfl) (.tmp 3) (by rfl) w.heap.size (by rfl) P0.out ?_)
    refine CK.out.mono ?_
    rintro e w1 ⟨vc, vp, vw, vs, vf, uc, up, uw, us, uf, rfl, o1, or1, b1⟩
    have W1 := Lib.hid (pk_one P o1); have W2 := Lib.hid (rk_one P or1)
    obtain ⟨wA, hwA⟩ : ∃ wA, wA = (((w1.alloc (.cells (pkNil PK.zeroPk) 31)).alloc (.cells (rkNil PK.zeroPk) 40)).setRow w1.heap.size (pkCells P vc vp vw vs vf)).setRow (w1.heap.size + 1) (rkCells P uc up uw us uf) := ⟨_, rfl⟩
    obtain ⟨z1, z2, pA, oA, hBA⟩ := two_vars (uc := uc) (up := up) (uw := uw) (us := us) (uf := uf) o1 (HB0.out.trans (b1.mono HB0.out.size)) hwA
    have CP := Lib.hid (pput_any P vc vp vw vs vf wA (own5_in oA HPf.out (fun W hW => HTb.out W (hBA.trans (hW.mono hBA.size)))))
    rw [HS.out, HC.out] at CP
    have Z1 := Lib.hid z1; have Z2 := Lib.hid z2; have PA := Lib.hid pA; have HBA := Lib.hid hBA; have HwA := Lib.hid hwA
    clear z1 z2 pA oA hBA hwA o1 or1 b1 CK P0 HB0
    go_upto_region 2 with (first
      | refine wpList_store_row (by rfl) 31 (.tmp 7) (.tmp 18) (by rfl) w1.heap.size (pkCells P vc vp vw vs vf) (by rfl) (by rfl) 31 (pkNil PK.zeroPk) Z1.out pk_info rfl W1.out ?_
      | refine wpList_store_row (by rfl) 40 (.tmp 8) (.tmp 19) (by rfl) (w1.heap.size + 1) (rkCells P uc up uw us uf) (by rfl) (by rfl) 40 (rkNil PK.zeroPk) Z2.out rk_info rfl W2.out ?_)
    change Code.wp _ _ _ _ ((((w1.alloc (.cells (pkNil PK.zeroPk) 31)).alloc (.cells (rkNil PK.zeroPk) 40)).setRow w1.heap.size (pkCells P vc vp vw vs vf)).setRow (w1.heap.size + 1) (rkCells P uc up uw us uf))
    rw [← HwA.out]
    clear HwA Z1 Z2 W1 W2
    go_wp2_with (refine wpl_load_pk (by rfl) (.tmp 7) (by rfl) w1.heap.size (by rfl) PA.out ?_)
    refine CP.out.mono ?_
    rintro e w2 ⟨rfl, b2⟩
    have p2 := (b2.block _ (lt_heap PA.out)).trans PA.out
    have hB2 := HBA.out.trans (b2.mono HBA.out.size)
    have CW := Lib.hid (lwakes_any w2 (fun W hW => HTb.out W (hB2.trans (hW.mono hB2.size))))
    have P2 := Lib.hid p2; have HB2 := Lib.hid hB2
    clear b2 p2 hB2 CP PA HBA
    go_wp2_with fail
    refine CW.out.mono ?_
    rintro e w3 ⟨rfl, b3⟩
    have p3 := (b3.block _ (lt_heap P2.out)).trans P2.out
    have hB3 := HB2.out.trans (b3.mono HB2.out.size)
    have P3 := Lib.hid p3; have HB3 := Lib.hid hB3
    clear b3 p3 hB3 CW P2 HB2
    have CG := Lib.hid (get_pk_any (S.extract 0 k) (by rw [ByteArray.size_extract]; omega) w3 (fun W hW => HTb.out W (HB3.out.trans (hW.mono HB3.out.size))))
    unfold GtP at CG
    rw [hcn k hk2] at CG
    have HK := Lib.hid hcn
    have HM := Lib.hid hmb
    clear hcn hmb
    go_wp2_with fail
    refine CG.out.mono ?_
    rintro e w4 ⟨_, h4, b4⟩
    obtain rfl := h4 (by decide)
    have O4 := Lib.hid (pkNil_one PK.zeroPk)
    have Z4 : Hid ((w4.alloc (.cells (pkNil PK.zeroPk) 31)).heap[w4.heap.size]? = some (.cells (pkNil PK.zeroPk) 31 (0, 0))) := Lib.hid (heap_alloc_new w4 _)
    obtain ⟨wB, hwB⟩ : ∃ wB, wB = (w4.alloc (.cells (pkNil PK.zeroPk) 31)).setRow w4.heap.size (pkNil PK.zeroPk) := ⟨_, rfl⟩
    have bB : Below w4.heap.size w4 wB := by rw [hwB]; exact below_setRow ((Below.refl _ _).alloc (Nat.le_refl _) _) (Nat.le_refl _) _
    have hB4 := HB3.out.trans (b4.mono HB3.out.size)
    have HBB := Lib.hid (hB4.trans (bB.mono hB4.size)); have HwB := Lib.hid hwB
    clear h4 b4 hB4 bB hwB CG P3 HB3
    go_upto_region 6 with (refine wpList_store_row (by rfl) 31 (.tmp 11) (.tmp 49) (by rfl) w4.heap.size (pkNil PK.zeroPk) (by rfl) (by rfl) 31 (pkNil PK.zeroPk) Z4.out pk_info rfl O4.out ?_)
    change Code.wp _ _ _ _ ((w4.alloc (.cells (pkNil PK.zeroPk) 31)).setRow w4.heap.size (pkNil PK.zeroPk))
    rw [← HwB.out]
    clear HwB Z4
    have cv := conv1 wB more
    have bT := (Below.refl _ wB).alloc (Nat.le_refl _) (.cells #[.int .u8 more] 5)
    have hBT := HBB.out.trans (bT.mono HBB.out.size)
    have s1 : (strOfNums [more]).size = 1 := rfl
    have CG2 := Lib.hid (get_pk_any (S ++ strOfNums [more]) (by rw [ByteArray.size_append, s1]; omega) (wB.alloc (.cells #[.int .u8 more] 5)) (fun W hW => HTb.out W (hBT.trans (hW.mono hBT.size))))
    unfold GtP at CG2
    rw [HM.out _ s1] at CG2
    have HBT := Lib.hid hBT
    clear bT hBT HM HK HBB
    go_wp2_with fail
    refine CG2.out.mono ?_
    rintro e w5 ⟨_, h5, b5⟩
    obtain rfl := h5 (by decide)
    have Z5 : Hid ((w5.alloc (.cells (pkNil PK.zeroPk) 31)).heap[w5.heap.size]? = some (.cells (pkNil PK.zeroPk) 31 (0, 0))) := Lib.hid (heap_alloc_new w5 _)
    obtain ⟨wD, hwD⟩ : ∃ wD, wD = (w5.alloc (.cells (pkNil PK.zeroPk) 31)).setRow w5.heap.size (pkNil PK.zeroPk) := ⟨_, rfl⟩
    have bD : Below w5.heap.size w5 wD := by rw [hwD]; exact below_setRow ((Below.refl _ _).alloc (Nat.le_refl _) _) (Nat.le_refl _) _
    have hB5 := HBT.out.trans (b5.mono HBT.out.size)
    have HBD := Lib.hid (hB5.trans (bD.mono hB5.size)); have HwD := Lib.hid hwD
    clear h5 b5 hB5 bD hwD CG2 HBT cv
    go_upto_region 7 with (refine wpList_store_row (by rfl) 31 (.tmp 13) (.tmp 58) (by rfl) w5.heap.size (pkNil PK.zeroPk) (by rfl) (by rfl) 31 (pkNil PK.zeroPk) Z5.out pk_info rfl O4.out ?_)
    change Code.wp _ _ _ _ ((w5.alloc (.cells (pkNil PK.zeroPk) 31)).setRow w5.heap.size (pkNil PK.zeroPk))
    rw [← HwD.out]
    clear HwD Z5
    go_wp2_with fail
    go_ret
    exact ⟨rfl, HBD.out⟩
  · have hb := PK.putS_bad P hc
    generalize hcc : PK.putC P = c at *
    have hne : (c != 0) = true := by rw [bne_iff_ne]; exact hc
    have HS := Lib.hid hb; have HC := Lib.hid hcc
    clear hb hc hcc
    go_enter Tryz.func6, Tryz.ntmps6
    go_upto_region 1 with fail
    change Code.wp _ _ _ _ (w.alloc (.cells (pkCells X (.slice Ac X.codes.length cc) (.slice Ap X.props.length cp) (.slice Aw X.wprops.length cw) (.slice As X.subs.length cs) (.slice Af X.filters.length cf)) 51))
    rw [← HW0.out]
    clear HW0
    go_wp2_with (refine wpl_load_x (by rfl) (.tmp 3) (by rfl) w.heap.size (by rfl) P0.out ?_)
    refine CK.out.mono ?_
    rintro e w1 ⟨vc, vp, vw, vs, vf, uc, up, uw, us, uf, rfl, o1, or1, b1⟩
    have W1 := Lib.hid (pk_one P o1); have W2 := Lib.hid (rk_one P or1)
    obtain ⟨wA, hwA⟩ : ∃ wA, wA = (((w1.alloc (.cells (pkNil PK.zeroPk) 31)).alloc (.cells (rkNil PK.zeroPk) 40)).setRow w1.heap.size (pkCells P vc vp vw vs vf)).setRow (w1.heap.size + 1) (rkCells P uc up uw us uf) := ⟨_, rfl⟩
    obtain ⟨z1, z2, pA, oA, hBA⟩ := two_vars (uc := uc) (up := up) (uw := uw) (us := us) (uf := uf) o1 (HB0.out.trans (b1.mono HB0.out.size)) hwA
    have CP := Lib.hid (pput_any P vc vp vw vs vf wA (own5_in oA HPf.out (fun W hW => HTb.out W (hBA.trans (hW.mono hBA.size)))))
    rw [HS.out, HC.out] at CP
    have Z1 := Lib.hid z1; have Z2 := Lib.hid z2; have PA := Lib.hid pA; have HBA := Lib.hid hBA; have HwA := Lib.hid hwA
    clear z1 z2 pA oA hBA hwA o1 or1 b1 CK P0 HB0
    go_upto_region 2 with (first
      | refine wpList_store_row (by rfl) 31 (.tmp 7) (.tmp 18) (by rfl) w1.heap.size (pkCells P vc vp vw vs vf) (by rfl) (by rfl) 31 (pkNil PK.zeroPk) Z1.out pk_info rfl W1.out ?_
      | refine wpList_store_row (by rfl) 40 (.tmp 8) (.tmp 19) (by rfl) (w1.heap.size + 1) (rkCells P uc up uw us uf) (by rfl) (by rfl) 40 (rkNil PK.zeroPk) Z2.out rk_info rfl W2.out ?_)
    change Code.wp _ _ _ _ ((((w1.alloc (.cells (pkNil PK.zeroPk) 31)).alloc (.cells (rkNil PK.zeroPk) 40)).setRow w1.heap.size (pkCells P vc vp vw vs vf)).setRow (w1.heap.size + 1) (rkCells P uc up uw us uf))
    rw [← HwA.out]
    clear HwA Z1 Z2 W1 W2
    go_wp2_with (refine wpl_load_pk (by rfl) (.tmp 7) (by rfl) w1.heap.size (by rfl) PA.out ?_)
    refine CP.out.mono ?_
    rintro e w2 ⟨rfl, b2⟩
    have p2 := (b2.block _ (lt_heap PA.out)).trans PA.out
    have hB2 := HBA.out.trans (b2.mono HBA.out.size)
    have CW := Lib.hid (lwakes_any w2 (fun W hW => HTb.out W (hB2.trans (hW.mono hB2.size))))
    have P2 := Lib.hid p2; have HB2 := Lib.hid hB2
    clear b2 p2 hB2 CP PA HBA
    go_wp2_with fail
    refine CW.out.mono ?_
    rintro e w3 ⟨rfl, b3⟩
    have p3 := (b3.block _ (lt_heap P2.out)).trans P2.out
    have hB3 := HB2.out.trans (b3.mono HB2.out.size)
    have P3 := Lib.hid p3; have HB3 := Lib.hid hB3
    clear b3 p3 hB3 CW P2 HB2
    have CW2 := Lib.hid (lwakes_any w3 (fun W hW => HTb.out W (HB3.out.trans (hW.mono HB3.out.size))))
    go_wp2_with fail
    refine CW2.out.mono ?_
    rintro e w4 ⟨rfl, b4⟩
    have HB4 := Lib.hid (HB3.out.trans (b4.mono HB3.out.size))
    clear b4 CW2 P3 HB3
    go_wp2_with fail
    go_ret
    exact ⟨rfl, HB4.out⟩
end Go.Proofs.YtjajandjdclifaaGreatDoor
