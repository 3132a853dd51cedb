/- PacketBack: a packet is read back from its bytes, but for what its kind doesn't have: put again it has the same bytes. -/
import Derived.Test.YtjajandjdclifaaGreatDoorPkLawP
namespace Go.Proofs.YtjajandjdclifaaGreatDoor
open Go.RowKit
attribute [local go_sem ↓] Go.wp_at_zero Go.wp_at_succ

set_option maxRecDepth 100000 in
set_option maxHeartbeats 4000000 in
theorem packetBack_walk (w : World) (X : Pk) (Ac Ap Aw As Af : Option Addr) (cc cp cw cs cf : Nat) (hX : ArgX w X Ac Ap Aw As Af cc cp cw cs cf) (hT0 : Tabs w) :
    Calls Tryz.prog 4 #[.agg (pkCells X (.slice Ac X.codes.length cc) (.slice Ap X.props.length cp) (.slice Aw X.wprops.length cw) (.slice As X.subs.length cs) (.slice Af X.filters.length cf))] w fun e w' => e = .returned (.bool true) ∧ Below w.heap.size w w' := by
  have HTb : Hid (∀ W, Below w.heap.size w W → Tabs W) := Lib.hid (fun W hW => hT0.below hW)
  obtain ⟨w0, hw0⟩ : ∃ w0, w0 = w.alloc (.cells (pkCells X (.slice Ac X.codes.length cc) (.slice Ap X.props.length cp) (.slice Aw X.wprops.length cw) (.slice As X.subs.length cs) (.slice Af X.filters.length cf)) 51) := ⟨_, rfl⟩
  have p0 : w0.heap[w.heap.size]? = some (.cells (pkCells X (.slice Ac X.codes.length cc) (.slice Ap X.props.length cp) (.slice Aw X.wprops.length cw) (.slice As X.subs.length cs) (.slice Af X.filters.length cf)) 51 (0, 0)) := by rw [hw0]; exact heap_alloc_new w _
  have b0 : Below w.heap.size w w0 := by rw [hw0]; exact (Below.refl _ _).alloc (Nat.le_refl _) _
  have CK := Lib.hid (packets_any X w0 Ac Ap Aw As Af cc cp cw cs cf hX.fine.code hX.fine.codes (hX.codes.below b0) (hX.props.below b0) (hX.wprops.below b0) (hX.subs.below b0) (hX.filters.below b0) hX.lc hX.lp hX.lw hX.ls hX.lf)
  have HPf := Lib.hid (cut80_f hX.fine)
  unfold PksP at CK
  obtain ⟨P, hP⟩ : ∃ P, P = cut80 X := ⟨_, rfl⟩
  rw [← hP] at CK HPf
  have P0 := Lib.hid p0; have HB0 := Lib.hid b0; have HW0 := Lib.hid hw0
  clear hX hT0 hP p0 b0 hw0
  by_cases hc : PK.putC P = 0
  · obtain ⟨t1, t2, t3⟩ := PK.back P hc
    obtain ⟨r1, -, -, -⟩ := PK.put_read P hc
    have hsm := (PK.putS_small P hc).1
    generalize hS : PK.putS P = S at *
    have HQf := Lib.hid (PK.getPk_f S (by omega))
    obtain ⟨Q, hQ⟩ : ∃ Q, Q = (PK.getPk S).1 := ⟨_, rfl⟩
    have hG : PK.getPk S = (Q, 0) := Prod.ext hQ.symm r1
    rw [← hQ] at HQf t1 t2 t3
    have HS := Lib.hid hS; have HC := Lib.hid hc; have HG := Lib.hid hG; have T1 := Lib.hid t1; have T2 := Lib.hid t2; have T3 := Lib.hid t3
    clear hS hc hG t1 t2 t3 r1 hQ
    go_enter Tryz.func4, Tryz.ntmps4
    go_upto_region 1 with fail
    change Code.wp _ _ _ _ (w.alloc (.cells (pkCells X (.slice Ac X.codes.length cc) (.slice Ap X.props.length cp) (.slice Aw X.wprops.length cw) (.slice As X.subs.length cs) (.slice Af X.filters.length cf)) 51))
    rw [← HW0.out]
    clear HW0
    go_wp2_with (refine wpl_load_x (by rfl) (.tmp 1) (by rfl) w.heap.size (by rfl) P0.out ?_)
    refine CK.out.mono ?_
    rintro e w1 ⟨vc, vp, vw, vs, vf, uc, up, uw, us, uf, rfl, o1, or1, b1⟩
    have W1 := Lib.hid (pk_one P o1); have W2 := Lib.hid (rk_one P or1)
    obtain ⟨wA, hwA⟩ : ∃ wA, wA = (((w1.alloc (.cells (pkNil PK.zeroPk) 31)).alloc (.cells (rkNil PK.zeroPk) 40)).setRow w1.heap.size (pkCells P vc vp vw vs vf)).setRow (w1.heap.size + 1) (rkCells P uc up uw us uf) := ⟨_, rfl⟩
    obtain ⟨z1, z2, pA, oA, hBA⟩ := two_vars (uc := uc) (up := up) (uw := uw) (us := us) (uf := uf) o1 (HB0.out.trans (b1.mono HB0.out.size)) hwA
    have CP := Lib.hid (pput_any P vc vp vw vs vf wA (own5_in oA HPf.out (fun W hW => HTb.out W (hBA.trans (hW.mono hBA.size)))))
    rw [HS.out, HC.out] at CP
    have Z1 := Lib.hid z1; have Z2 := Lib.hid z2; have PA := Lib.hid pA; have HBA := Lib.hid hBA; have HwA := Lib.hid hwA
    clear z1 z2 pA oA hBA hwA o1 or1 b1 CK P0 HB0
    go_upto_region 2 with (first
      | refine wpList_store_row (by rfl) 31 (.tmp 3) (.tmp 14) (by rfl) w1.heap.size (pkCells P vc vp vw vs vf) (by rfl) (by rfl) 31 (pkNil PK.zeroPk) Z1.out pk_info rfl W1.out ?_
      | refine wpList_store_row (by rfl) 40 (.tmp 4) (.tmp 15) (by rfl) (w1.heap.size + 1) (rkCells P uc up uw us uf) (by rfl) (by rfl) 40 (rkNil PK.zeroPk) Z2.out rk_info rfl W2.out ?_)
    change Code.wp _ _ _ _ ((((w1.alloc (.cells (pkNil PK.zeroPk) 31)).alloc (.cells (rkNil PK.zeroPk) 40)).setRow w1.heap.size (pkCells P vc vp vw vs vf)).setRow (w1.heap.size + 1) (rkCells P uc up uw us uf))
    rw [← HwA.out]
    clear HwA Z1 Z2 W1 W2
    go_wp2_with (refine wpl_load_pk (by rfl) (.tmp 3) (by rfl) w1.heap.size (by rfl) PA.out ?_)
    refine CP.out.mono ?_
    rintro e w2 ⟨rfl, b2⟩
    have p2 := (b2.block _ (lt_heap PA.out)).trans PA.out
    have hB2 := HBA.out.trans (b2.mono HBA.out.size)
    have CW := Lib.hid (lwakes_any w2 (fun W hW => HTb.out W (hB2.trans (hW.mono hB2.size))))
    have P2 := Lib.hid p2; have HB2 := Lib.hid hB2
    clear b2 p2 hB2 CP PA HBA
    go_wp2_with fail
    refine CW.out.mono ?_
    rintro e w3 ⟨rfl, b3⟩
    have p3 := (b3.block _ (lt_heap P2.out)).trans P2.out
    have hB3 := HB2.out.trans (b3.mono HB2.out.size)
    have P3 := Lib.hid p3; have HB3 := Lib.hid hB3
    clear b3 p3 hB3 CW P2 HB2
    have CG := Lib.hid (get_pk_any S (by omega) w3 (fun W hW => HTb.out W (HB3.out.trans (hW.mono HB3.out.size))))
    unfold GtP at CG
    rw [HG.out] at CG
    go_wp2_with fail
    refine CG.out.mono ?_
    rintro e w5 ⟨h5, _, b5⟩
    obtain ⟨xc, xp, xw, xs, xf, rfl, o5⟩ := h5 (by first | rfl | trivial)
    have W5 := Lib.hid (pk_one Q o5)
    have p5 := (b5.block _ (lt_heap P3.out)).trans P3.out
    have hB5 := HB3.out.trans (b5.mono HB3.out.size)
    have Z5 : Hid ((w5.alloc (.cells (pkNil PK.zeroPk) 31)).heap[w5.heap.size]? = some (.cells (pkNil PK.zeroPk) 31 (0, 0))) := Lib.hid (heap_alloc_new w5 _)
    obtain ⟨wB, hwB⟩ : ∃ wB, wB = (w5.alloc (.cells (pkNil PK.zeroPk) 31)).setRow w5.heap.size (pkCells Q xc xp xw xs xf) := ⟨_, rfl⟩
    have qB : wB.heap[w5.heap.size]? = some (.cells (pkCells Q xc xp xw xs xf) 31 (0, 0)) := by rw [hwB]; exact setRow_heap Z5.out
    have bB : Below w5.heap.size w5 wB := by rw [hwB]; exact below_setRow ((Below.refl _ _).alloc (Nat.le_refl _) _) (Nat.le_refl _) _
    have pB := (bB.block _ (lt_heap p5)).trans p5
    have oB := own5_below o5 bB
    have hBB := hB5.trans (bB.mono hB5.size)
    have CP2 := Lib.hid (pput_any Q xc xp xw xs xf wB (own5_in oB HQf.out (fun W hW => HTb.out W (hBB.trans (hW.mono hBB.size)))))
    rw [T2.out, T1.out] at CP2
    have QB := Lib.hid qB; have PB := Lib.hid pB; have HBB := Lib.hid hBB; have HwB := Lib.hid hwB
    clear h5 b5 o5 p5 hB5 qB bB pB oB hBB hwB CG P3 HB3
    go_upto_region 6 with (refine wpList_store_row (by rfl) 31 (.tmp 7) (.tmp 35) (by rfl) w5.heap.size (pkCells Q xc xp xw xs xf) (by rfl) (by rfl) 31 (pkNil PK.zeroPk) Z5.out pk_info rfl W5.out ?_)
    change Code.wp _ _ _ _ ((w5.alloc (.cells (pkNil PK.zeroPk) 31)).setRow w5.heap.size (pkCells Q xc xp xw xs xf))
    rw [← HwB.out]
    clear HwB Z5 W5
    go_wp2_with (refine wpl_load_pk (by rfl) (.tmp 7) (by rfl) w5.heap.size (by rfl) QB.out ?_)
    refine CP2.out.mono ?_
    rintro e w7 ⟨rfl, b7⟩
    have hB7 := HBB.out.trans (b7.mono HBB.out.size)
    obtain ⟨x0, -⟩ := pk_cells ((b7.block _ (lt_heap PB.out)).trans PB.out)
    obtain ⟨y0, -⟩ := pk_cells ((b7.block _ (lt_heap QB.out)).trans QB.out)
    rw [T3.out] at y0
    have HB7 := Lib.hid hB7
    clear b7 hB7 CP2 QB PB HBB
    go_wp2_with fail
    go_ret
    exact ⟨rfl, HB7.out⟩
  · have hb := PK.putS_bad P hc
    generalize hcc : PK.putC P = c at *
    have hne : (c != 0) = true := by rw [bne_iff_ne]; exact hc
    have HS := Lib.hid hb; have HC := Lib.hid hcc
    clear hb hc hcc
    go_enter Tryz.func4, Tryz.ntmps4
    go_upto_region 1 with fail
    change Code.wp _ _ _ _ (w.alloc (.cells (pkCells X (.slice Ac X.codes.length cc) (.slice Ap X.props.length cp) (.slice Aw X.wprops.length cw) (.slice As X.subs.length cs) (.slice Af X.filters.length cf)) 51))
    rw [← HW0.out]
    clear HW0
    go_wp2_with (refine wpl_load_x (by rfl) (.tmp 1) (by rfl) w.heap.size (by rfl) P0.out ?_)
    refine CK.out.mono ?_
    rintro e w1 ⟨vc, vp, vw, vs, vf, uc, up, uw, us, uf, rfl, o1, or1, b1⟩
    have W1 := Lib.hid (pk_one P o1); have W2 := Lib.hid (rk_one P or1)
    obtain ⟨wA, hwA⟩ : ∃ wA, wA = (((w1.alloc (.cells (pkNil PK.zeroPk) 31)).alloc (.cells (rkNil PK.zeroPk) 40)).setRow w1.heap.size (pkCells P vc vp vw vs vf)).setRow (w1.heap.size + 1) (rkCells P uc up uw us uf) := ⟨_, rfl⟩
    obtain ⟨z1, z2, pA, oA, hBA⟩ := two_vars (uc := uc) (up := up) (uw := uw) (us := us) (uf := uf) o1 (HB0.out.trans (b1.mono HB0.out.size)) hwA
    have CP := Lib.hid (pput_any P vc vp vw vs vf wA (own5_in oA HPf.out (fun W hW => HTb.out W (hBA.trans (hW.mono hBA.size)))))
    rw [HS.out, HC.out] at CP
    have Z1 := Lib.hid z1; have Z2 := Lib.hid z2; have PA := Lib.hid pA; have HBA := Lib.hid hBA; have HwA := Lib.hid hwA
    clear z1 z2 pA oA hBA hwA o1 or1 b1 CK P0 HB0
    go_upto_region 2 with (first
      | refine wpList_store_row (by rfl) 31 (.tmp 3) (.tmp 14) (by rfl) w1.heap.size (pkCells P vc vp vw vs vf) (by rfl) (by rfl) 31 (pkNil PK.zeroPk) Z1.out pk_info rfl W1.out ?_
      | refine wpList_store_row (by rfl) 40 (.tmp 4) (.tmp 15) (by rfl) (w1.heap.size + 1) (rkCells P uc up uw us uf) (by rfl) (by rfl) 40 (rkNil PK.zeroPk) Z2.out rk_info rfl W2.out ?_)
    change Code.wp _ _ _ _ ((((w1.alloc (.cells (pkNil PK.zeroPk) 31)).alloc (.cells (rkNil PK.zeroPk) 40)).setRow w1.heap.size (pkCells P vc vp vw vs vf)).setRow (w1.heap.size + 1) (rkCells P uc up uw us uf))
    rw [← HwA.out]
    clear HwA Z1 Z2 W1 W2
    go_wp2_with (refine wpl_load_pk (by rfl) (.tmp 3) (by rfl) w1.heap.size (by rfl) PA.out ?_)
    refine CP.out.mono ?_
    rintro e w2 ⟨rfl, b2⟩
    have p2 := (b2.block _ (lt_heap PA.out)).trans PA.out
    have hB2 := HBA.out.trans (b2.mono HBA.out.size)
    have CW := Lib.hid (lwakes_any w2 (fun W hW => HTb.out W (hB2.trans (hW.mono hB2.size))))
    have P2 := Lib.hid p2; have HB2 := Lib.hid hB2
    clear b2 p2 hB2 CP PA HBA
    go_wp2_with fail
    refine CW.out.mono ?_
    rintro e w3 ⟨rfl, b3⟩
    have p3 := (b3.block _ (lt_heap P2.out)).trans P2.out
    have hB3 := HB2.out.trans (b3.mono HB2.out.size)
    have P3 := Lib.hid p3; have HB3 := Lib.hid hB3
    clear b3 p3 hB3 CW P2 HB2
    have CW2 := Lib.hid (lwakes_any w3 (fun W hW => HTb.out W (HB3.out.trans (hW.mono HB3.out.size))))
    go_wp2_with fail
    refine CW2.out.mono ?_
    rintro e w4 ⟨rfl, b4⟩
    have HB4 := Lib.hid (HB3.out.trans (b4.mono HB3.out.size))
    clear b4 CW2 P3 HB3
    go_wp2_with fail
    go_ret
    exact ⟨rfl, HB4.out⟩
end Go.Proofs.YtjajandjdclifaaGreatDoor
