/- PacketFlags: with other flags than its kind's no packet but a Publish is read. -/
import Derived.Test.YtjajandjdclifaaGreatDoorPkLawP
namespace Go.Proofs.YtjajandjdclifaaGreatDoor
open Go.RowKit
attribute [local go_sem ↓] Go.wp_at_zero Go.wp_at_succ

set_option maxRecDepth 100000 in
set_option maxHeartbeats 4000000 in
theorem packetFlags_walk (w : World) (X : Pk) (Ac Ap Aw As Af : Option Addr) (cc cp cw cs cf : Nat) (hX : ArgX w X Ac Ap Aw As Af cc cp cw cs cf) (fl : Int) (hfl : (Lit.int .u8 fl).wf = true) (hT0 : Tabs w) :
    Calls Tryz.prog 7 #[.agg (pkCells X (.slice Ac X.codes.length cc) (.slice Ap X.props.length cp) (.slice Aw X.wprops.length cw) (.slice As X.subs.length cs) (.slice Af X.filters.length cf)), .int .u8 fl] w fun e w' => e = .returned (.bool true) ∧ Below w.heap.size w w' := by
  have HTb : Hid (∀ W, Below w.heap.size w W → Tabs W) := Lib.hid (fun W hW => hT0.below hW)
  obtain ⟨w0, hw0⟩ : ∃ w0, w0 = w.alloc (.cells (pkCells X (.slice Ac X.codes.length cc) (.slice Ap X.props.length cp) (.slice Aw X.wprops.length cw) (.slice As X.subs.length cs) (.slice Af X.filters.length cf)) 51) := ⟨_, rfl⟩
  have p0 : w0.heap[w.heap.size]? = some (.cells (pkCells X (.slice Ac X.codes.length cc) (.slice Ap X.props.length cp) (.slice Aw X.wprops.length cw) (.slice As X.subs.length cs) (.slice Af X.filters.length cf)) 51 (0, 0)) := by rw [hw0]; exact heap_alloc_new w _
  have b0 : Below w.heap.size w w0 := by rw [hw0]; exact (Below.refl _ _).alloc (Nat.le_refl _) _
  have CK := Lib.hid (packets_any X w0 Ac Ap Aw As Af cc cp cw cs cf hX.fine.code hX.fine.codes (hX.codes.below b0) (hX.props.below b0) (hX.wprops.below b0) (hX.subs.below b0) (hX.filters.below b0) hX.lc hX.lp hX.lw hX.ls hX.lf)
  have HPf := Lib.hid (cut80_f hX.fine)
  unfold PksP at CK
  obtain ⟨P, hP⟩ : ∃ P, P = cut80 X := ⟨_, rfl⟩
  rw [← hP] at CK HPf
  have P0 := Lib.hid p0; have HB0 := Lib.hid b0; have HW0 := Lib.hid hw0
  clear hX hT0 hP p0 b0 hw0
  by_cases hc : PK.putC P = 0
  · obtain ⟨hsm, hsp⟩ := PK.putS_small P hc
    have hf8 := u8_wf hfl
    have FB : P.kind ≠ 3 → ((PK.getPk (newFirst (PK.putS P) fl)).2 = 129 ∧ newFirst (PK.putS P) fl ≠ PK.putS P) ∨ newFirst (PK.putS P) fl = PK.putS P := PK.flags_or P hc fl hf8
    have HG0 := Lib.hid (PK.put_read P hc).1
    generalize hS : PK.putS P = S at *
    have HS := Lib.hid hS; have HC := Lib.hid hc
    have hne : S.toList.isEmpty = false := str_some hsp
    obtain ⟨T, hT⟩ : ∃ T, T = newFirst S fl := ⟨_, rfl⟩
    rw [← hT] at FB
    have T_small : Hid (T.size ≤ 65601) := Lib.hid (by
      have e1 : (strOfNums [16 * (PK.b0 S / 16) + fl % 16]).size = 1 := rfl
      rw [hT]; unfold newFirst; rw [ByteArray.size_append, e1, ByteArray.size_extract]; omega)
    have HT := Lib.hid hT
    clear hS hc hT
    go_enter Tryz.func7, Tryz.ntmps7
    go_upto_region 1 with fail
    change Code.wp _ _ _ _ (w.alloc (.cells (pkCells X (.slice Ac X.codes.length cc) (.slice Ap X.props.length cp) (.slice Aw X.wprops.length cw) (.slice As X.subs.length cs) (.slice Af X.filters.length cf)) 51))
    rw [← HW0.out]
    clear HW0
    go_wp2_with (refine wpl_load_x (by rfl) (.tmp 2) (by rfl) w.heap.size (by rfl) P0.out ?_)
    refine CK.out.mono ?_
    rintro e w1 ⟨vc, vp, vw, vs, vf, uc, up, uw, us, uf, rfl, o1, or1, b1⟩
    have W1 := Lib.hid (pk_one P o1); have W2 := Lib.hid (rk_one P or1)
    obtain ⟨wA, hwA⟩ : ∃ wA, wA = (((w1.alloc (.cells (pkNil PK.zeroPk) 31)).alloc (.cells (rkNil PK.zeroPk) 40)).setRow w1.heap.size (pkCells P vc vp vw vs vf)).setRow (w1.heap.size + 1) (rkCells P uc up uw us uf) := ⟨_, rfl⟩
    obtain ⟨z1, z2, pA, oA, hBA⟩ := two_vars (uc := uc) (up := up) (uw := uw) (us := us) (uf := uf) o1 (HB0.out.trans (b1.mono HB0.out.size)) hwA
    have CP := Lib.hid (pput_any P vc vp vw vs vf wA (own5_in oA HPf.out (fun W hW => HTb.out W (hBA.trans (hW.mono hBA.size)))))
    rw [HS.out, HC.out] at CP
    have Z1 := Lib.hid z1; have Z2 := Lib.hid z2; have PA := Lib.hid pA; have HBA := Lib.hid hBA; have HwA := Lib.hid hwA
    clear z1 z2 pA oA hBA hwA o1 or1 b1 CK P0 HB0
    go_upto_region 2 with (first
      | refine wpList_store_row (by rfl) 31 (.tmp 5) (.tmp 15) (by rfl) w1.heap.size (pkCells P vc vp vw vs vf) (by rfl) (by rfl) 31 (pkNil PK.zeroPk) Z1.out pk_info rfl W1.out ?_
      | refine wpList_store_row (by rfl) 40 (.tmp 6) (.tmp 16) (by rfl) (w1.heap.size + 1) (rkCells P uc up uw us uf) (by rfl) (by rfl) 40 (rkNil PK.zeroPk) Z2.out rk_info rfl W2.out ?_)
    change Code.wp _ _ _ _ ((((w1.alloc (.cells (pkNil PK.zeroPk) 31)).alloc (.cells (rkNil PK.zeroPk) 40)).setRow w1.heap.size (pkCells P vc vp vw vs vf)).setRow (w1.heap.size + 1) (rkCells P uc up uw us uf))
    rw [← HwA.out]
    clear HwA Z1 Z2 W1 W2
    go_wp2_with (refine wpl_load_pk (by rfl) (.tmp 5) (by rfl) w1.heap.size (by rfl) PA.out ?_)
    refine CP.out.mono ?_
    rintro e w2 ⟨rfl, b2⟩
    have p2 := (b2.block _ (lt_heap PA.out)).trans PA.out
    have hB2 := HBA.out.trans (b2.mono HBA.out.size)
    have CW := Lib.hid (lwakes_any w2 (fun W hW => HTb.out W (hB2.trans (hW.mono hB2.size))))
    have P2 := Lib.hid p2; have HB2 := Lib.hid hB2
    clear b2 p2 hB2 CP PA HBA
    go_wp2_with fail
    refine CW.out.mono ?_
    rintro e w3 ⟨rfl, b3⟩
    have p3 := (b3.block _ (lt_heap P2.out)).trans P2.out
    have hB3 := HB2.out.trans (b3.mono HB2.out.size)
    have P3 := Lib.hid p3; have HB3 := Lib.hid hB3
    clear b3 p3 hB3 CW P2 HB2
    obtain ⟨x0, -⟩ := pk_cells P3.out
    by_cases h3 : P.kind = 3
    · rw [h3] at x0
      clear FB
      have CW2 := Lib.hid (lwakes_any w3 (fun W hW => HTb.out W (HB3.out.trans (hW.mono HB3.out.size))))
      go_wp2_with fail
      refine CW2.out.mono ?_
      rintro e w4 ⟨rfl, b4⟩
      have HB4 := Lib.hid (HB3.out.trans (b4.mono HB3.out.size))
      clear b4 CW2 P3 HB3
      go_wp2_with fail
      go_ret
      exact ⟨rfl, HB4.out⟩
    · have h3' : (P.kind == 3) = false := by rw [beq_eq_false_iff_ne]; exact h3
      have HFB := Lib.hid (FB h3)
      clear FB
      go_upto_region 5 with fail
      clear x0 h3' h3
      go_cut [9] (fun v wx => v = .string T ∧ Hid (Below w.heap.size w wx))
      case first =>
        have cv := conv1_drew w3 (bits .or .u8 (bits .and .u8 ((S[0]'hsp).toNat : Int) 240) (fl % 16))
        have s1 : (strOfNums [bits .or .u8 (bits .and .u8 ((S[0]'hsp).toNat : Int) 240) (fl % 16)]).size = 1 := rfl
        obtain ⟨R, hR⟩ : ∃ R, R = S.extract 1 S.size := ⟨_, rfl⟩
        have s2 : R.size ≤ 65600 := by rw [hR, ByteArray.size_extract]; omega
        have hsl : ∀ W, (Instr.slice 9 (.string S) (some (.int .i64 1)) none none).run Tryz.prog W = .ok (.string R) W := fun W => by rw [hR]; exact slice_from S 1 (by omega) W
        have HR := Lib.hid hR
        clear hR
        have hraw : Hid (bits .or .u8 (bits .and .u8 ((S[0]'hsp).toNat : Int) 240) (fl % 16) = 16 * (PK.b0 S / 16) + fl % 16) := Lib.hid (by have h := raw_first S hsp fl hf8; rwa [and15 _ hf8.1 hf8.2] at h)
        have hB : Hid (∀ v : Value, Below w.heap.size w (w3.alloc (.cells #[v] 5)).drew) := Lib.hid (fun v => HB3.out.trans ((((Below.refl _ w3).alloc (Nat.le_refl _) (.cells #[v] 5)).drew).mono HB3.out.size))
        go_big_region
        all_goals
          go_wp2_with fail
          go_meet
          case rel =>
            refine ⟨?_, Lib.hid (hB.out _)⟩
            rw [HT.out]
            unfold newFirst
            rw [hraw.out, HR.out]
      case rest =>
        obtain ⟨rfl, hB5⟩ := hcut
        clear HT P3 HB3
        rcases HFB.out with ⟨h129, hnT⟩ | hsame
        · have CG := Lib.hid (get_pk_any T (by have := T_small.out; omega) wc (fun W hW => HTb.out W (hB5.out.trans (hW.mono hB5.out.size))))
          unfold GtP at CG
          rw [h129] at CG
          have hnl : (T.toList == S.toList) = false := by
            rw [beq_eq_false_iff_ne]
            intro e
            exact hnT (ByteArray.ext (Array.toList_inj.1 (by rw [← Lib.toList_data, ← Lib.toList_data]; exact e)))
          clear h129 hnT HFB
          go_wp2_with fail
          refine CG.out.mono ?_
          rintro e w5 ⟨_, h5, b5⟩
          obtain rfl := h5 (by decide)
          have O5 := Lib.hid (pkNil_one PK.zeroPk)
          have HB5 := Lib.hid (below_setRow ((hB5.out.trans (b5.mono hB5.out.size)).alloc (Below.size (hB5.out.trans (b5.mono hB5.out.size))) (.cells (pkNil PK.zeroPk) 31)) (Below.size (hB5.out.trans (b5.mono hB5.out.size))) (pkNil PK.zeroPk) : Below w.heap.size w ((w5.alloc (.cells (pkNil PK.zeroPk) 31)).setRow w5.heap.size (pkNil PK.zeroPk)))
          have Z5 : Hid ((w5.alloc (.cells (pkNil PK.zeroPk) 31)).heap[w5.heap.size]? = some (.cells (pkNil PK.zeroPk) 31 (0, 0))) := Lib.hid (heap_alloc_new w5 _)
          clear h5 b5 hB5 CG
          go_wp2_with (refine wpList_store_row (by rfl) 31 (.tmp 10) (.tmp 52) (by rfl) w5.heap.size (pkNil PK.zeroPk) (by rfl) (by rfl) 31 (pkNil PK.zeroPk) Z5.out pk_info rfl O5.out ?_)
          go_ret
          exact ⟨rfl, HB5.out⟩
        · subst hsame
          have CG := Lib.hid (get_pk_any T (by omega) wc (fun W hW => HTb.out W (hB5.out.trans (hW.mono hB5.out.size))))
          unfold GtP at CG
          rw [HG0.out] at CG
          clear HFB
          go_wp2_with fail
          refine CG.out.mono ?_
          rintro e w5 ⟨h5, _, b5⟩
          obtain ⟨xc, xp, xw, xs, xf, rfl, o5⟩ := h5 (by first | rfl | trivial)
          have O5 := Lib.hid (pk_one _ o5)
          generalize (PK.getPk T).1 = Q at *
          have HB5 := Lib.hid (below_setRow ((hB5.out.trans (b5.mono hB5.out.size)).alloc (Below.size (hB5.out.trans (b5.mono hB5.out.size))) (.cells (pkNil PK.zeroPk) 31)) (Below.size (hB5.out.trans (b5.mono hB5.out.size))) (pkCells Q xc xp xw xs xf) : Below w.heap.size w ((w5.alloc (.cells (pkNil PK.zeroPk) 31)).setRow w5.heap.size (pkCells Q xc xp xw xs xf)))
          have Z5 : Hid ((w5.alloc (.cells (pkNil PK.zeroPk) 31)).heap[w5.heap.size]? = some (.cells (pkNil PK.zeroPk) 31 (0, 0))) := Lib.hid (heap_alloc_new w5 _)
          clear h5 b5 hB5 CG o5
          go_wp2_with (refine wpList_store_row (by rfl) 31 (.tmp 10) (.tmp 52) (by rfl) w5.heap.size (pkCells Q xc xp xw xs xf) (by rfl) (by rfl) 31 (pkNil PK.zeroPk) Z5.out pk_info rfl O5.out ?_)
          go_ret
          exact ⟨rfl, HB5.out⟩
  · have hb := PK.putS_bad P hc
    generalize hcc : PK.putC P = c at *
    have hne : (c != 0) = true := by rw [bne_iff_ne]; exact hc
    have HS := Lib.hid hb; have HC := Lib.hid hcc
    clear hb hc hcc
    go_enter Tryz.func7, Tryz.ntmps7
    go_upto_region 1 with fail
    change Code.wp _ _ _ _ (w.alloc (.cells (pkCells X (.slice Ac X.codes.length cc) (.slice Ap X.props.length cp) (.slice Aw X.wprops.length cw) (.slice As X.subs.length cs) (.slice Af X.filters.length cf)) 51))
    rw [← HW0.out]
    clear HW0
    go_wp2_with (refine wpl_load_x (by rfl) (.tmp 2) (by rfl) w.heap.size (by rfl) P0.out ?_)
    refine CK.out.mono ?_
    rintro e w1 ⟨vc, vp, vw, vs, vf, uc, up, uw, us, uf, rfl, o1, or1, b1⟩
    have W1 := Lib.hid (pk_one P o1); have W2 := Lib.hid (rk_one P or1)
    obtain ⟨wA, hwA⟩ : ∃ wA, wA = (((w1.alloc (.cells (pkNil PK.zeroPk) 31)).alloc (.cells (rkNil PK.zeroPk) 40)).setRow w1.heap.size (pkCells P vc vp vw vs vf)).setRow (w1.heap.size + 1) (rkCells P uc up uw us uf) := ⟨_, rfl⟩
    obtain ⟨z1, z2, pA, oA, hBA⟩ := two_vars (uc := uc) (up := up) (uw := uw) (us := us) (uf := uf) o1 (HB0.out.trans (b1.mono HB0.out.size)) hwA
    have CP := Lib.hid (pput_any P vc vp vw vs vf wA (own5_in oA HPf.out (fun W hW => HTb.out W (hBA.trans (hW.mono hBA.size)))))
    rw [HS.out, HC.out] at CP
    have Z1 := Lib.hid z1; have Z2 := Lib.hid z2; have PA := Lib.hid pA; have HBA := Lib.hid hBA; have HwA := Lib.hid hwA
    clear z1 z2 pA oA hBA hwA o1 or1 b1 CK P0 HB0
    go_upto_region 2 with (first
      | refine wpList_store_row (by rfl) 31 (.tmp 5) (.tmp 15) (by rfl) w1.heap.size (pkCells P vc vp vw vs vf) (by rfl) (by rfl) 31 (pkNil PK.zeroPk) Z1.out pk_info rfl W1.out ?_
      | refine wpList_store_row (by rfl) 40 (.tmp 6) (.tmp 16) (by rfl) (w1.heap.size + 1) (rkCells P uc up uw us uf) (by rfl) (by rfl) 40 (rkNil PK.zeroPk) Z2.out rk_info rfl W2.out ?_)
    change Code.wp _ _ _ _ ((((w1.alloc (.cells (pkNil PK.zeroPk) 31)).alloc (.cells (rkNil PK.zeroPk) 40)).setRow w1.heap.size (pkCells P vc vp vw vs vf)).setRow (w1.heap.size + 1) (rkCells P uc up uw us uf))
    rw [← HwA.out]
    clear HwA Z1 Z2 W1 W2
    go_wp2_with (refine wpl_load_pk (by rfl) (.tmp 5) (by rfl) w1.heap.size (by rfl) PA.out ?_)
    refine CP.out.mono ?_
    rintro e w2 ⟨rfl, b2⟩
    have p2 := (b2.block _ (lt_heap PA.out)).trans PA.out
    have hB2 := HBA.out.trans (b2.mono HBA.out.size)
    have CW := Lib.hid (lwakes_any w2 (fun W hW => HTb.out W (hB2.trans (hW.mono hB2.size))))
    have P2 := Lib.hid p2; have HB2 := Lib.hid hB2
    clear b2 p2 hB2 CP PA HBA
    go_wp2_with fail
    refine CW.out.mono ?_
    rintro e w3 ⟨rfl, b3⟩
    have p3 := (b3.block _ (lt_heap P2.out)).trans P2.out
    have hB3 := HB2.out.trans (b3.mono HB2.out.size)
    have P3 := Lib.hid p3; have HB3 := Lib.hid hB3
    clear b3 p3 hB3 CW P2 HB2
    have CW2 := Lib.hid (lwakes_any w3 (fun W hW => HTb.out W (HB3.out.trans (hW.mono HB3.out.size))))
    go_wp2_with fail
    refine CW2.out.mono ?_
    rintro e w4 ⟨rfl, b4⟩
    have HB4 := Lib.hid (HB3.out.trans (b4.mono HB3.out.size))
    clear b4 CW2 P3 HB3
    go_wp2_with fail
    go_ret
    exact ⟨rfl, HB4.out⟩
end Go.Proofs.YtjajandjdclifaaGreatDoor
