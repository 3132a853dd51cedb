/- The document's writer of packets: connect, end. -/
import Derived.Test.YtlfgndhdifpngaaDoorME
import Derived.Test.YtlfgndhdifpngaaDoorMB
import Derived.Test.YtlfgndhdifpngaaDoorMD
namespace Go.Proofs.YtlfgndhdifpngaaDoor
open Go.RowKit
attribute [local go_sem ↓] Go.wp_at_zero Go.wp_at_succ

/-- The three boxes of such a function: bytes so far, the packet, the answer. -/
structure O3 (w : World) (P : Pk) (vc vp vw vs vf : Value) (o r : ByteArray × Int) (W : World) : Prop where
  box : W.heap[w.heap.size]? = some (.cells (oC o) 74 (0, 0))
  pk : W.heap[w.heap.size + 1]? = some (.cells (rkCells P vc vp vw vs vf) 45 (0, 0))
  res : W.heap[w.heap.size + 2]? = some (.cells (oC r) 74 (0, 0))
  below : Below w.heap.size w W
section
variable {w W W' : World} {P : Pk} {vc vp vw vs vf : Value} {o r : ByteArray × Int}
theorem O3.next (h : O3 w P vc vp vw vs vf o r W) (hb : Below W.heap.size W W') : O3 w P vc vp vw vs vf o r W' :=
  ⟨(hb.block _ (lt_heap h.box)).trans h.box, (hb.block _ (lt_heap h.pk)).trans h.pk, (hb.block _ (lt_heap h.res)).trans h.res, h.below.trans (hb.mono h.below.size)⟩
theorem O3.setO (h : O3 w P vc vp vw vs vf o r W) (o' : ByteArray × Int) : O3 w P vc vp vw vs vf o' r (W.setRow w.heap.size (oC o')) :=
  ⟨sr_heap h.box, (sr_other _ (by omega)).trans h.pk, (sr_other _ (by omega)).trans h.res, sr_below h.below (Nat.le_refl _) _⟩
theorem O3.setR (h : O3 w P vc vp vw vs vf o r W) (r' : ByteArray × Int) : O3 w P vc vp vw vs vf o r' (W.setRow (w.heap.size + 2) (oC r')) :=
  ⟨(sr_other _ (by omega)).trans h.box, (sr_other _ (by omega)).trans h.pk, sr_heap h.res, sr_below h.below (by omega) _⟩
theorem O3.start (w : World) (P : Pk) (vc vp vw vs vf : Value) (o : ByteArray × Int) : O3 w P vc vp vw vs vf o (⟨#[]⟩, 0) (((w.alloc (.cells (oC o) 74)).alloc (.cells (rkCells P vc vp vw vs vf) 45)).alloc (.cells (oC (⟨#[]⟩, 0)) 74)) := by
  have s1 : (w.alloc (.cells (oC o) 74)).heap.size = w.heap.size + 1 := by simp
  have s2 : ((w.alloc (.cells (oC o) 74)).alloc (.cells (rkCells P vc vp vw vs vf) 45)).heap.size = w.heap.size + 2 := by simp
  have k1 : ((w.alloc (.cells (oC o) 74)).alloc (.cells (rkCells P vc vp vw vs vf) 45)).heap[w.heap.size + 1]? = some (.cells (rkCells P vc vp vw vs vf) 45 (0, 0)) := by rw [← s1]; exact heap_alloc_new _ _
  exact ⟨(Below.heap_alloc _ _ _ (by omega)).trans ((Below.heap_alloc _ _ _ (by omega)).trans (heap_alloc_new w _)), (Below.heap_alloc _ _ _ (by omega)).trans k1, by rw [← s2]; exact heap_alloc_new _ _, (((Below.refl _ _).alloc (Nat.le_refl _) _).alloc (by omega) _).alloc (by omega) _⟩
end
theorem ad_sz (o : ByteArray × Int) (s : ByteArray) (c : Int) : (RP.ad o s c).1.size = o.1.size + s.size := by show (o.1 ++ s).size = _; rw [ByteArray.size_append]
theorem nm_sz (o : ByteArray × Int) (a b : Int) : (RP.nm o a b).1.size ≤ o.1.size + 8388996 := by unfold RP.nm; rw [ad_sz]; have := fixL_size a b; omega
theorem tx_sz (o : ByteArray × Int) (s : ByteArray) : (RP.tx o s).1.size ≤ o.1.size + 8388996 := by unfold RP.tx; rw [ad_sz]; have := tx_le s; omega
theorem dt_sz (o : ByteArray × Int) (s : ByteArray) : (RP.dt o s).1.size ≤ o.1.size + 8388996 := by unfold RP.dt; rw [ad_sz]; have := dt_le s; omega
theorem pr_sz (o : ByteArray × Int) (k : Int) (l : List Pr) : (RP.pr o k l).1.size ≤ o.1.size + 8388996 := by
  unfold RP.pr
  have := PR.putS_small l
  have z : (ByteArray.mk #[]).size = 0 := rfl
  split
  · rw [ad_sz]; omega
  · rw [ad_sz, ad_sz, z]; omega
theorem qs_sz (o : ByteArray × Int) (n : Int) : (RP.qs o n).1.size ≤ o.1.size + 8388996 := by
  unfold RP.qs
  have z : (ByteArray.mk #[]).size = 0 := rfl
  split
  · rw [ad_sz, z]; omega
  · omega
theorem idd_sz (o : ByteArray × Int) (n : Int) : (RP.idd o n).1.size ≤ o.1.size + 8388996 := by
  unfold RP.idd
  have z : (ByteArray.mk #[]).size = 0 := rfl
  split
  · rw [ad_sz, z]; omega
  · exact nm_sz _ _ _
theorem fl_le (b : Bool) (n : Int) (h : 0 ≤ n) : 0 ≤ PK.fl b n ∧ PK.fl b n ≤ n := by
  unfold PK.fl
  split <;> omega
theorem low_le (n : Int) : 0 ≤ RP.low n ∧ RP.low n ≤ 3 := by unfold RP.low; omega

set_option linter.unusedSimpArgs false in
set_option maxRecDepth 100000 in
set_option maxHeartbeats 4000000 in
theorem dconnect_any (o : ByteArray × Int) (ho : o.1.size ≤ 1152921504606846976) (P : Pk) (hf : PkF P) (B : Nat) (vc vp vw vs vf : Value) (w : World) (hr : Own5R B P vc vp vw vs vf w) :
    Calls Tryd.prog 39 #[.agg (oC o), .agg (rkCells P vc vp vw vs vf)] w (OP w (RP.conn o P)) := by
  obtain ⟨Ap, cp, rfl⟩ := own_form hr.props
  obtain ⟨Aw, cw, rfl⟩ := own_form hr.wprops
  have CPr : Hid (∀ (o' : ByteArray × Int), o'.1.size ≤ 2305843009213693952 → ∀ W', Below w.heap.size w W' → Calls Tryd.prog 42 #[.agg (oC o'), .int .i64 1, .slice Ap P.props.length cp] W' (OP W' (RP.pr o' 1 P.props))) := Lib.hid (fun o' h W' hb => dprops_any o' h 1 Ap cp P.props W' hf.pr.1 ((own_props hr.props).below hb) hf.pr.2)
  have CWr : Hid (∀ (o' : ByteArray × Int), o'.1.size ≤ 2305843009213693952 → ∀ W', Below w.heap.size w W' → Calls Tryd.prog 42 #[.agg (oC o'), .int .i64 0, .slice Aw P.wprops.length cw] W' (OP W' (RP.pr o' 0 P.wprops))) := Lib.hid (fun o' h W' hb => dprops_any o' h 0 Aw cw P.wprops W' hf.wpr.1 ((own_props hr.wprops).below hb) hf.wpr.2)
  have HF := Lib.hid hf
  clear hf hr
  generalize hA : PK.fl P.clean 2 = fa at *
  have hfa : 0 ≤ fa ∧ fa ≤ 2 := by rw [← hA]; exact fl_le _ _ (by decide)
  generalize hB : PK.fl P.hasPass 64 = fb at *
  have hfb : 0 ≤ fb ∧ fb ≤ 64 := by rw [← hB]; exact fl_le _ _ (by decide)
  generalize hC : PK.fl P.hasUser 128 = fc at *
  have hfc : 0 ≤ fc ∧ fc ≤ 128 := by rw [← hC]; exact fl_le _ _ (by decide)
  generalize hD : PK.fl P.wret 32 = fr at *
  have hfr : 0 ≤ fr ∧ fr ≤ 32 := by rw [← hD]; exact fl_le _ _ (by decide)
  generalize hQ : RP.low P.wqos = q at *
  have hq : 0 ≤ q ∧ q ≤ 3 := by rw [← hQ]; exact low_le _
  have HA := Lib.hid hA; have HB := Lib.hid hB; have HC := Lib.hid hC; have HD := Lib.hid hD; have HQ := Lib.hid hQ
  clear hA hB hC hD hQ
  have CA : Hid (∀ W, Calls Tryd.prog 40 #[.bool P.clean, .int .i64 2] W fun e w' => e = .returned (.int .i64 fa) ∧ W = w') := Lib.hid (fun W => by rw [← HA.out]; exact dbit_any _ _ _)
  have CB : Hid (∀ W, Calls Tryd.prog 40 #[.bool P.hasPass, .int .i64 64] W fun e w' => e = .returned (.int .i64 fb) ∧ W = w') := Lib.hid (fun W => by rw [← HB.out]; exact dbit_any _ _ _)
  have CC : Hid (∀ W, Calls Tryd.prog 40 #[.bool P.hasUser, .int .i64 128] W fun e w' => e = .returned (.int .i64 fc) ∧ W = w') := Lib.hid (fun W => by rw [← HC.out]; exact dbit_any _ _ _)
  have CR : Hid (∀ W, Calls Tryd.prog 40 #[.bool P.wret, .int .i64 32] W fun e w' => e = .returned (.int .i64 fr) ∧ W = w') := Lib.hid (fun W => by rw [← HD.out]; exact dbit_any _ _ _)
  have CQ : Hid (∀ W, Calls Tryd.prog 59 #[.int .i64 P.wqos] W fun e w' => e = .returned (.int .i64 q) ∧ W = w') := Lib.hid (fun W => by rw [← HQ.out]; exact dlow_any _ HF.out.fine.wqos _)
  have z0 : o.1.size ≤ o.1.size + 0 * 8388996 := by omega
  go_enter Tryd.func39, Tryd.ntmps39
  go_upto_region 1 with fail
  change Code.wp _ _ _ _ (((w.alloc (.cells (oC o) 74)).alloc (.cells (rkCells P vc (.slice Ap P.props.length cp) (.slice Aw P.wprops.length cw) vs vf) 45)).alloc (.cells (oC (⟨#[]⟩, 0)) 74))
  have H0 := O3.start w P vc (.slice Ap P.props.length cp) (.slice Aw P.wprops.length cw) vs vf o
  generalize (((w.alloc (.cells (oC o) 74)).alloc (.cells (rkCells P vc (.slice Ap P.props.length cp) (.slice Aw P.wprops.length cw) vs vf) 45)).alloc (.cells (oC (⟨#[]⟩, 0)) 74)) = W0 at *
  have HH := Lib.hid H0
  clear H0
  go_wp2_with (refine wpl_load_o (by rfl) (.tmp 2) (by rfl) w.heap.size (by rfl) HH.out.box ?_)
  refine (dtext_any o (by have := z0; omega) ⟨#[77, 81, 84, 84]⟩ (by decide) _).mono ?_
  rintro e v1 ⟨rfl, b1⟩
  have H' := HH.out.next b1
  clear HH b1 
  obtain ⟨o1, ho1⟩ : ∃ o', o' = RP.tx o ⟨#[77, 81, 84, 84]⟩ := ⟨_, rfl⟩
  have z1 : o1.1.size ≤ o.1.size + 1 * 8388996 := by rw [ho1]; exact Nat.le_trans (tx_sz _ _) (by have := z0; omega)
  rw [← ho1]
  obtain ⟨W1, hW⟩ : ∃ W', W' = v1.setRow w.heap.size (oC o1) := ⟨_, rfl⟩
  have H1 : O3 w P vc (.slice Ap P.props.length cp) (.slice Aw P.wprops.length cw) vs vf o1 (⟨#[]⟩, 0) W1 := by rw [hW]; exact H'.setO _
  have E1 := Lib.hid ho1
  clear ho1
  go_upto_region 2 with (refine wpList_store_row (by rfl) 74 (.tmp 2) (.tmp 12) (by rfl) w.heap.size (oC o1) (by rfl) (by rfl) 74 (oC o) H'.box o_info rfl (oC_one _) ?_)
  change Code.wp _ _ _ _ (v1.setRow w.heap.size (oC o1))
  rw [← hW]
  clear hW H'
  have HH := Lib.hid H1
  clear H1
  go_wp2_with (refine wpl_load_o (by rfl) (.tmp 2) (by rfl) w.heap.size (by rfl) HH.out.box ?_)
  refine (dnumber_any o1 (by have := z1; omega) 1 5 (by decide) _).mono ?_
  rintro e v2 ⟨rfl, b2⟩
  have H' := HH.out.next b2
  clear HH b2 
  obtain ⟨o2, ho2⟩ : ∃ o', o' = RP.nm o1 1 5 := ⟨_, rfl⟩
  have z2 : o2.1.size ≤ o.1.size + 2 * 8388996 := by rw [ho2]; exact Nat.le_trans (nm_sz _ _ _) (by have := z1; omega)
  rw [← ho2]
  obtain ⟨W2, hW⟩ : ∃ W', W' = v2.setRow w.heap.size (oC o2) := ⟨_, rfl⟩
  have H2 : O3 w P vc (.slice Ap P.props.length cp) (.slice Aw P.wprops.length cw) vs vf o2 (⟨#[]⟩, 0) W2 := by rw [hW]; exact H'.setO _
  have E2 := Lib.hid ho2
  clear ho2
  go_upto_region 3 with (refine wpList_store_row (by rfl) 74 (.tmp 2) (.tmp 14) (by rfl) w.heap.size (oC o2) (by rfl) (by rfl) 74 (oC o1) H'.box o_info rfl (oC_one _) ?_)
  change Code.wp _ _ _ _ (v2.setRow w.heap.size (oC o2))
  rw [← hW]
  clear hW H'
  have x11 := (cell_heap (i := 11) H2.pk).trans (show _ = some (.bool P.clean) from rfl)
  have HH := Lib.hid H2
  clear H2
  go_wp2_with fail
  refine (CA.out _).mono ?_
  rintro e _ ⟨rfl, rfl⟩
  have H2 := HH.out
  clear HH x11
  go_upto_region 4 with fail
  have x20 := (cell_heap (i := 20) H2.pk).trans (show _ = some (.bool P.hasPass) from rfl)
  have HH := Lib.hid H2
  clear H2
  go_wp2_with fail
  refine (CB.out _).mono ?_
  rintro e _ ⟨rfl, rfl⟩
  have H2 := HH.out
  clear HH x20
  go_upto_region 5 with fail
  have x19 := (cell_heap (i := 19) H2.pk).trans (show _ = some (.bool P.hasUser) from rfl)
  have HH := Lib.hid H2
  clear H2
  go_wp2_with fail
  refine (CC.out _).mono ?_
  rintro e _ ⟨rfl, rfl⟩
  have H2 := HH.out
  clear HH x19
  go_upto_region 6 with fail
  cases hw : P.hasWill
  · skip
    have x13 := (cell_heap (i := 13) H2.pk).trans (show _ = some (Value.bool false) from by rw [← hw]; rfl)
    have HH := Lib.hid H2
    clear H2
    go_upto_region 12 with fail
    have H2 := HH.out
    clear HH x13
    have HH := Lib.hid H2
    clear H2
    go_wp2_with (refine wpl_load_o (by rfl) (.tmp 2) (by rfl) w.heap.size (by rfl) HH.out.box ?_)
    refine (dnumber_any o2 (by have := z2; omega) 1 (fa + fb + fc) (by omega) _).mono ?_
    rintro e v3 ⟨rfl, b3⟩
    have H' := HH.out.next b3
    clear HH b3 
    obtain ⟨o3, ho3⟩ : ∃ o', o' = RP.nm o2 1 (fa + fb + fc) := ⟨_, rfl⟩
    have z3 : o3.1.size ≤ o.1.size + 3 * 8388996 := by rw [ho3]; exact Nat.le_trans (nm_sz _ _ _) (by have := z2; omega)
    rw [← ho3]
    obtain ⟨W3, hW⟩ : ∃ W', W' = v3.setRow w.heap.size (oC o3) := ⟨_, rfl⟩
    have H3 : O3 w P vc (.slice Ap P.props.length cp) (.slice Aw P.wprops.length cw) vs vf o3 (⟨#[]⟩, 0) W3 := by rw [hW]; exact H'.setO _
    have E3 := Lib.hid ho3
    clear ho3
    go_upto_region 13 with (refine wpList_store_row (by rfl) 74 (.tmp 2) (.tmp 53) (by rfl) w.heap.size (oC o3) (by rfl) (by rfl) 74 (oC o2) H'.box o_info rfl (oC_one _) ?_)
    change Code.wp _ _ _ _ (v3.setRow w.heap.size (oC o3))
    rw [← hW]
    clear hW H'
    have x12 := (cell_heap (i := 12) H3.pk).trans (show _ = some (.int .i64 P.keep) from rfl)
    have HH := Lib.hid H3
    clear H3
    go_wp2_with (refine wpl_load_o (by rfl) (.tmp 2) (by rfl) w.heap.size (by rfl) HH.out.box ?_)
    refine (dnumber_any o3 (by have := z3; omega) 2 P.keep HF.out.fine.keep _).mono ?_
    rintro e v4 ⟨rfl, b4⟩
    have H' := HH.out.next b4
    clear HH b4 x12
    obtain ⟨o4, ho4⟩ : ∃ o', o' = RP.nm o3 2 P.keep := ⟨_, rfl⟩
    have z4 : o4.1.size ≤ o.1.size + 4 * 8388996 := by rw [ho4]; exact Nat.le_trans (nm_sz _ _ _) (by have := z3; omega)
    rw [← ho4]
    obtain ⟨W4, hW⟩ : ∃ W', W' = v4.setRow w.heap.size (oC o4) := ⟨_, rfl⟩
    have H4 : O3 w P vc (.slice Ap P.props.length cp) (.slice Aw P.wprops.length cw) vs vf o4 (⟨#[]⟩, 0) W4 := by rw [hW]; exact H'.setO _
    have E4 := Lib.hid ho4
    clear ho4
    go_upto_region 14 with (refine wpList_store_row (by rfl) 74 (.tmp 2) (.tmp 57) (by rfl) w.heap.size (oC o4) (by rfl) (by rfl) 74 (oC o3) H'.box o_info rfl (oC_one _) ?_)
    change Code.wp _ _ _ _ (v4.setRow w.heap.size (oC o4))
    rw [← hW]
    clear hW H'
    have x9 := (cell_heap (i := 9) H4.pk).trans (show _ = some (.slice Ap P.props.length cp) from rfl)
    have HH := Lib.hid H4
    clear H4
    go_wp2_with (refine wpl_load_o (by rfl) (.tmp 2) (by rfl) w.heap.size (by rfl) HH.out.box ?_)
    refine (CPr.out o4 (by have := z4; omega) _ HH.out.below).mono ?_
    rintro e v5 ⟨rfl, b5⟩
    have H' := HH.out.next b5
    clear HH b5 x9
    obtain ⟨o5, ho5⟩ : ∃ o', o' = RP.pr o4 1 P.props := ⟨_, rfl⟩
    have z5 : o5.1.size ≤ o.1.size + 5 * 8388996 := by rw [ho5]; exact Nat.le_trans (pr_sz _ _ _) (by have := z4; omega)
    rw [← ho5]
    obtain ⟨W5, hW⟩ : ∃ W', W' = v5.setRow w.heap.size (oC o5) := ⟨_, rfl⟩
    have H5 : O3 w P vc (.slice Ap P.props.length cp) (.slice Aw P.wprops.length cw) vs vf o5 (⟨#[]⟩, 0) W5 := by rw [hW]; exact H'.setO _
    have E5 := Lib.hid ho5
    clear ho5
    go_upto_region 15 with (refine wpList_store_row (by rfl) 74 (.tmp 2) (.tmp 61) (by rfl) w.heap.size (oC o5) (by rfl) (by rfl) 74 (oC o4) H'.box o_info rfl (oC_one _) ?_)
    change Code.wp _ _ _ _ (v5.setRow w.heap.size (oC o5))
    rw [← hW]
    clear hW H'
    have x10 := (cell_heap (i := 10) H5.pk).trans (show _ = some (.string P.client) from rfl)
    have HH := Lib.hid H5
    clear H5
    go_wp2_with (refine wpl_load_o (by rfl) (.tmp 2) (by rfl) w.heap.size (by rfl) HH.out.box ?_)
    refine (dtext_any o5 (by have := z5; omega) P.client HF.out.fine.client _).mono ?_
    rintro e v6 ⟨rfl, b6⟩
    have H' := HH.out.next b6
    clear HH b6 x10
    obtain ⟨o6, ho6⟩ : ∃ o', o' = RP.tx o5 P.client := ⟨_, rfl⟩
    have z6 : o6.1.size ≤ o.1.size + 6 * 8388996 := by rw [ho6]; exact Nat.le_trans (tx_sz _ _) (by have := z5; omega)
    rw [← ho6]
    obtain ⟨W6, hW⟩ : ∃ W', W' = v6.setRow w.heap.size (oC o6) := ⟨_, rfl⟩
    have H6 : O3 w P vc (.slice Ap P.props.length cp) (.slice Aw P.wprops.length cw) vs vf o6 (⟨#[]⟩, 0) W6 := by rw [hW]; exact H'.setO _
    have E6 := Lib.hid ho6
    clear ho6
    go_upto_region 16 with (refine wpList_store_row (by rfl) 74 (.tmp 2) (.tmp 65) (by rfl) w.heap.size (oC o6) (by rfl) (by rfl) 74 (oC o5) H'.box o_info rfl (oC_one _) ?_)
    change Code.wp _ _ _ _ (v6.setRow w.heap.size (oC o6))
    rw [← hW]
    clear hW H'
    have x13 := (cell_heap (i := 13) H6.pk).trans (show _ = some (Value.bool false) from by rw [← hw]; rfl)
    have HH := Lib.hid H6
    clear H6
    go_upto_region 20 with fail
    have H6 := HH.out
    clear HH x13
    cases hu : P.hasUser
    · skip
      have x19 := (cell_heap (i := 19) H6.pk).trans (show _ = some (Value.bool false) from by rw [← hu]; rfl)
      have HH := Lib.hid H6
      clear H6
      go_upto_region 22 with fail
      have H6 := HH.out
      clear HH x19
      cases hs : P.hasPass
      · skip
        have x20 := (cell_heap (i := 20) H6.pk).trans (show _ = some (Value.bool false) from by rw [← hs]; rfl)
        have HH := Lib.hid H6
        clear H6
        go_upto_region 24 with fail
        have H6 := HH.out
        clear HH x20
        have EQ : RP.conn o P = o6 := by
          rw [E6.out, E5.out, E4.out, E3.out, E2.out, E1.out]
          unfold RP.conn RP.conn4 RP.conn3 RP.conn2 RP.conn1 RP.cfl
          have ec : RP.cflN P = fa + fb + fc := by unfold RP.cflN; rw [HA.out, HB.out, HC.out, HD.out, HQ.out, hw]; simp <;> omega
          rw [ec, hw, hu, hs]
          rfl
        have HR := H6.setR o6
        go_wp2_with (first
          | refine wpl_load_o (by rfl) (.tmp 2) (by rfl) w.heap.size (by rfl) H6.box ?_
          | refine wpList_store_row (by rfl) 74 (.tmp 4) (.tmp 95) (by rfl) (w.heap.size + 2) (oC o6) (by rfl) (by rfl) 74 (oC (⟨#[]⟩, 0)) H6.res o_info rfl (oC_one _) ?_)
        refine bodyPost_ret (v := .agg (oC o6)) ?_ rfl ⟨by first | rw [EQ] | rfl, HR.below⟩
        have hl := load_o_var HR.res
        simp [results, Tryd.results39, Act.put]
        exact hl
      · skip
        have x20 := (cell_heap (i := 20) H6.pk).trans (show _ = some (Value.bool true) from by rw [← hs]; rfl)
        have HH := Lib.hid H6
        clear H6
        go_upto_region 23 with fail
        have H6 := HH.out
        clear HH x20
        have x22 := (cell_heap (i := 22) H6.pk).trans (show _ = some (.string P.pass) from rfl)
        have HH := Lib.hid H6
        clear H6
        go_wp2_with (refine wpl_load_o (by rfl) (.tmp 2) (by rfl) w.heap.size (by rfl) HH.out.box ?_)
        refine (ddat_any o6 (by have := z6; omega) P.pass HF.out.fine.pass _).mono ?_
        rintro e v7 ⟨rfl, b7⟩
        have H' := HH.out.next b7
        clear HH b7 x22
        obtain ⟨o7, ho7⟩ : ∃ o', o' = RP.dt o6 P.pass := ⟨_, rfl⟩
        have z7 : o7.1.size ≤ o.1.size + 7 * 8388996 := by rw [ho7]; exact Nat.le_trans (dt_sz _ _) (by have := z6; omega)
        rw [← ho7]
        obtain ⟨W7, hW⟩ : ∃ W', W' = v7.setRow w.heap.size (oC o7) := ⟨_, rfl⟩
        have H7 : O3 w P vc (.slice Ap P.props.length cp) (.slice Aw P.wprops.length cw) vs vf o7 (⟨#[]⟩, 0) W7 := by rw [hW]; exact H'.setO _
        have E7 := Lib.hid ho7
        clear ho7
        go_upto_region 24 with (refine wpList_store_row (by rfl) 74 (.tmp 2) (.tmp 94) (by rfl) w.heap.size (oC o7) (by rfl) (by rfl) 74 (oC o6) H'.box o_info rfl (oC_one _) ?_)
        change Code.wp _ _ _ _ (v7.setRow w.heap.size (oC o7))
        rw [← hW]
        clear hW H'
        have EQ : RP.conn o P = o7 := by
          rw [E7.out, E6.out, E5.out, E4.out, E3.out, E2.out, E1.out]
          unfold RP.conn RP.conn4 RP.conn3 RP.conn2 RP.conn1 RP.cfl
          have ec : RP.cflN P = fa + fb + fc := by unfold RP.cflN; rw [HA.out, HB.out, HC.out, HD.out, HQ.out, hw]; simp <;> omega
          rw [ec, hw, hu, hs]
          rfl
        have HR := H7.setR o7
        go_wp2_with (first
          | refine wpl_load_o (by rfl) (.tmp 2) (by rfl) w.heap.size (by rfl) H7.box ?_
          | refine wpList_store_row (by rfl) 74 (.tmp 4) (.tmp 95) (by rfl) (w.heap.size + 2) (oC o7) (by rfl) (by rfl) 74 (oC (⟨#[]⟩, 0)) H7.res o_info rfl (oC_one _) ?_)
        refine bodyPost_ret (v := .agg (oC o7)) ?_ rfl ⟨by first | rw [EQ] | rfl, HR.below⟩
        have hl := load_o_var HR.res
        simp [results, Tryd.results39, Act.put]
        exact hl
    · skip
      have x19 := (cell_heap (i := 19) H6.pk).trans (show _ = some (Value.bool true) from by rw [← hu]; rfl)
      have HH := Lib.hid H6
      clear H6
      go_upto_region 21 with fail
      have H6 := HH.out
      clear HH x19
      have x21 := (cell_heap (i := 21) H6.pk).trans (show _ = some (.string P.user) from rfl)
      have HH := Lib.hid H6
      clear H6
      go_wp2_with (refine wpl_load_o (by rfl) (.tmp 2) (by rfl) w.heap.size (by rfl) HH.out.box ?_)
      refine (dtext_any o6 (by have := z6; omega) P.user HF.out.fine.user _).mono ?_
      rintro e v8 ⟨rfl, b8⟩
      have H' := HH.out.next b8
      clear HH b8 x21
      obtain ⟨o8, ho8⟩ : ∃ o', o' = RP.tx o6 P.user := ⟨_, rfl⟩
      have z8 : o8.1.size ≤ o.1.size + 7 * 8388996 := by rw [ho8]; exact Nat.le_trans (tx_sz _ _) (by have := z6; omega)
      rw [← ho8]
      obtain ⟨W8, hW⟩ : ∃ W', W' = v8.setRow w.heap.size (oC o8) := ⟨_, rfl⟩
      have H8 : O3 w P vc (.slice Ap P.props.length cp) (.slice Aw P.wprops.length cw) vs vf o8 (⟨#[]⟩, 0) W8 := by rw [hW]; exact H'.setO _
      have E8 := Lib.hid ho8
      clear ho8
      go_upto_region 22 with (refine wpList_store_row (by rfl) 74 (.tmp 2) (.tmp 88) (by rfl) w.heap.size (oC o8) (by rfl) (by rfl) 74 (oC o6) H'.box o_info rfl (oC_one _) ?_)
      change Code.wp _ _ _ _ (v8.setRow w.heap.size (oC o8))
      rw [← hW]
      clear hW H'
      cases hs : P.hasPass
      · skip
        have x20 := (cell_heap (i := 20) H8.pk).trans (show _ = some (Value.bool false) from by rw [← hs]; rfl)
        have HH := Lib.hid H8
        clear H8
        go_upto_region 24 with fail
        have H8 := HH.out
        clear HH x20
        have EQ : RP.conn o P = o8 := by
          rw [E8.out, E6.out, E5.out, E4.out, E3.out, E2.out, E1.out]
          unfold RP.conn RP.conn4 RP.conn3 RP.conn2 RP.conn1 RP.cfl
          have ec : RP.cflN P = fa + fb + fc := by unfold RP.cflN; rw [HA.out, HB.out, HC.out, HD.out, HQ.out, hw]; simp <;> omega
          rw [ec, hw, hu, hs]
          rfl
        have HR := H8.setR o8
        go_wp2_with (first
          | refine wpl_load_o (by rfl) (.tmp 2) (by rfl) w.heap.size (by rfl) H8.box ?_
          | refine wpList_store_row (by rfl) 74 (.tmp 4) (.tmp 95) (by rfl) (w.heap.size + 2) (oC o8) (by rfl) (by rfl) 74 (oC (⟨#[]⟩, 0)) H8.res o_info rfl (oC_one _) ?_)
        refine bodyPost_ret (v := .agg (oC o8)) ?_ rfl ⟨by first | rw [EQ] | rfl, HR.below⟩
        have hl := load_o_var HR.res
        simp [results, Tryd.results39, Act.put]
        exact hl
      · skip
        have x20 := (cell_heap (i := 20) H8.pk).trans (show _ = some (Value.bool true) from by rw [← hs]; rfl)
        have HH := Lib.hid H8
        clear H8
        go_upto_region 23 with fail
        have H8 := HH.out
        clear HH x20
        have x22 := (cell_heap (i := 22) H8.pk).trans (show _ = some (.string P.pass) from rfl)
        have HH := Lib.hid H8
        clear H8
        go_wp2_with (refine wpl_load_o (by rfl) (.tmp 2) (by rfl) w.heap.size (by rfl) HH.out.box ?_)
        refine (ddat_any o8 (by have := z8; omega) P.pass HF.out.fine.pass _).mono ?_
        rintro e v9 ⟨rfl, b9⟩
        have H' := HH.out.next b9
        clear HH b9 x22
        obtain ⟨o9, ho9⟩ : ∃ o', o' = RP.dt o8 P.pass := ⟨_, rfl⟩
        have z9 : o9.1.size ≤ o.1.size + 8 * 8388996 := by rw [ho9]; exact Nat.le_trans (dt_sz _ _) (by have := z8; omega)
        rw [← ho9]
        obtain ⟨W9, hW⟩ : ∃ W', W' = v9.setRow w.heap.size (oC o9) := ⟨_, rfl⟩
        have H9 : O3 w P vc (.slice Ap P.props.length cp) (.slice Aw P.wprops.length cw) vs vf o9 (⟨#[]⟩, 0) W9 := by rw [hW]; exact H'.setO _
        have E9 := Lib.hid ho9
        clear ho9
        go_upto_region 24 with (refine wpList_store_row (by rfl) 74 (.tmp 2) (.tmp 94) (by rfl) w.heap.size (oC o9) (by rfl) (by rfl) 74 (oC o8) H'.box o_info rfl (oC_one _) ?_)
        change Code.wp _ _ _ _ (v9.setRow w.heap.size (oC o9))
        rw [← hW]
        clear hW H'
        have EQ : RP.conn o P = o9 := by
          rw [E9.out, E8.out, E6.out, E5.out, E4.out, E3.out, E2.out, E1.out]
          unfold RP.conn RP.conn4 RP.conn3 RP.conn2 RP.conn1 RP.cfl
          have ec : RP.cflN P = fa + fb + fc := by unfold RP.cflN; rw [HA.out, HB.out, HC.out, HD.out, HQ.out, hw]; simp <;> omega
          rw [ec, hw, hu, hs]
          rfl
        have HR := H9.setR o9
        go_wp2_with (first
          | refine wpl_load_o (by rfl) (.tmp 2) (by rfl) w.heap.size (by rfl) H9.box ?_
          | refine wpList_store_row (by rfl) 74 (.tmp 4) (.tmp 95) (by rfl) (w.heap.size + 2) (oC o9) (by rfl) (by rfl) 74 (oC (⟨#[]⟩, 0)) H9.res o_info rfl (oC_one _) ?_)
        refine bodyPost_ret (v := .agg (oC o9)) ?_ rfl ⟨by first | rw [EQ] | rfl, HR.below⟩
        have hl := load_o_var HR.res
        simp [results, Tryd.results39, Act.put]
        exact hl
  · skip
    have x13 := (cell_heap (i := 13) H2.pk).trans (show _ = some (Value.bool true) from by rw [← hw]; rfl)
    have HH := Lib.hid H2
    clear H2
    go_upto_region 8 with fail
    have H2 := HH.out
    clear HH x13
    have x16 := (cell_heap (i := 16) H2.pk).trans (show _ = some (.int .i64 P.wqos) from rfl)
    have HH := Lib.hid H2
    clear H2
    go_wp2_with (refine wpl_load_o (by rfl) (.tmp 2) (by rfl) w.heap.size (by rfl) HH.out.box ?_)
    refine (dqos_any o2 (by have := z2; omega) P.wqos _).mono ?_
    rintro e v10 ⟨rfl, b10⟩
    have H' := HH.out.next b10
    clear HH b10 x16
    obtain ⟨o10, ho10⟩ : ∃ o', o' = RP.qs o2 P.wqos := ⟨_, rfl⟩
    have z10 : o10.1.size ≤ o.1.size + 3 * 8388996 := by rw [ho10]; exact Nat.le_trans (qs_sz _ _) (by have := z2; omega)
    rw [← ho10]
    obtain ⟨W10, hW⟩ : ∃ W', W' = v10.setRow w.heap.size (oC o10) := ⟨_, rfl⟩
    have H10 : O3 w P vc (.slice Ap P.props.length cp) (.slice Aw P.wprops.length cw) vs vf o10 (⟨#[]⟩, 0) W10 := by rw [hW]; exact H'.setO _
    have E10 := Lib.hid ho10
    clear ho10
    go_upto_region 9 with (refine wpList_store_row (by rfl) 74 (.tmp 2) (.tmp 35) (by rfl) w.heap.size (oC o10) (by rfl) (by rfl) 74 (oC o2) H'.box o_info rfl (oC_one _) ?_)
    change Code.wp _ _ _ _ (v10.setRow w.heap.size (oC o10))
    rw [← hW]
    clear hW H'
    have x16 := (cell_heap (i := 16) H10.pk).trans (show _ = some (.int .i64 P.wqos) from rfl)
    have HH := Lib.hid H10
    clear H10
    go_wp2_with fail
    refine (CQ.out _).mono ?_
    rintro e _ ⟨rfl, rfl⟩
    have H10 := HH.out
    clear HH x16
    go_upto_region 10 with fail
    have x17 := (cell_heap (i := 17) H10.pk).trans (show _ = some (.bool P.wret) from rfl)
    have HH := Lib.hid H10
    clear H10
    go_wp2_with fail
    refine (CR.out _).mono ?_
    rintro e _ ⟨rfl, rfl⟩
    have H10 := HH.out
    clear HH x17
    go_upto_region 11 with fail
    go_upto_region 12 with fail
    have HH := Lib.hid H10
    clear H10
    go_wp2_with (refine wpl_load_o (by rfl) (.tmp 2) (by rfl) w.heap.size (by rfl) HH.out.box ?_)
    refine (dnumber_any o10 (by have := z10; omega) 1 (fa + fb + fc + 4 + 8 * q + fr) (by omega) _).mono ?_
    rintro e v11 ⟨rfl, b11⟩
    have H' := HH.out.next b11
    clear HH b11 
    obtain ⟨o11, ho11⟩ : ∃ o', o' = RP.nm o10 1 (fa + fb + fc + 4 + 8 * q + fr) := ⟨_, rfl⟩
    have z11 : o11.1.size ≤ o.1.size + 4 * 8388996 := by rw [ho11]; exact Nat.le_trans (nm_sz _ _ _) (by have := z10; omega)
    rw [← ho11]
    obtain ⟨W11, hW⟩ : ∃ W', W' = v11.setRow w.heap.size (oC o11) := ⟨_, rfl⟩
    have H11 : O3 w P vc (.slice Ap P.props.length cp) (.slice Aw P.wprops.length cw) vs vf o11 (⟨#[]⟩, 0) W11 := by rw [hW]; exact H'.setO _
    have E11 := Lib.hid ho11
    clear ho11
    go_upto_region 13 with (refine wpList_store_row (by rfl) 74 (.tmp 2) (.tmp 53) (by rfl) w.heap.size (oC o11) (by rfl) (by rfl) 74 (oC o10) H'.box o_info rfl (oC_one _) ?_)
    change Code.wp _ _ _ _ (v11.setRow w.heap.size (oC o11))
    rw [← hW]
    clear hW H'
    have x12 := (cell_heap (i := 12) H11.pk).trans (show _ = some (.int .i64 P.keep) from rfl)
    have HH := Lib.hid H11
    clear H11
    go_wp2_with (refine wpl_load_o (by rfl) (.tmp 2) (by rfl) w.heap.size (by rfl) HH.out.box ?_)
    refine (dnumber_any o11 (by have := z11; omega) 2 P.keep HF.out.fine.keep _).mono ?_
    rintro e v12 ⟨rfl, b12⟩
    have H' := HH.out.next b12
    clear HH b12 x12
    obtain ⟨o12, ho12⟩ : ∃ o', o' = RP.nm o11 2 P.keep := ⟨_, rfl⟩
    have z12 : o12.1.size ≤ o.1.size + 5 * 8388996 := by rw [ho12]; exact Nat.le_trans (nm_sz _ _ _) (by have := z11; omega)
    rw [← ho12]
    obtain ⟨W12, hW⟩ : ∃ W', W' = v12.setRow w.heap.size (oC o12) := ⟨_, rfl⟩
    have H12 : O3 w P vc (.slice Ap P.props.length cp) (.slice Aw P.wprops.length cw) vs vf o12 (⟨#[]⟩, 0) W12 := by rw [hW]; exact H'.setO _
    have E12 := Lib.hid ho12
    clear ho12
    go_upto_region 14 with (refine wpList_store_row (by rfl) 74 (.tmp 2) (.tmp 57) (by rfl) w.heap.size (oC o12) (by rfl) (by rfl) 74 (oC o11) H'.box o_info rfl (oC_one _) ?_)
    change Code.wp _ _ _ _ (v12.setRow w.heap.size (oC o12))
    rw [← hW]
    clear hW H'
    have x9 := (cell_heap (i := 9) H12.pk).trans (show _ = some (.slice Ap P.props.length cp) from rfl)
    have HH := Lib.hid H12
    clear H12
    go_wp2_with (refine wpl_load_o (by rfl) (.tmp 2) (by rfl) w.heap.size (by rfl) HH.out.box ?_)
    refine (CPr.out o12 (by have := z12; omega) _ HH.out.below).mono ?_
    rintro e v13 ⟨rfl, b13⟩
    have H' := HH.out.next b13
    clear HH b13 x9
    obtain ⟨o13, ho13⟩ : ∃ o', o' = RP.pr o12 1 P.props := ⟨_, rfl⟩
    have z13 : o13.1.size ≤ o.1.size + 6 * 8388996 := by rw [ho13]; exact Nat.le_trans (pr_sz _ _ _) (by have := z12; omega)
    rw [← ho13]
    obtain ⟨W13, hW⟩ : ∃ W', W' = v13.setRow w.heap.size (oC o13) := ⟨_, rfl⟩
    have H13 : O3 w P vc (.slice Ap P.props.length cp) (.slice Aw P.wprops.length cw) vs vf o13 (⟨#[]⟩, 0) W13 := by rw [hW]; exact H'.setO _
    have E13 := Lib.hid ho13
    clear ho13
    go_upto_region 15 with (refine wpList_store_row (by rfl) 74 (.tmp 2) (.tmp 61) (by rfl) w.heap.size (oC o13) (by rfl) (by rfl) 74 (oC o12) H'.box o_info rfl (oC_one _) ?_)
    change Code.wp _ _ _ _ (v13.setRow w.heap.size (oC o13))
    rw [← hW]
    clear hW H'
    have x10 := (cell_heap (i := 10) H13.pk).trans (show _ = some (.string P.client) from rfl)
    have HH := Lib.hid H13
    clear H13
    go_wp2_with (refine wpl_load_o (by rfl) (.tmp 2) (by rfl) w.heap.size (by rfl) HH.out.box ?_)
    refine (dtext_any o13 (by have := z13; omega) P.client HF.out.fine.client _).mono ?_
    rintro e v14 ⟨rfl, b14⟩
    have H' := HH.out.next b14
    clear HH b14 x10
    obtain ⟨o14, ho14⟩ : ∃ o', o' = RP.tx o13 P.client := ⟨_, rfl⟩
    have z14 : o14.1.size ≤ o.1.size + 7 * 8388996 := by rw [ho14]; exact Nat.le_trans (tx_sz _ _) (by have := z13; omega)
    rw [← ho14]
    obtain ⟨W14, hW⟩ : ∃ W', W' = v14.setRow w.heap.size (oC o14) := ⟨_, rfl⟩
    have H14 : O3 w P vc (.slice Ap P.props.length cp) (.slice Aw P.wprops.length cw) vs vf o14 (⟨#[]⟩, 0) W14 := by rw [hW]; exact H'.setO _
    have E14 := Lib.hid ho14
    clear ho14
    go_upto_region 16 with (refine wpList_store_row (by rfl) 74 (.tmp 2) (.tmp 65) (by rfl) w.heap.size (oC o14) (by rfl) (by rfl) 74 (oC o13) H'.box o_info rfl (oC_one _) ?_)
    change Code.wp _ _ _ _ (v14.setRow w.heap.size (oC o14))
    rw [← hW]
    clear hW H'
    have x13 := (cell_heap (i := 13) H14.pk).trans (show _ = some (Value.bool true) from by rw [← hw]; rfl)
    have HH := Lib.hid H14
    clear H14
    go_upto_region 17 with fail
    have H14 := HH.out
    clear HH x13
    have x18 := (cell_heap (i := 18) H14.pk).trans (show _ = some (.slice Aw P.wprops.length cw) from rfl)
    have HH := Lib.hid H14
    clear H14
    go_wp2_with (refine wpl_load_o (by rfl) (.tmp 2) (by rfl) w.heap.size (by rfl) HH.out.box ?_)
    refine (CWr.out o14 (by have := z14; omega) _ HH.out.below).mono ?_
    rintro e v15 ⟨rfl, b15⟩
    have H' := HH.out.next b15
    clear HH b15 x18
    obtain ⟨o15, ho15⟩ : ∃ o', o' = RP.pr o14 0 P.wprops := ⟨_, rfl⟩
    have z15 : o15.1.size ≤ o.1.size + 8 * 8388996 := by rw [ho15]; exact Nat.le_trans (pr_sz _ _ _) (by have := z14; omega)
    rw [← ho15]
    obtain ⟨W15, hW⟩ : ∃ W', W' = v15.setRow w.heap.size (oC o15) := ⟨_, rfl⟩
    have H15 : O3 w P vc (.slice Ap P.props.length cp) (.slice Aw P.wprops.length cw) vs vf o15 (⟨#[]⟩, 0) W15 := by rw [hW]; exact H'.setO _
    have E15 := Lib.hid ho15
    clear ho15
    go_upto_region 18 with (refine wpList_store_row (by rfl) 74 (.tmp 2) (.tmp 72) (by rfl) w.heap.size (oC o15) (by rfl) (by rfl) 74 (oC o14) H'.box o_info rfl (oC_one _) ?_)
    change Code.wp _ _ _ _ (v15.setRow w.heap.size (oC o15))
    rw [← hW]
    clear hW H'
    have x14 := (cell_heap (i := 14) H15.pk).trans (show _ = some (.string P.wtopic) from rfl)
    have HH := Lib.hid H15
    clear H15
    go_wp2_with (refine wpl_load_o (by rfl) (.tmp 2) (by rfl) w.heap.size (by rfl) HH.out.box ?_)
    refine (dtext_any o15 (by have := z15; omega) P.wtopic HF.out.fine.wtopic _).mono ?_
    rintro e v16 ⟨rfl, b16⟩
    have H' := HH.out.next b16
    clear HH b16 x14
    obtain ⟨o16, ho16⟩ : ∃ o', o' = RP.tx o15 P.wtopic := ⟨_, rfl⟩
    have z16 : o16.1.size ≤ o.1.size + 9 * 8388996 := by rw [ho16]; exact Nat.le_trans (tx_sz _ _) (by have := z15; omega)
    rw [← ho16]
    obtain ⟨W16, hW⟩ : ∃ W', W' = v16.setRow w.heap.size (oC o16) := ⟨_, rfl⟩
    have H16 : O3 w P vc (.slice Ap P.props.length cp) (.slice Aw P.wprops.length cw) vs vf o16 (⟨#[]⟩, 0) W16 := by rw [hW]; exact H'.setO _
    have E16 := Lib.hid ho16
    clear ho16
    go_upto_region 19 with (refine wpList_store_row (by rfl) 74 (.tmp 2) (.tmp 77) (by rfl) w.heap.size (oC o16) (by rfl) (by rfl) 74 (oC o15) H'.box o_info rfl (oC_one _) ?_)
    change Code.wp _ _ _ _ (v16.setRow w.heap.size (oC o16))
    rw [← hW]
    clear hW H'
    have x15 := (cell_heap (i := 15) H16.pk).trans (show _ = some (.string P.wpay) from rfl)
    have HH := Lib.hid H16
    clear H16
    go_wp2_with (refine wpl_load_o (by rfl) (.tmp 2) (by rfl) w.heap.size (by rfl) HH.out.box ?_)
    refine (ddat_any o16 (by have := z16; omega) P.wpay HF.out.fine.wpay _).mono ?_
    rintro e v17 ⟨rfl, b17⟩
    have H' := HH.out.next b17
    clear HH b17 x15
    obtain ⟨o17, ho17⟩ : ∃ o', o' = RP.dt o16 P.wpay := ⟨_, rfl⟩
    have z17 : o17.1.size ≤ o.1.size + 10 * 8388996 := by rw [ho17]; exact Nat.le_trans (dt_sz _ _) (by have := z16; omega)
    rw [← ho17]
    obtain ⟨W17, hW⟩ : ∃ W', W' = v17.setRow w.heap.size (oC o17) := ⟨_, rfl⟩
    have H17 : O3 w P vc (.slice Ap P.props.length cp) (.slice Aw P.wprops.length cw) vs vf o17 (⟨#[]⟩, 0) W17 := by rw [hW]; exact H'.setO _
    have E17 := Lib.hid ho17
    clear ho17
    go_upto_region 20 with (refine wpList_store_row (by rfl) 74 (.tmp 2) (.tmp 82) (by rfl) w.heap.size (oC o17) (by rfl) (by rfl) 74 (oC o16) H'.box o_info rfl (oC_one _) ?_)
    change Code.wp _ _ _ _ (v17.setRow w.heap.size (oC o17))
    rw [← hW]
    clear hW H'
    cases hu : P.hasUser
    · skip
      have x19 := (cell_heap (i := 19) H17.pk).trans (show _ = some (Value.bool false) from by rw [← hu]; rfl)
      have HH := Lib.hid H17
      clear H17
      go_upto_region 22 with fail
      have H17 := HH.out
      clear HH x19
      cases hs : P.hasPass
      · skip
        have x20 := (cell_heap (i := 20) H17.pk).trans (show _ = some (Value.bool false) from by rw [← hs]; rfl)
        have HH := Lib.hid H17
        clear H17
        go_upto_region 24 with fail
        have H17 := HH.out
        clear HH x20
        have EQ : RP.conn o P = o17 := by
          rw [E17.out, E16.out, E15.out, E14.out, E13.out, E12.out, E11.out, E10.out, E2.out, E1.out]
          unfold RP.conn RP.conn4 RP.conn3 RP.conn2 RP.conn1 RP.cfl
          have ec : RP.cflN P = fa + fb + fc + 4 + 8 * q + fr := by unfold RP.cflN; rw [HA.out, HB.out, HC.out, HD.out, HQ.out, hw]; simp <;> omega
          rw [ec, hw, hu, hs]
          rfl
        have HR := H17.setR o17
        go_wp2_with (first
          | refine wpl_load_o (by rfl) (.tmp 2) (by rfl) w.heap.size (by rfl) H17.box ?_
          | refine wpList_store_row (by rfl) 74 (.tmp 4) (.tmp 95) (by rfl) (w.heap.size + 2) (oC o17) (by rfl) (by rfl) 74 (oC (⟨#[]⟩, 0)) H17.res o_info rfl (oC_one _) ?_)
        refine bodyPost_ret (v := .agg (oC o17)) ?_ rfl ⟨by first | rw [EQ] | rfl, HR.below⟩
        have hl := load_o_var HR.res
        simp [results, Tryd.results39, Act.put]
        exact hl
      · skip
        have x20 := (cell_heap (i := 20) H17.pk).trans (show _ = some (Value.bool true) from by rw [← hs]; rfl)
        have HH := Lib.hid H17
        clear H17
        go_upto_region 23 with fail
        have H17 := HH.out
        clear HH x20
        have x22 := (cell_heap (i := 22) H17.pk).trans (show _ = some (.string P.pass) from rfl)
        have HH := Lib.hid H17
        clear H17
        go_wp2_with (refine wpl_load_o (by rfl) (.tmp 2) (by rfl) w.heap.size (by rfl) HH.out.box ?_)
        refine (ddat_any o17 (by have := z17; omega) P.pass HF.out.fine.pass _).mono ?_
        rintro e v18 ⟨rfl, b18⟩
        have H' := HH.out.next b18
        clear HH b18 x22
        obtain ⟨o18, ho18⟩ : ∃ o', o' = RP.dt o17 P.pass := ⟨_, rfl⟩
        have z18 : o18.1.size ≤ o.1.size + 11 * 8388996 := by rw [ho18]; exact Nat.le_trans (dt_sz _ _) (by have := z17; omega)
        rw [← ho18]
        obtain ⟨W18, hW⟩ : ∃ W', W' = v18.setRow w.heap.size (oC o18) := ⟨_, rfl⟩
        have H18 : O3 w P vc (.slice Ap P.props.length cp) (.slice Aw P.wprops.length cw) vs vf o18 (⟨#[]⟩, 0) W18 := by rw [hW]; exact H'.setO _
        have E18 := Lib.hid ho18
        clear ho18
        go_upto_region 24 with (refine wpList_store_row (by rfl) 74 (.tmp 2) (.tmp 94) (by rfl) w.heap.size (oC o18) (by rfl) (by rfl) 74 (oC o17) H'.box o_info rfl (oC_one _) ?_)
        change Code.wp _ _ _ _ (v18.setRow w.heap.size (oC o18))
        rw [← hW]
        clear hW H'
        have EQ : RP.conn o P = o18 := by
          rw [E18.out, E17.out, E16.out, E15.out, E14.out, E13.out, E12.out, E11.out, E10.out, E2.out, E1.out]
          unfold RP.conn RP.conn4 RP.conn3 RP.conn2 RP.conn1 RP.cfl
          have ec : RP.cflN P = fa + fb + fc + 4 + 8 * q + fr := by unfold RP.cflN; rw [HA.out, HB.out, HC.out, HD.out, HQ.out, hw]; simp <;> omega
          rw [ec, hw, hu, hs]
          rfl
        have HR := H18.setR o18
        go_wp2_with (first
          | refine wpl_load_o (by rfl) (.tmp 2) (by rfl) w.heap.size (by rfl) H18.box ?_
          | refine wpList_store_row (by rfl) 74 (.tmp 4) (.tmp 95) (by rfl) (w.heap.size + 2) (oC o18) (by rfl) (by rfl) 74 (oC (⟨#[]⟩, 0)) H18.res o_info rfl (oC_one _) ?_)
        refine bodyPost_ret (v := .agg (oC o18)) ?_ rfl ⟨by first | rw [EQ] | rfl, HR.below⟩
        have hl := load_o_var HR.res
        simp [results, Tryd.results39, Act.put]
        exact hl
    · skip
      have x19 := (cell_heap (i := 19) H17.pk).trans (show _ = some (Value.bool true) from by rw [← hu]; rfl)
      have HH := Lib.hid H17
      clear H17
      go_upto_region 21 with fail
      have H17 := HH.out
      clear HH x19
      have x21 := (cell_heap (i := 21) H17.pk).trans (show _ = some (.string P.user) from rfl)
      have HH := Lib.hid H17
      clear H17
      go_wp2_with (refine wpl_load_o (by rfl) (.tmp 2) (by rfl) w.heap.size (by rfl) HH.out.box ?_)
      refine (dtext_any o17 (by have := z17; omega) P.user HF.out.fine.user _).mono ?_
      rintro e v19 ⟨rfl, b19⟩
      have H' := HH.out.next b19
      clear HH b19 x21
      obtain ⟨o19, ho19⟩ : ∃ o', o' = RP.tx o17 P.user := ⟨_, rfl⟩
      have z19 : o19.1.size ≤ o.1.size + 11 * 8388996 := by rw [ho19]; exact Nat.le_trans (tx_sz _ _) (by have := z17; omega)
      rw [← ho19]
      obtain ⟨W19, hW⟩ : ∃ W', W' = v19.setRow w.heap.size (oC o19) := ⟨_, rfl⟩
      have H19 : O3 w P vc (.slice Ap P.props.length cp) (.slice Aw P.wprops.length cw) vs vf o19 (⟨#[]⟩, 0) W19 := by rw [hW]; exact H'.setO _
      have E19 := Lib.hid ho19
      clear ho19
      go_upto_region 22 with (refine wpList_store_row (by rfl) 74 (.tmp 2) (.tmp 88) (by rfl) w.heap.size (oC o19) (by rfl) (by rfl) 74 (oC o17) H'.box o_info rfl (oC_one _) ?_)
      change Code.wp _ _ _ _ (v19.setRow w.heap.size (oC o19))
      rw [← hW]
      clear hW H'
      cases hs : P.hasPass
      · skip
        have x20 := (cell_heap (i := 20) H19.pk).trans (show _ = some (Value.bool false) from by rw [← hs]; rfl)
        have HH := Lib.hid H19
        clear H19
        go_upto_region 24 with fail
        have H19 := HH.out
        clear HH x20
        have EQ : RP.conn o P = o19 := by
          rw [E19.out, E17.out, E16.out, E15.out, E14.out, E13.out, E12.out, E11.out, E10.out, E2.out, E1.out]
          unfold RP.conn RP.conn4 RP.conn3 RP.conn2 RP.conn1 RP.cfl
          have ec : RP.cflN P = fa + fb + fc + 4 + 8 * q + fr := by unfold RP.cflN; rw [HA.out, HB.out, HC.out, HD.out, HQ.out, hw]; simp <;> omega
          rw [ec, hw, hu, hs]
          rfl
        have HR := H19.setR o19
        go_wp2_with (first
          | refine wpl_load_o (by rfl) (.tmp 2) (by rfl) w.heap.size (by rfl) H19.box ?_
          | refine wpList_store_row (by rfl) 74 (.tmp 4) (.tmp 95) (by rfl) (w.heap.size + 2) (oC o19) (by rfl) (by rfl) 74 (oC (⟨#[]⟩, 0)) H19.res o_info rfl (oC_one _) ?_)
        refine bodyPost_ret (v := .agg (oC o19)) ?_ rfl ⟨by first | rw [EQ] | rfl, HR.below⟩
        have hl := load_o_var HR.res
        simp [results, Tryd.results39, Act.put]
        exact hl
      · skip
        have x20 := (cell_heap (i := 20) H19.pk).trans (show _ = some (Value.bool true) from by rw [← hs]; rfl)
        have HH := Lib.hid H19
        clear H19
        go_upto_region 23 with fail
        have H19 := HH.out
        clear HH x20
        have x22 := (cell_heap (i := 22) H19.pk).trans (show _ = some (.string P.pass) from rfl)
        have HH := Lib.hid H19
        clear H19
        go_wp2_with (refine wpl_load_o (by rfl) (.tmp 2) (by rfl) w.heap.size (by rfl) HH.out.box ?_)
        refine (ddat_any o19 (by have := z19; omega) P.pass HF.out.fine.pass _).mono ?_
        rintro e v20 ⟨rfl, b20⟩
        have H' := HH.out.next b20
        clear HH b20 x22
        obtain ⟨o20, ho20⟩ : ∃ o', o' = RP.dt o19 P.pass := ⟨_, rfl⟩
        have z20 : o20.1.size ≤ o.1.size + 12 * 8388996 := by rw [ho20]; exact Nat.le_trans (dt_sz _ _) (by have := z19; omega)
        rw [← ho20]
        obtain ⟨W20, hW⟩ : ∃ W', W' = v20.setRow w.heap.size (oC o20) := ⟨_, rfl⟩
        have H20 : O3 w P vc (.slice Ap P.props.length cp) (.slice Aw P.wprops.length cw) vs vf o20 (⟨#[]⟩, 0) W20 := by rw [hW]; exact H'.setO _
        have E20 := Lib.hid ho20
        clear ho20
        go_upto_region 24 with (refine wpList_store_row (by rfl) 74 (.tmp 2) (.tmp 94) (by rfl) w.heap.size (oC o20) (by rfl) (by rfl) 74 (oC o19) H'.box o_info rfl (oC_one _) ?_)
        change Code.wp _ _ _ _ (v20.setRow w.heap.size (oC o20))
        rw [← hW]
        clear hW H'
        have EQ : RP.conn o P = o20 := by
          rw [E20.out, E19.out, E17.out, E16.out, E15.out, E14.out, E13.out, E12.out, E11.out, E10.out, E2.out, E1.out]
          unfold RP.conn RP.conn4 RP.conn3 RP.conn2 RP.conn1 RP.cfl
          have ec : RP.cflN P = fa + fb + fc + 4 + 8 * q + fr := by unfold RP.cflN; rw [HA.out, HB.out, HC.out, HD.out, HQ.out, hw]; simp <;> omega
          rw [ec, hw, hu, hs]
          rfl
        have HR := H20.setR o20
        go_wp2_with (first
          | refine wpl_load_o (by rfl) (.tmp 2) (by rfl) w.heap.size (by rfl) H20.box ?_
          | refine wpList_store_row (by rfl) 74 (.tmp 4) (.tmp 95) (by rfl) (w.heap.size + 2) (oC o20) (by rfl) (by rfl) 74 (oC (⟨#[]⟩, 0)) H20.res o_info rfl (oC_one _) ?_)
        refine bodyPost_ret (v := .agg (oC o20)) ?_ rfl ⟨by first | rw [EQ] | rfl, HR.below⟩
        have hl := load_o_var HR.res
        simp [results, Tryd.results39, Act.put]
        exact hl
set_option linter.unusedSimpArgs false in
set_option maxRecDepth 100000 in
set_option maxHeartbeats 4000000 in
theorem dend_any (o : ByteArray × Int) (ho : o.1.size ≤ 1152921504606846976) (P : Pk) (hf : PkF P) (B : Nat) (vc vp vw vs vf : Value) (w : World) (hr : Own5R B P vc vp vw vs vf w) :
    Calls Tryd.prog 47 #[.agg (oC o), .agg (rkCells P vc vp vw vs vf)] w (OP w (RP.ending o P)) := by
  obtain ⟨Ap, cp, rfl⟩ := own_form hr.props
  have CPr : Hid (∀ (o' : ByteArray × Int), o'.1.size ≤ 2305843009213693952 → ∀ W', Below w.heap.size w W' → Calls Tryd.prog 42 #[.agg (oC o'), .int .i64 P.kind, .slice Ap P.props.length cp] W' (OP W' (RP.pr o' P.kind P.props))) := Lib.hid (fun o' h W' hb => dprops_any o' h P.kind Ap cp P.props W' hf.pr.1 ((own_props hr.props).below hb) hf.pr.2)
  have hcode : -9223372036854775808 ≤ P.code ∧ P.code ≤ 9223372036854775807 := by have := hf.fine.code; omega
  clear hf hr
  have z0 : o.1.size ≤ o.1.size + 0 * 8388996 := by omega
  have lp : P.props = [] ↔ P.props.length = 0 := List.length_eq_zero_iff.symm
  rcases (show (P.props = [] ∧ P.code = 0) ∨ (P.props = [] ∧ P.code ≠ 0) ∨ P.props ≠ [] by by_cases h : P.props = [] <;> by_cases h' : P.code = 0 <;> simp [h, h']) with ⟨h1, h2⟩ | ⟨h1, h2⟩ | h1
  · have EQ : RP.ending o P = o := by unfold RP.ending; rw [if_pos h1, if_pos h2]
    have hl : P.props.length = 0 := lp.1 h1
    have hc : (P.code != 0) = false := by rw [h2]; rfl
    have hl' : decide ((0 : Int) < (P.props.length : Int)) = false := by rw [hl]; rfl
    have hl2 : ¬ (0 : Int) < (P.props.length : Int) := by omega
    clear h1 h2 lp hl
    go_enter Tryd.func47, Tryd.ntmps47
    go_upto_region 1 with fail
    change Code.wp _ _ _ _ (((w.alloc (.cells (oC o) 74)).alloc (.cells (rkCells P vc (.slice Ap P.props.length cp) vw vs vf) 45)).alloc (.cells (oC (⟨#[]⟩, 0)) 74))
    have H0 := O3.start w P vc (.slice Ap P.props.length cp) vw vs vf o
    generalize (((w.alloc (.cells (oC o) 74)).alloc (.cells (rkCells P vc (.slice Ap P.props.length cp) vw vs vf) 45)).alloc (.cells (oC (⟨#[]⟩, 0)) 74)) = W0 at *
    have x7 := (cell_heap (i := 7) H0.pk).trans (show _ = some (.int .i64 P.code) from rfl)
    have x9 := (cell_heap (i := 9) H0.pk).trans (show _ = some (.slice Ap P.props.length cp) from rfl)
    have HH := Lib.hid H0
    clear H0
    go_upto_region 3 with fail
    have H0 := HH.out
    clear HH x7 x9
    have x9 := (cell_heap (i := 9) H0.pk).trans (show _ = some (.slice Ap P.props.length cp) from rfl)
    have HH := Lib.hid H0
    clear H0
    go_upto_region 5 with fail
    have H0 := HH.out
    clear HH x9
    have HR := H0.setR o
    go_wp2_with (first
      | refine wpl_load_o (by rfl) (.tmp 2) (by rfl) w.heap.size (by rfl) H0.box ?_
      | refine wpList_store_row (by rfl) 74 (.tmp 4) (.tmp 28) (by rfl) (w.heap.size + 2) (oC o) (by rfl) (by rfl) 74 (oC (⟨#[]⟩, 0)) H0.res o_info rfl (oC_one _) ?_)
    refine bodyPost_ret (v := .agg (oC o)) ?_ rfl ⟨by first | rw [EQ] | rfl, HR.below⟩
    have hl := load_o_var HR.res
    simp [results, Tryd.results47, Act.put]
    exact hl
  · have hl : P.props.length = 0 := lp.1 h1
    have hc : (P.code != 0) = true := by rw [bne_iff_ne]; exact h2
    have hl2 : ¬ (0 : Int) < (P.props.length : Int) := by omega
    have EQ0 : RP.ending o P = RP.nm o 1 P.code := by unfold RP.ending; rw [if_pos h1, if_neg h2]
    clear h1 h2 lp hl
    go_enter Tryd.func47, Tryd.ntmps47
    go_upto_region 1 with fail
    change Code.wp _ _ _ _ (((w.alloc (.cells (oC o) 74)).alloc (.cells (rkCells P vc (.slice Ap P.props.length cp) vw vs vf) 45)).alloc (.cells (oC (⟨#[]⟩, 0)) 74))
    have H0 := O3.start w P vc (.slice Ap P.props.length cp) vw vs vf o
    generalize (((w.alloc (.cells (oC o) 74)).alloc (.cells (rkCells P vc (.slice Ap P.props.length cp) vw vs vf) 45)).alloc (.cells (oC (⟨#[]⟩, 0)) 74)) = W0 at *
    have x7 := (cell_heap (i := 7) H0.pk).trans (show _ = some (.int .i64 P.code) from rfl)
    have x9 := (cell_heap (i := 9) H0.pk).trans (show _ = some (.slice Ap P.props.length cp) from rfl)
    have HH := Lib.hid H0
    clear H0
    go_upto_region 2 with fail
    have H0 := HH.out
    clear HH x7 x9
    have x7 := (cell_heap (i := 7) H0.pk).trans (show _ = some (.int .i64 P.code) from rfl)
    have HH := Lib.hid H0
    clear H0
    go_wp2_with (refine wpl_load_o (by rfl) (.tmp 2) (by rfl) w.heap.size (by rfl) HH.out.box ?_)
    refine (dnumber_any o (by have := z0; omega) 1 P.code hcode _).mono ?_
    rintro e v1 ⟨rfl, b1⟩
    have H' := HH.out.next b1
    clear HH b1 x7
    obtain ⟨o1, ho1⟩ : ∃ o', o' = RP.nm o 1 P.code := ⟨_, rfl⟩
    have z1 : o1.1.size ≤ o.1.size + 1 * 8388996 := by rw [ho1]; exact Nat.le_trans (nm_sz _ _ _) (by have := z0; omega)
    rw [← ho1]
    obtain ⟨W1, hW⟩ : ∃ W', W' = v1.setRow w.heap.size (oC o1) := ⟨_, rfl⟩
    have H1 : O3 w P vc (.slice Ap P.props.length cp) vw vs vf o1 (⟨#[]⟩, 0) W1 := by rw [hW]; exact H'.setO _
    have E1 := Lib.hid ho1
    clear ho1
    go_upto_region 3 with (refine wpList_store_row (by rfl) 74 (.tmp 2) (.tmp 17) (by rfl) w.heap.size (oC o1) (by rfl) (by rfl) 74 (oC o) H'.box o_info rfl (oC_one _) ?_)
    change Code.wp _ _ _ _ (v1.setRow w.heap.size (oC o1))
    rw [← hW]
    clear hW H'
    have x9 := (cell_heap (i := 9) H1.pk).trans (show _ = some (.slice Ap P.props.length cp) from rfl)
    have HH := Lib.hid H1
    clear H1
    go_upto_region 5 with fail
    have H1 := HH.out
    clear HH x9
    have EQ : RP.ending o P = o1 := by rw [EQ0, E1.out]
    have HR := H1.setR o1
    go_wp2_with (first
      | refine wpl_load_o (by rfl) (.tmp 2) (by rfl) w.heap.size (by rfl) H1.box ?_
      | refine wpList_store_row (by rfl) 74 (.tmp 4) (.tmp 28) (by rfl) (w.heap.size + 2) (oC o1) (by rfl) (by rfl) 74 (oC (⟨#[]⟩, 0)) H1.res o_info rfl (oC_one _) ?_)
    refine bodyPost_ret (v := .agg (oC o1)) ?_ rfl ⟨by first | rw [EQ] | rfl, HR.below⟩
    have hl := load_o_var HR.res
    simp [results, Tryd.results47, Act.put]
    exact hl
  · have hl : P.props.length ≠ 0 := fun e => h1 (lp.2 e)
    have hl2 : (0 : Int) < (P.props.length : Int) := by omega
    have hl' : decide ((0 : Int) < (P.props.length : Int)) = true := by simpa using hl2
    have EQ0 : RP.ending o P = RP.pr (RP.nm o 1 P.code) P.kind P.props := by unfold RP.ending; rw [if_neg h1]
    cases hc : (P.code != 0)
    · skip
      go_enter Tryd.func47, Tryd.ntmps47
      go_upto_region 1 with fail
      change Code.wp _ _ _ _ (((w.alloc (.cells (oC o) 74)).alloc (.cells (rkCells P vc (.slice Ap P.props.length cp) vw vs vf) 45)).alloc (.cells (oC (⟨#[]⟩, 0)) 74))
      have H0 := O3.start w P vc (.slice Ap P.props.length cp) vw vs vf o
      generalize (((w.alloc (.cells (oC o) 74)).alloc (.cells (rkCells P vc (.slice Ap P.props.length cp) vw vs vf) 45)).alloc (.cells (oC (⟨#[]⟩, 0)) 74)) = W0 at *
      have x7 := (cell_heap (i := 7) H0.pk).trans (show _ = some (.int .i64 P.code) from rfl)
      have x9 := (cell_heap (i := 9) H0.pk).trans (show _ = some (.slice Ap P.props.length cp) from rfl)
      have HH := Lib.hid H0
      clear H0
      go_upto_region 2 with fail
      have H0 := HH.out
      clear HH x7 x9
      have x7 := (cell_heap (i := 7) H0.pk).trans (show _ = some (.int .i64 P.code) from rfl)
      have HH := Lib.hid H0
      clear H0
      go_wp2_with (refine wpl_load_o (by rfl) (.tmp 2) (by rfl) w.heap.size (by rfl) HH.out.box ?_)
      refine (dnumber_any o (by have := z0; omega) 1 P.code hcode _).mono ?_
      rintro e v2 ⟨rfl, b2⟩
      have H' := HH.out.next b2
      clear HH b2 x7
      obtain ⟨o2, ho2⟩ : ∃ o', o' = RP.nm o 1 P.code := ⟨_, rfl⟩
      have z2 : o2.1.size ≤ o.1.size + 1 * 8388996 := by rw [ho2]; exact Nat.le_trans (nm_sz _ _ _) (by have := z0; omega)
      rw [← ho2]
      obtain ⟨W2, hW⟩ : ∃ W', W' = v2.setRow w.heap.size (oC o2) := ⟨_, rfl⟩
      have H2 : O3 w P vc (.slice Ap P.props.length cp) vw vs vf o2 (⟨#[]⟩, 0) W2 := by rw [hW]; exact H'.setO _
      have E2 := Lib.hid ho2
      clear ho2
      go_upto_region 3 with (refine wpList_store_row (by rfl) 74 (.tmp 2) (.tmp 17) (by rfl) w.heap.size (oC o2) (by rfl) (by rfl) 74 (oC o) H'.box o_info rfl (oC_one _) ?_)
      change Code.wp _ _ _ _ (v2.setRow w.heap.size (oC o2))
      rw [← hW]
      clear hW H'
      have x9 := (cell_heap (i := 9) H2.pk).trans (show _ = some (.slice Ap P.props.length cp) from rfl)
      have HH := Lib.hid H2
      clear H2
      go_upto_region 4 with fail
      have H2 := HH.out
      clear HH x9
      have x0 := (cell_heap (i := 0) H2.pk).trans (show _ = some (.int .i64 P.kind) from rfl)
      have x9 := (cell_heap (i := 9) H2.pk).trans (show _ = some (.slice Ap P.props.length cp) from rfl)
      have HH := Lib.hid H2
      clear H2
      go_wp2_with (refine wpl_load_o (by rfl) (.tmp 2) (by rfl) w.heap.size (by rfl) HH.out.box ?_)
      refine (CPr.out o2 (by have := z2; omega) _ HH.out.below).mono ?_
      rintro e v3 ⟨rfl, b3⟩
      have H' := HH.out.next b3
      clear HH b3 x0 x9
      obtain ⟨o3, ho3⟩ : ∃ o', o' = RP.pr o2 P.kind P.props := ⟨_, rfl⟩
      have z3 : o3.1.size ≤ o.1.size + 2 * 8388996 := by rw [ho3]; exact Nat.le_trans (pr_sz _ _ _) (by have := z2; omega)
      rw [← ho3]
      obtain ⟨W3, hW⟩ : ∃ W', W' = v3.setRow w.heap.size (oC o3) := ⟨_, rfl⟩
      have H3 : O3 w P vc (.slice Ap P.props.length cp) vw vs vf o3 (⟨#[]⟩, 0) W3 := by rw [hW]; exact H'.setO _
      have E3 := Lib.hid ho3
      clear ho3
      go_upto_region 5 with (refine wpList_store_row (by rfl) 74 (.tmp 2) (.tmp 27) (by rfl) w.heap.size (oC o3) (by rfl) (by rfl) 74 (oC o2) H'.box o_info rfl (oC_one _) ?_)
      change Code.wp _ _ _ _ (v3.setRow w.heap.size (oC o3))
      rw [← hW]
      clear hW H'
      have EQ : RP.ending o P = o3 := by rw [EQ0, E3.out, E2.out]
      have HR := H3.setR o3
      go_wp2_with (first
        | refine wpl_load_o (by rfl) (.tmp 2) (by rfl) w.heap.size (by rfl) H3.box ?_
        | refine wpList_store_row (by rfl) 74 (.tmp 4) (.tmp 28) (by rfl) (w.heap.size + 2) (oC o3) (by rfl) (by rfl) 74 (oC (⟨#[]⟩, 0)) H3.res o_info rfl (oC_one _) ?_)
      refine bodyPost_ret (v := .agg (oC o3)) ?_ rfl ⟨by first | rw [EQ] | rfl, HR.below⟩
      have hl := load_o_var HR.res
      simp [results, Tryd.results47, Act.put]
      exact hl
    · skip
      go_enter Tryd.func47, Tryd.ntmps47
      go_upto_region 1 with fail
      change Code.wp _ _ _ _ (((w.alloc (.cells (oC o) 74)).alloc (.cells (rkCells P vc (.slice Ap P.props.length cp) vw vs vf) 45)).alloc (.cells (oC (⟨#[]⟩, 0)) 74))
      have H0 := O3.start w P vc (.slice Ap P.props.length cp) vw vs vf o
      generalize (((w.alloc (.cells (oC o) 74)).alloc (.cells (rkCells P vc (.slice Ap P.props.length cp) vw vs vf) 45)).alloc (.cells (oC (⟨#[]⟩, 0)) 74)) = W0 at *
      have x7 := (cell_heap (i := 7) H0.pk).trans (show _ = some (.int .i64 P.code) from rfl)
      have x9 := (cell_heap (i := 9) H0.pk).trans (show _ = some (.slice Ap P.props.length cp) from rfl)
      have HH := Lib.hid H0
      clear H0
      go_upto_region 2 with fail
      have H0 := HH.out
      clear HH x7 x9
      have x7 := (cell_heap (i := 7) H0.pk).trans (show _ = some (.int .i64 P.code) from rfl)
      have HH := Lib.hid H0
      clear H0
      go_wp2_with (refine wpl_load_o (by rfl) (.tmp 2) (by rfl) w.heap.size (by rfl) HH.out.box ?_)
      refine (dnumber_any o (by have := z0; omega) 1 P.code hcode _).mono ?_
      rintro e v4 ⟨rfl, b4⟩
      have H' := HH.out.next b4
      clear HH b4 x7
      obtain ⟨o4, ho4⟩ : ∃ o', o' = RP.nm o 1 P.code := ⟨_, rfl⟩
      have z4 : o4.1.size ≤ o.1.size + 1 * 8388996 := by rw [ho4]; exact Nat.le_trans (nm_sz _ _ _) (by have := z0; omega)
      rw [← ho4]
      obtain ⟨W4, hW⟩ : ∃ W', W' = v4.setRow w.heap.size (oC o4) := ⟨_, rfl⟩
      have H4 : O3 w P vc (.slice Ap P.props.length cp) vw vs vf o4 (⟨#[]⟩, 0) W4 := by rw [hW]; exact H'.setO _
      have E4 := Lib.hid ho4
      clear ho4
      go_upto_region 3 with (refine wpList_store_row (by rfl) 74 (.tmp 2) (.tmp 17) (by rfl) w.heap.size (oC o4) (by rfl) (by rfl) 74 (oC o) H'.box o_info rfl (oC_one _) ?_)
      change Code.wp _ _ _ _ (v4.setRow w.heap.size (oC o4))
      rw [← hW]
      clear hW H'
      have x9 := (cell_heap (i := 9) H4.pk).trans (show _ = some (.slice Ap P.props.length cp) from rfl)
      have HH := Lib.hid H4
      clear H4
      go_upto_region 4 with fail
      have H4 := HH.out
      clear HH x9
      have x0 := (cell_heap (i := 0) H4.pk).trans (show _ = some (.int .i64 P.kind) from rfl)
      have x9 := (cell_heap (i := 9) H4.pk).trans (show _ = some (.slice Ap P.props.length cp) from rfl)
      have HH := Lib.hid H4
      clear H4
      go_wp2_with (refine wpl_load_o (by rfl) (.tmp 2) (by rfl) w.heap.size (by rfl) HH.out.box ?_)
      refine (CPr.out o4 (by have := z4; omega) _ HH.out.below).mono ?_
      rintro e v5 ⟨rfl, b5⟩
      have H' := HH.out.next b5
      clear HH b5 x0 x9
      obtain ⟨o5, ho5⟩ : ∃ o', o' = RP.pr o4 P.kind P.props := ⟨_, rfl⟩
      have z5 : o5.1.size ≤ o.1.size + 2 * 8388996 := by rw [ho5]; exact Nat.le_trans (pr_sz _ _ _) (by have := z4; omega)
      rw [← ho5]
      obtain ⟨W5, hW⟩ : ∃ W', W' = v5.setRow w.heap.size (oC o5) := ⟨_, rfl⟩
      have H5 : O3 w P vc (.slice Ap P.props.length cp) vw vs vf o5 (⟨#[]⟩, 0) W5 := by rw [hW]; exact H'.setO _
      have E5 := Lib.hid ho5
      clear ho5
      go_upto_region 5 with (refine wpList_store_row (by rfl) 74 (.tmp 2) (.tmp 27) (by rfl) w.heap.size (oC o5) (by rfl) (by rfl) 74 (oC o4) H'.box o_info rfl (oC_one _) ?_)
      change Code.wp _ _ _ _ (v5.setRow w.heap.size (oC o5))
      rw [← hW]
      clear hW H'
      have EQ : RP.ending o P = o5 := by rw [EQ0, E5.out, E4.out]
      have HR := H5.setR o5
      go_wp2_with (first
        | refine wpl_load_o (by rfl) (.tmp 2) (by rfl) w.heap.size (by rfl) H5.box ?_
        | refine wpList_store_row (by rfl) 74 (.tmp 4) (.tmp 28) (by rfl) (w.heap.size + 2) (oC o5) (by rfl) (by rfl) 74 (oC (⟨#[]⟩, 0)) H5.res o_info rfl (oC_one _) ?_)
      refine bodyPost_ret (v := .agg (oC o5)) ?_ rfl ⟨by first | rw [EQ] | rfl, HR.below⟩
      have hl := load_o_var HR.res
      simp [results, Tryd.results47, Act.put]
      exact hl
set_option linter.unusedSimpArgs false in
set_option maxRecDepth 100000 in
set_option maxHeartbeats 4000000 in
theorem dflags_any (P : Pk) (h3 : P.kind = 3 → 0 ≤ P.qos ∧ P.qos ≤ 2) (vc vp vw vs vf : Value) (w : World) :
    Calls Tryd.prog 17 #[.agg (rkCells P vc vp vw vs vf)] w fun e w' => e = .returned (.int .i64 (PK.flagsN P)) ∧ Below w.heap.size w w' := by
  have k0 := heap_alloc_new w (.cells (rkCells P vc vp vw vs vf) 45)
  have x0 := (cell_heap (i := 0) k0).trans (show _ = some (.int .i64 P.kind) from rfl)
  have x1 := (cell_heap (i := 1) k0).trans (show _ = some (.bool P.dup) from rfl)
  have x2 := (cell_heap (i := 2) k0).trans (show _ = some (.bool P.ret) from rfl)
  have x3 := (cell_heap (i := 3) k0).trans (show _ = some (.int .i64 P.qos) from rfl)
  have bb := Lib.hid ((Below.refl w.heap.size w).alloc (Nat.le_refl _) (.cells (rkCells P vc vp vw vs vf) 45))
  clear k0
  unfold PK.flagsN
  by_cases k3 : P.kind = 3
  · rw [if_pos k3]
    obtain ⟨q0, q1⟩ := h3 k3
    rw [k3] at x0
    have CD : Hid (∀ W, _) := Lib.hid (fun W => dbit_any P.dup 8 W)
    have CR : Hid (∀ W, _) := Lib.hid (fun W => dbit_any P.ret 1 W)
    have b1 := fl_le P.dup 8 (by decide)
    have b2 := fl_le P.ret 1 (by decide)
    generalize PK.fl P.dup 8 = d at *
    generalize PK.fl P.ret 1 = r at *
    clear k3 h3
    go_enter Tryd.func17, Tryd.ntmps17
    go_wp2_with fail
    refine (CD.out _).mono ?_
    rintro e _ ⟨rfl, rfl⟩
    go_wp2_with fail
    refine (CR.out _).mono ?_
    rintro e _ ⟨rfl, rfl⟩
    go_wp2_with fail
    go_ret
    exact ⟨rfl, bb.out⟩
  · rw [if_neg k3]
    have n3 : (P.kind == 3) = false := by rw [beq_eq_false_iff_ne]; exact k3
    by_cases k2 : P.kind = 6 ∨ P.kind = 8 ∨ P.kind = 10
    · rw [if_pos k2]
      rcases k2 with k | k | k <;>
      · rw [k] at x0
        clear h3 k3 n3 k
        go_enter Tryd.func17, Tryd.ntmps17
        go_wp2_with fail
        go_ret
        exact ⟨rfl, bb.out⟩
    · rw [if_neg k2]
      have n6 : (P.kind == 6) = false := by rw [beq_eq_false_iff_ne]; exact fun e => k2 (.inl e)
      have n8 : (P.kind == 8) = false := by rw [beq_eq_false_iff_ne]; exact fun e => k2 (.inr (.inl e))
      have n10 : (P.kind == 10) = false := by rw [beq_eq_false_iff_ne]; exact fun e => k2 (.inr (.inr e))
      clear h3 k3 k2
      go_enter Tryd.func17, Tryd.ntmps17
      go_wp2_with fail
      go_ret
      exact ⟨rfl, bb.out⟩
end Go.Proofs.YtlfgndhdifpngaaDoor
