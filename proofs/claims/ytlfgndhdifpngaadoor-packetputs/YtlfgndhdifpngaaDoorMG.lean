/- The document's writer of packets: Put.; The codes of the document's writer of packets are bytes.; PacketPuts: every packet has the document's bytes, or its code. -/
import Derived.Test.YtlfgndhdifpngaaDoorPkRf5
import Derived.BigQuiet
import Derived.Deep.QuietTactic
import Derived.Test.YtlfgndhdifpngaaDoorMD
namespace Go.Proofs.YtlfgndhdifpngaaDoor
open Go.RowKit
attribute [local go_sem ↓] Go.wp_at_zero Go.wp_at_succ

namespace RP
theorem ad_ne {o : ByteArray × Int} (h : o.2 ≠ 0) (s : ByteArray) (c : Int) : (ad o s c).2 ≠ 0 := by rw [ad_keeps _ _ _ h]; exact h
theorem idd_ne {o : ByteArray × Int} (h : o.2 ≠ 0) (n : Int) : (idd o n).2 ≠ 0 := by
  unfold idd
  split
  · exact ad_ne h _ _
  · exact ad_ne h _ _
theorem pr_ne {o : ByteArray × Int} (h : o.2 ≠ 0) (k : Int) (l : List Pr) : (pr o k l).2 ≠ 0 := by
  unfold pr
  split
  · exact ad_ne h _ _
  · exact ad_ne (ad_ne h _ _) _ _
theorem qos_of {P : Pk} (h3 : P.kind = 3) (hc : (body (⟨#[]⟩, 0) P).2 = 0) : 0 ≤ P.qos ∧ P.qos ≤ 2 := by
  apply Classical.byContradiction
  intro hn
  have hq : P.qos < 0 ∨ 2 < P.qos := by omega
  have e : qs ((⟨#[]⟩, 0) : ByteArray × Int) P.qos = ad (⟨#[]⟩, 0) ⟨#[]⟩ 129 := by unfold qs; rw [if_pos hq]
  have e0 : (ad ((⟨#[]⟩, 0) : ByteArray × Int) ⟨#[]⟩ 129).2 ≠ 0 := by decide
  have e1 : (pub0 (⟨#[]⟩, 0) P).2 ≠ 0 := by
    unfold pub0
    rw [e]
    split
    · exact ad_ne e0 _ _
    · exact e0
  have e2 : (pub1 (⟨#[]⟩, 0) P).2 ≠ 0 := by
    unfold pub1
    split
    · exact idd_ne (ad_ne e1 _ _) _
    · exact ad_ne e1 _ _
  have e3 : (pub (⟨#[]⟩, 0) P).2 ≠ 0 := by
    unfold pub
    exact ad_ne (pr_ne e2 _ _) _ _
  apply e3
  unfold body at hc
  rw [if_neg (by omega), if_neg (by omega), if_pos h3] at hc
  exact hc
end RP
theorem flagsN_le {P : Pk} (h3 : P.kind = 3 → 0 ≤ P.qos ∧ P.qos ≤ 2) : 0 ≤ PK.flagsN P ∧ PK.flagsN P ≤ 13 := by
  unfold PK.flagsN
  have h1 := fl_le P.dup 8 (by decide)
  have h2 := fl_le P.ret 1 (by decide)
  by_cases h : P.kind = 3
  · have := h3 h
    rw [if_pos h]; omega
  · rw [if_neg h]
    split <;> omega
theorem putL_size (n : Int) : (strOfNums (VP.putL n)).size ≤ 4 := by rw [strOfNums_size]; exact PR.putL_len n
theorem below_drewN' (B : Nat) (w : World) (n : Nat) : Below B w (w.drewN n) := ⟨rfl, rfl, rfl, Nat.le_refl _, fun _ _ => rfl⟩
theorem ret_si {a b : ByteArray} {x y : Int} (h : a = b) (g : x = y) : Ending.returned (.tuple #[.string a, .int .i64 x]) = .returned (.tuple #[.string b, .int .i64 y]) := by rw [h, g]

set_option linter.unusedSimpArgs false in
set_option linter.unusedVariables false in
set_option maxRecDepth 100000 in
set_option maxHeartbeats 4000000 in
theorem dput_any (P : Pk) (hf : PkF P) (B : Nat) (vc vp vw vs vf : Value) (w : World) (hr : Own5R B P vc vp vw vs vf w) :
    Calls Tryd.prog 6 #[.agg (rkCells P vc vp vw vs vf)] w fun e w' => e = .returned (.tuple #[.string (PK.putS P), .int .i64 (PK.putC P)]) ∧ Below w.heap.size w w' := by
  have k0 := heap_alloc_new w (.cells (rkCells P vc vp vw vs vf) 45)
  have bal := (Below.refl w.heap.size w).alloc (Nat.le_refl _) (.cells (rkCells P vc vp vw vs vf) 45)
  have x0 := (cell_heap (i := 0) k0).trans (show _ = some (.int .i64 P.kind) from rfl)
  have BAL := Lib.hid bal
  by_cases hk : P.kind < 1 ∨ 15 < P.kind
  · have hC : Hid (PK.putC P = 129) := Lib.hid (by unfold PK.putC; rw [if_pos hk])
    have hS : Hid (PK.putS P = ⟨#[]⟩) := Lib.hid (by unfold PK.putS; rw [if_pos (by rw [hC.out]; decide)])
    clear k0 bal
    by_cases h1 : P.kind < 1
    · clear hk
      go_enter Tryd.func6, Tryd.ntmps6
      go_upto_region 1 with fail
      go_wp2_with fail
      go_ret2
      exact ⟨ret_si hS.out.symm hC.out.symm, BAL.out⟩
    · have h2 : (15 : Int) < P.kind := by omega
      clear hk
      go_enter Tryd.func6, Tryd.ntmps6
      go_upto_region 1 with fail
      go_wp2_with fail
      go_ret2
      exact ⟨ret_si hS.out.symm hC.out.symm, BAL.out⟩
  · have h1 : ¬ P.kind < 1 := fun e => hk (.inl e)
    have h2 : ¬ (15 : Int) < P.kind := fun e => hk (.inr e)
    have K0 := Lib.hid k0
    have hk1 : (1 : Int) ≤ P.kind := by omega
    have hk2 : P.kind ≤ 15 := by omega
    have CB := Lib.hid (dbody_any (⟨#[]⟩, 0) (by decide) P hf B vc vp vw vs vf (w.alloc (.cells (rkCells P vc vp vw vs vf) 45)) (hr.below ((Below.refl w.heap.size w).alloc (Nat.le_refl _) _)))
    have hsm := RP.body_sm P
    have hqo := fun h3 => RP.qos_of (P := P) h3
    have hCC : PK.putC P = if (PK.bodyO P).2 ≠ 0 then (PK.bodyO P).2 else if 65536 < (PK.bodyO P).1.size then 149 else 0 := by unfold PK.putC; rw [if_neg hk]
    have hSS : PK.putS P = if PK.putC P ≠ 0 then ⟨#[]⟩ else strOfNums (VP.fixL 1 (16 * P.kind + PK.flagsN P)) ++ strOfNums (VP.putL (PK.bodyO P).1.size) ++ (PK.bodyO P).1 := rfl
    generalize PK.bodyO P = O at *
    generalize RP.body (⟨#[]⟩, 0) P = R at *
    obtain ⟨hs1, hs2⟩ := hsm
    have Hs1 := Lib.hid hs1; have Hs2 := Lib.hid hs2; have HCC := Lib.hid hCC; have HSS := Lib.hid hSS; have HQ := Lib.hid hqo
    clear k0 bal hk hs1 hs2 hCC hSS hqo hr hf
    go_enter Tryd.func6, Tryd.ntmps6
    go_upto_region 3 with fail
    change Code.wp _ _ _ _ (w.alloc (.cells (rkCells P vc vp vw vs vf) 45))
    clear h1 h2 x0
    generalize w.alloc (.cells (rkCells P vc vp vw vs vf) 45) = W0 at *
    go_wp2_with (refine wpl_load_rk (by rfl) (.tmp 1) (by rfl) w.heap.size (by rfl) K0.out ?_)
    refine CB.out.mono ?_
    rintro e w1 ⟨rfl, b1⟩
    obtain ⟨wA, hwA⟩ : ∃ wA, wA = (w1.alloc (.cells (oC (⟨#[]⟩, 0)) 74)).setRow w1.heap.size (oC R) := ⟨_, rfl⟩
    have Z1 : Hid ((w1.alloc (.cells (oC (⟨#[]⟩, 0)) 74)).heap[w1.heap.size]? = some (.cells (oC (⟨#[]⟩, 0)) 74 (0, 0))) := Lib.hid (heap_alloc_new w1 _)
    have hsz : w.heap.size ≤ w1.heap.size := Nat.le_trans BAL.out.size b1.size
    have hlt0 : w.heap.size < w1.heap.size := by have := lt_heap K0.out; have := b1.size; omega
    have BX : Hid (wA.heap[w1.heap.size]? = some (.cells (oC R) 74 (0, 0))) := Lib.hid (by rw [hwA]; exact sr_heap Z1.out)
    have PX : Hid (wA.heap[w.heap.size]? = some (.cells (rkCells P vc vp vw vs vf) 45 (0, 0))) := Lib.hid (by
      rw [hwA]
      exact (sr_other _ (by omega)).trans ((Below.heap_alloc _ _ _ hlt0).trans ((b1.block _ (lt_heap K0.out)).trans K0.out)))
    have BA : Hid (Below w.heap.size w wA) := Lib.hid (by
      rw [hwA]
      exact sr_below ((BAL.out.trans (b1.mono BAL.out.size)).trans ((Below.refl _ _).alloc hsz _)) hsz _)
    have HwA := Lib.hid hwA
    clear hwA b1 CB K0 BAL
    go_upto_region 4 with (refine wpList_store_row (by rfl) 74 (.tmp 4) (.tmp 20) (by rfl) w1.heap.size (oC R) (by rfl) (by rfl) 74 (oC (⟨#[]⟩, 0)) Z1.out o_info rfl (oC_one _) ?_)
    change Code.wp _ _ _ _ ((w1.alloc (.cells (oC (⟨#[]⟩, 0)) 74)).setRow w1.heap.size (oC R))
    rw [← HwA.out]
    clear HwA Z1
    generalize w1.heap.size = b at *
    have y0 := (cell_heap (i := 0) BX.out).trans (show _ = some (.string R.1) from rfl)
    have y1 := (cell_heap (i := 1) BX.out).trans (show _ = some (.int .i64 R.2) from rfl)
    by_cases hc : R.2 = 0
    · have hbn : (R.2 != 0) = false := by rw [hc]; rfl
      have hO2 : O.2 = 0 := Hs1.out.symm.trans hc
      have hO1 := Hs2.out hO2
      have HO2 := Lib.hid hO2
      have HO1 := Lib.hid hO1
      have h3 := fun h => HQ.out h hc
      clear hc hO2 hO1
      by_cases hz : 65536 < R.1.size
      · have hd : decide ((65536 : Int) < (R.1.size : Int)) = true := by rw [decide_eq_true_iff]; omega
        have hC : Hid (PK.putC P = 149) := Lib.hid (by rw [HCC.out, if_neg (by rw [HO2.out]; decide), if_pos (by rw [← HO1.out]; exact hz)])
        have hS : Hid (PK.putS P = ⟨#[]⟩) := Lib.hid (by rw [HSS.out, if_pos (by rw [hC.out]; decide)])
        clear h3
        go_wp2_with fail
        go_ret2
        exact ⟨ret_si hS.out.symm hC.out.symm, BA.out⟩
      · have hd : decide ((65536 : Int) < (R.1.size : Int)) = false := by rw [decide_eq_false_iff_not]; omega
        have hC : Hid (PK.putC P = 0) := Lib.hid (by rw [HCC.out, if_neg (by rw [HO2.out]; decide), if_neg (by rw [← HO1.out]; exact hz)])
        have hS : Hid (PK.putS P = strOfNums (VP.fixL 1 (16 * P.kind + PK.flagsN P)) ++ strOfNums (VP.putL R.1.size) ++ R.1) := Lib.hid (by rw [HSS.out, if_neg (by rw [hC.out]; decide), ← HO1.out])
        have hfl := flagsN_le h3
        have CF := Lib.hid (fun W => dflags_any P h3 vc vp vw vs vf W)
        have hp4 := putL_size (R.1.size : Int)
        have hx4 := fixL_size 1 (16 * P.kind + PK.flagsN P)
        have hRz : R.1.size ≤ 65536 := by omega
        generalize PK.flagsN P = fN at *
        have CX := Lib.hid (fun W => reffixed_any 1 (16 * P.kind + fN) (by omega) (by omega) W)
        have CP := Lib.hid (fun W => refput_any (R.1.size : Int) W)
        generalize strOfNums (VP.fixL 1 (16 * P.kind + fN)) = sF at *
        generalize strOfNums (VP.putL (R.1.size : Int)) = sP at *
        clear h3
        have HBX := Lib.hid BX
        go_wp2_with (refine wpl_load_rk (by rfl) (.tmp 1) (by rfl) w.heap.size (by rfl) PX.out ?_)
        refine (CF.out _).mono ?_
        rintro e w2 ⟨rfl, b2⟩
        have BX2 := Lib.hid ((b2.block _ (lt_heap BX.out)).trans BX.out)
        have PX2 := Lib.hid ((b2.block _ (lt_heap PX.out)).trans PX.out)
        have BA2 := Lib.hid (BA.out.trans (b2.mono BA.out.size))
        clear y0 y1 b2 BX PX BA HBX CF
        have x0 := (cell_heap (i := 0) PX2.out).trans (show _ = some (.int .i64 P.kind) from rfl)
        go_wp2_with fail
        refine (CX.out _).mono ?_
        rintro e w3 ⟨rfl, b3⟩
        have BX3 := Lib.hid ((b3.block _ (lt_heap BX2.out)).trans BX2.out)
        have BA3 := Lib.hid (BA2.out.trans (b3.mono BA2.out.size))
        clear x0 b3 BX2 PX2 BA2 CX
        have y0 := (cell_heap (i := 0) BX3.out).trans (show _ = some (.string R.1) from rfl)
        go_wp2_with fail
        refine (CP.out _).mono ?_
        rintro e w4 ⟨rfl, b4⟩
        have BX4 := Lib.hid ((b4.block _ (lt_heap BX3.out)).trans BX3.out)
        have BA4 := Lib.hid (BA3.out.trans (b4.mono BA3.out.size))
        clear y0 b4 BX3 BA3 CP
        have y0 := (cell_heap (i := 0) BX4.out).trans (show _ = some (.string R.1) from rfl)
        go_wp2_with fail
        go_ret2
        exact ⟨ret_si hS.out.symm hC.out.symm, BA4.out⟩
    · have hbn : (R.2 != 0) = true := by rw [bne_iff_ne]; exact hc
      have hC : Hid (PK.putC P = R.2) := Lib.hid (by rw [HCC.out, if_pos (by rw [← Hs1.out]; exact hc), Hs1.out])
      have hS : Hid (PK.putS P = ⟨#[]⟩) := Lib.hid (by rw [HSS.out, if_pos (by rw [hC.out]; exact hc)])
      clear hc HQ
      go_upto_region 5 with fail
      go_quiet (fail)
      go_wp2_with fail
      go_ret2
      exact ⟨ret_si hS.out.symm hC.out.symm, BA.out.trans (below_drewN' _ _ _)⟩
end Go.Proofs.YtlfgndhdifpngaaDoor
namespace Go.Proofs.YtlfgndhdifpngaaDoor
namespace RP
def Cu (o : ByteArray × Int) : Prop := 0 ≤ o.2 ∧ o.2 ≤ 255
theorem ad_cu {o : ByteArray × Int} (h : Cu o) (s : ByteArray) {c : Int} (hc : 0 ≤ c ∧ c ≤ 255) : Cu (ad o s c) := by
  unfold ad Cu at *
  simp only
  split
  · exact hc
  · exact h
theorem nm_cu {o : ByteArray × Int} (h : Cu o) (w n : Int) : Cu (nm o w n) := ad_cu h _ (by have := VP.fixC_le w n; omega)
theorem tx_cu {o : ByteArray × Int} (h : Cu o) (s : ByteArray) : Cu (tx o s) := ad_cu h _ (by have := TX.putC_le s; omega)
theorem dt_cu {o : ByteArray × Int} (h : Cu o) (s : ByteArray) : Cu (dt o s) := ad_cu h _ (by unfold TX.dataC; split <;> omega)
theorem idd_cu {o : ByteArray × Int} (h : Cu o) (n : Int) : Cu (idd o n) := by
  unfold idd
  split
  · exact ad_cu h _ (by decide)
  · exact nm_cu h _ _
theorem pr_cu {o : ByteArray × Int} (h : Cu o) (k : Int) (l : List Pr) : Cu (pr o k l) := by
  have hc : 0 ≤ PR.putC l ∧ PR.putC l ≤ 255 := by have := putC_le l; omega
  unfold pr
  split
  · exact ad_cu h _ hc
  · exact ad_cu (ad_cu h _ hc) _ (by decide)
theorem qs_cu {o : ByteArray × Int} (h : Cu o) (n : Int) : Cu (qs o n) := by
  unfold qs
  split
  · exact ad_cu h _ (by decide)
  · exact h
theorem sub_cu {o : ByteArray × Int} (h : Cu o) (s : Sb) : Cu (sub o s) := nm_cu (qs_cu (qs_cu (tx_cu h _) _) _) _ _
theorem fold_cu {α : Type} {f : ByteArray × Int → α → ByteArray × Int} (hf : ∀ o x, Cu o → Cu (f o x)) : ∀ (l : List α) (o : ByteArray × Int), Cu o → Cu (l.foldl f o)
  | [], _, h => h
  | x :: l, o, h => fold_cu hf l (f o x) (hf o x h)
theorem each_cu {α : Type} {f : ByteArray × Int → α → ByteArray × Int} (hf : ∀ o x, Cu o → Cu (f o x)) (l : List α) {o : ByteArray × Int} (h : Cu o) : Cu (each o l f) := by
  unfold each smo
  apply fold_cu hf
  repeat' split
  · exact ad_cu h _ (by decide)
  · exact ad_cu h _ (by decide)
  · exact h
theorem ending_cu {o : ByteArray × Int} (h : Cu o) (p : Pk) : Cu (ending o p) := by
  unfold ending
  repeat' split
  · exact h
  · exact nm_cu h _ _
  · exact pr_cu (nm_cu h _ _) _ _
theorem conn_cu {o : ByteArray × Int} (h : Cu o) (p : Pk) : Cu (conn o p) := by
  have h0 : Cu (cfl (nm (tx o ⟨#[77, 81, 84, 84]⟩) 1 5) p) := by
    unfold cfl
    have h1 := nm_cu (tx_cu h ⟨#[77, 81, 84, 84]⟩) 1 5
    split
    · exact nm_cu (qs_cu h1 _) _ _
    · exact nm_cu h1 _ _
  have h1 : Cu (conn1 o p) := tx_cu (pr_cu (nm_cu h0 _ _) _ _) _
  have h2 : Cu (conn2 (conn1 o p) p) := by
    unfold conn2
    split
    · exact dt_cu (tx_cu (pr_cu h1 _ _) _) _
    · exact h1
  have h3 : Cu (conn3 (conn2 (conn1 o p) p) p) := by
    unfold conn3
    split
    · exact tx_cu h2 _
    · exact h2
  unfold conn conn4
  split
  · exact dt_cu h3 _
  · exact h3
theorem pub_cu {o : ByteArray × Int} (h : Cu o) (p : Pk) : Cu (pub o p) := by
  have h0 : Cu (pub0 o p) := by
    unfold pub0
    split
    · exact ad_cu (qs_cu h _) _ (by decide)
    · exact qs_cu h _
  have h1 : Cu (pub1 o p) := by
    unfold pub1
    split
    · exact idd_cu (tx_cu h0 _) _
    · exact tx_cu h0 _
  exact ad_cu (pr_cu h1 _ _) _ (by decide)
theorem body_cu (p : Pk) : Cu (body (⟨#[]⟩, 0) p) := by
  have h : Cu ((⟨#[]⟩, 0) : ByteArray × Int) := ⟨by decide, by decide⟩
  have hh : Cu (head (⟨#[]⟩, 0) p) := pr_cu (idd_cu h _) _ _
  unfold body
  split
  · exact conn_cu h p
  split
  · exact pr_cu (nm_cu (nm_cu h _ _) _ _) _ _
  split
  · exact pub_cu h p
  split
  · exact each_cu (fun o x h => sub_cu h x) _ hh
  split
  · exact each_cu (fun o x h => tx_cu h x) _ hh
  split
  · exact each_cu (fun o x h => nm_cu h _ _) _ hh
  split
  · exact ending_cu (idd_cu h _) p
  split
  · exact ending_cu h p
  · exact h
end RP
theorem PK.putC_u8 (P : Pk) : 0 ≤ PK.putC P ∧ PK.putC P ≤ 255 := by
  have h := RP.body_cu P
  unfold RP.Cu at h
  rw [(RP.body_sm P).1] at h
  unfold PK.putC
  repeat' split
  all_goals first | exact h | decide
end Go.Proofs.YtlfgndhdifpngaaDoor
namespace Go.Proofs.YtlfgndhdifpngaaDoor
open Go.RowKit
attribute [local go_sem ↓] Go.wp_at_zero Go.wp_at_succ

set_option maxRecDepth 100000 in
set_option maxHeartbeats 4000000 in
theorem packetPuts_walk (w : World) (X : Pk) (Ac Ap Aw As Af : Option Addr) (cc cp cw cs cf : Nat) (hX : ArgX w X Ac Ap Aw As Af cc cp cw cs cf) (hT0 : Tabs w) :
    Calls Tryd.prog 3 #[.agg (pkCells X (.slice Ac X.codes.length cc) (.slice Ap X.props.length cp) (.slice Aw X.wprops.length cw) (.slice As X.subs.length cs) (.slice Af X.filters.length cf))] w fun e w' => e = .returned (.bool true) ∧ Below w.heap.size w w' := by
  have HTb : Hid (∀ W, Below w.heap.size w W → Tabs W) := Lib.hid (fun W hW => hT0.below hW)
  obtain ⟨w0, hw0⟩ : ∃ w0, w0 = w.alloc (.cells (pkCells X (.slice Ac X.codes.length cc) (.slice Ap X.props.length cp) (.slice Aw X.wprops.length cw) (.slice As X.subs.length cs) (.slice Af X.filters.length cf)) 29) := ⟨_, rfl⟩
  have p0 : w0.heap[w.heap.size]? = some (.cells (pkCells X (.slice Ac X.codes.length cc) (.slice Ap X.props.length cp) (.slice Aw X.wprops.length cw) (.slice As X.subs.length cs) (.slice Af X.filters.length cf)) 29 (0, 0)) := by rw [hw0]; exact heap_alloc_new w _
  have b0 : Below w.heap.size w w0 := by rw [hw0]; exact (Below.refl _ _).alloc (Nat.le_refl _) _
  have CK := Lib.hid (packets_any X w0 Ac Ap Aw As Af cc cp cw cs cf hX.fine.code hX.fine.codes (hX.codes.below b0) (hX.props.below b0) (hX.wprops.below b0) (hX.subs.below b0) (hX.filters.below b0) hX.lc hX.lp hX.lw hX.ls hX.lf)
  have HPf := Lib.hid (cut80_f hX.fine)
  unfold PksP at CK
  obtain ⟨P, hP⟩ : ∃ P, P = cut80 X := ⟨_, rfl⟩
  rw [← hP] at CK HPf
  have P0 := Lib.hid p0; have HB0 := Lib.hid b0; have HW0 := Lib.hid hw0
  clear hX hT0 hP p0 b0 hw0
  have hcu := PK.putC_u8 P
  go_enter Tryd.func3, Tryd.ntmps3
  go_upto_region 1 with fail
  change Code.wp _ _ _ _ (w.alloc (.cells (pkCells X (.slice Ac X.codes.length cc) (.slice Ap X.props.length cp) (.slice Aw X.wprops.length cw) (.slice As X.subs.length cs) (.slice Af X.filters.length cf)) 29))
  rw [← HW0.out]
  clear HW0
  go_wp2_with (refine wpl_load_x (by rfl) (.tmp 1) (by rfl) w.heap.size (by rfl) P0.out ?_)
  refine CK.out.mono ?_
  rintro e w1 ⟨vc, vp, vw, vs, vf, uc, up, uw, us, uf, rfl, o1, or1, b1⟩
  have W1 := Lib.hid (pk_one P o1); have W2 := Lib.hid (rk_one P or1)
  obtain ⟨wA, hwA⟩ : ∃ wA, wA = (((w1.alloc (.cells (pkNil PK.zeroPk) 38)).alloc (.cells (rkNil PK.zeroPk) 45)).setRow w1.heap.size (pkCells P vc vp vw vs vf)).setRow (w1.heap.size + 1) (rkCells P uc up uw us uf) := ⟨_, rfl⟩
  obtain ⟨z1, z2, pA, oA, hBA⟩ := two_vars (uc := uc) (up := up) (uw := uw) (us := us) (uf := uf) o1 (HB0.out.trans (b1.mono HB0.out.size)) hwA
  have rA : wA.heap[w1.heap.size + 1]? = some (.cells (rkCells P uc up uw us uf) 45 (0, 0)) := by rw [hwA]; exact setRow_heap z2
  have bA : Below w1.heap.size w1 wA := by
    rw [hwA]
    exact below_setRow (below_setRow (((Below.refl _ _).alloc (Nat.le_refl _) _).alloc (by simp) _) (Nat.le_refl _) _) (by omega) _
  have orA := or1.below bA
  have CP := Lib.hid (pput_any P vc vp vw vs vf wA (own5_in oA HPf.out (fun W hW => HTb.out W (hBA.trans (hW.mono hBA.size)))))
  have CD : Hid (∀ W, Below wA.heap.size wA W → Calls Tryd.prog 6 #[.agg (rkCells P uc up uw us uf)] W fun e w' => e = .returned (.tuple #[.string (PK.putS P), .int .i64 (PK.putC P)]) ∧ Below W.heap.size W w') := Lib.hid (fun W hW => dput_any P HPf.out _ uc up uw us uf W (orA.below hW))
  obtain ⟨hc0, hc1⟩ := hcu
  generalize PK.putS P = S at *
  generalize PK.putC P = c at *
  have Z1 := Lib.hid z1; have Z2 := Lib.hid z2; have PA := Lib.hid pA; have RA := Lib.hid rA; have HBA := Lib.hid hBA; have HwA := Lib.hid hwA
  clear z1 z2 pA rA oA orA bA hBA hwA o1 or1 b1 CK P0 HB0
  go_upto_region 2 with (first
    | refine wpList_store_row (by rfl) 38 (.tmp 3) (.tmp 12) (by rfl) w1.heap.size (pkCells P vc vp vw vs vf) (by rfl) (by rfl) 38 (pkNil PK.zeroPk) Z1.out pk_info rfl W1.out ?_
    | refine wpList_store_row (by rfl) 45 (.tmp 4) (.tmp 13) (by rfl) (w1.heap.size + 1) (rkCells P uc up uw us uf) (by rfl) (by rfl) 45 (rkNil PK.zeroPk) Z2.out rk_info rfl W2.out ?_)
  change Code.wp _ _ _ _ ((((w1.alloc (.cells (pkNil PK.zeroPk) 38)).alloc (.cells (rkNil PK.zeroPk) 45)).setRow w1.heap.size (pkCells P vc vp vw vs vf)).setRow (w1.heap.size + 1) (rkCells P uc up uw us uf))
  rw [← HwA.out]
  clear HwA Z1 Z2 W1 W2
  go_wp2_with (refine wpl_load_pk (by rfl) (.tmp 3) (by rfl) w1.heap.size (by rfl) PA.out ?_)
  refine CP.out.mono ?_
  rintro e w2 ⟨rfl, b2⟩
  have r2 := (b2.block _ (lt_heap RA.out)).trans RA.out
  have hB2 := HBA.out.trans (b2.mono HBA.out.size)
  have CD2 := Lib.hid (CD.out w2 b2)
  have R2 := Lib.hid r2; have HB2 := Lib.hid hB2
  clear b2 r2 hB2 CP PA RA HBA CD
  go_wp2_with (refine wpl_load_rk (by rfl) (.tmp 4) (by rfl) (w1.heap.size + 1) (by rfl) R2.out ?_)
  refine CD2.out.mono ?_
  rintro e w3 ⟨rfl, b3⟩
  have HB3 := Lib.hid (HB2.out.trans (b3.mono HB2.out.size))
  clear b3 CD2 R2 HB2
  have CW := Lib.hid (lwakes_any w3 (fun W hW => HTb.out W (HB3.out.trans (hW.mono HB3.out.size))))
  have e1 : (S.toList == S.toList) = true := beq_self_eq_true _
  have e2 : IntKind.i64.wrap c = c := i64_byte ⟨hc0, hc1⟩
  have e3 : (c == c) = true := beq_self_eq_true _
  go_wp2_with fail
  refine CW.out.mono ?_
  rintro e w4 ⟨rfl, b4⟩
  have HB4 := Lib.hid (HB3.out.trans (b4.mono HB3.out.size))
  clear b4 CW HB3
  go_wp2_with fail
  go_ret
  exact ⟨rfl, HB4.out⟩
end Go.Proofs.YtlfgndhdifpngaaDoor
