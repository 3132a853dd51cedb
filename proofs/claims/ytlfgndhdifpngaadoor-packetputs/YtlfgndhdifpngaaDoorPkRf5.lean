/- The document's writer of packets: what follows the length. -/
import Derived.Test.YtlfgndhdifpngaaDoorMF
namespace Go.Proofs.YtlfgndhdifpngaaDoor
open Go.RowKit
attribute [local go_sem ↓] Go.wp_at_zero Go.wp_at_succ
theorem wpl_load_rk {ops : Array Oper} {rest : List Oper} {op : Oper} {a : Act} {w : World} {Q : Exit → Act → World → Prop} (hgd : op.guard = none) (x : Operand) (ho : op.op = .load 45 x)
    (n : Nat) (hx : a.eval x = .pointer (some ⟨n, 0, none⟩)) {p : Pk} {vc vp vw vs vf : Value} (hb : w.heap[n]? = some (.cells (rkCells p vc vp vw vs vf) 45 (0, 0)))
    (h : wpList Tryd.prog ops Q rest (a.put op.dst (.agg (rkCells p vc vp vw vs vf))) w) : wpList Tryd.prog ops Q (op :: rest) a w :=
  wpList_load_mid hgd 45 x ho n 0 hx (rkCells p vc vp vw vs vf).toList _ (fun j v hv => by rw [Nat.zero_add, cell_heap hb, ← hv]; simp) Tryd.underlying45 rfl (by kernel_rfl) h
theorem ad0_sz (o : ByteArray × Int) (c : Int) : (RP.ad o ⟨#[]⟩ c).1.size ≤ o.1.size + 8388996 := by rw [ad_sz]; have e : (ByteArray.mk #[]).size = 0 := rfl; omega
theorem o3_own {w W : World} {P : Pk} {vc vp vw vs vf : Value} {o r : ByteArray × Int} {B : Nat} (h : O3 w P vc vp vw vs vf o r W) (hr : Own5R B P vc vp vw vs vf w) : Own5R B P vc vp vw vs vf W := hr.below h.below

set_option linter.unusedSimpArgs false in
set_option linter.unusedVariables false in
set_option maxRecDepth 100000 in
set_option maxHeartbeats 4000000 in
theorem dbody_1 (o : ByteArray × Int) (ho : o.1.size ≤ 1000000000000) (P : Pk) (hf : PkF P) (hk : P.kind = 1) (B : Nat) (vc vp vw vs vf : Value) (w : World) (hr : Own5R B P vc vp vw vs vf w) :
    Calls Tryd.prog 16 #[.agg (oC o), .agg (rkCells P vc vp vw vs vf)] w (OP w (RP.conn o P)) := by
  obtain ⟨Ap, cp, rfl⟩ := own_form hr.props
  have CPr : Hid (∀ (kk : Int) (o' : ByteArray × Int), o'.1.size ≤ 2305843009213693952 → ∀ W', Below w.heap.size w W' → Calls Tryd.prog 42 #[.agg (oC o'), .int .i64 kk, .slice Ap P.props.length cp] W' (OP W' (RP.pr o' kk P.props))) := Lib.hid (fun kk o' h W' hb => dprops_any o' h kk Ap cp P.props W' hf.pr.1 ((own_props hr.props).below hb) hf.pr.2)
  have HR5 := Lib.hid hr
  have HF := Lib.hid hf
  have hcode : -9223372036854775808 ≤ P.code ∧ P.code ≤ 9223372036854775807 := by have := hf.fine.code; omega
  have hid := hf.fine.id
  have z0 : o.1.size ≤ o.1.size + 0 * 8388996 := by omega
  clear hf hr
  go_enter Tryd.func16, Tryd.ntmps16
  go_upto_region 1 with fail
  change Code.wp _ _ _ _ (((w.alloc (.cells (oC o) 74)).alloc (.cells (rkCells P vc (.slice Ap P.props.length cp) vw vs vf) 45)).alloc (.cells (oC (⟨#[]⟩, 0)) 74))
  have H0 := O3.start w P vc (.slice Ap P.props.length cp) vw vs vf o
  generalize (((w.alloc (.cells (oC o) 74)).alloc (.cells (rkCells P vc (.slice Ap P.props.length cp) vw vs vf) 45)).alloc (.cells (oC (⟨#[]⟩, 0)) 74)) = W0 at *
  have x0 := (cell_heap (i := 0) H0.pk).trans (show _ = some (.int .i64 1) from by rw [← hk]; rfl)
  have HH := Lib.hid H0
  have HK := Lib.hid hk
  clear H0 hk
  go_upto_region 3 with fail
  have H0 := HH.out
  clear HH x0
  have HH := Lib.hid H0
  clear H0
  go_wp2_with (first
    | refine wpl_load_o (by rfl) (.tmp 2) (by rfl) w.heap.size (by rfl) HH.out.box ?_
    | refine wpl_load_rk (by rfl) (.tmp 3) (by rfl) (w.heap.size + 1) (by rfl) HH.out.pk ?_)
  refine (dconnect_any o (by omega) P HF.out B vc (.slice Ap P.props.length cp) vw vs vf _ (o3_own HH.out HR5.out)).mono ?_
  rintro e v9 ⟨rfl, b9⟩
  have H9 := HH.out.next b9
  clear HH b9
  have HR := H9.setR (RP.conn o P)
  go_wp2_with (refine wpList_store_row (by rfl) 74 (.tmp 4) (.tmp 12) (by rfl) (w.heap.size + 2) (oC (RP.conn o P)) (by rfl) (by rfl) 74 (oC (⟨#[]⟩, 0)) H9.res o_info rfl (oC_one _) ?_)
  refine bodyPost_ret (v := .agg (oC (RP.conn o P))) ?_ rfl ⟨by first | rfl | rw [EQ], HR.below⟩
  have hl := load_o_var HR.res
  simp [results, Tryd.results16, Act.put]
  exact hl
set_option linter.unusedSimpArgs false in
set_option linter.unusedVariables false in
set_option maxRecDepth 100000 in
set_option maxHeartbeats 4000000 in
theorem dbody_2 (o : ByteArray × Int) (ho : o.1.size ≤ 1000000000000) (P : Pk) (hf : PkF P) (hk : P.kind = 2) (B : Nat) (vc vp vw vs vf : Value) (w : World) (hr : Own5R B P vc vp vw vs vf w) :
    Calls Tryd.prog 16 #[.agg (oC o), .agg (rkCells P vc vp vw vs vf)] w (OP w (RP.pr (RP.nm (RP.nm o 1 (PK.fl P.session 1)) 1 P.code) 2 P.props)) := by
  obtain ⟨Ap, cp, rfl⟩ := own_form hr.props
  have CPr : Hid (∀ (kk : Int) (o' : ByteArray × Int), o'.1.size ≤ 2305843009213693952 → ∀ W', Below w.heap.size w W' → Calls Tryd.prog 42 #[.agg (oC o'), .int .i64 kk, .slice Ap P.props.length cp] W' (OP W' (RP.pr o' kk P.props))) := Lib.hid (fun kk o' h W' hb => dprops_any o' h kk Ap cp P.props W' hf.pr.1 ((own_props hr.props).below hb) hf.pr.2)
  have HR5 := Lib.hid hr
  have HF := Lib.hid hf
  have hcode : -9223372036854775808 ≤ P.code ∧ P.code ≤ 9223372036854775807 := by have := hf.fine.code; omega
  have hid := hf.fine.id
  have z0 : o.1.size ≤ o.1.size + 0 * 8388996 := by omega
  clear hf hr
  generalize hS : PK.fl P.session 1 = fs at *
  have hfs : 0 ≤ fs ∧ fs ≤ 1 := by rw [← hS]; exact fl_le _ _ (by decide)
  have HS := Lib.hid hS
  clear hS
  have CS : Hid (∀ W, Calls Tryd.prog 40 #[.bool P.session, .int .i64 1] W fun e w' => e = .returned (.int .i64 fs) ∧ W = w') := Lib.hid (fun W => by rw [← HS.out]; exact dbit_any _ _ _)
  go_enter Tryd.func16, Tryd.ntmps16
  go_upto_region 1 with fail
  change Code.wp _ _ _ _ (((w.alloc (.cells (oC o) 74)).alloc (.cells (rkCells P vc (.slice Ap P.props.length cp) vw vs vf) 45)).alloc (.cells (oC (⟨#[]⟩, 0)) 74))
  have H0 := O3.start w P vc (.slice Ap P.props.length cp) vw vs vf o
  generalize (((w.alloc (.cells (oC o) 74)).alloc (.cells (rkCells P vc (.slice Ap P.props.length cp) vw vs vf) 45)).alloc (.cells (oC (⟨#[]⟩, 0)) 74)) = W0 at *
  have x0 := (cell_heap (i := 0) H0.pk).trans (show _ = some (.int .i64 2) from by rw [← hk]; rfl)
  have HH := Lib.hid H0
  have HK := Lib.hid hk
  clear H0 hk
  go_upto_region 5 with fail
  have H0 := HH.out
  clear HH x0
  have x23 := (cell_heap (i := 23) H0.pk).trans (show _ = some (.bool P.session) from rfl)
  have HH := Lib.hid H0
  clear H0
  go_wp2_with fail
  refine (CS.out _).mono ?_
  rintro e _ ⟨rfl, rfl⟩
  have H0 := HH.out
  clear HH x23
  go_upto_region 6 with fail
  have HH := Lib.hid H0
  clear H0
  go_wp2_with (refine wpl_load_o (by rfl) (.tmp 2) (by rfl) w.heap.size (by rfl) HH.out.box ?_)
  refine (dnumber_any o (by have := z0; omega) 1 fs (by omega) _).mono ?_
  rintro e v1 ⟨rfl, b1⟩
  have H' := HH.out.next b1
  clear HH b1 
  obtain ⟨o1, ho1⟩ : ∃ o', o' = RP.nm o 1 fs := ⟨_, rfl⟩
  have z1 : o1.1.size ≤ o.1.size + 1 * 8388996 := by rw [ho1]; exact Nat.le_trans (nm_sz _ _ _) (by have := z0; omega)
  rw [← ho1]
  obtain ⟨W1, hW⟩ : ∃ W', W' = v1.setRow w.heap.size (oC o1) := ⟨_, rfl⟩
  have H1 : O3 w P vc (.slice Ap P.props.length cp) vw vs vf o1 (⟨#[]⟩, 0) W1 := by rw [hW]; exact H'.setO _
  have E1 := Lib.hid ho1
  clear ho1
  go_upto_region 7 with (refine wpList_store_row (by rfl) 74 (.tmp 2) (.tmp 20) (by rfl) w.heap.size (oC o1) (by rfl) (by rfl) 74 (oC o) H'.box o_info rfl (oC_one _) ?_)
  change Code.wp _ _ _ _ (v1.setRow w.heap.size (oC o1))
  rw [← hW]
  clear hW H'
  have x7 := (cell_heap (i := 7) H1.pk).trans (show _ = some (.int .i64 P.code) from rfl)
  have HH := Lib.hid H1
  clear H1
  go_wp2_with (refine wpl_load_o (by rfl) (.tmp 2) (by rfl) w.heap.size (by rfl) HH.out.box ?_)
  refine (dnumber_any o1 (by have := z1; omega) 1 P.code hcode _).mono ?_
  rintro e v2 ⟨rfl, b2⟩
  have H' := HH.out.next b2
  clear HH b2 x7
  obtain ⟨o2, ho2⟩ : ∃ o', o' = RP.nm o1 1 P.code := ⟨_, rfl⟩
  have z2 : o2.1.size ≤ o.1.size + 2 * 8388996 := by rw [ho2]; exact Nat.le_trans (nm_sz _ _ _) (by have := z1; omega)
  rw [← ho2]
  obtain ⟨W2, hW⟩ : ∃ W', W' = v2.setRow w.heap.size (oC o2) := ⟨_, rfl⟩
  have H2 : O3 w P vc (.slice Ap P.props.length cp) vw vs vf o2 (⟨#[]⟩, 0) W2 := by rw [hW]; exact H'.setO _
  have E2 := Lib.hid ho2
  clear ho2
  go_upto_region 8 with (refine wpList_store_row (by rfl) 74 (.tmp 2) (.tmp 24) (by rfl) w.heap.size (oC o2) (by rfl) (by rfl) 74 (oC o1) H'.box o_info rfl (oC_one _) ?_)
  change Code.wp _ _ _ _ (v2.setRow w.heap.size (oC o2))
  rw [← hW]
  clear hW H'
  have EQ : RP.pr (RP.nm (RP.nm o 1 fs) 1 P.code) 2 P.props = RP.pr o2 2 P.props := by rw [E2.out, E1.out]
  have x9 := (cell_heap (i := 9) H2.pk).trans (show _ = some (.slice Ap P.props.length cp) from rfl)
  have HH := Lib.hid H2
  clear H2
  go_wp2_with (refine wpl_load_o (by rfl) (.tmp 2) (by rfl) w.heap.size (by rfl) HH.out.box ?_)
  refine (CPr.out 2 o2 (by have := z2; omega) _ HH.out.below).mono ?_
  rintro e v9 ⟨rfl, b9⟩
  have H9 := HH.out.next b9
  clear HH b9 x9
  have HR := H9.setR (RP.pr o2 2 P.props)
  go_wp2_with (refine wpList_store_row (by rfl) 74 (.tmp 4) (.tmp 28) (by rfl) (w.heap.size + 2) (oC (RP.pr o2 2 P.props)) (by rfl) (by rfl) 74 (oC (⟨#[]⟩, 0)) H9.res o_info rfl (oC_one _) ?_)
  refine bodyPost_ret (v := .agg (oC (RP.pr o2 2 P.props))) ?_ rfl ⟨by first | rfl | rw [EQ], HR.below⟩
  have hl := load_o_var HR.res
  simp [results, Tryd.results16, Act.put]
  exact hl
set_option linter.unusedSimpArgs false in
set_option linter.unusedVariables false in
set_option maxRecDepth 100000 in
set_option maxHeartbeats 4000000 in
theorem dbody_3 (o : ByteArray × Int) (ho : o.1.size ≤ 1000000000000) (P : Pk) (hf : PkF P) (hk : P.kind = 3) (B : Nat) (vc vp vw vs vf : Value) (w : World) (hr : Own5R B P vc vp vw vs vf w) :
    Calls Tryd.prog 16 #[.agg (oC o), .agg (rkCells P vc vp vw vs vf)] w (OP w (RP.pub o P)) := by
  obtain ⟨Ap, cp, rfl⟩ := own_form hr.props
  have CPr : Hid (∀ (kk : Int) (o' : ByteArray × Int), o'.1.size ≤ 2305843009213693952 → ∀ W', Below w.heap.size w W' → Calls Tryd.prog 42 #[.agg (oC o'), .int .i64 kk, .slice Ap P.props.length cp] W' (OP W' (RP.pr o' kk P.props))) := Lib.hid (fun kk o' h W' hb => dprops_any o' h kk Ap cp P.props W' hf.pr.1 ((own_props hr.props).below hb) hf.pr.2)
  have HR5 := Lib.hid hr
  have HF := Lib.hid hf
  have hcode : -9223372036854775808 ≤ P.code ∧ P.code ≤ 9223372036854775807 := by have := hf.fine.code; omega
  have hid := hf.fine.id
  have z0 : o.1.size ≤ o.1.size + 0 * 8388996 := by omega
  clear hf hr
  go_enter Tryd.func16, Tryd.ntmps16
  go_upto_region 1 with fail
  change Code.wp _ _ _ _ (((w.alloc (.cells (oC o) 74)).alloc (.cells (rkCells P vc (.slice Ap P.props.length cp) vw vs vf) 45)).alloc (.cells (oC (⟨#[]⟩, 0)) 74))
  have H0 := O3.start w P vc (.slice Ap P.props.length cp) vw vs vf o
  generalize (((w.alloc (.cells (oC o) 74)).alloc (.cells (rkCells P vc (.slice Ap P.props.length cp) vw vs vf) 45)).alloc (.cells (oC (⟨#[]⟩, 0)) 74)) = W0 at *
  have x0 := (cell_heap (i := 0) H0.pk).trans (show _ = some (.int .i64 3) from by rw [← hk]; rfl)
  have HH := Lib.hid H0
  have HK := Lib.hid hk
  clear H0 hk
  go_upto_region 10 with fail
  have H0 := HH.out
  clear HH x0
  have x3 := (cell_heap (i := 3) H0.pk).trans (show _ = some (.int .i64 P.qos) from rfl)
  have HH := Lib.hid H0
  clear H0
  go_wp2_with (refine wpl_load_o (by rfl) (.tmp 2) (by rfl) w.heap.size (by rfl) HH.out.box ?_)
  refine (dqos_any o (by have := z0; omega) P.qos _).mono ?_
  rintro e v1 ⟨rfl, b1⟩
  have H' := HH.out.next b1
  clear HH b1 x3
  obtain ⟨o1, ho1⟩ : ∃ o', o' = RP.qs o P.qos := ⟨_, rfl⟩
  have z1 : o1.1.size ≤ o.1.size + 1 * 8388996 := by rw [ho1]; exact Nat.le_trans (qs_sz _ _) (by have := z0; omega)
  rw [← ho1]
  obtain ⟨W1, hW⟩ : ∃ W', W' = v1.setRow w.heap.size (oC o1) := ⟨_, rfl⟩
  have H1 : O3 w P vc (.slice Ap P.props.length cp) vw vs vf o1 (⟨#[]⟩, 0) W1 := by rw [hW]; exact H'.setO _
  have E1 := Lib.hid ho1
  clear ho1
  go_upto_region 11 with (refine wpList_store_row (by rfl) 74 (.tmp 2) (.tmp 34) (by rfl) w.heap.size (oC o1) (by rfl) (by rfl) 74 (oC o) H'.box o_info rfl (oC_one _) ?_)
  change Code.wp _ _ _ _ (v1.setRow w.heap.size (oC o1))
  rw [← hW]
  clear hW H'
  by_cases hd : P.dup = true ∧ P.qos = 0
  · skip
    have x1 := (cell_heap (i := 1) H1.pk).trans (show _ = some (.bool true) from by rw [← hd.1]; rfl)
    have x3 := (cell_heap (i := 3) H1.pk).trans (show _ = some (.int .i64 0) from by rw [← hd.2]; rfl)
    have HH := Lib.hid H1
    have HD := Lib.hid hd
    clear H1 hd
    go_upto_region 12 with fail
    have H1 := HH.out
    clear HH x1 x3
    have HH := Lib.hid H1
    clear H1
    go_wp2_with (refine wpl_load_o (by rfl) (.tmp 2) (by rfl) w.heap.size (by rfl) HH.out.box ?_)
    refine (dadd_any o1 ⟨#[]⟩ 129 (by have := z1; have e : (ByteArray.mk #[]).size = 0 := rfl; omega) _).mono ?_
    rintro e v2 ⟨rfl, b2⟩
    have H' := HH.out.next b2
    clear HH b2 
    obtain ⟨o2, ho2⟩ : ∃ o', o' = RP.ad o1 ⟨#[]⟩ 129 := ⟨_, rfl⟩
    have z2 : o2.1.size ≤ o.1.size + 2 * 8388996 := by rw [ho2]; exact Nat.le_trans (ad0_sz _ _) (by have := z1; omega)
    rw [← ho2]
    obtain ⟨W2, hW⟩ : ∃ W', W' = v2.setRow w.heap.size (oC o2) := ⟨_, rfl⟩
    have H2 : O3 w P vc (.slice Ap P.props.length cp) vw vs vf o2 (⟨#[]⟩, 0) W2 := by rw [hW]; exact H'.setO _
    have E2 := Lib.hid ho2
    clear ho2
    go_upto_region 13 with (refine wpList_store_row (by rfl) 74 (.tmp 2) (.tmp 43) (by rfl) w.heap.size (oC o2) (by rfl) (by rfl) 74 (oC o1) H'.box o_info rfl (oC_one _) ?_)
    change Code.wp _ _ _ _ (v2.setRow w.heap.size (oC o2))
    rw [← hW]
    clear hW H'
    have x5 := (cell_heap (i := 5) H2.pk).trans (show _ = some (.string P.topic) from rfl)
    have HH := Lib.hid H2
    clear H2
    go_wp2_with (refine wpl_load_o (by rfl) (.tmp 2) (by rfl) w.heap.size (by rfl) HH.out.box ?_)
    refine (dtext_any o2 (by have := z2; omega) P.topic HF.out.fine.topic _).mono ?_
    rintro e v3 ⟨rfl, b3⟩
    have H' := HH.out.next b3
    clear HH b3 x5
    obtain ⟨o3, ho3⟩ : ∃ o', o' = RP.tx o2 P.topic := ⟨_, rfl⟩
    have z3 : o3.1.size ≤ o.1.size + 3 * 8388996 := by rw [ho3]; exact Nat.le_trans (tx_sz _ _) (by have := z2; omega)
    rw [← ho3]
    obtain ⟨W3, hW⟩ : ∃ W', W' = v3.setRow w.heap.size (oC o3) := ⟨_, rfl⟩
    have H3 : O3 w P vc (.slice Ap P.props.length cp) vw vs vf o3 (⟨#[]⟩, 0) W3 := by rw [hW]; exact H'.setO _
    have E3 := Lib.hid ho3
    clear ho3
    go_upto_region 14 with (refine wpList_store_row (by rfl) 74 (.tmp 2) (.tmp 47) (by rfl) w.heap.size (oC o3) (by rfl) (by rfl) 74 (oC o2) H'.box o_info rfl (oC_one _) ?_)
    change Code.wp _ _ _ _ (v3.setRow w.heap.size (oC o3))
    rw [← hW]
    clear hW H'
    have x3 := (cell_heap (i := 3) H3.pk).trans (show _ = some (.int .i64 0) from by rw [← HD.out.2]; rfl)
    have HH := Lib.hid H3
    clear H3
    go_upto_region 16 with fail
    have H3 := HH.out
    clear HH x3
    have x9 := (cell_heap (i := 9) H3.pk).trans (show _ = some (.slice Ap P.props.length cp) from rfl)
    have HH := Lib.hid H3
    clear H3
    go_wp2_with (refine wpl_load_o (by rfl) (.tmp 2) (by rfl) w.heap.size (by rfl) HH.out.box ?_)
    refine (CPr.out 3 o3 (by have := z3; omega) _ HH.out.below).mono ?_
    rintro e v4 ⟨rfl, b4⟩
    have H' := HH.out.next b4
    clear HH b4 x9
    obtain ⟨o4, ho4⟩ : ∃ o', o' = RP.pr o3 3 P.props := ⟨_, rfl⟩
    have z4 : o4.1.size ≤ o.1.size + 4 * 8388996 := by rw [ho4]; exact Nat.le_trans (pr_sz _ _ _) (by have := z3; omega)
    rw [← ho4]
    obtain ⟨W4, hW⟩ : ∃ W', W' = v4.setRow w.heap.size (oC o4) := ⟨_, rfl⟩
    have H4 : O3 w P vc (.slice Ap P.props.length cp) vw vs vf o4 (⟨#[]⟩, 0) W4 := by rw [hW]; exact H'.setO _
    have E4 := Lib.hid ho4
    clear ho4
    go_upto_region 17 with (refine wpList_store_row (by rfl) 74 (.tmp 2) (.tmp 58) (by rfl) w.heap.size (oC o4) (by rfl) (by rfl) 74 (oC o3) H'.box o_info rfl (oC_one _) ?_)
    change Code.wp _ _ _ _ (v4.setRow w.heap.size (oC o4))
    rw [← hW]
    clear hW H'
    have EQ : RP.pub o P = RP.ad o4 P.pay 0 := by
      unfold RP.pub RP.pub1 RP.pub0
      rw [if_neg (by have := HD.out.2; omega), if_pos HD.out, E4.out, E3.out, E2.out, E1.out]
    have x6 := (cell_heap (i := 6) H4.pk).trans (show _ = some (.string P.pay) from rfl)
    have HH := Lib.hid H4
    clear H4
    go_wp2_with (refine wpl_load_o (by rfl) (.tmp 2) (by rfl) w.heap.size (by rfl) HH.out.box ?_)
    refine (dadd_any o4 P.pay 0 (by have := z4; have := HF.out.fine.pay; unfold Short at this; omega) _).mono ?_
    rintro e v9 ⟨rfl, b9⟩
    have H9 := HH.out.next b9
    clear HH b9 x6
    have HR := H9.setR (RP.ad o4 P.pay 0)
    go_wp2_with (refine wpList_store_row (by rfl) 74 (.tmp 4) (.tmp 62) (by rfl) (w.heap.size + 2) (oC (RP.ad o4 P.pay 0)) (by rfl) (by rfl) 74 (oC (⟨#[]⟩, 0)) H9.res o_info rfl (oC_one _) ?_)
    refine bodyPost_ret (v := .agg (oC (RP.ad o4 P.pay 0))) ?_ rfl ⟨by first | rfl | rw [EQ], HR.below⟩
    have hl := load_o_var HR.res
    simp [results, Tryd.results16, Act.put]
    exact hl
  · skip
    have hsel : (P.dup = false) ∨ (P.dup = true ∧ (P.qos == 0) = false) := by
      cases h : P.dup
      · exact .inl rfl
      · exact .inr ⟨rfl, by rw [beq_eq_false_iff_ne]; exact fun e => hd ⟨h, e⟩⟩
    have HX := Lib.hid H1
    have HD := Lib.hid hd
    clear H1 hd
    rcases hsel with hdf | ⟨hdt, hqf⟩
    · have x1 := (cell_heap (i := 1) HX.out.pk).trans (show _ = some (.bool false) from by rw [← hdf]; rfl)
      have x3 := (cell_heap (i := 3) HX.out.pk).trans (show _ = some (.int .i64 P.qos) from rfl)
      clear hdf
      go_upto_region 13 with fail
      have H1 := HX.out
      clear HX x1 x3
      have x5 := (cell_heap (i := 5) H1.pk).trans (show _ = some (.string P.topic) from rfl)
      have HH := Lib.hid H1
      clear H1
      go_wp2_with (refine wpl_load_o (by rfl) (.tmp 2) (by rfl) w.heap.size (by rfl) HH.out.box ?_)
      refine (dtext_any o1 (by have := z1; omega) P.topic HF.out.fine.topic _).mono ?_
      rintro e v5 ⟨rfl, b5⟩
      have H' := HH.out.next b5
      clear HH b5 x5
      obtain ⟨o5, ho5⟩ : ∃ o', o' = RP.tx o1 P.topic := ⟨_, rfl⟩
      have z5 : o5.1.size ≤ o.1.size + 2 * 8388996 := by rw [ho5]; exact Nat.le_trans (tx_sz _ _) (by have := z1; omega)
      rw [← ho5]
      obtain ⟨W5, hW⟩ : ∃ W', W' = v5.setRow w.heap.size (oC o5) := ⟨_, rfl⟩
      have H5 : O3 w P vc (.slice Ap P.props.length cp) vw vs vf o5 (⟨#[]⟩, 0) W5 := by rw [hW]; exact H'.setO _
      have E5 := Lib.hid ho5
      clear ho5
      go_upto_region 14 with (refine wpList_store_row (by rfl) 74 (.tmp 2) (.tmp 47) (by rfl) w.heap.size (oC o5) (by rfl) (by rfl) 74 (oC o1) H'.box o_info rfl (oC_one _) ?_)
      change Code.wp _ _ _ _ (v5.setRow w.heap.size (oC o5))
      rw [← hW]
      clear hW H'
      by_cases hq : 0 < P.qos
      · skip
        have x3 := (cell_heap (i := 3) H5.pk).trans (show _ = some (.int .i64 P.qos) from rfl)
        have HH := Lib.hid H5
        clear H5
        go_upto_region 15 with fail
        have H5 := HH.out
        clear HH x3
        have x4 := (cell_heap (i := 4) H5.pk).trans (show _ = some (.int .i64 P.id) from rfl)
        have HH := Lib.hid H5
        clear H5
        go_wp2_with (refine wpl_load_o (by rfl) (.tmp 2) (by rfl) w.heap.size (by rfl) HH.out.box ?_)
        refine (did_any o5 (by have := z5; omega) P.id hid _).mono ?_
        rintro e v6 ⟨rfl, b6⟩
        have H' := HH.out.next b6
        clear HH b6 x4
        obtain ⟨o6, ho6⟩ : ∃ o', o' = RP.idd o5 P.id := ⟨_, rfl⟩
        have z6 : o6.1.size ≤ o.1.size + 3 * 8388996 := by rw [ho6]; exact Nat.le_trans (idd_sz _ _) (by have := z5; omega)
        rw [← ho6]
        obtain ⟨W6, hW⟩ : ∃ W', W' = v6.setRow w.heap.size (oC o6) := ⟨_, rfl⟩
        have H6 : O3 w P vc (.slice Ap P.props.length cp) vw vs vf o6 (⟨#[]⟩, 0) W6 := by rw [hW]; exact H'.setO _
        have E6 := Lib.hid ho6
        clear ho6
        go_upto_region 16 with (refine wpList_store_row (by rfl) 74 (.tmp 2) (.tmp 54) (by rfl) w.heap.size (oC o6) (by rfl) (by rfl) 74 (oC o5) H'.box o_info rfl (oC_one _) ?_)
        change Code.wp _ _ _ _ (v6.setRow w.heap.size (oC o6))
        rw [← hW]
        clear hW H'
        have x9 := (cell_heap (i := 9) H6.pk).trans (show _ = some (.slice Ap P.props.length cp) from rfl)
        have HH := Lib.hid H6
        clear H6
        go_wp2_with (refine wpl_load_o (by rfl) (.tmp 2) (by rfl) w.heap.size (by rfl) HH.out.box ?_)
        refine (CPr.out 3 o6 (by have := z6; omega) _ HH.out.below).mono ?_
        rintro e v7 ⟨rfl, b7⟩
        have H' := HH.out.next b7
        clear HH b7 x9
        obtain ⟨o7, ho7⟩ : ∃ o', o' = RP.pr o6 3 P.props := ⟨_, rfl⟩
        have z7 : o7.1.size ≤ o.1.size + 4 * 8388996 := by rw [ho7]; exact Nat.le_trans (pr_sz _ _ _) (by have := z6; omega)
        rw [← ho7]
        obtain ⟨W7, hW⟩ : ∃ W', W' = v7.setRow w.heap.size (oC o7) := ⟨_, rfl⟩
        have H7 : O3 w P vc (.slice Ap P.props.length cp) vw vs vf o7 (⟨#[]⟩, 0) W7 := by rw [hW]; exact H'.setO _
        have E7 := Lib.hid ho7
        clear ho7
        go_upto_region 17 with (refine wpList_store_row (by rfl) 74 (.tmp 2) (.tmp 58) (by rfl) w.heap.size (oC o7) (by rfl) (by rfl) 74 (oC o6) H'.box o_info rfl (oC_one _) ?_)
        change Code.wp _ _ _ _ (v7.setRow w.heap.size (oC o7))
        rw [← hW]
        clear hW H'
        have EQ : RP.pub o P = RP.ad o7 P.pay 0 := by
          unfold RP.pub RP.pub1 RP.pub0
          rw [if_pos hq, if_neg HD.out, E7.out, E6.out, E5.out, E1.out]
        have x6 := (cell_heap (i := 6) H7.pk).trans (show _ = some (.string P.pay) from rfl)
        have HH := Lib.hid H7
        clear H7
        go_wp2_with (refine wpl_load_o (by rfl) (.tmp 2) (by rfl) w.heap.size (by rfl) HH.out.box ?_)
        refine (dadd_any o7 P.pay 0 (by have := z7; have := HF.out.fine.pay; unfold Short at this; omega) _).mono ?_
        rintro e v9 ⟨rfl, b9⟩
        have H9 := HH.out.next b9
        clear HH b9 x6
        have HR := H9.setR (RP.ad o7 P.pay 0)
        go_wp2_with (refine wpList_store_row (by rfl) 74 (.tmp 4) (.tmp 62) (by rfl) (w.heap.size + 2) (oC (RP.ad o7 P.pay 0)) (by rfl) (by rfl) 74 (oC (⟨#[]⟩, 0)) H9.res o_info rfl (oC_one _) ?_)
        refine bodyPost_ret (v := .agg (oC (RP.ad o7 P.pay 0))) ?_ rfl ⟨by first | rfl | rw [EQ], HR.below⟩
        have hl := load_o_var HR.res
        simp [results, Tryd.results16, Act.put]
        exact hl
      · skip
        have x3 := (cell_heap (i := 3) H5.pk).trans (show _ = some (.int .i64 P.qos) from rfl)
        have HH := Lib.hid H5
        clear H5
        go_upto_region 16 with fail
        have H5 := HH.out
        clear HH x3
        have x9 := (cell_heap (i := 9) H5.pk).trans (show _ = some (.slice Ap P.props.length cp) from rfl)
        have HH := Lib.hid H5
        clear H5
        go_wp2_with (refine wpl_load_o (by rfl) (.tmp 2) (by rfl) w.heap.size (by rfl) HH.out.box ?_)
        refine (CPr.out 3 o5 (by have := z5; omega) _ HH.out.below).mono ?_
        rintro e v8 ⟨rfl, b8⟩
        have H' := HH.out.next b8
        clear HH b8 x9
        obtain ⟨o8, ho8⟩ : ∃ o', o' = RP.pr o5 3 P.props := ⟨_, rfl⟩
        have z8 : o8.1.size ≤ o.1.size + 3 * 8388996 := by rw [ho8]; exact Nat.le_trans (pr_sz _ _ _) (by have := z5; omega)
        rw [← ho8]
        obtain ⟨W8, hW⟩ : ∃ W', W' = v8.setRow w.heap.size (oC o8) := ⟨_, rfl⟩
        have H8 : O3 w P vc (.slice Ap P.props.length cp) vw vs vf o8 (⟨#[]⟩, 0) W8 := by rw [hW]; exact H'.setO _
        have E8 := Lib.hid ho8
        clear ho8
        go_upto_region 17 with (refine wpList_store_row (by rfl) 74 (.tmp 2) (.tmp 58) (by rfl) w.heap.size (oC o8) (by rfl) (by rfl) 74 (oC o5) H'.box o_info rfl (oC_one _) ?_)
        change Code.wp _ _ _ _ (v8.setRow w.heap.size (oC o8))
        rw [← hW]
        clear hW H'
        have EQ : RP.pub o P = RP.ad o8 P.pay 0 := by
          unfold RP.pub RP.pub1 RP.pub0
          rw [if_neg (by omega), if_neg HD.out, E8.out, E5.out, E1.out]
        have x6 := (cell_heap (i := 6) H8.pk).trans (show _ = some (.string P.pay) from rfl)
        have HH := Lib.hid H8
        clear H8
        go_wp2_with (refine wpl_load_o (by rfl) (.tmp 2) (by rfl) w.heap.size (by rfl) HH.out.box ?_)
        refine (dadd_any o8 P.pay 0 (by have := z8; have := HF.out.fine.pay; unfold Short at this; omega) _).mono ?_
        rintro e v9 ⟨rfl, b9⟩
        have H9 := HH.out.next b9
        clear HH b9 x6
        have HR := H9.setR (RP.ad o8 P.pay 0)
        go_wp2_with (refine wpList_store_row (by rfl) 74 (.tmp 4) (.tmp 62) (by rfl) (w.heap.size + 2) (oC (RP.ad o8 P.pay 0)) (by rfl) (by rfl) 74 (oC (⟨#[]⟩, 0)) H9.res o_info rfl (oC_one _) ?_)
        refine bodyPost_ret (v := .agg (oC (RP.ad o8 P.pay 0))) ?_ rfl ⟨by first | rfl | rw [EQ], HR.below⟩
        have hl := load_o_var HR.res
        simp [results, Tryd.results16, Act.put]
        exact hl
    · have x1 := (cell_heap (i := 1) HX.out.pk).trans (show _ = some (.bool true) from by rw [← hdt]; rfl)
      have x3 := (cell_heap (i := 3) HX.out.pk).trans (show _ = some (.int .i64 P.qos) from rfl)
      clear hdt
      go_upto_region 13 with fail
      have H1 := HX.out
      clear HX x1 x3
      have x5 := (cell_heap (i := 5) H1.pk).trans (show _ = some (.string P.topic) from rfl)
      have HH := Lib.hid H1
      clear H1
      go_wp2_with (refine wpl_load_o (by rfl) (.tmp 2) (by rfl) w.heap.size (by rfl) HH.out.box ?_)
      refine (dtext_any o1 (by have := z1; omega) P.topic HF.out.fine.topic _).mono ?_
      rintro e v5 ⟨rfl, b5⟩
      have H' := HH.out.next b5
      clear HH b5 x5
      obtain ⟨o5, ho5⟩ : ∃ o', o' = RP.tx o1 P.topic := ⟨_, rfl⟩
      have z5 : o5.1.size ≤ o.1.size + 2 * 8388996 := by rw [ho5]; exact Nat.le_trans (tx_sz _ _) (by have := z1; omega)
      rw [← ho5]
      obtain ⟨W5, hW⟩ : ∃ W', W' = v5.setRow w.heap.size (oC o5) := ⟨_, rfl⟩
      have H5 : O3 w P vc (.slice Ap P.props.length cp) vw vs vf o5 (⟨#[]⟩, 0) W5 := by rw [hW]; exact H'.setO _
      have E5 := Lib.hid ho5
      clear ho5
      go_upto_region 14 with (refine wpList_store_row (by rfl) 74 (.tmp 2) (.tmp 47) (by rfl) w.heap.size (oC o5) (by rfl) (by rfl) 74 (oC o1) H'.box o_info rfl (oC_one _) ?_)
      change Code.wp _ _ _ _ (v5.setRow w.heap.size (oC o5))
      rw [← hW]
      clear hW H'
      by_cases hq : 0 < P.qos
      · skip
        have x3 := (cell_heap (i := 3) H5.pk).trans (show _ = some (.int .i64 P.qos) from rfl)
        have HH := Lib.hid H5
        clear H5
        go_upto_region 15 with fail
        have H5 := HH.out
        clear HH x3
        have x4 := (cell_heap (i := 4) H5.pk).trans (show _ = some (.int .i64 P.id) from rfl)
        have HH := Lib.hid H5
        clear H5
        go_wp2_with (refine wpl_load_o (by rfl) (.tmp 2) (by rfl) w.heap.size (by rfl) HH.out.box ?_)
        refine (did_any o5 (by have := z5; omega) P.id hid _).mono ?_
        rintro e v6 ⟨rfl, b6⟩
        have H' := HH.out.next b6
        clear HH b6 x4
        obtain ⟨o6, ho6⟩ : ∃ o', o' = RP.idd o5 P.id := ⟨_, rfl⟩
        have z6 : o6.1.size ≤ o.1.size + 3 * 8388996 := by rw [ho6]; exact Nat.le_trans (idd_sz _ _) (by have := z5; omega)
        rw [← ho6]
        obtain ⟨W6, hW⟩ : ∃ W', W' = v6.setRow w.heap.size (oC o6) := ⟨_, rfl⟩
        have H6 : O3 w P vc (.slice Ap P.props.length cp) vw vs vf o6 (⟨#[]⟩, 0) W6 := by rw [hW]; exact H'.setO _
        have E6 := Lib.hid ho6
        clear ho6
        go_upto_region 16 with (refine wpList_store_row (by rfl) 74 (.tmp 2) (.tmp 54) (by rfl) w.heap.size (oC o6) (by rfl) (by rfl) 74 (oC o5) H'.box o_info rfl (oC_one _) ?_)
        change Code.wp _ _ _ _ (v6.setRow w.heap.size (oC o6))
        rw [← hW]
        clear hW H'
        have x9 := (cell_heap (i := 9) H6.pk).trans (show _ = some (.slice Ap P.props.length cp) from rfl)
        have HH := Lib.hid H6
        clear H6
        go_wp2_with (refine wpl_load_o (by rfl) (.tmp 2) (by rfl) w.heap.size (by rfl) HH.out.box ?_)
        refine (CPr.out 3 o6 (by have := z6; omega) _ HH.out.below).mono ?_
        rintro e v7 ⟨rfl, b7⟩
        have H' := HH.out.next b7
        clear HH b7 x9
        obtain ⟨o7, ho7⟩ : ∃ o', o' = RP.pr o6 3 P.props := ⟨_, rfl⟩
        have z7 : o7.1.size ≤ o.1.size + 4 * 8388996 := by rw [ho7]; exact Nat.le_trans (pr_sz _ _ _) (by have := z6; omega)
        rw [← ho7]
        obtain ⟨W7, hW⟩ : ∃ W', W' = v7.setRow w.heap.size (oC o7) := ⟨_, rfl⟩
        have H7 : O3 w P vc (.slice Ap P.props.length cp) vw vs vf o7 (⟨#[]⟩, 0) W7 := by rw [hW]; exact H'.setO _
        have E7 := Lib.hid ho7
        clear ho7
        go_upto_region 17 with (refine wpList_store_row (by rfl) 74 (.tmp 2) (.tmp 58) (by rfl) w.heap.size (oC o7) (by rfl) (by rfl) 74 (oC o6) H'.box o_info rfl (oC_one _) ?_)
        change Code.wp _ _ _ _ (v7.setRow w.heap.size (oC o7))
        rw [← hW]
        clear hW H'
        have EQ : RP.pub o P = RP.ad o7 P.pay 0 := by
          unfold RP.pub RP.pub1 RP.pub0
          rw [if_pos hq, if_neg HD.out, E7.out, E6.out, E5.out, E1.out]
        have x6 := (cell_heap (i := 6) H7.pk).trans (show _ = some (.string P.pay) from rfl)
        have HH := Lib.hid H7
        clear H7
        go_wp2_with (refine wpl_load_o (by rfl) (.tmp 2) (by rfl) w.heap.size (by rfl) HH.out.box ?_)
        refine (dadd_any o7 P.pay 0 (by have := z7; have := HF.out.fine.pay; unfold Short at this; omega) _).mono ?_
        rintro e v9 ⟨rfl, b9⟩
        have H9 := HH.out.next b9
        clear HH b9 x6
        have HR := H9.setR (RP.ad o7 P.pay 0)
        go_wp2_with (refine wpList_store_row (by rfl) 74 (.tmp 4) (.tmp 62) (by rfl) (w.heap.size + 2) (oC (RP.ad o7 P.pay 0)) (by rfl) (by rfl) 74 (oC (⟨#[]⟩, 0)) H9.res o_info rfl (oC_one _) ?_)
        refine bodyPost_ret (v := .agg (oC (RP.ad o7 P.pay 0))) ?_ rfl ⟨by first | rfl | rw [EQ], HR.below⟩
        have hl := load_o_var HR.res
        simp [results, Tryd.results16, Act.put]
        exact hl
      · skip
        have x3 := (cell_heap (i := 3) H5.pk).trans (show _ = some (.int .i64 P.qos) from rfl)
        have HH := Lib.hid H5
        clear H5
        go_upto_region 16 with fail
        have H5 := HH.out
        clear HH x3
        have x9 := (cell_heap (i := 9) H5.pk).trans (show _ = some (.slice Ap P.props.length cp) from rfl)
        have HH := Lib.hid H5
        clear H5
        go_wp2_with (refine wpl_load_o (by rfl) (.tmp 2) (by rfl) w.heap.size (by rfl) HH.out.box ?_)
        refine (CPr.out 3 o5 (by have := z5; omega) _ HH.out.below).mono ?_
        rintro e v8 ⟨rfl, b8⟩
        have H' := HH.out.next b8
        clear HH b8 x9
        obtain ⟨o8, ho8⟩ : ∃ o', o' = RP.pr o5 3 P.props := ⟨_, rfl⟩
        have z8 : o8.1.size ≤ o.1.size + 3 * 8388996 := by rw [ho8]; exact Nat.le_trans (pr_sz _ _ _) (by have := z5; omega)
        rw [← ho8]
        obtain ⟨W8, hW⟩ : ∃ W', W' = v8.setRow w.heap.size (oC o8) := ⟨_, rfl⟩
        have H8 : O3 w P vc (.slice Ap P.props.length cp) vw vs vf o8 (⟨#[]⟩, 0) W8 := by rw [hW]; exact H'.setO _
        have E8 := Lib.hid ho8
        clear ho8
        go_upto_region 17 with (refine wpList_store_row (by rfl) 74 (.tmp 2) (.tmp 58) (by rfl) w.heap.size (oC o8) (by rfl) (by rfl) 74 (oC o5) H'.box o_info rfl (oC_one _) ?_)
        change Code.wp _ _ _ _ (v8.setRow w.heap.size (oC o8))
        rw [← hW]
        clear hW H'
        have EQ : RP.pub o P = RP.ad o8 P.pay 0 := by
          unfold RP.pub RP.pub1 RP.pub0
          rw [if_neg (by omega), if_neg HD.out, E8.out, E5.out, E1.out]
        have x6 := (cell_heap (i := 6) H8.pk).trans (show _ = some (.string P.pay) from rfl)
        have HH := Lib.hid H8
        clear H8
        go_wp2_with (refine wpl_load_o (by rfl) (.tmp 2) (by rfl) w.heap.size (by rfl) HH.out.box ?_)
        refine (dadd_any o8 P.pay 0 (by have := z8; have := HF.out.fine.pay; unfold Short at this; omega) _).mono ?_
        rintro e v9 ⟨rfl, b9⟩
        have H9 := HH.out.next b9
        clear HH b9 x6
        have HR := H9.setR (RP.ad o8 P.pay 0)
        go_wp2_with (refine wpList_store_row (by rfl) 74 (.tmp 4) (.tmp 62) (by rfl) (w.heap.size + 2) (oC (RP.ad o8 P.pay 0)) (by rfl) (by rfl) 74 (oC (⟨#[]⟩, 0)) H9.res o_info rfl (oC_one _) ?_)
        refine bodyPost_ret (v := .agg (oC (RP.ad o8 P.pay 0))) ?_ rfl ⟨by first | rfl | rw [EQ], HR.below⟩
        have hl := load_o_var HR.res
        simp [results, Tryd.results16, Act.put]
        exact hl
set_option linter.unusedSimpArgs false in
set_option linter.unusedVariables false in
set_option maxRecDepth 100000 in
set_option maxHeartbeats 4000000 in
theorem dbody_4 (o : ByteArray × Int) (ho : o.1.size ≤ 1000000000000) (P : Pk) (hf : PkF P) (hk : P.kind = 4) (B : Nat) (vc vp vw vs vf : Value) (w : World) (hr : Own5R B P vc vp vw vs vf w) :
    Calls Tryd.prog 16 #[.agg (oC o), .agg (rkCells P vc vp vw vs vf)] w (OP w (RP.ending (RP.idd o P.id) P)) := by
  obtain ⟨Ap, cp, rfl⟩ := own_form hr.props
  have CPr : Hid (∀ (kk : Int) (o' : ByteArray × Int), o'.1.size ≤ 2305843009213693952 → ∀ W', Below w.heap.size w W' → Calls Tryd.prog 42 #[.agg (oC o'), .int .i64 kk, .slice Ap P.props.length cp] W' (OP W' (RP.pr o' kk P.props))) := Lib.hid (fun kk o' h W' hb => dprops_any o' h kk Ap cp P.props W' hf.pr.1 ((own_props hr.props).below hb) hf.pr.2)
  have HR5 := Lib.hid hr
  have HF := Lib.hid hf
  have hcode : -9223372036854775808 ≤ P.code ∧ P.code ≤ 9223372036854775807 := by have := hf.fine.code; omega
  have hid := hf.fine.id
  have z0 : o.1.size ≤ o.1.size + 0 * 8388996 := by omega
  clear hf hr
  go_enter Tryd.func16, Tryd.ntmps16
  go_upto_region 1 with fail
  change Code.wp _ _ _ _ (((w.alloc (.cells (oC o) 74)).alloc (.cells (rkCells P vc (.slice Ap P.props.length cp) vw vs vf) 45)).alloc (.cells (oC (⟨#[]⟩, 0)) 74))
  have H0 := O3.start w P vc (.slice Ap P.props.length cp) vw vs vf o
  generalize (((w.alloc (.cells (oC o) 74)).alloc (.cells (rkCells P vc (.slice Ap P.props.length cp) vw vs vf) 45)).alloc (.cells (oC (⟨#[]⟩, 0)) 74)) = W0 at *
  have x0 := (cell_heap (i := 0) H0.pk).trans (show _ = some (.int .i64 4) from by rw [← hk]; rfl)
  have HH := Lib.hid H0
  have HK := Lib.hid hk
  clear H0 hk
  go_upto_region 22 with fail
  have H0 := HH.out
  clear HH x0
  have x4 := (cell_heap (i := 4) H0.pk).trans (show _ = some (.int .i64 P.id) from rfl)
  have HH := Lib.hid H0
  clear H0
  go_wp2_with (refine wpl_load_o (by rfl) (.tmp 2) (by rfl) w.heap.size (by rfl) HH.out.box ?_)
  refine (did_any o (by have := z0; omega) P.id hid _).mono ?_
  rintro e v1 ⟨rfl, b1⟩
  have H' := HH.out.next b1
  clear HH b1 x4
  obtain ⟨o1, ho1⟩ : ∃ o', o' = RP.idd o P.id := ⟨_, rfl⟩
  have z1 : o1.1.size ≤ o.1.size + 1 * 8388996 := by rw [ho1]; exact Nat.le_trans (idd_sz _ _) (by have := z0; omega)
  rw [← ho1]
  obtain ⟨W1, hW⟩ : ∃ W', W' = v1.setRow w.heap.size (oC o1) := ⟨_, rfl⟩
  have H1 : O3 w P vc (.slice Ap P.props.length cp) vw vs vf o1 (⟨#[]⟩, 0) W1 := by rw [hW]; exact H'.setO _
  have E1 := Lib.hid ho1
  clear ho1
  go_upto_region 23 with (refine wpList_store_row (by rfl) 74 (.tmp 2) (.tmp 71) (by rfl) w.heap.size (oC o1) (by rfl) (by rfl) 74 (oC o) H'.box o_info rfl (oC_one _) ?_)
  change Code.wp _ _ _ _ (v1.setRow w.heap.size (oC o1))
  rw [← hW]
  clear hW H'
  have EQ : RP.ending (RP.idd o P.id) P = RP.ending o1 P := by rw [E1.out]
  have HH := Lib.hid H1
  clear H1
  go_wp2_with (first
    | refine wpl_load_o (by rfl) (.tmp 2) (by rfl) w.heap.size (by rfl) HH.out.box ?_
    | refine wpl_load_rk (by rfl) (.tmp 3) (by rfl) (w.heap.size + 1) (by rfl) HH.out.pk ?_)
  refine (dend_any o1 (by have := z1; omega) P HF.out B vc (.slice Ap P.props.length cp) vw vs vf _ (o3_own HH.out HR5.out)).mono ?_
  rintro e v9 ⟨rfl, b9⟩
  have H9 := HH.out.next b9
  clear HH b9
  have HR := H9.setR (RP.ending o1 P)
  go_wp2_with (refine wpList_store_row (by rfl) 74 (.tmp 4) (.tmp 74) (by rfl) (w.heap.size + 2) (oC (RP.ending o1 P)) (by rfl) (by rfl) 74 (oC (⟨#[]⟩, 0)) H9.res o_info rfl (oC_one _) ?_)
  refine bodyPost_ret (v := .agg (oC (RP.ending o1 P))) ?_ rfl ⟨by first | rfl | rw [EQ], HR.below⟩
  have hl := load_o_var HR.res
  simp [results, Tryd.results16, Act.put]
  exact hl
set_option linter.unusedSimpArgs false in
set_option linter.unusedVariables false in
set_option maxRecDepth 100000 in
set_option maxHeartbeats 4000000 in
theorem dbody_5 (o : ByteArray × Int) (ho : o.1.size ≤ 1000000000000) (P : Pk) (hf : PkF P) (hk : P.kind = 5) (B : Nat) (vc vp vw vs vf : Value) (w : World) (hr : Own5R B P vc vp vw vs vf w) :
    Calls Tryd.prog 16 #[.agg (oC o), .agg (rkCells P vc vp vw vs vf)] w (OP w (RP.ending (RP.idd o P.id) P)) := by
  obtain ⟨Ap, cp, rfl⟩ := own_form hr.props
  have CPr : Hid (∀ (kk : Int) (o' : ByteArray × Int), o'.1.size ≤ 2305843009213693952 → ∀ W', Below w.heap.size w W' → Calls Tryd.prog 42 #[.agg (oC o'), .int .i64 kk, .slice Ap P.props.length cp] W' (OP W' (RP.pr o' kk P.props))) := Lib.hid (fun kk o' h W' hb => dprops_any o' h kk Ap cp P.props W' hf.pr.1 ((own_props hr.props).below hb) hf.pr.2)
  have HR5 := Lib.hid hr
  have HF := Lib.hid hf
  have hcode : -9223372036854775808 ≤ P.code ∧ P.code ≤ 9223372036854775807 := by have := hf.fine.code; omega
  have hid := hf.fine.id
  have z0 : o.1.size ≤ o.1.size + 0 * 8388996 := by omega
  clear hf hr
  go_enter Tryd.func16, Tryd.ntmps16
  go_upto_region 1 with fail
  change Code.wp _ _ _ _ (((w.alloc (.cells (oC o) 74)).alloc (.cells (rkCells P vc (.slice Ap P.props.length cp) vw vs vf) 45)).alloc (.cells (oC (⟨#[]⟩, 0)) 74))
  have H0 := O3.start w P vc (.slice Ap P.props.length cp) vw vs vf o
  generalize (((w.alloc (.cells (oC o) 74)).alloc (.cells (rkCells P vc (.slice Ap P.props.length cp) vw vs vf) 45)).alloc (.cells (oC (⟨#[]⟩, 0)) 74)) = W0 at *
  have x0 := (cell_heap (i := 0) H0.pk).trans (show _ = some (.int .i64 5) from by rw [← hk]; rfl)
  have HH := Lib.hid H0
  have HK := Lib.hid hk
  clear H0 hk
  go_upto_region 22 with fail
  have H0 := HH.out
  clear HH x0
  have x4 := (cell_heap (i := 4) H0.pk).trans (show _ = some (.int .i64 P.id) from rfl)
  have HH := Lib.hid H0
  clear H0
  go_wp2_with (refine wpl_load_o (by rfl) (.tmp 2) (by rfl) w.heap.size (by rfl) HH.out.box ?_)
  refine (did_any o (by have := z0; omega) P.id hid _).mono ?_
  rintro e v1 ⟨rfl, b1⟩
  have H' := HH.out.next b1
  clear HH b1 x4
  obtain ⟨o1, ho1⟩ : ∃ o', o' = RP.idd o P.id := ⟨_, rfl⟩
  have z1 : o1.1.size ≤ o.1.size + 1 * 8388996 := by rw [ho1]; exact Nat.le_trans (idd_sz _ _) (by have := z0; omega)
  rw [← ho1]
  obtain ⟨W1, hW⟩ : ∃ W', W' = v1.setRow w.heap.size (oC o1) := ⟨_, rfl⟩
  have H1 : O3 w P vc (.slice Ap P.props.length cp) vw vs vf o1 (⟨#[]⟩, 0) W1 := by rw [hW]; exact H'.setO _
  have E1 := Lib.hid ho1
  clear ho1
  go_upto_region 23 with (refine wpList_store_row (by rfl) 74 (.tmp 2) (.tmp 71) (by rfl) w.heap.size (oC o1) (by rfl) (by rfl) 74 (oC o) H'.box o_info rfl (oC_one _) ?_)
  change Code.wp _ _ _ _ (v1.setRow w.heap.size (oC o1))
  rw [← hW]
  clear hW H'
  have EQ : RP.ending (RP.idd o P.id) P = RP.ending o1 P := by rw [E1.out]
  have HH := Lib.hid H1
  clear H1
  go_wp2_with (first
    | refine wpl_load_o (by rfl) (.tmp 2) (by rfl) w.heap.size (by rfl) HH.out.box ?_
    | refine wpl_load_rk (by rfl) (.tmp 3) (by rfl) (w.heap.size + 1) (by rfl) HH.out.pk ?_)
  refine (dend_any o1 (by have := z1; omega) P HF.out B vc (.slice Ap P.props.length cp) vw vs vf _ (o3_own HH.out HR5.out)).mono ?_
  rintro e v9 ⟨rfl, b9⟩
  have H9 := HH.out.next b9
  clear HH b9
  have HR := H9.setR (RP.ending o1 P)
  go_wp2_with (refine wpList_store_row (by rfl) 74 (.tmp 4) (.tmp 74) (by rfl) (w.heap.size + 2) (oC (RP.ending o1 P)) (by rfl) (by rfl) 74 (oC (⟨#[]⟩, 0)) H9.res o_info rfl (oC_one _) ?_)
  refine bodyPost_ret (v := .agg (oC (RP.ending o1 P))) ?_ rfl ⟨by first | rfl | rw [EQ], HR.below⟩
  have hl := load_o_var HR.res
  simp [results, Tryd.results16, Act.put]
  exact hl
set_option linter.unusedSimpArgs false in
set_option linter.unusedVariables false in
set_option maxRecDepth 100000 in
set_option maxHeartbeats 4000000 in
theorem dbody_6 (o : ByteArray × Int) (ho : o.1.size ≤ 1000000000000) (P : Pk) (hf : PkF P) (hk : P.kind = 6) (B : Nat) (vc vp vw vs vf : Value) (w : World) (hr : Own5R B P vc vp vw vs vf w) :
    Calls Tryd.prog 16 #[.agg (oC o), .agg (rkCells P vc vp vw vs vf)] w (OP w (RP.ending (RP.idd o P.id) P)) := by
  obtain ⟨Ap, cp, rfl⟩ := own_form hr.props
  have CPr : Hid (∀ (kk : Int) (o' : ByteArray × Int), o'.1.size ≤ 2305843009213693952 → ∀ W', Below w.heap.size w W' → Calls Tryd.prog 42 #[.agg (oC o'), .int .i64 kk, .slice Ap P.props.length cp] W' (OP W' (RP.pr o' kk P.props))) := Lib.hid (fun kk o' h W' hb => dprops_any o' h kk Ap cp P.props W' hf.pr.1 ((own_props hr.props).below hb) hf.pr.2)
  have HR5 := Lib.hid hr
  have HF := Lib.hid hf
  have hcode : -9223372036854775808 ≤ P.code ∧ P.code ≤ 9223372036854775807 := by have := hf.fine.code; omega
  have hid := hf.fine.id
  have z0 : o.1.size ≤ o.1.size + 0 * 8388996 := by omega
  clear hf hr
  go_enter Tryd.func16, Tryd.ntmps16
  go_upto_region 1 with fail
  change Code.wp _ _ _ _ (((w.alloc (.cells (oC o) 74)).alloc (.cells (rkCells P vc (.slice Ap P.props.length cp) vw vs vf) 45)).alloc (.cells (oC (⟨#[]⟩, 0)) 74))
  have H0 := O3.start w P vc (.slice Ap P.props.length cp) vw vs vf o
  generalize (((w.alloc (.cells (oC o) 74)).alloc (.cells (rkCells P vc (.slice Ap P.props.length cp) vw vs vf) 45)).alloc (.cells (oC (⟨#[]⟩, 0)) 74)) = W0 at *
  have x0 := (cell_heap (i := 0) H0.pk).trans (show _ = some (.int .i64 6) from by rw [← hk]; rfl)
  have HH := Lib.hid H0
  have HK := Lib.hid hk
  clear H0 hk
  go_upto_region 22 with fail
  have H0 := HH.out
  clear HH x0
  have x4 := (cell_heap (i := 4) H0.pk).trans (show _ = some (.int .i64 P.id) from rfl)
  have HH := Lib.hid H0
  clear H0
  go_wp2_with (refine wpl_load_o (by rfl) (.tmp 2) (by rfl) w.heap.size (by rfl) HH.out.box ?_)
  refine (did_any o (by have := z0; omega) P.id hid _).mono ?_
  rintro e v1 ⟨rfl, b1⟩
  have H' := HH.out.next b1
  clear HH b1 x4
  obtain ⟨o1, ho1⟩ : ∃ o', o' = RP.idd o P.id := ⟨_, rfl⟩
  have z1 : o1.1.size ≤ o.1.size + 1 * 8388996 := by rw [ho1]; exact Nat.le_trans (idd_sz _ _) (by have := z0; omega)
  rw [← ho1]
  obtain ⟨W1, hW⟩ : ∃ W', W' = v1.setRow w.heap.size (oC o1) := ⟨_, rfl⟩
  have H1 : O3 w P vc (.slice Ap P.props.length cp) vw vs vf o1 (⟨#[]⟩, 0) W1 := by rw [hW]; exact H'.setO _
  have E1 := Lib.hid ho1
  clear ho1
  go_upto_region 23 with (refine wpList_store_row (by rfl) 74 (.tmp 2) (.tmp 71) (by rfl) w.heap.size (oC o1) (by rfl) (by rfl) 74 (oC o) H'.box o_info rfl (oC_one _) ?_)
  change Code.wp _ _ _ _ (v1.setRow w.heap.size (oC o1))
  rw [← hW]
  clear hW H'
  have EQ : RP.ending (RP.idd o P.id) P = RP.ending o1 P := by rw [E1.out]
  have HH := Lib.hid H1
  clear H1
  go_wp2_with (first
    | refine wpl_load_o (by rfl) (.tmp 2) (by rfl) w.heap.size (by rfl) HH.out.box ?_
    | refine wpl_load_rk (by rfl) (.tmp 3) (by rfl) (w.heap.size + 1) (by rfl) HH.out.pk ?_)
  refine (dend_any o1 (by have := z1; omega) P HF.out B vc (.slice Ap P.props.length cp) vw vs vf _ (o3_own HH.out HR5.out)).mono ?_
  rintro e v9 ⟨rfl, b9⟩
  have H9 := HH.out.next b9
  clear HH b9
  have HR := H9.setR (RP.ending o1 P)
  go_wp2_with (refine wpList_store_row (by rfl) 74 (.tmp 4) (.tmp 74) (by rfl) (w.heap.size + 2) (oC (RP.ending o1 P)) (by rfl) (by rfl) 74 (oC (⟨#[]⟩, 0)) H9.res o_info rfl (oC_one _) ?_)
  refine bodyPost_ret (v := .agg (oC (RP.ending o1 P))) ?_ rfl ⟨by first | rfl | rw [EQ], HR.below⟩
  have hl := load_o_var HR.res
  simp [results, Tryd.results16, Act.put]
  exact hl
set_option linter.unusedSimpArgs false in
set_option linter.unusedVariables false in
set_option maxRecDepth 100000 in
set_option maxHeartbeats 4000000 in
theorem dbody_7 (o : ByteArray × Int) (ho : o.1.size ≤ 1000000000000) (P : Pk) (hf : PkF P) (hk : P.kind = 7) (B : Nat) (vc vp vw vs vf : Value) (w : World) (hr : Own5R B P vc vp vw vs vf w) :
    Calls Tryd.prog 16 #[.agg (oC o), .agg (rkCells P vc vp vw vs vf)] w (OP w (RP.ending (RP.idd o P.id) P)) := by
  obtain ⟨Ap, cp, rfl⟩ := own_form hr.props
  have CPr : Hid (∀ (kk : Int) (o' : ByteArray × Int), o'.1.size ≤ 2305843009213693952 → ∀ W', Below w.heap.size w W' → Calls Tryd.prog 42 #[.agg (oC o'), .int .i64 kk, .slice Ap P.props.length cp] W' (OP W' (RP.pr o' kk P.props))) := Lib.hid (fun kk o' h W' hb => dprops_any o' h kk Ap cp P.props W' hf.pr.1 ((own_props hr.props).below hb) hf.pr.2)
  have HR5 := Lib.hid hr
  have HF := Lib.hid hf
  have hcode : -9223372036854775808 ≤ P.code ∧ P.code ≤ 9223372036854775807 := by have := hf.fine.code; omega
  have hid := hf.fine.id
  have z0 : o.1.size ≤ o.1.size + 0 * 8388996 := by omega
  clear hf hr
  go_enter Tryd.func16, Tryd.ntmps16
  go_upto_region 1 with fail
  change Code.wp _ _ _ _ (((w.alloc (.cells (oC o) 74)).alloc (.cells (rkCells P vc (.slice Ap P.props.length cp) vw vs vf) 45)).alloc (.cells (oC (⟨#[]⟩, 0)) 74))
  have H0 := O3.start w P vc (.slice Ap P.props.length cp) vw vs vf o
  generalize (((w.alloc (.cells (oC o) 74)).alloc (.cells (rkCells P vc (.slice Ap P.props.length cp) vw vs vf) 45)).alloc (.cells (oC (⟨#[]⟩, 0)) 74)) = W0 at *
  have x0 := (cell_heap (i := 0) H0.pk).trans (show _ = some (.int .i64 7) from by rw [← hk]; rfl)
  have HH := Lib.hid H0
  have HK := Lib.hid hk
  clear H0 hk
  go_upto_region 22 with fail
  have H0 := HH.out
  clear HH x0
  have x4 := (cell_heap (i := 4) H0.pk).trans (show _ = some (.int .i64 P.id) from rfl)
  have HH := Lib.hid H0
  clear H0
  go_wp2_with (refine wpl_load_o (by rfl) (.tmp 2) (by rfl) w.heap.size (by rfl) HH.out.box ?_)
  refine (did_any o (by have := z0; omega) P.id hid _).mono ?_
  rintro e v1 ⟨rfl, b1⟩
  have H' := HH.out.next b1
  clear HH b1 x4
  obtain ⟨o1, ho1⟩ : ∃ o', o' = RP.idd o P.id := ⟨_, rfl⟩
  have z1 : o1.1.size ≤ o.1.size + 1 * 8388996 := by rw [ho1]; exact Nat.le_trans (idd_sz _ _) (by have := z0; omega)
  rw [← ho1]
  obtain ⟨W1, hW⟩ : ∃ W', W' = v1.setRow w.heap.size (oC o1) := ⟨_, rfl⟩
  have H1 : O3 w P vc (.slice Ap P.props.length cp) vw vs vf o1 (⟨#[]⟩, 0) W1 := by rw [hW]; exact H'.setO _
  have E1 := Lib.hid ho1
  clear ho1
  go_upto_region 23 with (refine wpList_store_row (by rfl) 74 (.tmp 2) (.tmp 71) (by rfl) w.heap.size (oC o1) (by rfl) (by rfl) 74 (oC o) H'.box o_info rfl (oC_one _) ?_)
  change Code.wp _ _ _ _ (v1.setRow w.heap.size (oC o1))
  rw [← hW]
  clear hW H'
  have EQ : RP.ending (RP.idd o P.id) P = RP.ending o1 P := by rw [E1.out]
  have HH := Lib.hid H1
  clear H1
  go_wp2_with (first
    | refine wpl_load_o (by rfl) (.tmp 2) (by rfl) w.heap.size (by rfl) HH.out.box ?_
    | refine wpl_load_rk (by rfl) (.tmp 3) (by rfl) (w.heap.size + 1) (by rfl) HH.out.pk ?_)
  refine (dend_any o1 (by have := z1; omega) P HF.out B vc (.slice Ap P.props.length cp) vw vs vf _ (o3_own HH.out HR5.out)).mono ?_
  rintro e v9 ⟨rfl, b9⟩
  have H9 := HH.out.next b9
  clear HH b9
  have HR := H9.setR (RP.ending o1 P)
  go_wp2_with (refine wpList_store_row (by rfl) 74 (.tmp 4) (.tmp 74) (by rfl) (w.heap.size + 2) (oC (RP.ending o1 P)) (by rfl) (by rfl) 74 (oC (⟨#[]⟩, 0)) H9.res o_info rfl (oC_one _) ?_)
  refine bodyPost_ret (v := .agg (oC (RP.ending o1 P))) ?_ rfl ⟨by first | rfl | rw [EQ], HR.below⟩
  have hl := load_o_var HR.res
  simp [results, Tryd.results16, Act.put]
  exact hl
set_option linter.unusedSimpArgs false in
set_option linter.unusedVariables false in
set_option maxRecDepth 100000 in
set_option maxHeartbeats 4000000 in
theorem dbody_14 (o : ByteArray × Int) (ho : o.1.size ≤ 1000000000000) (P : Pk) (hf : PkF P) (hk : P.kind = 14) (B : Nat) (vc vp vw vs vf : Value) (w : World) (hr : Own5R B P vc vp vw vs vf w) :
    Calls Tryd.prog 16 #[.agg (oC o), .agg (rkCells P vc vp vw vs vf)] w (OP w (RP.ending o P)) := by
  obtain ⟨Ap, cp, rfl⟩ := own_form hr.props
  have CPr : Hid (∀ (kk : Int) (o' : ByteArray × Int), o'.1.size ≤ 2305843009213693952 → ∀ W', Below w.heap.size w W' → Calls Tryd.prog 42 #[.agg (oC o'), .int .i64 kk, .slice Ap P.props.length cp] W' (OP W' (RP.pr o' kk P.props))) := Lib.hid (fun kk o' h W' hb => dprops_any o' h kk Ap cp P.props W' hf.pr.1 ((own_props hr.props).below hb) hf.pr.2)
  have HR5 := Lib.hid hr
  have HF := Lib.hid hf
  have hcode : -9223372036854775808 ≤ P.code ∧ P.code ≤ 9223372036854775807 := by have := hf.fine.code; omega
  have hid := hf.fine.id
  have z0 : o.1.size ≤ o.1.size + 0 * 8388996 := by omega
  clear hf hr
  go_enter Tryd.func16, Tryd.ntmps16
  go_upto_region 1 with fail
  change Code.wp _ _ _ _ (((w.alloc (.cells (oC o) 74)).alloc (.cells (rkCells P vc (.slice Ap P.props.length cp) vw vs vf) 45)).alloc (.cells (oC (⟨#[]⟩, 0)) 74))
  have H0 := O3.start w P vc (.slice Ap P.props.length cp) vw vs vf o
  generalize (((w.alloc (.cells (oC o) 74)).alloc (.cells (rkCells P vc (.slice Ap P.props.length cp) vw vs vf) 45)).alloc (.cells (oC (⟨#[]⟩, 0)) 74)) = W0 at *
  have x0 := (cell_heap (i := 0) H0.pk).trans (show _ = some (.int .i64 14) from by rw [← hk]; rfl)
  have HH := Lib.hid H0
  have HK := Lib.hid hk
  clear H0 hk
  go_upto_region 26 with fail
  have H0 := HH.out
  clear HH x0
  have HH := Lib.hid H0
  clear H0
  go_wp2_with (first
    | refine wpl_load_o (by rfl) (.tmp 2) (by rfl) w.heap.size (by rfl) HH.out.box ?_
    | refine wpl_load_rk (by rfl) (.tmp 3) (by rfl) (w.heap.size + 1) (by rfl) HH.out.pk ?_)
  refine (dend_any o (by omega) P HF.out B vc (.slice Ap P.props.length cp) vw vs vf _ (o3_own HH.out HR5.out)).mono ?_
  rintro e v9 ⟨rfl, b9⟩
  have H9 := HH.out.next b9
  clear HH b9
  have HR := H9.setR (RP.ending o P)
  go_wp2_with (refine wpList_store_row (by rfl) 74 (.tmp 4) (.tmp 80) (by rfl) (w.heap.size + 2) (oC (RP.ending o P)) (by rfl) (by rfl) 74 (oC (⟨#[]⟩, 0)) H9.res o_info rfl (oC_one _) ?_)
  refine bodyPost_ret (v := .agg (oC (RP.ending o P))) ?_ rfl ⟨by first | rfl | rw [EQ], HR.below⟩
  have hl := load_o_var HR.res
  simp [results, Tryd.results16, Act.put]
  exact hl
set_option linter.unusedSimpArgs false in
set_option linter.unusedVariables false in
set_option maxRecDepth 100000 in
set_option maxHeartbeats 4000000 in
theorem dbody_15 (o : ByteArray × Int) (ho : o.1.size ≤ 1000000000000) (P : Pk) (hf : PkF P) (hk : P.kind = 15) (B : Nat) (vc vp vw vs vf : Value) (w : World) (hr : Own5R B P vc vp vw vs vf w) :
    Calls Tryd.prog 16 #[.agg (oC o), .agg (rkCells P vc vp vw vs vf)] w (OP w (RP.ending o P)) := by
  obtain ⟨Ap, cp, rfl⟩ := own_form hr.props
  have CPr : Hid (∀ (kk : Int) (o' : ByteArray × Int), o'.1.size ≤ 2305843009213693952 → ∀ W', Below w.heap.size w W' → Calls Tryd.prog 42 #[.agg (oC o'), .int .i64 kk, .slice Ap P.props.length cp] W' (OP W' (RP.pr o' kk P.props))) := Lib.hid (fun kk o' h W' hb => dprops_any o' h kk Ap cp P.props W' hf.pr.1 ((own_props hr.props).below hb) hf.pr.2)
  have HR5 := Lib.hid hr
  have HF := Lib.hid hf
  have hcode : -9223372036854775808 ≤ P.code ∧ P.code ≤ 9223372036854775807 := by have := hf.fine.code; omega
  have hid := hf.fine.id
  have z0 : o.1.size ≤ o.1.size + 0 * 8388996 := by omega
  clear hf hr
  go_enter Tryd.func16, Tryd.ntmps16
  go_upto_region 1 with fail
  change Code.wp _ _ _ _ (((w.alloc (.cells (oC o) 74)).alloc (.cells (rkCells P vc (.slice Ap P.props.length cp) vw vs vf) 45)).alloc (.cells (oC (⟨#[]⟩, 0)) 74))
  have H0 := O3.start w P vc (.slice Ap P.props.length cp) vw vs vf o
  generalize (((w.alloc (.cells (oC o) 74)).alloc (.cells (rkCells P vc (.slice Ap P.props.length cp) vw vs vf) 45)).alloc (.cells (oC (⟨#[]⟩, 0)) 74)) = W0 at *
  have x0 := (cell_heap (i := 0) H0.pk).trans (show _ = some (.int .i64 15) from by rw [← hk]; rfl)
  have HH := Lib.hid H0
  have HK := Lib.hid hk
  clear H0 hk
  go_upto_region 26 with fail
  have H0 := HH.out
  clear HH x0
  have HH := Lib.hid H0
  clear H0
  go_wp2_with (first
    | refine wpl_load_o (by rfl) (.tmp 2) (by rfl) w.heap.size (by rfl) HH.out.box ?_
    | refine wpl_load_rk (by rfl) (.tmp 3) (by rfl) (w.heap.size + 1) (by rfl) HH.out.pk ?_)
  refine (dend_any o (by omega) P HF.out B vc (.slice Ap P.props.length cp) vw vs vf _ (o3_own HH.out HR5.out)).mono ?_
  rintro e v9 ⟨rfl, b9⟩
  have H9 := HH.out.next b9
  clear HH b9
  have HR := H9.setR (RP.ending o P)
  go_wp2_with (refine wpList_store_row (by rfl) 74 (.tmp 4) (.tmp 80) (by rfl) (w.heap.size + 2) (oC (RP.ending o P)) (by rfl) (by rfl) 74 (oC (⟨#[]⟩, 0)) H9.res o_info rfl (oC_one _) ?_)
  refine bodyPost_ret (v := .agg (oC (RP.ending o P))) ?_ rfl ⟨by first | rfl | rw [EQ], HR.below⟩
  have hl := load_o_var HR.res
  simp [results, Tryd.results16, Act.put]
  exact hl
set_option linter.unusedSimpArgs false in
set_option linter.unusedVariables false in
set_option maxRecDepth 100000 in
set_option maxHeartbeats 4000000 in
theorem dbody_8 (o : ByteArray × Int) (ho : o.1.size ≤ 1000000000000) (P : Pk) (hf : PkF P) (hk : P.kind = 8) (B : Nat) (vc vp vw vs vf : Value) (w : World) (hr : Own5R B P vc vp vw vs vf w) :
    Calls Tryd.prog 16 #[.agg (oC o), .agg (rkCells P vc vp vw vs vf)] w (OP w (RP.each (RP.head o P) P.subs RP.sub)) := by
  obtain ⟨Ap, cp, rfl⟩ := own_form hr.props
  have CPr : Hid (∀ (kk : Int) (o' : ByteArray × Int), o'.1.size ≤ 2305843009213693952 → ∀ W', Below w.heap.size w W' → Calls Tryd.prog 42 #[.agg (oC o'), .int .i64 kk, .slice Ap P.props.length cp] W' (OP W' (RP.pr o' kk P.props))) := Lib.hid (fun kk o' h W' hb => dprops_any o' h kk Ap cp P.props W' hf.pr.1 ((own_props hr.props).below hb) hf.pr.2)
  have HR5 := Lib.hid hr
  have HF := Lib.hid hf
  have hcode : -9223372036854775808 ≤ P.code ∧ P.code ≤ 9223372036854775807 := by have := hf.fine.code; omega
  have hid := hf.fine.id
  have z0 : o.1.size ≤ o.1.size + 0 * 8388996 := by omega
  clear hf hr
  go_enter Tryd.func16, Tryd.ntmps16
  go_upto_region 1 with fail
  change Code.wp _ _ _ _ (((w.alloc (.cells (oC o) 74)).alloc (.cells (rkCells P vc (.slice Ap P.props.length cp) vw vs vf) 45)).alloc (.cells (oC (⟨#[]⟩, 0)) 74))
  have H0 := O3.start w P vc (.slice Ap P.props.length cp) vw vs vf o
  generalize (((w.alloc (.cells (oC o) 74)).alloc (.cells (rkCells P vc (.slice Ap P.props.length cp) vw vs vf) 45)).alloc (.cells (oC (⟨#[]⟩, 0)) 74)) = W0 at *
  have x0 := (cell_heap (i := 0) H0.pk).trans (show _ = some (.int .i64 8) from by rw [← hk]; rfl)
  have HH := Lib.hid H0
  have HK := Lib.hid hk
  clear H0 hk
  go_upto_region 31 with fail
  have H0 := HH.out
  clear HH x0
  have HH := Lib.hid H0
  clear H0
  go_wp2_with (first
    | refine wpl_load_o (by rfl) (.tmp 2) (by rfl) w.heap.size (by rfl) HH.out.box ?_
    | refine wpl_load_rk (by rfl) (.tmp 3) (by rfl) (w.heap.size + 1) (by rfl) HH.out.pk ?_)
  refine (dlists_subs o (by omega) P HF.out HK.out B vc (.slice Ap P.props.length cp) vw vs vf _ (o3_own HH.out HR5.out)).mono ?_
  rintro e v9 ⟨rfl, b9⟩
  have H9 := HH.out.next b9
  clear HH b9
  have HR := H9.setR (RP.each (RP.head o P) P.subs RP.sub)
  go_wp2_with (refine wpList_store_row (by rfl) 74 (.tmp 4) (.tmp 88) (by rfl) (w.heap.size + 2) (oC (RP.each (RP.head o P) P.subs RP.sub)) (by rfl) (by rfl) 74 (oC (⟨#[]⟩, 0)) H9.res o_info rfl (oC_one _) ?_)
  refine bodyPost_ret (v := .agg (oC (RP.each (RP.head o P) P.subs RP.sub))) ?_ rfl ⟨by first | rfl | rw [EQ], HR.below⟩
  have hl := load_o_var HR.res
  simp [results, Tryd.results16, Act.put]
  exact hl
set_option linter.unusedSimpArgs false in
set_option linter.unusedVariables false in
set_option maxRecDepth 100000 in
set_option maxHeartbeats 4000000 in
theorem dbody_10 (o : ByteArray × Int) (ho : o.1.size ≤ 1000000000000) (P : Pk) (hf : PkF P) (hk : P.kind = 10) (B : Nat) (vc vp vw vs vf : Value) (w : World) (hr : Own5R B P vc vp vw vs vf w) :
    Calls Tryd.prog 16 #[.agg (oC o), .agg (rkCells P vc vp vw vs vf)] w (OP w (RP.each (RP.head o P) P.filters RP.tx)) := by
  obtain ⟨Ap, cp, rfl⟩ := own_form hr.props
  have CPr : Hid (∀ (kk : Int) (o' : ByteArray × Int), o'.1.size ≤ 2305843009213693952 → ∀ W', Below w.heap.size w W' → Calls Tryd.prog 42 #[.agg (oC o'), .int .i64 kk, .slice Ap P.props.length cp] W' (OP W' (RP.pr o' kk P.props))) := Lib.hid (fun kk o' h W' hb => dprops_any o' h kk Ap cp P.props W' hf.pr.1 ((own_props hr.props).below hb) hf.pr.2)
  have HR5 := Lib.hid hr
  have HF := Lib.hid hf
  have hcode : -9223372036854775808 ≤ P.code ∧ P.code ≤ 9223372036854775807 := by have := hf.fine.code; omega
  have hid := hf.fine.id
  have z0 : o.1.size ≤ o.1.size + 0 * 8388996 := by omega
  clear hf hr
  go_enter Tryd.func16, Tryd.ntmps16
  go_upto_region 1 with fail
  change Code.wp _ _ _ _ (((w.alloc (.cells (oC o) 74)).alloc (.cells (rkCells P vc (.slice Ap P.props.length cp) vw vs vf) 45)).alloc (.cells (oC (⟨#[]⟩, 0)) 74))
  have H0 := O3.start w P vc (.slice Ap P.props.length cp) vw vs vf o
  generalize (((w.alloc (.cells (oC o) 74)).alloc (.cells (rkCells P vc (.slice Ap P.props.length cp) vw vs vf) 45)).alloc (.cells (oC (⟨#[]⟩, 0)) 74)) = W0 at *
  have x0 := (cell_heap (i := 0) H0.pk).trans (show _ = some (.int .i64 10) from by rw [← hk]; rfl)
  have HH := Lib.hid H0
  have HK := Lib.hid hk
  clear H0 hk
  go_upto_region 31 with fail
  have H0 := HH.out
  clear HH x0
  have HH := Lib.hid H0
  clear H0
  go_wp2_with (first
    | refine wpl_load_o (by rfl) (.tmp 2) (by rfl) w.heap.size (by rfl) HH.out.box ?_
    | refine wpl_load_rk (by rfl) (.tmp 3) (by rfl) (w.heap.size + 1) (by rfl) HH.out.pk ?_)
  refine (dlists_filters o (by omega) P HF.out HK.out B vc (.slice Ap P.props.length cp) vw vs vf _ (o3_own HH.out HR5.out)).mono ?_
  rintro e v9 ⟨rfl, b9⟩
  have H9 := HH.out.next b9
  clear HH b9
  have HR := H9.setR (RP.each (RP.head o P) P.filters RP.tx)
  go_wp2_with (refine wpList_store_row (by rfl) 74 (.tmp 4) (.tmp 88) (by rfl) (w.heap.size + 2) (oC (RP.each (RP.head o P) P.filters RP.tx)) (by rfl) (by rfl) 74 (oC (⟨#[]⟩, 0)) H9.res o_info rfl (oC_one _) ?_)
  refine bodyPost_ret (v := .agg (oC (RP.each (RP.head o P) P.filters RP.tx))) ?_ rfl ⟨by first | rfl | rw [EQ], HR.below⟩
  have hl := load_o_var HR.res
  simp [results, Tryd.results16, Act.put]
  exact hl
set_option linter.unusedSimpArgs false in
set_option linter.unusedVariables false in
set_option maxRecDepth 100000 in
set_option maxHeartbeats 4000000 in
theorem dbody_9 (o : ByteArray × Int) (ho : o.1.size ≤ 1000000000000) (P : Pk) (hf : PkF P) (hk : P.kind = 9) (B : Nat) (vc vp vw vs vf : Value) (w : World) (hr : Own5R B P vc vp vw vs vf w) :
    Calls Tryd.prog 16 #[.agg (oC o), .agg (rkCells P vc vp vw vs vf)] w (OP w (RP.each (RP.head o P) P.codes (fun o c => RP.nm o 1 c))) := by
  obtain ⟨Ap, cp, rfl⟩ := own_form hr.props
  have CPr : Hid (∀ (kk : Int) (o' : ByteArray × Int), o'.1.size ≤ 2305843009213693952 → ∀ W', Below w.heap.size w W' → Calls Tryd.prog 42 #[.agg (oC o'), .int .i64 kk, .slice Ap P.props.length cp] W' (OP W' (RP.pr o' kk P.props))) := Lib.hid (fun kk o' h W' hb => dprops_any o' h kk Ap cp P.props W' hf.pr.1 ((own_props hr.props).below hb) hf.pr.2)
  have HR5 := Lib.hid hr
  have HF := Lib.hid hf
  have hcode : -9223372036854775808 ≤ P.code ∧ P.code ≤ 9223372036854775807 := by have := hf.fine.code; omega
  have hid := hf.fine.id
  have z0 : o.1.size ≤ o.1.size + 0 * 8388996 := by omega
  clear hf hr
  go_enter Tryd.func16, Tryd.ntmps16
  go_upto_region 1 with fail
  change Code.wp _ _ _ _ (((w.alloc (.cells (oC o) 74)).alloc (.cells (rkCells P vc (.slice Ap P.props.length cp) vw vs vf) 45)).alloc (.cells (oC (⟨#[]⟩, 0)) 74))
  have H0 := O3.start w P vc (.slice Ap P.props.length cp) vw vs vf o
  generalize (((w.alloc (.cells (oC o) 74)).alloc (.cells (rkCells P vc (.slice Ap P.props.length cp) vw vs vf) 45)).alloc (.cells (oC (⟨#[]⟩, 0)) 74)) = W0 at *
  have x0 := (cell_heap (i := 0) H0.pk).trans (show _ = some (.int .i64 9) from by rw [← hk]; rfl)
  have HH := Lib.hid H0
  have HK := Lib.hid hk
  clear H0 hk
  go_upto_region 31 with fail
  have H0 := HH.out
  clear HH x0
  have HH := Lib.hid H0
  clear H0
  go_wp2_with (first
    | refine wpl_load_o (by rfl) (.tmp 2) (by rfl) w.heap.size (by rfl) HH.out.box ?_
    | refine wpl_load_rk (by rfl) (.tmp 3) (by rfl) (w.heap.size + 1) (by rfl) HH.out.pk ?_)
  refine (dlists_codes o (by omega) P HF.out (by have := HK.out; omega) (by have := HK.out; omega) B vc (.slice Ap P.props.length cp) vw vs vf _ (o3_own HH.out HR5.out)).mono ?_
  rintro e v9 ⟨rfl, b9⟩
  have H9 := HH.out.next b9
  clear HH b9
  have HR := H9.setR (RP.each (RP.head o P) P.codes (fun o c => RP.nm o 1 c))
  go_wp2_with (refine wpList_store_row (by rfl) 74 (.tmp 4) (.tmp 88) (by rfl) (w.heap.size + 2) (oC (RP.each (RP.head o P) P.codes (fun o c => RP.nm o 1 c))) (by rfl) (by rfl) 74 (oC (⟨#[]⟩, 0)) H9.res o_info rfl (oC_one _) ?_)
  refine bodyPost_ret (v := .agg (oC (RP.each (RP.head o P) P.codes (fun o c => RP.nm o 1 c)))) ?_ rfl ⟨by first | rfl | rw [EQ], HR.below⟩
  have hl := load_o_var HR.res
  simp [results, Tryd.results16, Act.put]
  exact hl
set_option linter.unusedSimpArgs false in
set_option linter.unusedVariables false in
set_option maxRecDepth 100000 in
set_option maxHeartbeats 4000000 in
theorem dbody_11 (o : ByteArray × Int) (ho : o.1.size ≤ 1000000000000) (P : Pk) (hf : PkF P) (hk : P.kind = 11) (B : Nat) (vc vp vw vs vf : Value) (w : World) (hr : Own5R B P vc vp vw vs vf w) :
    Calls Tryd.prog 16 #[.agg (oC o), .agg (rkCells P vc vp vw vs vf)] w (OP w (RP.each (RP.head o P) P.codes (fun o c => RP.nm o 1 c))) := by
  obtain ⟨Ap, cp, rfl⟩ := own_form hr.props
  have CPr : Hid (∀ (kk : Int) (o' : ByteArray × Int), o'.1.size ≤ 2305843009213693952 → ∀ W', Below w.heap.size w W' → Calls Tryd.prog 42 #[.agg (oC o'), .int .i64 kk, .slice Ap P.props.length cp] W' (OP W' (RP.pr o' kk P.props))) := Lib.hid (fun kk o' h W' hb => dprops_any o' h kk Ap cp P.props W' hf.pr.1 ((own_props hr.props).below hb) hf.pr.2)
  have HR5 := Lib.hid hr
  have HF := Lib.hid hf
  have hcode : -9223372036854775808 ≤ P.code ∧ P.code ≤ 9223372036854775807 := by have := hf.fine.code; omega
  have hid := hf.fine.id
  have z0 : o.1.size ≤ o.1.size + 0 * 8388996 := by omega
  clear hf hr
  go_enter Tryd.func16, Tryd.ntmps16
  go_upto_region 1 with fail
  change Code.wp _ _ _ _ (((w.alloc (.cells (oC o) 74)).alloc (.cells (rkCells P vc (.slice Ap P.props.length cp) vw vs vf) 45)).alloc (.cells (oC (⟨#[]⟩, 0)) 74))
  have H0 := O3.start w P vc (.slice Ap P.props.length cp) vw vs vf o
  generalize (((w.alloc (.cells (oC o) 74)).alloc (.cells (rkCells P vc (.slice Ap P.props.length cp) vw vs vf) 45)).alloc (.cells (oC (⟨#[]⟩, 0)) 74)) = W0 at *
  have x0 := (cell_heap (i := 0) H0.pk).trans (show _ = some (.int .i64 11) from by rw [← hk]; rfl)
  have HH := Lib.hid H0
  have HK := Lib.hid hk
  clear H0 hk
  go_upto_region 31 with fail
  have H0 := HH.out
  clear HH x0
  have HH := Lib.hid H0
  clear H0
  go_wp2_with (first
    | refine wpl_load_o (by rfl) (.tmp 2) (by rfl) w.heap.size (by rfl) HH.out.box ?_
    | refine wpl_load_rk (by rfl) (.tmp 3) (by rfl) (w.heap.size + 1) (by rfl) HH.out.pk ?_)
  refine (dlists_codes o (by omega) P HF.out (by have := HK.out; omega) (by have := HK.out; omega) B vc (.slice Ap P.props.length cp) vw vs vf _ (o3_own HH.out HR5.out)).mono ?_
  rintro e v9 ⟨rfl, b9⟩
  have H9 := HH.out.next b9
  clear HH b9
  have HR := H9.setR (RP.each (RP.head o P) P.codes (fun o c => RP.nm o 1 c))
  go_wp2_with (refine wpList_store_row (by rfl) 74 (.tmp 4) (.tmp 88) (by rfl) (w.heap.size + 2) (oC (RP.each (RP.head o P) P.codes (fun o c => RP.nm o 1 c))) (by rfl) (by rfl) 74 (oC (⟨#[]⟩, 0)) H9.res o_info rfl (oC_one _) ?_)
  refine bodyPost_ret (v := .agg (oC (RP.each (RP.head o P) P.codes (fun o c => RP.nm o 1 c)))) ?_ rfl ⟨by first | rfl | rw [EQ], HR.below⟩
  have hl := load_o_var HR.res
  simp [results, Tryd.results16, Act.put]
  exact hl
set_option linter.unusedSimpArgs false in
set_option linter.unusedVariables false in
set_option maxRecDepth 100000 in
set_option maxHeartbeats 4000000 in
theorem dbody_0 (o : ByteArray × Int) (ho : o.1.size ≤ 1000000000000) (P : Pk) (hf : PkF P) (hk : P.kind ≠ 1 ∧ P.kind ≠ 2 ∧ P.kind ≠ 3 ∧ P.kind ≠ 4 ∧ P.kind ≠ 5 ∧ P.kind ≠ 6 ∧ P.kind ≠ 7 ∧ P.kind ≠ 8 ∧ P.kind ≠ 9 ∧ P.kind ≠ 10 ∧ P.kind ≠ 11 ∧ P.kind ≠ 14 ∧ P.kind ≠ 15) (B : Nat) (vc vp vw vs vf : Value) (w : World) (hr : Own5R B P vc vp vw vs vf w) :
    Calls Tryd.prog 16 #[.agg (oC o), .agg (rkCells P vc vp vw vs vf)] w (OP w (o)) := by
  obtain ⟨Ap, cp, rfl⟩ := own_form hr.props
  have CPr : Hid (∀ (kk : Int) (o' : ByteArray × Int), o'.1.size ≤ 2305843009213693952 → ∀ W', Below w.heap.size w W' → Calls Tryd.prog 42 #[.agg (oC o'), .int .i64 kk, .slice Ap P.props.length cp] W' (OP W' (RP.pr o' kk P.props))) := Lib.hid (fun kk o' h W' hb => dprops_any o' h kk Ap cp P.props W' hf.pr.1 ((own_props hr.props).below hb) hf.pr.2)
  have HR5 := Lib.hid hr
  have HF := Lib.hid hf
  have hcode : -9223372036854775808 ≤ P.code ∧ P.code ≤ 9223372036854775807 := by have := hf.fine.code; omega
  have hid := hf.fine.id
  have z0 : o.1.size ≤ o.1.size + 0 * 8388996 := by omega
  clear hf hr
  have n1 : (P.kind == 1) = false := by rw [beq_eq_false_iff_ne]; exact hk.1
  have n2 : (P.kind == 2) = false := by rw [beq_eq_false_iff_ne]; exact hk.2.1
  have n3 : (P.kind == 3) = false := by rw [beq_eq_false_iff_ne]; exact hk.2.2.1
  have n4 : (P.kind == 4) = false := by rw [beq_eq_false_iff_ne]; exact hk.2.2.2.1
  have n5 : (P.kind == 5) = false := by rw [beq_eq_false_iff_ne]; exact hk.2.2.2.2.1
  have n6 : (P.kind == 6) = false := by rw [beq_eq_false_iff_ne]; exact hk.2.2.2.2.2.1
  have n7 : (P.kind == 7) = false := by rw [beq_eq_false_iff_ne]; exact hk.2.2.2.2.2.2.1
  have n8 : (P.kind == 8) = false := by rw [beq_eq_false_iff_ne]; exact hk.2.2.2.2.2.2.2.1
  have n9 : (P.kind == 9) = false := by rw [beq_eq_false_iff_ne]; exact hk.2.2.2.2.2.2.2.2.1
  have n10 : (P.kind == 10) = false := by rw [beq_eq_false_iff_ne]; exact hk.2.2.2.2.2.2.2.2.2.1
  have n11 : (P.kind == 11) = false := by rw [beq_eq_false_iff_ne]; exact hk.2.2.2.2.2.2.2.2.2.2.1
  have n14 : (P.kind == 14) = false := by rw [beq_eq_false_iff_ne]; exact hk.2.2.2.2.2.2.2.2.2.2.2.1
  have n15 : (P.kind == 15) = false := by rw [beq_eq_false_iff_ne]; exact hk.2.2.2.2.2.2.2.2.2.2.2.2
  clear hk
  go_enter Tryd.func16, Tryd.ntmps16
  go_upto_region 1 with fail
  change Code.wp _ _ _ _ (((w.alloc (.cells (oC o) 74)).alloc (.cells (rkCells P vc (.slice Ap P.props.length cp) vw vs vf) 45)).alloc (.cells (oC (⟨#[]⟩, 0)) 74))
  have H0 := O3.start w P vc (.slice Ap P.props.length cp) vw vs vf o
  generalize (((w.alloc (.cells (oC o) 74)).alloc (.cells (rkCells P vc (.slice Ap P.props.length cp) vw vs vf) 45)).alloc (.cells (oC (⟨#[]⟩, 0)) 74)) = W0 at *
  have x0 := (cell_heap (i := 0) H0.pk).trans (show _ = some (.int .i64 P.kind) from rfl)
  have HH := Lib.hid H0
  clear H0
  go_upto_region 32 with fail
  have H0 := HH.out
  clear HH x0
  have HR := H0.setR o
  go_wp2_with (first
    | refine wpl_load_o (by rfl) (.tmp 2) (by rfl) w.heap.size (by rfl) H0.box ?_
    | refine wpList_store_row (by rfl) 74 (.tmp 4) (.tmp 89) (by rfl) (w.heap.size + 2) (oC o) (by rfl) (by rfl) 74 (oC (⟨#[]⟩, 0)) H0.res o_info rfl (oC_one _) ?_)
  refine bodyPost_ret (v := .agg (oC o)) ?_ rfl ⟨rfl, HR.below⟩
  have hl := load_o_var HR.res
  simp [results, Tryd.results16, Act.put]
  exact hl
theorem dbody_any (o : ByteArray × Int) (ho : o.1.size ≤ 1000000000000) (P : Pk) (hf : PkF P) (B : Nat) (vc vp vw vs vf : Value) (w : World) (hr : Own5R B P vc vp vw vs vf w) :
    Calls Tryd.prog 16 #[.agg (oC o), .agg (rkCells P vc vp vw vs vf)] w (OP w (RP.body o P)) := by
  unfold RP.body
  by_cases k1 : P.kind = 1
  · rw [if_pos k1]; exact dbody_1 o ho P hf k1 B vc vp vw vs vf w hr
  rw [if_neg k1]
  by_cases k2 : P.kind = 2
  · rw [if_pos k2]; exact dbody_2 o ho P hf k2 B vc vp vw vs vf w hr
  rw [if_neg k2]
  by_cases k3 : P.kind = 3
  · rw [if_pos k3]; exact dbody_3 o ho P hf k3 B vc vp vw vs vf w hr
  rw [if_neg k3]
  by_cases k8 : P.kind = 8
  · rw [if_pos k8]; exact dbody_8 o ho P hf k8 B vc vp vw vs vf w hr
  rw [if_neg k8]
  by_cases k10 : P.kind = 10
  · rw [if_pos k10]; exact dbody_10 o ho P hf k10 B vc vp vw vs vf w hr
  rw [if_neg k10]
  by_cases k9 : P.kind = 9 ∨ P.kind = 11
  · rw [if_pos k9]
    rcases k9 with k | k
    · exact dbody_9 o ho P hf k B vc vp vw vs vf w hr
    · exact dbody_11 o ho P hf k B vc vp vw vs vf w hr
  rw [if_neg k9]
  by_cases k4 : P.kind = 4 ∨ P.kind = 5 ∨ P.kind = 6 ∨ P.kind = 7
  · rw [if_pos k4]
    rcases k4 with k | k | k | k
    · exact dbody_4 o ho P hf k B vc vp vw vs vf w hr
    · exact dbody_5 o ho P hf k B vc vp vw vs vf w hr
    · exact dbody_6 o ho P hf k B vc vp vw vs vf w hr
    · exact dbody_7 o ho P hf k B vc vp vw vs vf w hr
  rw [if_neg k4]
  by_cases k14 : P.kind = 14 ∨ P.kind = 15
  · rw [if_pos k14]
    rcases k14 with k | k
    · exact dbody_14 o ho P hf k B vc vp vw vs vf w hr
    · exact dbody_15 o ho P hf k B vc vp vw vs vf w hr
  rw [if_neg k14]
  exact dbody_0 o ho P hf (by omega) B vc vp vw vs vf w hr
end Go.Proofs.YtlfgndhdifpngaaDoor
