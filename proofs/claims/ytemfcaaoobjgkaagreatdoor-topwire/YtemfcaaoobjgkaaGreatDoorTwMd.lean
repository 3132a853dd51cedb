/- The law's made: the packet of a text. -/
import Derived.Test.YtemfcaaoobjgkaaGreatDoorMD
import Derived.Test.YtemfcaaoobjgkaaGreatDoorME
import Derived.Deep.RegionHeld3
namespace Go.Proofs.YtemfcaaoobjgkaaGreatDoor
open Go.RowKit
attribute [local go_sem ↓] Go.wp_at_zero Go.wp_at_succ

/-- What made answers. -/
def TwMP (w : World) (P : Pk) (e : Ending) (w' : World) : Prop :=
  ∃ v, e = .returned (.agg (pkCells P (.slice none 0 0) (.slice none 0 0) (.slice none 0 0) v (.slice none 0 0))) ∧ w'.ownsRow w.heap.size 61 5 v P.subs.length (flatB P.subs) ∧ Below w.heap.size w w'
theorem one_sub (f : ByteArray) (q : Int) (W : World) (B : Nat) (hB : B ≤ W.heap.size) : (W.alloc (.cells #[.string f, .int .i64 q, .bool false, .bool false, .int .i64 0] 61)).ownsRow B 61 5 (.slice (some ⟨W.heap.size, 0, none⟩) 1 1) 1 (flatB [⟨f, q, false, false, 0⟩]) :=
  ⟨rfl, .inr ⟨W.heap.size, 1, _, rfl, hB, heap_alloc_new W _, Nat.le_refl _, by simp [maxLen], rfl, rfl⟩⟩

set_option maxRecDepth 100000 in
set_option maxHeartbeats 4000000 in
theorem made_any (x : Tx5) (hx : x.Fine) (w : World) : Calls Tryz.prog 12 #[.agg x.cells.toArray] w (TwMP w (TW.pk x)) := by
  obtain ⟨W0, hW0⟩ : ∃ W0, W0 = (w.alloc (.cells x.cells.toArray 56)).alloc (.cells (pkNil PK.zeroPk) 45) := ⟨_, rfl⟩
  have z00 : (w.alloc (.cells x.cells.toArray 56)).heap[w.heap.size]? = some (.cells x.cells.toArray 56 (0, 0)) := heap_alloc_new w _
  have z0 : W0.heap[w.heap.size]? = some (.cells x.cells.toArray 56 (0, 0)) := by rw [hW0]; exact (Below.heap_alloc _ _ _ (lt_heap z00)).trans z00
  have z1 : W0.heap[w.heap.size + 1]? = some (.cells (pkNil PK.zeroPk) 45 (0, 0)) := by
    rw [hW0, show w.heap.size + 1 = (w.alloc (.cells x.cells.toArray 56)).heap.size by simp]; exact heap_alloc_new _ _
  have b0 : Below w.heap.size w W0 := by rw [hW0]; exact ((Below.refl _ _).alloc (Nat.le_refl _) _).alloc (by simp) _
  have s0 : W0.heap.size = w.heap.size + 2 := by rw [hW0]; simp
  have q0 : W0.cell? ⟨w.heap.size, 0, none⟩ = some (.int .i64 x.kind) := by rw [cell_heap z0]; rfl
  have q1 : W0.cell? ⟨w.heap.size, 1, none⟩ = some (.int .i64 x.qos) := by rw [cell_heap z0]; rfl
  have q2 : W0.cell? ⟨w.heap.size, 2, none⟩ = some (.int .i64 x.id) := by rw [cell_heap z0]; rfl
  have q3 : W0.cell? ⟨w.heap.size, 3, none⟩ = some (.string x.topic) := by rw [cell_heap z0]; rfl
  have q4 : W0.cell? ⟨w.heap.size, 4, none⟩ = some (.string x.body) := by rw [cell_heap z0]; rfl
  obtain ⟨n, hn, hn1, hn2⟩ : ∃ n : Nat, min (x.topic.size : Int) 30 = (n : Int) ∧ n ≤ x.topic.size ∧ n ≤ 30 := ⟨min x.topic.size 30, by omega, by omega, by omega⟩
  obtain ⟨m, hm, hm1, hm2⟩ : ∃ m : Nat, min (x.body.size : Int) 300 = (m : Int) ∧ m ≤ x.body.size ∧ m ≤ 300 := ⟨min x.body.size 300, by omega, by omega, by omega⟩
  have hn3 : min x.topic.size 30 = n := by omega
  have hm3 : min x.body.size 300 = m := by omega
  have hs1 := slice_upto x.topic n hn1
  have hs2 := slice_upto x.body m hm1
  have T1 : Hid (TW.top x = ⟨#[116]⟩ ++ x.topic.extract 0 n) := Lib.hid (by unfold TW.top; rw [hn3])
  have hsz1 : (x.topic.extract 0 n).size ≤ 30 := by rw [ByteArray.size_extract]; omega
  have hsz2 : (x.body.extract 0 m).size ≤ 300 := by rw [ByteArray.size_extract]; omega
  have hk0 : 0 ≤ max 0 x.kind := by omega
  have hq0 : 0 ≤ max 0 x.qos := by omega
  have hi0 : 0 ≤ max 0 x.id := by omega
  obtain ⟨i, hi, hi1, hi2⟩ : ∃ i : Int, max 0 x.id % 65535 = i ∧ 0 ≤ i ∧ i < 65535 := ⟨_, rfl, by omega, by omega⟩
  obtain ⟨q, hq, hq1, hq2⟩ : ∃ q : Int, max 0 x.qos % 3 = q ∧ 0 ≤ q ∧ q < 3 := ⟨_, rfl, by omega, by omega⟩
  obtain ⟨k, hk, hk1, hk2⟩ : ∃ k : Int, max 0 x.kind % 4 = k ∧ 0 ≤ k ∧ k < 4 := ⟨_, rfl, by omega, by omega⟩
  have PKE : Hid (TW.pk x = if k = 1 then TW.p8 (1 + i) (TW.top x) q else if k = 2 then TW.p4 (1 + i) else if k = 3 then TW.p12 else TW.p3 q (if 0 < q then 1 + i else 0) (TW.top x) (x.body.extract 0 m)) := Lib.hid (by
    unfold TW.pk TW.kn TW.idn TW.qn
    rw [hk, hi, hq, hm3])
  have fk := hx.kind; have fq := hx.qos; have fi := hx.id
  unfold I64 at fk fq fi
  have ft := hx.topic; have fb := hx.body
  have HW0 := Lib.hid hW0
  have Z1 := Lib.hid z1; have B0 := Lib.hid b0; have S0 := Lib.hid s0
  obtain ⟨X1, hX1⟩ : ∃ X1, X1 = x.topic.extract 0 n := ⟨_, rfl⟩
  obtain ⟨X2, hX2⟩ : ∃ X2, X2 = x.body.extract 0 m := ⟨_, rfl⟩
  rw [← hX1] at hs1 hsz1 T1
  rw [← hX2] at hs2 hsz2 PKE
  have HX2 := Lib.hid hX2
  clear hX1 hX2 z00 z0 z1 b0 hW0 hn3 hm3 hx s0
  rw [PKE.out, T1.out]
  clear PKE
  go_enter Tryz.func12, Tryz.ntmps12
  go_upto_region 1 with fail
  change Code.wp _ _ _ _ ((w.alloc (.cells x.cells.toArray 56)).alloc (.cells (pkNil PK.zeroPk) 45))
  rw [← HW0.out]
  clear HW0
  by_cases c1 : k = 1
  · subst c1
    simp only [if_true]
    obtain ⟨WA, hWA⟩ : ∃ WA, WA = W0.alloc (.cells #[.string (⟨#[116]⟩ ++ X1), .int .i64 q, .bool false, .bool false, .int .i64 0] 61) := ⟨_, rfl⟩
    have hal : Below W0.heap.size W0 WA := by rw [hWA]; exact (Below.refl _ _).alloc (Nat.le_refl _) _
    obtain ⟨g, hg⟩ : ∃ g, g = W0.heap.size := ⟨_, rfl⟩
    have O1 : Hid (WA.ownsRow (w.heap.size + 2) 61 5 (.slice (some ⟨g, 0, none⟩) 1 1) 1 (flatB [⟨⟨#[116]⟩ ++ X1, q, false, false, 0⟩])) := Lib.hid (by rw [hWA, hg]; exact one_sub (⟨#[116]⟩ ++ X1) q W0 (w.heap.size + 2) (by rw [S0.out]; exact Nat.le_refl _))
    have BA := Lib.hid (B0.out.trans (hal.mono B0.out.size))
    have ZA : Hid (WA.heap[w.heap.size + 1]? = some (.cells (pkNil PK.zeroPk) 45 (0, 0))) := Lib.hid ((hal.block _ (lt_heap Z1.out)).trans Z1.out)
    have ONE : Hid ((pkCells (TW.p8 (1 + i) (⟨#[116]⟩ ++ X1) q) (.slice none 0 0) (.slice none 0 0) (.slice none 0 0) (.slice (some ⟨g, 0, none⟩) 1 1) (.slice none 0 0)).all (·.oneCell') = true) := Lib.hid (by simp [pkCells, Value.oneCell'])
    have HWA := Lib.hid hWA; have HG := Lib.hid hg
    clear hal hWA hg
    go_wp2_with (rw [← HWA.out, ← HG.out]; refine wpList_store_row (by rfl) 45 (.tmp 2) (.tmp 33) (by rfl) (w.heap.size + 1) (pkCells (TW.p8 (1 + i) (⟨#[116]⟩ ++ X1) q) (.slice none 0 0) (.slice none 0 0) (.slice none 0 0) (.slice (some ⟨g, 0, none⟩) 1 1) (.slice none 0 0)) (by rfl) (by rfl) 45 (pkNil PK.zeroPk) ZA.out pk_info rfl ONE.out ?_)
    have Z3 := setRow_heap (cs := pkCells (TW.p8 (1 + i) (⟨#[116]⟩ ++ X1) q) (.slice none 0 0) (.slice none 0 0) (.slice none 0 0) (.slice (some ⟨g, 0, none⟩) 1 1) (.slice none 0 0)) ZA.out
    have hl := load_pk_var Z3
    refine bodyPost_ret (v := .agg (pkCells (TW.p8 (1 + i) (⟨#[116]⟩ ++ X1) q) (.slice none 0 0) (.slice none 0 0) (.slice none 0 0) (.slice (some ⟨g, 0, none⟩) 1 1) (.slice none 0 0))) ?_ rfl ⟨_, rfl, ?_, ?_⟩
    · simp [results, Tryz.results12]
      exact hl
    · exact own_base' (own_setRow (g := w.heap.size + 1) _ O1.out (row_ne O1.out (by omega))) (by omega)
    · exact below_setRow BA.out (by omega) _
  by_cases c2 : k = 2
  · subst c2
    simp only [show ¬ (2 : Int) = 1 by decide, if_true, if_false]
    have ONE := Lib.hid (pkNil_one (TW.p4 (1 + i)))
    go_wp2_with (refine wpList_store_row (by rfl) 45 (.tmp 2) (.tmp 37) (by rfl) (w.heap.size + 1) (pkNil (TW.p4 (1 + i))) (by rfl) (by rfl) 45 (pkNil PK.zeroPk) Z1.out pk_info rfl ONE.out ?_)
    have Z3 := setRow_heap (cs := pkNil (TW.p4 (1 + i))) Z1.out
    have hl := load_pk_var Z3
    refine bodyPost_ret (v := .agg (pkNil (TW.p4 (1 + i)))) ?_ rfl ⟨_, rfl, own_nil _ _ _ _, ?_⟩
    · simp [results, Tryz.results12]
      exact hl
    · exact below_setRow B0.out (by omega) _
  by_cases c3 : k = 3
  · subst c3
    simp only [show ¬ (3 : Int) = 1 by decide, show ¬ (3 : Int) = 2 by decide, if_true, if_false]
    have ONE := Lib.hid (pkNil_one TW.p12)
    go_wp2_with (refine wpList_store_row (by rfl) 45 (.tmp 2) (.tmp 40) (by rfl) (w.heap.size + 1) (pkNil TW.p12) (by rfl) (by rfl) 45 (pkNil PK.zeroPk) Z1.out pk_info rfl ONE.out ?_)
    have Z3 := setRow_heap (cs := pkNil TW.p12) Z1.out
    have hl := load_pk_var Z3
    refine bodyPost_ret (v := .agg (pkNil TW.p12)) ?_ rfl ⟨_, rfl, own_nil _ _ _ _, ?_⟩
    · simp [results, Tryz.results12]
      exact hl
    · exact below_setRow B0.out (by omega) _
  · simp only [c1, c2, c3, if_false]
    have e1 : (k == 1) = false := by rw [beq_eq_false_iff_ne]; exact c1
    have e2 : (k == 2) = false := by rw [beq_eq_false_iff_ne]; exact c2
    have e3 : (k == 3) = false := by rw [beq_eq_false_iff_ne]; exact c3
    have hlt0 : w.heap.size < W0.heap.size := by rw [S0.out]; omega
    have QH := Lib.hid hq
    go_upto_region 10 with fail
    have D : Below W0.heap.size W0 W0.drew := ⟨rfl, rfl, rfl, Nat.le_refl _, fun _ _ => rfl⟩
    refine wp_region_noPanic (wp_region_T (by kernel_rfl) (rg_made (fun _ _ _ _ _ h => h) _ (by kernel_rfl) _ rfl w.heap.size (⟨#[116]⟩ ++ X1) x.body x.qos q m rfl rfl W0.drew hlt0 ((D.cell (p := ⟨w.heap.size, 1, none⟩) hlt0).trans q1) ((D.cell (p := ⟨w.heap.size, 4, none⟩) hlt0).trans q4) hq0 QH.out hm hm1 ?_))
    rintro w1 b1 z1
    refine NoPanic.normal ?_
    have BB : Hid (Below W0.heap.size W0 w1) := Lib.hid (D.trans b1)
    have ZB : Hid (w1.heap[W0.heap.size]? = some (.cells (pkNil (TW.p3 q 0 (⟨#[116]⟩ ++ X1) (x.body.extract 0 m))) 45 (0, 0))) := Lib.hid z1
    have ZA := Lib.hid ((BB.out.block _ (lt_heap Z1.out)).trans Z1.out)
    have BA := Lib.hid (B0.out.trans (BB.out.mono B0.out.size))
    have hx2 := HX2.out
    clear b1 z1 D BB hs2 HX2
    subst hx2
    simp only [Act.put, List.setIfInBounds_toArray, List.set_cons_zero, List.set_cons_succ]
    rw [show W0.drew.heap.size = W0.heap.size from rfl]
    have hgn : W0.heap.size ≠ w.heap.size + 1 := by rw [S0.out]; omega
    have hgb : w.heap.size ≤ W0.heap.size := by omega
    have G0 : ∃ g, g = W0.heap.size := ⟨_, rfl⟩
    generalize W0.heap.size = g at *
    have p3 : w1.cell? ⟨g, 3, none⟩ = some (.int .i64 q) := (cell_heap (i := 3) ZB.out).trans rfl
    generalize (⟨#[116]⟩ ++ X1 : ByteArray) = T at *
    generalize x.body.extract 0 m = X3 at *
    by_cases hqp : 0 < q
    · rw [if_pos hqp]
      have p4 : w1.cell? ⟨g, 4, none⟩ = some (.int .i64 0) := (cell_heap (i := 4) ZB.out).trans rfl
      have f4 : w1.frozen? ⟨g, 4, none⟩ = false := frozen_heap ZB.out
      obtain ⟨WS, hWS⟩ : ∃ WS, WS = w1.setCell ⟨g, 4, none⟩ (.int .i64 (1 + i)) := ⟨_, rfl⟩
      have ZS : Hid (WS.heap[g]? = some (.cells (pkNil (TW.p3 q (1 + i) T X3)) 45 (0, 0))) := Lib.hid (by rw [hWS]; exact set_block ZB.out rfl)
      have ZC : Hid (WS.heap[w.heap.size + 1]? = some (.cells (pkNil PK.zeroPk) 45 (0, 0))) := Lib.hid (by rw [hWS]; exact (Below.heap_setCell _ _ _ _ (fun e => hgn (by simpa using e.symm))).trans ZA.out)
      have BS : Hid (Below w.heap.size w WS) := Lib.hid (by
        rw [hWS]
        exact ⟨BA.out.os, BA.out.tape, BA.out.output, by simp [World.setCell]; exact BA.out.size, fun j hj => (Below.heap_setCell _ _ _ _ (fun e => by simp at e; omega)).trans (BA.out.block j hj)⟩)
      have HWS := Lib.hid hWS
      have ONE := Lib.hid (pkNil_one (TW.p3 q (1 + i) T X3))
      clear hWS
      go_upto_region 13 with fail
      change Code.wp _ _ _ _ (w1.setCell ⟨g, 4, none⟩ (.int .i64 (1 + i)))
      rw [← HWS.out]
      clear HWS p3 p4 f4 ZB ZA BA
      go_wp2_with (first
        | refine wpl_load_pk (by rfl) (.tmp 5) (by rfl) g (by rfl) ZS.out ?_
        | refine wpList_store_row (by rfl) 45 (.tmp 2) (.tmp 59) (by rfl) (w.heap.size + 1) (pkNil (TW.p3 q (1 + i) T X3)) (by rfl) (by rfl) 45 (pkNil PK.zeroPk) ZC.out pk_info rfl ONE.out ?_)
      have Z3 := setRow_heap (cs := pkNil (TW.p3 q (1 + i) T X3)) ZC.out
      have hl := load_pk_var Z3
      refine bodyPost_ret (v := .agg (pkNil (TW.p3 q (1 + i) T X3))) ?_ rfl ⟨_, rfl, own_nil _ _ _ _, ?_⟩
      · simp [results, Tryz.results12]
        exact hl
      · exact below_setRow BS.out (by omega) _
    · rw [if_neg hqp]
      have ONE := Lib.hid (pkNil_one (TW.p3 q 0 T X3))
      go_wp2_with (first
        | refine wpl_load_pk (by rfl) (.tmp 5) (by rfl) g (by rfl) ZB.out ?_
        | refine wpList_store_row (by rfl) 45 (.tmp 2) (.tmp 59) (by rfl) (w.heap.size + 1) (pkNil (TW.p3 q 0 T X3)) (by rfl) (by rfl) 45 (pkNil PK.zeroPk) ZA.out pk_info rfl ONE.out ?_)
      have Z3 := setRow_heap (cs := pkNil (TW.p3 q 0 T X3)) ZA.out
      have hl := load_pk_var Z3
      refine bodyPost_ret (v := .agg (pkNil (TW.p3 q 0 T X3))) ?_ rfl ⟨_, rfl, own_nil _ _ _ _, ?_⟩
      · simp [results, Tryz.results12]
        exact hl
      · exact below_setRow BA.out (by omega) _
end Go.Proofs.YtemfcaaoobjgkaaGreatDoor
