/- The document's reader of packets as code: what is read piece by piece.; The bytes of properties: the document's.; A property's value, read: the document's.; The law's own helper: the program's and the document's rows of properties.; Properties read one behind the other: the document's Get.; The document's reader of packets as code: properties, an ending.; stream.through, with whatever function it hands the packets to.; A stream's reader: a strings.Builder in a struct, that is written on behind its own String.; A stream's reader: what its builder holds, as a string.; The function that Feed hands a packet's bytes to.; A region that draws its order and whose last operations write what its first ones load: loads are taken first as long as the last ones wait.; The law's helper that makes packets: its three regions that append twice and store twice.; Layer 5's law: its own helper: the program's and the document's rows of properties. (The text is that of layer 4's.); The law's helper that makes packets: what lies in memory on its way.; The document's reader of packets as code: what hands a packet on, and its last region, which draws its order.; The document's reader of packets as code: endings. (Written by wip/tools/gen_rgz.py.) -/
import Derived.Test.YtemfcaaoobjgkaaGreatDoorMB
import Derived.Test.YtemfcaaoobjgkaaGreatDoorTxPut
import Derived.Test.YtemfcaaoobjgkaaGreatDoorVarRefRead
import Derived.Test.YtemfcaaoobjgkaaGreatDoorPrPutAll
import Derived.Test.YtemfcaaoobjgkaaGreatDoorMA
import Derived.Test.YtemfcaaoobjgkaaGreatDoorPrApp
import Derived.Test.YtemfcaaoobjgkaaGreatDoorVarClone
import Derived.Deep.RegionHeld3
import Derived.Deep.DrawnRows
import Derived.Deep.DeepCutAuto
import Derived.Deep.CutRange
import Derived.Deep.CutBlock
import Derived.Test.YtemfcaaoobjgkaaGreatDoorPkAllow
import Derived.WalkMore
import Derived.Test.YtemfcaaoobjgkaaGreatDoorPkWr
import Derived.Lib.FrozenHead
import Derived.Deep.AppendLies
namespace Go.Proofs.YtemfcaaoobjgkaaGreatDoor
open Go.RowKit
attribute [local go_sem ↓] Go.wp_at_zero Go.wp_at_succ

/-- What is read, how far, and a code, as the document's functions hand them on. -/
def iC (U : ByteArray) (x : Int × Int) : Array Value := #[.string U, .int .i64 x.1, .int .i64 x.2]
theorem iC_one (U : ByteArray) (x : Int × Int) : (iC U x).all (·.oneCell') = true := by simp [iC, Value.oneCell']
theorem i_info : (Tryz.prog.info? 111).map (·.size) = some 3 := by kernel_rfl
theorem wpl_load_i {ops : Array Oper} {rest : List Oper} {op : Oper} {a : Act} {w : World} {Q : Exit → Act → World → Prop} (hgd : op.guard = none) (x : Operand) (ho : op.op = .load 111 x)
    (n : Nat) (hx : a.eval x = .pointer (some ⟨n, 0, none⟩)) {U : ByteArray} {o : Int × Int} (hb : w.heap[n]? = some (.cells (iC U o) 111 (0, 0)))
    (h : wpList Tryz.prog ops Q rest (a.put op.dst (.agg (iC U o))) w) : wpList Tryz.prog ops Q (op :: rest) a w :=
  wpList_load_mid hgd 111 x ho n 0 hx (iC U o).toList _ (fun j v hv => by rw [Nat.zero_add, cell_heap hb, ← hv]; simp) Tryz.underlying111 rfl (by kernel_rfl) h
theorem load_i_var {w : World} {g : Nat} {U : ByteArray} {o : Int × Int} (h : w.heap[g]? = some (.cells (iC U o) 111 (0, 0))) :
    (loadVar 111 ⟨g, 0, none⟩).run Tryz.prog w = .ok (.agg (iC U o)) w :=
  run_loadVar_mid _ g 0 111 (iC U o).toList _ (fun j v hv => by rw [Nat.zero_add, cell_heap h, ← hv]; simp) Tryz.underlying111 rfl (by kernel_rfl)
/-- The two boxes of such a function: its argument's and its answer's. -/
structure IB (w : World) (U : ByteArray) (x : Int × Int) (V : ByteArray) (r : Int × Int) (W : World) : Prop where
  box : W.heap[w.heap.size]? = some (.cells (iC U x) 111 (0, 0))
  res : W.heap[w.heap.size + 1]? = some (.cells (iC V r) 111 (0, 0))
  below : Below w.heap.size w W
theorem IB.next {w W W' : World} {U V : ByteArray} {x r : Int × Int} (h : IB w U x V r W) (hb : Below W.heap.size W W') : IB w U x V r W' :=
  ⟨(hb.block _ (lt_heap h.box)).trans h.box, (hb.block _ (lt_heap h.res)).trans h.res, h.below.trans (hb.mono h.below.size)⟩
theorem IB.setO {w W : World} {U V : ByteArray} {x r : Int × Int} (h : IB w U x V r W) (U' : ByteArray) (x' : Int × Int) : IB w U' x' V r (W.setRow w.heap.size (iC U' x')) :=
  ⟨setRow_heap h.box, (setRow_other _ (by omega)).trans h.res, below_setRow h.below (Nat.le_refl _) _⟩
theorem IB.setR {w W : World} {U V : ByteArray} {x r : Int × Int} (h : IB w U x V r W) (V' : ByteArray) (r' : Int × Int) : IB w U x V' r' (W.setRow (w.heap.size + 1) (iC V' r')) :=
  ⟨(setRow_other _ (by omega)).trans h.box, setRow_heap h.res, below_setRow h.below (by omega) _⟩
theorem IB.setAt {w W : World} {U V : ByteArray} {x r : Int × Int} (h : IB w U x V r W) (a : Int) : IB w U (a, x.2) V r (W.setCell ⟨w.heap.size, 1, none⟩ (.int .i64 a)) :=
  ⟨set_block h.box rfl, (Below.heap_setCell _ _ _ _ (show w.heap.size + 1 ≠ w.heap.size by omega)).trans h.res, h.below.setCell (p := ⟨w.heap.size, 1, none⟩) (Nat.le_refl _) _⟩
theorem IB.setC {w W : World} {U V : ByteArray} {x r : Int × Int} (h : IB w U x V r W) (c : Int) : IB w U (x.1, c) V r (W.setCell ⟨w.heap.size, 2, none⟩ (.int .i64 c)) :=
  ⟨set_block h.box rfl, (Below.heap_setCell _ _ _ _ (show w.heap.size + 1 ≠ w.heap.size by omega)).trans h.res, h.below.setCell (p := ⟨w.heap.size, 2, none⟩) (Nat.le_refl _) _⟩
theorem IB.start (w : World) (U : ByteArray) (x : Int × Int) : IB w U x ⟨#[]⟩ (0, 0) ((w.alloc (.cells (iC U x) 111)).alloc (.cells (iC ⟨#[]⟩ (0, 0)) 111)) := by
  have sz : (w.alloc (.cells (iC U x) 111)).heap.size = w.heap.size + 1 := by simp
  refine ⟨(Below.heap_alloc _ _ _ (by omega)).trans (heap_alloc_new w _), by rw [← sz]; exact heap_alloc_new _ _, ((Below.refl _ _).alloc (Nat.le_refl _) _).alloc (by omega) _⟩
theorem IB.facts {w W : World} {U V : ByteArray} {x r : Int × Int} (h : IB w U x V r W) : (W.cell? ⟨w.heap.size, 0, none⟩ = some (.string U) ∧ W.cell? ⟨w.heap.size, 1, none⟩ = some (.int .i64 x.1) ∧ W.cell? ⟨w.heap.size, 2, none⟩ = some (.int .i64 x.2)) ∧ W.frozen? ⟨w.heap.size, 1, none⟩ = false ∧ W.frozen? ⟨w.heap.size, 2, none⟩ = false :=
  ⟨⟨(cell_heap (i := 0) h.box).trans rfl, (cell_heap (i := 1) h.box).trans rfl, (cell_heap (i := 2) h.box).trans rfl⟩, frozen_heap h.box, frozen_heap h.box⟩

set_option maxRecDepth 100000 in
set_option maxHeartbeats 1000000 in
theorem dfailed_any (U : ByteArray) (x : Int × Int) (c : Int) (w : World) :
    Calls Tryz.prog 72 #[.agg (iC U x), .int .i64 c] w fun e w' => e = .returned (.agg (iC U (RG.fl x c))) ∧ Below w.heap.size w w' := by
  obtain ⟨p, c0⟩ := x
  unfold RG.fl
  dsimp only
  by_cases h0 : c0 = 0
  · subst h0
    rw [if_pos rfl]
    go_enter Tryz.func72, Tryz.ntmps72
    go_upto_region 1 with fail
    change Code.wp _ _ _ _ ((w.alloc (.cells (iC U (p, 0)) 111)).alloc (.cells (iC ⟨#[]⟩ (0, 0)) 111))
    have H := IB.start w U (p, 0)
    generalize (w.alloc (.cells (iC U (p, 0)) 111)).alloc (.cells (iC ⟨#[]⟩ (0, 0)) 111) = W at *
    obtain ⟨⟨x0, x1, x2⟩, x3, x4⟩ := H.facts
    have HN := Lib.hid (H.setC c)
    have HR := Lib.hid ((H.setC c).setR U (p, c))
    clear H
    go_wp2_with (first
      | refine wpl_load_i (by rfl) (.tmp 2) (by rfl) w.heap.size (by rfl) HN.out.box ?_
      | refine wpList_store_row (by rfl) 111 (.tmp 4) (.tmp 10) (by rfl) (w.heap.size + 1) (iC U (p, c)) (by rfl) (by rfl) 111 (iC ⟨#[]⟩ (0, 0)) HN.out.res i_info rfl (iC_one _ _) ?_)
    refine bodyPost_ret (v := .agg (iC U (p, c))) ?_ rfl ⟨rfl, HR.out.below⟩
    have hl := load_i_var HR.out.res
    simp [results, Tryz.results72]
    exact hl
  · have h0' : (c0 == 0) = false := by rw [beq_eq_false_iff_ne]; exact h0
    rw [if_neg h0]
    go_enter Tryz.func72, Tryz.ntmps72
    go_upto_region 1 with fail
    change Code.wp _ _ _ _ ((w.alloc (.cells (iC U (p, c0)) 111)).alloc (.cells (iC ⟨#[]⟩ (0, 0)) 111))
    have H := IB.start w U (p, c0)
    generalize (w.alloc (.cells (iC U (p, c0)) 111)).alloc (.cells (iC ⟨#[]⟩ (0, 0)) 111) = W at *
    obtain ⟨⟨x0, x1, x2⟩, x3, x4⟩ := H.facts
    have HN := Lib.hid H
    have HR := Lib.hid (H.setR U (p, c0))
    clear H
    go_wp2_with (first
      | refine wpl_load_i (by rfl) (.tmp 2) (by rfl) w.heap.size (by rfl) HN.out.box ?_
      | refine wpList_store_row (by rfl) 111 (.tmp 4) (.tmp 10) (by rfl) (w.heap.size + 1) (iC U (p, c0)) (by rfl) (by rfl) 111 (iC ⟨#[]⟩ (0, 0)) HN.out.res i_info rfl (iC_one _ _) ?_)
    refine bodyPost_ret (v := .agg (iC U (p, c0))) ?_ rfl ⟨rfl, HR.out.below⟩
    have hl := load_i_var HR.out.res
    simp [results, Tryz.results72]
    exact hl

set_option maxRecDepth 100000 in
set_option maxHeartbeats 2000000 in
theorem dreadnum_any (U : ByteArray) (hU : U.size ≤ maxLen) (x : Int × Int) (wd : Int) (w : World) :
    Calls Tryz.prog 71 #[.agg (iC U x), .int .i64 wd] w fun e w' => e = .returned (.tuple #[.agg (iC U (RG.rN U wd x).1), .int .i64 (RG.rN U wd x).2]) ∧ Below w.heap.size w w' := by
  obtain ⟨p, c0⟩ := x
  have C1 := Lib.hid (refread_any U p wd hU)
  unfold RG.rN
  dsimp only
  by_cases h0 : c0 = 0
  · subst h0
    rw [if_neg (fun h => h rfl)]
    generalize VP.rd U p wd = Y at *
    obtain ⟨n, a, c⟩ := Y
    dsimp only at C1 ⊢
    by_cases hc : c = 0
    · subst hc
      rw [if_neg (fun h => h rfl)]
      go_enter Tryz.func71, Tryz.ntmps71
      go_upto_region 1 with fail
      change Code.wp _ _ _ _ ((w.alloc (.cells (iC U (p, 0)) 111)).alloc (.cells (iC ⟨#[]⟩ (0, 0)) 111))
      have H := IB.start w U (p, 0)
      generalize (w.alloc (.cells (iC U (p, 0)) 111)).alloc (.cells (iC ⟨#[]⟩ (0, 0)) 111) = W at *
      obtain ⟨⟨x0, x1, x2⟩, x3, x4⟩ := H.facts
      have HN := Lib.hid (H.setAt a)
      have HR := Lib.hid ((H.setAt a).setR U (a, 0))
      clear H
      go_wp2_with fail
      refine (C1.out _).mono ?_
      rintro e w' ⟨rfl, rfl⟩
      go_wp2_with (first
        | refine wpl_load_i (by rfl) (.tmp 2) (by rfl) w.heap.size (by rfl) HN.out.box ?_
        | refine wpList_store_row (by rfl) 111 (.tmp 4) (.tmp 30) (by rfl) (w.heap.size + 1) (iC U (a, 0)) (by rfl) (by rfl) 111 (iC ⟨#[]⟩ (0, 0)) HN.out.res i_info rfl (iC_one _ _) ?_)
      refine bodyPost_ret (v := .tuple #[.agg (iC U (a, 0)), .int .i64 n]) ?_ rfl ⟨rfl, HR.out.below⟩
      simp only [results, Tryz.results71]
      simp
      exact read_two (load_i_var HR.out.res)
    · have hc' : (c != 0) = true := by rw [bne_iff_ne]; exact hc
      rw [if_pos hc]
      have C2 := Lib.hid (dfailed_any U (p, 0) 129)
      generalize RG.fl (p, 0) 129 = x9 at *
      go_enter Tryz.func71, Tryz.ntmps71
      go_upto_region 1 with fail
      change Code.wp _ _ _ _ ((w.alloc (.cells (iC U (p, 0)) 111)).alloc (.cells (iC ⟨#[]⟩ (0, 0)) 111))
      have H := IB.start w U (p, 0)
      generalize (w.alloc (.cells (iC U (p, 0)) 111)).alloc (.cells (iC ⟨#[]⟩ (0, 0)) 111) = W at *
      obtain ⟨⟨x0, x1, x2⟩, x3, x4⟩ := H.facts
      have HN := Lib.hid H
      clear H
      go_wp2_with fail
      refine (C1.out _).mono ?_
      rintro e w' ⟨rfl, rfl⟩
      go_wp2_with (refine wpl_load_i (by rfl) (.tmp 2) (by rfl) w.heap.size (by rfl) HN.out.box ?_)
      refine (C2.out _).mono ?_
      rintro e w2 ⟨rfl, b2⟩
      have H2 := Lib.hid (HN.out.next b2)
      have H3 := Lib.hid ((HN.out.next b2).setO U x9)
      have HR := Lib.hid (((HN.out.next b2).setO U x9).setR U x9)
      clear HN b2 C1 C2 x0 x1 x2 x3 x4
      go_wp2_with (first
        | refine wpList_store_row (by rfl) 111 (.tmp 2) (.tmp 26) (by rfl) w.heap.size (iC U x9) (by rfl) (by rfl) 111 (iC U (p, 0)) H2.out.box i_info rfl (iC_one _ _) ?_
        | refine wpl_load_i (by rfl) (.tmp 2) (by rfl) w.heap.size (by rfl) H3.out.box ?_
        | refine wpList_store_row (by rfl) 111 (.tmp 4) (.tmp 27) (by rfl) (w.heap.size + 1) (iC U x9) (by rfl) (by rfl) 111 (iC ⟨#[]⟩ (0, 0)) H3.out.res i_info rfl (iC_one _ _) ?_)
      refine bodyPost_ret (v := .tuple #[.agg (iC U x9), .int .i64 0]) ?_ rfl ⟨rfl, HR.out.below⟩
      simp only [results, Tryz.results71]
      simp
      exact read_two (load_i_var HR.out.res)
  · have h0' : (c0 != 0) = true := by rw [bne_iff_ne]; exact h0
    rw [if_pos h0]
    go_enter Tryz.func71, Tryz.ntmps71
    go_upto_region 1 with fail
    change Code.wp _ _ _ _ ((w.alloc (.cells (iC U (p, c0)) 111)).alloc (.cells (iC ⟨#[]⟩ (0, 0)) 111))
    have H := IB.start w U (p, c0)
    generalize (w.alloc (.cells (iC U (p, c0)) 111)).alloc (.cells (iC ⟨#[]⟩ (0, 0)) 111) = W at *
    obtain ⟨⟨x0, x1, x2⟩, x3, x4⟩ := H.facts
    have HN := Lib.hid H
    have HR := Lib.hid (H.setR U (p, c0))
    clear H C1
    go_wp2_with (first
      | refine wpl_load_i (by rfl) (.tmp 2) (by rfl) w.heap.size (by rfl) HN.out.box ?_
      | refine wpList_store_row (by rfl) 111 (.tmp 4) (.tmp 12) (by rfl) (w.heap.size + 1) (iC U (p, c0)) (by rfl) (by rfl) 111 (iC ⟨#[]⟩ (0, 0)) HN.out.res i_info rfl (iC_one _ _) ?_)
    refine bodyPost_ret (v := .tuple #[.agg (iC U (p, c0)), .int .i64 0]) ?_ rfl ⟨rfl, HR.out.below⟩
    simp only [results, Tryz.results71]
    simp
    exact read_two (load_i_var HR.out.res)
set_option maxRecDepth 100000 in
set_option maxHeartbeats 2000000 in
theorem dreadtext_any (U : ByteArray) (hU : U.size ≤ 140737488351232) (x : Int × Int) (w : World) :
    Calls Tryz.prog 74 #[.agg (iC U x)] w fun e w' => e = .returned (.tuple #[.agg (iC U (RG.rT U x).1), .string (RG.rT U x).2]) ∧ Below w.heap.size w w' := by
  obtain ⟨p, c0⟩ := x
  have C1 := Lib.hid (reftget_any U p hU)
  unfold RG.rT
  dsimp only
  by_cases h0 : c0 = 0
  · subst h0
    rw [if_neg (fun h => h rfl)]
    generalize TX.getT U p = Y at *
    obtain ⟨n, a, c⟩ := Y
    dsimp only at C1 ⊢
    by_cases hc : c = 0
    · subst hc
      rw [if_neg (fun h => h rfl)]
      go_enter Tryz.func74, Tryz.ntmps74
      go_upto_region 1 with fail
      change Code.wp _ _ _ _ ((w.alloc (.cells (iC U (p, 0)) 111)).alloc (.cells (iC ⟨#[]⟩ (0, 0)) 111))
      have H := IB.start w U (p, 0)
      generalize (w.alloc (.cells (iC U (p, 0)) 111)).alloc (.cells (iC ⟨#[]⟩ (0, 0)) 111) = W at *
      obtain ⟨⟨x0, x1, x2⟩, x3, x4⟩ := H.facts
      have HH := Lib.hid H
      clear H
      go_wp2_with fail
      refine (C1.out _).mono ?_
      rintro e w1 ⟨rfl, b1⟩
      have H1 := HH.out.next b1
      clear x0 x1 x2 x3 x4 b1 C1 HH
      obtain ⟨⟨x0, x1, x2⟩, x3, x4⟩ := H1.facts
      have HN := Lib.hid (H1.setAt a)
      have HR := Lib.hid ((H1.setAt a).setR U (a, 0))
      clear H1
      go_wp2_with (first
        | refine wpl_load_i (by rfl) (.tmp 1) (by rfl) w.heap.size (by rfl) HN.out.box ?_
        | refine wpList_store_row (by rfl) 111 (.tmp 2) (.tmp 27) (by rfl) (w.heap.size + 1) (iC U (a, 0)) (by rfl) (by rfl) 111 (iC ⟨#[]⟩ (0, 0)) HN.out.res i_info rfl (iC_one _ _) ?_)
      refine bodyPost_ret (v := .tuple #[.agg (iC U (a, 0)), .string n]) ?_ rfl ⟨rfl, HR.out.below⟩
      simp only [results, Tryz.results74]
      simp
      exact read_two (load_i_var HR.out.res)
    · have hc' : (c != 0) = true := by rw [bne_iff_ne]; exact hc
      rw [if_pos hc]
      have C2 := Lib.hid (dfailed_any U (p, 0) 129)
      generalize RG.fl (p, 0) 129 = x9 at *
      go_enter Tryz.func74, Tryz.ntmps74
      go_upto_region 1 with fail
      change Code.wp _ _ _ _ ((w.alloc (.cells (iC U (p, 0)) 111)).alloc (.cells (iC ⟨#[]⟩ (0, 0)) 111))
      have H := IB.start w U (p, 0)
      generalize (w.alloc (.cells (iC U (p, 0)) 111)).alloc (.cells (iC ⟨#[]⟩ (0, 0)) 111) = W at *
      obtain ⟨⟨x0, x1, x2⟩, x3, x4⟩ := H.facts
      have HH := Lib.hid H
      clear H
      go_wp2_with fail
      refine (C1.out _).mono ?_
      rintro e w1 ⟨rfl, b1⟩
      have HN := Lib.hid (HH.out.next b1)
      clear x0 x1 x2 x3 x4 b1 C1 HH
      go_wp2_with (refine wpl_load_i (by rfl) (.tmp 1) (by rfl) w.heap.size (by rfl) HN.out.box ?_)
      refine (C2.out _).mono ?_
      rintro e w2 ⟨rfl, b2⟩
      have H2 := Lib.hid (HN.out.next b2)
      have H3 := Lib.hid ((HN.out.next b2).setO U x9)
      have HR := Lib.hid (((HN.out.next b2).setO U x9).setR U x9)
      clear HN b2 C2
      go_wp2_with (first
        | refine wpList_store_row (by rfl) 111 (.tmp 1) (.tmp 23) (by rfl) w.heap.size (iC U x9) (by rfl) (by rfl) 111 (iC U (p, 0)) H2.out.box i_info rfl (iC_one _ _) ?_
        | refine wpl_load_i (by rfl) (.tmp 1) (by rfl) w.heap.size (by rfl) H3.out.box ?_
        | refine wpList_store_row (by rfl) 111 (.tmp 2) (.tmp 24) (by rfl) (w.heap.size + 1) (iC U x9) (by rfl) (by rfl) 111 (iC ⟨#[]⟩ (0, 0)) H3.out.res i_info rfl (iC_one _ _) ?_)
      refine bodyPost_ret (v := .tuple #[.agg (iC U x9), .string ⟨#[]⟩]) ?_ rfl ⟨rfl, HR.out.below⟩
      simp only [results, Tryz.results74]
      simp
      exact read_two (load_i_var HR.out.res)
  · have h0' : (c0 != 0) = true := by rw [bne_iff_ne]; exact h0
    rw [if_pos h0]
    go_enter Tryz.func74, Tryz.ntmps74
    go_upto_region 1 with fail
    change Code.wp _ _ _ _ ((w.alloc (.cells (iC U (p, c0)) 111)).alloc (.cells (iC ⟨#[]⟩ (0, 0)) 111))
    have H := IB.start w U (p, c0)
    generalize (w.alloc (.cells (iC U (p, c0)) 111)).alloc (.cells (iC ⟨#[]⟩ (0, 0)) 111) = W at *
    obtain ⟨⟨x0, x1, x2⟩, x3, x4⟩ := H.facts
    have HN := Lib.hid H
    have HR := Lib.hid (H.setR U (p, c0))
    clear H C1
    go_wp2_with (first
      | refine wpl_load_i (by rfl) (.tmp 1) (by rfl) w.heap.size (by rfl) HN.out.box ?_
      | refine wpList_store_row (by rfl) 111 (.tmp 2) (.tmp 10) (by rfl) (w.heap.size + 1) (iC U (p, c0)) (by rfl) (by rfl) 111 (iC ⟨#[]⟩ (0, 0)) HN.out.res i_info rfl (iC_one _ _) ?_)
    refine bodyPost_ret (v := .tuple #[.agg (iC U (p, c0)), .string ⟨#[]⟩]) ?_ rfl ⟨rfl, HR.out.below⟩
    simp only [results, Tryz.results74]
    simp
    exact read_two (load_i_var HR.out.res)

set_option maxRecDepth 100000 in
set_option maxHeartbeats 2000000 in
theorem dreaddata_any (U : ByteArray) (hU : U.size ≤ 140737488351232) (x : Int × Int) (w : World) :
    Calls Tryz.prog 99 #[.agg (iC U x)] w fun e w' => e = .returned (.tuple #[.agg (iC U (RG.rD U x).1), .string (RG.rD U x).2]) ∧ Below w.heap.size w w' := by
  obtain ⟨p, c0⟩ := x
  have C1 := Lib.hid (refgetdata_any U p (by unfold maxLen; omega))
  unfold RG.rD
  dsimp only
  by_cases h0 : c0 = 0
  · subst h0
    rw [if_neg (fun h => h rfl)]
    generalize VP.dat U p = Y at *
    obtain ⟨n, a, c⟩ := Y
    dsimp only at C1 ⊢
    by_cases hc : c = 0
    · subst hc
      rw [if_neg (fun h => h rfl)]
      go_enter Tryz.func99, Tryz.ntmps99
      go_upto_region 1 with fail
      change Code.wp _ _ _ _ ((w.alloc (.cells (iC U (p, 0)) 111)).alloc (.cells (iC ⟨#[]⟩ (0, 0)) 111))
      have H := IB.start w U (p, 0)
      generalize (w.alloc (.cells (iC U (p, 0)) 111)).alloc (.cells (iC ⟨#[]⟩ (0, 0)) 111) = W at *
      obtain ⟨⟨x0, x1, x2⟩, x3, x4⟩ := H.facts
      have HH := Lib.hid H
      clear H
      go_wp2_with fail
      refine (C1.out _).mono ?_
      rintro e w1 ⟨rfl, b1⟩
      have H1 := HH.out.next b1
      clear x0 x1 x2 x3 x4 b1 C1 HH
      obtain ⟨⟨x0, x1, x2⟩, x3, x4⟩ := H1.facts
      have HN := Lib.hid (H1.setAt a)
      have HR := Lib.hid ((H1.setAt a).setR U (a, 0))
      clear H1
      go_wp2_with (first
        | refine wpl_load_i (by rfl) (.tmp 1) (by rfl) w.heap.size (by rfl) HN.out.box ?_
        | refine wpList_store_row (by rfl) 111 (.tmp 2) (.tmp 27) (by rfl) (w.heap.size + 1) (iC U (a, 0)) (by rfl) (by rfl) 111 (iC ⟨#[]⟩ (0, 0)) HN.out.res i_info rfl (iC_one _ _) ?_)
      refine bodyPost_ret (v := .tuple #[.agg (iC U (a, 0)), .string n]) ?_ rfl ⟨rfl, HR.out.below⟩
      simp only [results, Tryz.results99]
      simp
      exact read_two (load_i_var HR.out.res)
    · have hc' : (c != 0) = true := by rw [bne_iff_ne]; exact hc
      rw [if_pos hc]
      have C2 := Lib.hid (dfailed_any U (p, 0) 129)
      generalize RG.fl (p, 0) 129 = x9 at *
      go_enter Tryz.func99, Tryz.ntmps99
      go_upto_region 1 with fail
      change Code.wp _ _ _ _ ((w.alloc (.cells (iC U (p, 0)) 111)).alloc (.cells (iC ⟨#[]⟩ (0, 0)) 111))
      have H := IB.start w U (p, 0)
      generalize (w.alloc (.cells (iC U (p, 0)) 111)).alloc (.cells (iC ⟨#[]⟩ (0, 0)) 111) = W at *
      obtain ⟨⟨x0, x1, x2⟩, x3, x4⟩ := H.facts
      have HH := Lib.hid H
      clear H
      go_wp2_with fail
      refine (C1.out _).mono ?_
      rintro e w1 ⟨rfl, b1⟩
      have HN := Lib.hid (HH.out.next b1)
      clear x0 x1 x2 x3 x4 b1 C1 HH
      go_wp2_with (refine wpl_load_i (by rfl) (.tmp 1) (by rfl) w.heap.size (by rfl) HN.out.box ?_)
      refine (C2.out _).mono ?_
      rintro e w2 ⟨rfl, b2⟩
      have H2 := Lib.hid (HN.out.next b2)
      have H3 := Lib.hid ((HN.out.next b2).setO U x9)
      have HR := Lib.hid (((HN.out.next b2).setO U x9).setR U x9)
      clear HN b2 C2
      go_wp2_with (first
        | refine wpList_store_row (by rfl) 111 (.tmp 1) (.tmp 23) (by rfl) w.heap.size (iC U x9) (by rfl) (by rfl) 111 (iC U (p, 0)) H2.out.box i_info rfl (iC_one _ _) ?_
        | refine wpl_load_i (by rfl) (.tmp 1) (by rfl) w.heap.size (by rfl) H3.out.box ?_
        | refine wpList_store_row (by rfl) 111 (.tmp 2) (.tmp 24) (by rfl) (w.heap.size + 1) (iC U x9) (by rfl) (by rfl) 111 (iC ⟨#[]⟩ (0, 0)) H3.out.res i_info rfl (iC_one _ _) ?_)
      refine bodyPost_ret (v := .tuple #[.agg (iC U x9), .string ⟨#[]⟩]) ?_ rfl ⟨rfl, HR.out.below⟩
      simp only [results, Tryz.results99]
      simp
      exact read_two (load_i_var HR.out.res)
  · have h0' : (c0 != 0) = true := by rw [bne_iff_ne]; exact h0
    rw [if_pos h0]
    go_enter Tryz.func99, Tryz.ntmps99
    go_upto_region 1 with fail
    change Code.wp _ _ _ _ ((w.alloc (.cells (iC U (p, c0)) 111)).alloc (.cells (iC ⟨#[]⟩ (0, 0)) 111))
    have H := IB.start w U (p, c0)
    generalize (w.alloc (.cells (iC U (p, c0)) 111)).alloc (.cells (iC ⟨#[]⟩ (0, 0)) 111) = W at *
    obtain ⟨⟨x0, x1, x2⟩, x3, x4⟩ := H.facts
    have HN := Lib.hid H
    have HR := Lib.hid (H.setR U (p, c0))
    clear H C1
    go_wp2_with (first
      | refine wpl_load_i (by rfl) (.tmp 1) (by rfl) w.heap.size (by rfl) HN.out.box ?_
      | refine wpList_store_row (by rfl) 111 (.tmp 2) (.tmp 10) (by rfl) (w.heap.size + 1) (iC U (p, c0)) (by rfl) (by rfl) 111 (iC ⟨#[]⟩ (0, 0)) HN.out.res i_info rfl (iC_one _ _) ?_)
    refine bodyPost_ret (v := .tuple #[.agg (iC U (p, c0)), .string ⟨#[]⟩]) ?_ rfl ⟨rfl, HR.out.below⟩
    simp only [results, Tryz.results99]
    simp
    exact read_two (load_i_var HR.out.res)

set_option maxRecDepth 100000 in
set_option maxHeartbeats 2000000 in
theorem dreadid_any (U : ByteArray) (hU : U.size ≤ maxLen) (x : Int × Int) (w : World) :
    Calls Tryz.prog 75 #[.agg (iC U x)] w fun e w' => e = .returned (.tuple #[.agg (iC U (RG.rI U x).1), .int .i64 (RG.rI U x).2]) ∧ Below w.heap.size w w' := by
  have C1 := Lib.hid (dreadnum_any U hU x 2)
  unfold RG.rI
  generalize RG.rN U 2 x = Y at *
  obtain ⟨⟨p, c⟩, n⟩ := Y
  dsimp only at C1 ⊢
  by_cases h : c = 0 ∧ n = 0
  · obtain ⟨rfl, rfl⟩ := h
    rw [if_pos ⟨rfl, rfl⟩]
    have C2 := Lib.hid (dfailed_any U (p, 0) 130)
    generalize RG.fl (p, 0) 130 = x9 at *
    go_enter Tryz.func75, Tryz.ntmps75
    go_upto_region 1 with fail
    change Code.wp _ _ _ _ ((w.alloc (.cells (iC U x) 111)).alloc (.cells (iC ⟨#[]⟩ (0, 0)) 111))
    have H := Lib.hid (IB.start w U x)
    generalize (w.alloc (.cells (iC U x) 111)).alloc (.cells (iC ⟨#[]⟩ (0, 0)) 111) = W at *
    go_wp2_with (refine wpl_load_i (by rfl) (.tmp 1) (by rfl) w.heap.size (by rfl) H.out.box ?_)
    refine (C1.out _).mono ?_
    rintro e w1 ⟨rfl, b1⟩
    have H1 := Lib.hid (H.out.next b1)
    have H2 := Lib.hid ((H.out.next b1).setO U (p, 0))
    obtain ⟨⟨x0, x1, x2⟩, x3, x4⟩ := H2.out.facts
    clear H b1 C1
    go_wp2_with (first
      | refine wpList_store_row (by rfl) 111 (.tmp 1) (.tmp 8) (by rfl) w.heap.size (iC U (p, 0)) (by rfl) (by rfl) 111 (iC U x) H1.out.box i_info rfl (iC_one _ _) ?_
      | refine wpl_load_i (by rfl) (.tmp 1) (by rfl) w.heap.size (by rfl) H2.out.box ?_)
    refine (C2.out _).mono ?_
    rintro e w2 ⟨rfl, b2⟩
    have H3 := Lib.hid (H2.out.next b2)
    have H4 := Lib.hid ((H2.out.next b2).setO U x9)
    have HR := Lib.hid (((H2.out.next b2).setO U x9).setR U x9)
    clear H1 H2 b2 C2 x0 x1 x2 x3 x4
    go_wp2_with (first
      | refine wpList_store_row (by rfl) 111 (.tmp 1) (.tmp 18) (by rfl) w.heap.size (iC U x9) (by rfl) (by rfl) 111 (iC U (p, 0)) H3.out.box i_info rfl (iC_one _ _) ?_
      | refine wpl_load_i (by rfl) (.tmp 1) (by rfl) w.heap.size (by rfl) H4.out.box ?_
      | refine wpList_store_row (by rfl) 111 (.tmp 2) (.tmp 19) (by rfl) (w.heap.size + 1) (iC U x9) (by rfl) (by rfl) 111 (iC ⟨#[]⟩ (0, 0)) H4.out.res i_info rfl (iC_one _ _) ?_)
    refine bodyPost_ret (v := .tuple #[.agg (iC U x9), .int .i64 0]) ?_ rfl ⟨rfl, HR.out.below⟩
    simp only [results, Tryz.results75]
    simp
    exact read_two (load_i_var HR.out.res)
  · rw [if_neg h]
    by_cases hc : c = 0
    · subst hc
      have hn : (n == 0) = false := by rw [beq_eq_false_iff_ne]; exact fun e => h ⟨rfl, e⟩
      clear h
      go_enter Tryz.func75, Tryz.ntmps75
      go_upto_region 1 with fail
      change Code.wp _ _ _ _ ((w.alloc (.cells (iC U x) 111)).alloc (.cells (iC ⟨#[]⟩ (0, 0)) 111))
      have H := Lib.hid (IB.start w U x)
      generalize (w.alloc (.cells (iC U x) 111)).alloc (.cells (iC ⟨#[]⟩ (0, 0)) 111) = W at *
      go_wp2_with (refine wpl_load_i (by rfl) (.tmp 1) (by rfl) w.heap.size (by rfl) H.out.box ?_)
      refine (C1.out _).mono ?_
      rintro e w1 ⟨rfl, b1⟩
      have H1 := Lib.hid (H.out.next b1)
      have H2 := Lib.hid ((H.out.next b1).setO U (p, 0))
      have HR := Lib.hid (((H.out.next b1).setO U (p, 0)).setR U (p, 0))
      obtain ⟨⟨x0, x1, x2⟩, x3, x4⟩ := H2.out.facts
      clear H b1 C1
      go_wp2_with (first
        | refine wpList_store_row (by rfl) 111 (.tmp 1) (.tmp 8) (by rfl) w.heap.size (iC U (p, 0)) (by rfl) (by rfl) 111 (iC U x) H1.out.box i_info rfl (iC_one _ _) ?_
        | refine wpl_load_i (by rfl) (.tmp 1) (by rfl) w.heap.size (by rfl) H2.out.box ?_
        | refine wpList_store_row (by rfl) 111 (.tmp 2) (.tmp 19) (by rfl) (w.heap.size + 1) (iC U (p, 0)) (by rfl) (by rfl) 111 (iC ⟨#[]⟩ (0, 0)) H2.out.res i_info rfl (iC_one _ _) ?_)
      refine bodyPost_ret (v := .tuple #[.agg (iC U (p, 0)), .int .i64 n]) ?_ rfl ⟨rfl, HR.out.below⟩
      simp only [results, Tryz.results75]
      simp
      exact read_two (load_i_var HR.out.res)
    · have hc' : (c == 0) = false := by rw [beq_eq_false_iff_ne]; exact hc
      clear h
      go_enter Tryz.func75, Tryz.ntmps75
      go_upto_region 1 with fail
      change Code.wp _ _ _ _ ((w.alloc (.cells (iC U x) 111)).alloc (.cells (iC ⟨#[]⟩ (0, 0)) 111))
      have H := Lib.hid (IB.start w U x)
      generalize (w.alloc (.cells (iC U x) 111)).alloc (.cells (iC ⟨#[]⟩ (0, 0)) 111) = W at *
      go_wp2_with (refine wpl_load_i (by rfl) (.tmp 1) (by rfl) w.heap.size (by rfl) H.out.box ?_)
      refine (C1.out _).mono ?_
      rintro e w1 ⟨rfl, b1⟩
      have H1 := Lib.hid (H.out.next b1)
      have H2 := Lib.hid ((H.out.next b1).setO U (p, c))
      have HR := Lib.hid (((H.out.next b1).setO U (p, c)).setR U (p, c))
      obtain ⟨⟨x0, x1, x2⟩, x3, x4⟩ := H2.out.facts
      clear H b1 C1
      go_wp2_with (first
        | refine wpList_store_row (by rfl) 111 (.tmp 1) (.tmp 8) (by rfl) w.heap.size (iC U (p, c)) (by rfl) (by rfl) 111 (iC U x) H1.out.box i_info rfl (iC_one _ _) ?_
        | refine wpl_load_i (by rfl) (.tmp 1) (by rfl) w.heap.size (by rfl) H2.out.box ?_
        | refine wpList_store_row (by rfl) 111 (.tmp 2) (.tmp 19) (by rfl) (w.heap.size + 1) (iC U (p, c)) (by rfl) (by rfl) 111 (iC ⟨#[]⟩ (0, 0)) H2.out.res i_info rfl (iC_one _ _) ?_)
      refine bodyPost_ret (v := .tuple #[.agg (iC U (p, c)), .int .i64 n]) ?_ rfl ⟨rfl, HR.out.below⟩
      simp only [results, Tryz.results75]
      simp
      exact read_two (load_i_var HR.out.res)
set_option maxHeartbeats 400000 in
theorem disset_any (n b : Int) (h0 : 0 ≤ n) (h1 : n ≤ 255) (hb : 1 ≤ b) (hb1 : b ≤ 128) (w : World) :
    Calls Tryz.prog 39 #[.int .i64 n, .int .i64 b] w fun e w' => e = .returned (.bool (n / b % 2 == 1)) ∧ Below w.heap.size w w' := by
  have hd := Int.ediv_le_self b h0
  have hd0 : 0 ≤ n / b := Int.ediv_nonneg h0 (by omega)
  have hne : (b == 0) = false := by rw [beq_eq_false_iff_ne]; omega
  have ht : n.tdiv b = n / b := Int.tdiv_eq_ediv_of_nonneg h0
  go_enter Tryz.func39, Tryz.ntmps39
  go_wp2_with fail
  refine bodyPost_ret (v := .bool (n / b % 2 == 1)) ?_ rfl ⟨rfl, Below.refl _ _⟩
  simp [results, Tryz.results39]
end Go.Proofs.YtemfcaaoobjgkaaGreatDoor
namespace Go.Proofs.YtemfcaaoobjgkaaGreatDoor
open Go.RowKit

set_option maxHeartbeats 1000000 in
theorem twice_any (A : Option Addr) (cap : Nat) (l : List Pr) (k : Nat) (id : Int) (w : World) (hl : l.length ≤ 1000) (hk : k ≤ l.length) (h : Props w A l) :
    Calls Tryz.prog 121 #[.slice A l.length cap, .int .i64 k, .int .i64 id] w fun e w' => e = .returned (.bool (PR.dup (l.take k) id)) ∧ w = w' := by
  by_cases h38 : (id == 38) = true
  · have hid : id = 38 := by simpa using h38
    subst hid
    rw [dup_38]
    clear h
    go_enter Tryz.func121, Tryz.ntmps121
    go_wp2
    go_ret
    exact ⟨rfl, rfl⟩
  · have h38' : (id == 38) = false := by simpa using h38
    rw [dup_ix h38']
    have H := Lib.hid h
    have hkl : (l.take k).length = k := by simp; omega
    have Hkl := Lib.hid hkl
    clear h h38 hkl
    go_enter Tryz.func121, Tryz.ntmps121
    go_wp2
    go_loop [7] (fun i => ∃ j : Nat, i = .int .i64 j ∧ j ≤ k ∧ Hid (ix id j ((l.take k).drop j) = ix id 0 (l.take k))) (fun i => k - (intOf i).toNat)
    case atStart => exact ⟨0, rfl, by omega, Lib.hid rfl⟩
    case round =>
      obtain ⟨j, rfl, hj, hj1⟩ := hrel
      by_cases hlt : j < k
      · obtain ⟨p, hp⟩ : ∃ p, l[j]? = some p := ⟨l[j]'(by omega), List.getElem?_eq_getElem _⟩
        have hp2 : (l.take k)[j]? = some p := by rw [List.getElem?_take, if_pos hlt]; exact hp
        obtain ⟨g, o, rfl, hg, r0, r1, r2, r3⟩ := H.out j p hp
        have i0 : (0 : Int) ≤ (j : Int) := by omega
        have i1 : (j : Int) < (l.length : Int) := by omega
        have i2 : (j : Int) < (k : Int) := by omega
        by_cases he : (p.id == id) = true
        · have E1 : Hid (decide (0 ≤ ix id 0 (l.take k)) = true) := Lib.hid (by rw [← hj1.out, ix_yes hp2 he]; simp)
          clear hp hp2 r1 r2 r3
          go_wp2
          go_ret
          exact ⟨by rw [E1.out]; rfl, rfl⟩
        · have he' : (p.id == id) = false := by simpa using he
          have E1 := Lib.hid (ix_no hp2 he')
          clear hp hp2 he r1 r2 r3
          go_wp2
          go_round
          case rel => exact ⟨j + 1, by go_num, by omega, Lib.hid (by rw [← E1.out]; exact hj1.out)⟩
          case measure => simp [intOf]; omega
      · have hjk : j = k := by omega
        subst hjk
        have E1 : Hid (decide (0 ≤ ix id 0 (l.take j)) = false) := Lib.hid (by
          have h1 := hj1.out
          have h2 := ix_end id (l.take j)
          rw [Hkl.out] at h2
          rw [← h1, h2]; rfl)
        go_wp2
        go_ret
        exact ⟨by rw [E1.out]; rfl, rfl⟩

end Go.Proofs.YtemfcaaoobjgkaaGreatDoor
namespace Go.Proofs.YtemfcaaoobjgkaaGreatDoor
open Go.RowKit

def RetR (w : World) (x : Pr × Int × Int) (e : Ending) (w' : World) : Prop :=
  e = .returned (.tuple #[.agg #[.int .i64 x.1.id, .int .i64 x.1.n, .string x.1.s, .string x.1.t], .int .i64 x.2.1, .bool (x.2.2 == 0)]) ∧ Below w.heap.size w w'
theorem RetR.mk {w w' : World} {x : Pr × Int × Int} {a b c d : Int} {s t : ByteArray} (h : x = (⟨a, b, s, t⟩, c, d)) (hb : Below w.heap.size w w') : RetR w x (.returned (.tuple #[.agg #[.int .i64 a, .int .i64 b, .string s, .string t], .int .i64 c, .bool (d == 0)])) w' := by
  subst h; exact ⟨rfl, hb⟩

set_option maxRecDepth 100000 in
set_option maxHeartbeats 8000000 in
theorem rread_any (s : ByteArray) (at_ id : Int) (hs : s.size ≤ 140737488351232) (h0 : PR.kd id ≠ 0) (w : World) :
    Calls Tryz.prog 122 #[.string s, .int .i64 at_, .agg #[.int .i64 id, .int .i64 0, .string ⟨#[]⟩, .string ⟨#[]⟩]] w (RetR w (PR.rdv s at_ id)) := by
  have hsm : s.size ≤ maxLen := by unfold maxLen; omega
  have CK := Lib.hid (rkind_any id)
  have hk := kd_parts _ (PR.kd_le id)
  have C4 := Lib.hid (fun W => refget_any s at_ hsm W)
  have C5 := Lib.hid (fun W => refgetdata_any s at_ hsm W)
  have C6 := Lib.hid (fun a W => reftget_any s a hs W)
  have C8 := Lib.hid (fun wk W => refread_any s at_ wk hsm W)
  have hv : PR.rdv s at_ id = PR.rdv s at_ id := rfl
  conv at hv => rhs; unfold PR.rdv
  have H0 : Hid (Below w.heap.size w ((w.alloc (.cells #[.int .i64 id, .int .i64 0, .string ⟨#[]⟩, .string ⟨#[]⟩] 115)).alloc (.cells #[.int .i64 0, .int .i64 0, .string ⟨#[]⟩, .string ⟨#[]⟩] 115))) := ((Below.refl w.heap.size w).alloc (Nat.le_refl _) _).alloc (by simp) _
  have h9 : Hid (((w.alloc (.cells #[.int .i64 id, .int .i64 0, .string ⟨#[]⟩, .string ⟨#[]⟩] 115)).alloc (.cells #[.int .i64 0, .int .i64 0, .string ⟨#[]⟩, .string ⟨#[]⟩] 115)).heap[w.heap.size]? = some (.cells #[.int .i64 id, .int .i64 0, .string ⟨#[]⟩, .string ⟨#[]⟩] 115 (0, 0))) := (Below.heap_alloc _ _ _ (by simp)).trans (heap_alloc_new w _)
  have h6 : Hid (((w.alloc (.cells #[.int .i64 id, .int .i64 0, .string ⟨#[]⟩, .string ⟨#[]⟩] 115)).alloc (.cells #[.int .i64 0, .int .i64 0, .string ⟨#[]⟩, .string ⟨#[]⟩] 115)).heap[w.heap.size + 1]? = some (.cells #[.int .i64 0, .int .i64 0, .string ⟨#[]⟩, .string ⟨#[]⟩] 115 (0, 0))) := by
    have := heap_alloc_new (w.alloc (.cells #[.int .i64 id, .int .i64 0, .string ⟨#[]⟩, .string ⟨#[]⟩] 115)) (.cells #[.int .i64 0, .int .i64 0, .string ⟨#[]⟩, .string ⟨#[]⟩] 115)
    rwa [show (w.alloc (.cells #[.int .i64 id, .int .i64 0, .string ⟨#[]⟩, .string ⟨#[]⟩] 115)).heap.size = w.heap.size + 1 by simp] at this
  have hsz : w.heap.size + 2 ≤ ((w.alloc (.cells #[.int .i64 id, .int .i64 0, .string ⟨#[]⟩, .string ⟨#[]⟩] 115)).alloc (.cells #[.int .i64 0, .int .i64 0, .string ⟨#[]⟩, .string ⟨#[]⟩] 115)).heap.size := by simp
  clear hsm
  generalize PR.kd id = k at *
  rcases hk with rfl | rfl | rfl | rfl | hk
  · simp only [if_true] at hv
    generalize VP.get s at_ = R at *
    obtain ⟨a, t, c⟩ := R
    simp only at C4 hv
    have HV := Lib.hid hv
    clear hv
    go_enter Tryz.func122, Tryz.ntmps122
    go_wp2_with fail
    refine (CK.out _).mono ?_
    rintro e w1 ⟨rfl, b1⟩
    have B1 : Hid (Below w.heap.size w w1) := H0.out.trans (b1.mono (by omega))
    have hs1 : w.heap.size + 2 ≤ w1.heap.size := by have := b1.size; omega
    have b6 : w1.heap[w.heap.size + 1]? = some (.cells #[.int .i64 0, .int .i64 0, .string ⟨#[]⟩, .string ⟨#[]⟩] 115 (0, 0)) := (b1.block _ (by omega)).trans h6.out
    have b9 : w1.heap[w.heap.size]? = some (.cells #[.int .i64 id, .int .i64 0, .string ⟨#[]⟩, .string ⟨#[]⟩] 115 (0, 0)) := (b1.block _ (by omega)).trans h9.out
    have H6 := Lib.hid b6
    have H9 := Lib.hid b9
    have z0 : w1.cell? ⟨w.heap.size + 1, 0, none⟩ = some (.int .i64 0) := by rw [cell_heap b6]; rfl
    have z1 : w1.cell? ⟨w.heap.size + 1, 1, none⟩ = some (.int .i64 0) := by rw [cell_heap b6]; rfl
    have z2 : w1.cell? ⟨w.heap.size + 1, 2, none⟩ = some (.string ⟨#[]⟩) := by rw [cell_heap b6]; rfl
    have z3 : w1.cell? ⟨w.heap.size + 1, 3, none⟩ = some (.string ⟨#[]⟩) := by rw [cell_heap b6]; rfl
    have f0 : w1.frozen? ⟨w.heap.size + 1, 0, none⟩ = false := frozen_heap b6
    have f1 : w1.frozen? ⟨w.heap.size + 1, 1, none⟩ = false := frozen_heap b6
    have f2 : w1.frozen? ⟨w.heap.size + 1, 2, none⟩ = false := frozen_heap b6
    have f3 : w1.frozen? ⟨w.heap.size + 1, 3, none⟩ = false := frozen_heap b6
    have p0 : w1.cell? ⟨w.heap.size, 0, none⟩ = some (.int .i64 id) := by rw [cell_heap b9]; rfl
    have p1 : w1.cell? ⟨w.heap.size, 1, none⟩ = some (.int .i64 0) := by rw [cell_heap b9]; rfl
    have p2 : w1.cell? ⟨w.heap.size, 2, none⟩ = some (.string ⟨#[]⟩) := by rw [cell_heap b9]; rfl
    have p3 : w1.cell? ⟨w.heap.size, 3, none⟩ = some (.string ⟨#[]⟩) := by rw [cell_heap b9]; rfl
    have g1 : w1.frozen? ⟨w.heap.size, 1, none⟩ = false := frozen_heap b9
    have g2 : w1.frozen? ⟨w.heap.size, 2, none⟩ = false := frozen_heap b9
    have g3 : w1.frozen? ⟨w.heap.size, 3, none⟩ = false := frozen_heap b9
    clear b1 b6 b9
    go_wp2_with fail
    refine (C4.out _).mono ?_
    rintro e w2 ⟨rfl, rfl⟩
    have hB := B1
    go_wp2
    refine bodyPost_ret (v := .tuple #[.agg #[.int .i64 id, .int .i64 a, .string ⟨#[]⟩, .string ⟨#[]⟩], .int .i64 t, .bool (c == 0)]) (by simp [results, Tryz.results122, go_sem, z0, z1, z2, z3]) rfl (RetR.mk HV.out ?_)
    (repeat (refine Below.setCell ?_ (by first | (simp; done) | (simp; omega) | omega) _)); exact hB.out
  · simp only [show ((5 : Int) = 4) = False by decide, if_true, if_false] at hv
    generalize VP.dat s at_ = R at *
    obtain ⟨a, t, c⟩ := R
    simp only at C5 hv
    have HV := Lib.hid hv
    clear hv
    go_enter Tryz.func122, Tryz.ntmps122
    go_wp2_with fail
    refine (CK.out _).mono ?_
    rintro e w1 ⟨rfl, b1⟩
    have B1 : Hid (Below w.heap.size w w1) := H0.out.trans (b1.mono (by omega))
    have hs1 : w.heap.size + 2 ≤ w1.heap.size := by have := b1.size; omega
    have b6 : w1.heap[w.heap.size + 1]? = some (.cells #[.int .i64 0, .int .i64 0, .string ⟨#[]⟩, .string ⟨#[]⟩] 115 (0, 0)) := (b1.block _ (by omega)).trans h6.out
    have b9 : w1.heap[w.heap.size]? = some (.cells #[.int .i64 id, .int .i64 0, .string ⟨#[]⟩, .string ⟨#[]⟩] 115 (0, 0)) := (b1.block _ (by omega)).trans h9.out
    have H6 := Lib.hid b6
    have H9 := Lib.hid b9
    have z0 : w1.cell? ⟨w.heap.size + 1, 0, none⟩ = some (.int .i64 0) := by rw [cell_heap b6]; rfl
    have z1 : w1.cell? ⟨w.heap.size + 1, 1, none⟩ = some (.int .i64 0) := by rw [cell_heap b6]; rfl
    have z2 : w1.cell? ⟨w.heap.size + 1, 2, none⟩ = some (.string ⟨#[]⟩) := by rw [cell_heap b6]; rfl
    have z3 : w1.cell? ⟨w.heap.size + 1, 3, none⟩ = some (.string ⟨#[]⟩) := by rw [cell_heap b6]; rfl
    have f0 : w1.frozen? ⟨w.heap.size + 1, 0, none⟩ = false := frozen_heap b6
    have f1 : w1.frozen? ⟨w.heap.size + 1, 1, none⟩ = false := frozen_heap b6
    have f2 : w1.frozen? ⟨w.heap.size + 1, 2, none⟩ = false := frozen_heap b6
    have f3 : w1.frozen? ⟨w.heap.size + 1, 3, none⟩ = false := frozen_heap b6
    have p0 : w1.cell? ⟨w.heap.size, 0, none⟩ = some (.int .i64 id) := by rw [cell_heap b9]; rfl
    have p1 : w1.cell? ⟨w.heap.size, 1, none⟩ = some (.int .i64 0) := by rw [cell_heap b9]; rfl
    have p2 : w1.cell? ⟨w.heap.size, 2, none⟩ = some (.string ⟨#[]⟩) := by rw [cell_heap b9]; rfl
    have p3 : w1.cell? ⟨w.heap.size, 3, none⟩ = some (.string ⟨#[]⟩) := by rw [cell_heap b9]; rfl
    have g1 : w1.frozen? ⟨w.heap.size, 1, none⟩ = false := frozen_heap b9
    have g2 : w1.frozen? ⟨w.heap.size, 2, none⟩ = false := frozen_heap b9
    have g3 : w1.frozen? ⟨w.heap.size, 3, none⟩ = false := frozen_heap b9
    clear b1 b6 b9
    go_wp2_with fail
    refine (C5.out _).mono ?_
    rintro e w2 ⟨rfl, b2⟩
    have hB : Hid (Below w.heap.size w w2) := B1.out.trans (b2.mono B1.out.size)
    have b6 : w2.heap[w.heap.size + 1]? = some (.cells #[.int .i64 0, .int .i64 0, .string ⟨#[]⟩, .string ⟨#[]⟩] 115 (0, 0)) := (b2.block _ (by omega)).trans H6.out
    have b9 : w2.heap[w.heap.size]? = some (.cells #[.int .i64 id, .int .i64 0, .string ⟨#[]⟩, .string ⟨#[]⟩] 115 (0, 0)) := (b2.block _ (by omega)).trans H9.out
    have z0 : w2.cell? ⟨w.heap.size + 1, 0, none⟩ = some (.int .i64 0) := by rw [cell_heap b6]; rfl
    have z1 : w2.cell? ⟨w.heap.size + 1, 1, none⟩ = some (.int .i64 0) := by rw [cell_heap b6]; rfl
    have z2 : w2.cell? ⟨w.heap.size + 1, 2, none⟩ = some (.string ⟨#[]⟩) := by rw [cell_heap b6]; rfl
    have z3 : w2.cell? ⟨w.heap.size + 1, 3, none⟩ = some (.string ⟨#[]⟩) := by rw [cell_heap b6]; rfl
    have f0 : w2.frozen? ⟨w.heap.size + 1, 0, none⟩ = false := frozen_heap b6
    have f1 : w2.frozen? ⟨w.heap.size + 1, 1, none⟩ = false := frozen_heap b6
    have f2 : w2.frozen? ⟨w.heap.size + 1, 2, none⟩ = false := frozen_heap b6
    have f3 : w2.frozen? ⟨w.heap.size + 1, 3, none⟩ = false := frozen_heap b6
    have p0 : w2.cell? ⟨w.heap.size, 0, none⟩ = some (.int .i64 id) := by rw [cell_heap b9]; rfl
    have p1 : w2.cell? ⟨w.heap.size, 1, none⟩ = some (.int .i64 0) := by rw [cell_heap b9]; rfl
    have p2 : w2.cell? ⟨w.heap.size, 2, none⟩ = some (.string ⟨#[]⟩) := by rw [cell_heap b9]; rfl
    have p3 : w2.cell? ⟨w.heap.size, 3, none⟩ = some (.string ⟨#[]⟩) := by rw [cell_heap b9]; rfl
    have g1 : w2.frozen? ⟨w.heap.size, 1, none⟩ = false := frozen_heap b9
    have g2 : w2.frozen? ⟨w.heap.size, 2, none⟩ = false := frozen_heap b9
    have g3 : w2.frozen? ⟨w.heap.size, 3, none⟩ = false := frozen_heap b9
    clear b2 b6 b9
    go_wp2
    refine bodyPost_ret (v := .tuple #[.agg #[.int .i64 id, .int .i64 0, .string a, .string ⟨#[]⟩], .int .i64 t, .bool (c == 0)]) (by simp [results, Tryz.results122, go_sem, z0, z1, z2, z3]) rfl (RetR.mk HV.out ?_)
    (repeat (refine Below.setCell ?_ (by first | (simp; done) | (simp; omega) | omega) _)); exact hB.out
  · simp only [show ((6 : Int) = 4) = False by decide, show ((6 : Int) = 5) = False by decide, if_true, if_false] at hv
    have C6i := Lib.hid (C6.out at_)
    generalize TX.getT s at_ = R at *
    obtain ⟨a, t, c⟩ := R
    simp only at C6i hv
    have HV := Lib.hid hv
    clear hv
    go_enter Tryz.func122, Tryz.ntmps122
    go_wp2_with fail
    refine (CK.out _).mono ?_
    rintro e w1 ⟨rfl, b1⟩
    have B1 : Hid (Below w.heap.size w w1) := H0.out.trans (b1.mono (by omega))
    have hs1 : w.heap.size + 2 ≤ w1.heap.size := by have := b1.size; omega
    have b6 : w1.heap[w.heap.size + 1]? = some (.cells #[.int .i64 0, .int .i64 0, .string ⟨#[]⟩, .string ⟨#[]⟩] 115 (0, 0)) := (b1.block _ (by omega)).trans h6.out
    have b9 : w1.heap[w.heap.size]? = some (.cells #[.int .i64 id, .int .i64 0, .string ⟨#[]⟩, .string ⟨#[]⟩] 115 (0, 0)) := (b1.block _ (by omega)).trans h9.out
    have H6 := Lib.hid b6
    have H9 := Lib.hid b9
    have z0 : w1.cell? ⟨w.heap.size + 1, 0, none⟩ = some (.int .i64 0) := by rw [cell_heap b6]; rfl
    have z1 : w1.cell? ⟨w.heap.size + 1, 1, none⟩ = some (.int .i64 0) := by rw [cell_heap b6]; rfl
    have z2 : w1.cell? ⟨w.heap.size + 1, 2, none⟩ = some (.string ⟨#[]⟩) := by rw [cell_heap b6]; rfl
    have z3 : w1.cell? ⟨w.heap.size + 1, 3, none⟩ = some (.string ⟨#[]⟩) := by rw [cell_heap b6]; rfl
    have f0 : w1.frozen? ⟨w.heap.size + 1, 0, none⟩ = false := frozen_heap b6
    have f1 : w1.frozen? ⟨w.heap.size + 1, 1, none⟩ = false := frozen_heap b6
    have f2 : w1.frozen? ⟨w.heap.size + 1, 2, none⟩ = false := frozen_heap b6
    have f3 : w1.frozen? ⟨w.heap.size + 1, 3, none⟩ = false := frozen_heap b6
    have p0 : w1.cell? ⟨w.heap.size, 0, none⟩ = some (.int .i64 id) := by rw [cell_heap b9]; rfl
    have p1 : w1.cell? ⟨w.heap.size, 1, none⟩ = some (.int .i64 0) := by rw [cell_heap b9]; rfl
    have p2 : w1.cell? ⟨w.heap.size, 2, none⟩ = some (.string ⟨#[]⟩) := by rw [cell_heap b9]; rfl
    have p3 : w1.cell? ⟨w.heap.size, 3, none⟩ = some (.string ⟨#[]⟩) := by rw [cell_heap b9]; rfl
    have g1 : w1.frozen? ⟨w.heap.size, 1, none⟩ = false := frozen_heap b9
    have g2 : w1.frozen? ⟨w.heap.size, 2, none⟩ = false := frozen_heap b9
    have g3 : w1.frozen? ⟨w.heap.size, 3, none⟩ = false := frozen_heap b9
    clear b1 b6 b9
    go_wp2_with fail
    refine (C6i.out _).mono ?_
    rintro e w2 ⟨rfl, b2⟩
    have hB : Hid (Below w.heap.size w w2) := B1.out.trans (b2.mono B1.out.size)
    have b6 : w2.heap[w.heap.size + 1]? = some (.cells #[.int .i64 0, .int .i64 0, .string ⟨#[]⟩, .string ⟨#[]⟩] 115 (0, 0)) := (b2.block _ (by omega)).trans H6.out
    have b9 : w2.heap[w.heap.size]? = some (.cells #[.int .i64 id, .int .i64 0, .string ⟨#[]⟩, .string ⟨#[]⟩] 115 (0, 0)) := (b2.block _ (by omega)).trans H9.out
    have z0 : w2.cell? ⟨w.heap.size + 1, 0, none⟩ = some (.int .i64 0) := by rw [cell_heap b6]; rfl
    have z1 : w2.cell? ⟨w.heap.size + 1, 1, none⟩ = some (.int .i64 0) := by rw [cell_heap b6]; rfl
    have z2 : w2.cell? ⟨w.heap.size + 1, 2, none⟩ = some (.string ⟨#[]⟩) := by rw [cell_heap b6]; rfl
    have z3 : w2.cell? ⟨w.heap.size + 1, 3, none⟩ = some (.string ⟨#[]⟩) := by rw [cell_heap b6]; rfl
    have f0 : w2.frozen? ⟨w.heap.size + 1, 0, none⟩ = false := frozen_heap b6
    have f1 : w2.frozen? ⟨w.heap.size + 1, 1, none⟩ = false := frozen_heap b6
    have f2 : w2.frozen? ⟨w.heap.size + 1, 2, none⟩ = false := frozen_heap b6
    have f3 : w2.frozen? ⟨w.heap.size + 1, 3, none⟩ = false := frozen_heap b6
    have p0 : w2.cell? ⟨w.heap.size, 0, none⟩ = some (.int .i64 id) := by rw [cell_heap b9]; rfl
    have p1 : w2.cell? ⟨w.heap.size, 1, none⟩ = some (.int .i64 0) := by rw [cell_heap b9]; rfl
    have p2 : w2.cell? ⟨w.heap.size, 2, none⟩ = some (.string ⟨#[]⟩) := by rw [cell_heap b9]; rfl
    have p3 : w2.cell? ⟨w.heap.size, 3, none⟩ = some (.string ⟨#[]⟩) := by rw [cell_heap b9]; rfl
    have g1 : w2.frozen? ⟨w.heap.size, 1, none⟩ = false := frozen_heap b9
    have g2 : w2.frozen? ⟨w.heap.size, 2, none⟩ = false := frozen_heap b9
    have g3 : w2.frozen? ⟨w.heap.size, 3, none⟩ = false := frozen_heap b9
    clear b2 b6 b9
    go_wp2
    refine bodyPost_ret (v := .tuple #[.agg #[.int .i64 id, .int .i64 0, .string a, .string ⟨#[]⟩], .int .i64 t, .bool (c == 0)]) (by simp [results, Tryz.results122, go_sem, z0, z1, z2, z3]) rfl (RetR.mk HV.out ?_)
    (repeat (refine Below.setCell ?_ (by first | (simp; done) | (simp; omega) | omega) _)); exact hB.out
  · simp only [show ((7 : Int) = 4) = False by decide, show ((7 : Int) = 5) = False by decide, show ((7 : Int) = 6) = False by decide, if_true, if_false] at hv
    have C6i := Lib.hid (C6.out at_)
    have C6j := Lib.hid (C6.out (TX.getT s at_).2.1)
    generalize TX.getT s (TX.getT s at_).2.1 = R2 at *
    generalize TX.getT s at_ = R at *
    obtain ⟨a, t, c⟩ := R
    obtain ⟨a2, t2, c2⟩ := R2
    simp only at C6i C6j hv
    by_cases hc : c = 0
    · subst hc
      simp only [ne_eq, not_true_eq_false, if_false] at hv
      have HV := Lib.hid hv
      clear hv
      go_enter Tryz.func122, Tryz.ntmps122
      go_wp2_with fail
      refine (CK.out _).mono ?_
      rintro e w1 ⟨rfl, b1⟩
      have B1 : Hid (Below w.heap.size w w1) := H0.out.trans (b1.mono (by omega))
      have hs1 : w.heap.size + 2 ≤ w1.heap.size := by have := b1.size; omega
      have b6 : w1.heap[w.heap.size + 1]? = some (.cells #[.int .i64 0, .int .i64 0, .string ⟨#[]⟩, .string ⟨#[]⟩] 115 (0, 0)) := (b1.block _ (by omega)).trans h6.out
      have b9 : w1.heap[w.heap.size]? = some (.cells #[.int .i64 id, .int .i64 0, .string ⟨#[]⟩, .string ⟨#[]⟩] 115 (0, 0)) := (b1.block _ (by omega)).trans h9.out
      have H6 := Lib.hid b6
      have H9 := Lib.hid b9
      have z0 : w1.cell? ⟨w.heap.size + 1, 0, none⟩ = some (.int .i64 0) := by rw [cell_heap b6]; rfl
      have z1 : w1.cell? ⟨w.heap.size + 1, 1, none⟩ = some (.int .i64 0) := by rw [cell_heap b6]; rfl
      have z2 : w1.cell? ⟨w.heap.size + 1, 2, none⟩ = some (.string ⟨#[]⟩) := by rw [cell_heap b6]; rfl
      have z3 : w1.cell? ⟨w.heap.size + 1, 3, none⟩ = some (.string ⟨#[]⟩) := by rw [cell_heap b6]; rfl
      have f0 : w1.frozen? ⟨w.heap.size + 1, 0, none⟩ = false := frozen_heap b6
      have f1 : w1.frozen? ⟨w.heap.size + 1, 1, none⟩ = false := frozen_heap b6
      have f2 : w1.frozen? ⟨w.heap.size + 1, 2, none⟩ = false := frozen_heap b6
      have f3 : w1.frozen? ⟨w.heap.size + 1, 3, none⟩ = false := frozen_heap b6
      have p0 : w1.cell? ⟨w.heap.size, 0, none⟩ = some (.int .i64 id) := by rw [cell_heap b9]; rfl
      have p1 : w1.cell? ⟨w.heap.size, 1, none⟩ = some (.int .i64 0) := by rw [cell_heap b9]; rfl
      have p2 : w1.cell? ⟨w.heap.size, 2, none⟩ = some (.string ⟨#[]⟩) := by rw [cell_heap b9]; rfl
      have p3 : w1.cell? ⟨w.heap.size, 3, none⟩ = some (.string ⟨#[]⟩) := by rw [cell_heap b9]; rfl
      have g1 : w1.frozen? ⟨w.heap.size, 1, none⟩ = false := frozen_heap b9
      have g2 : w1.frozen? ⟨w.heap.size, 2, none⟩ = false := frozen_heap b9
      have g3 : w1.frozen? ⟨w.heap.size, 3, none⟩ = false := frozen_heap b9
      clear b1 b6 b9
      go_wp2_with fail
      refine (C6i.out _).mono ?_
      rintro e w2 ⟨rfl, b2⟩
      have hB2 : Hid (Below w.heap.size w w2) := B1.out.trans (b2.mono B1.out.size)
      have hs2 : w.heap.size + 2 ≤ w2.heap.size := by have := b2.size; omega
      have K6 : Hid (w2.heap[w.heap.size + 1]? = some (.cells #[.int .i64 0, .int .i64 0, .string ⟨#[]⟩, .string ⟨#[]⟩] 115 (0, 0))) := (b2.block _ (by omega)).trans H6.out
      have K9 : Hid (w2.heap[w.heap.size]? = some (.cells #[.int .i64 id, .int .i64 0, .string ⟨#[]⟩, .string ⟨#[]⟩] 115 (0, 0))) := (b2.block _ (by omega)).trans H9.out
      have b6 : w2.heap[w.heap.size + 1]? = some (.cells #[.int .i64 0, .int .i64 0, .string ⟨#[]⟩, .string ⟨#[]⟩] 115 (0, 0)) := (b2.block _ (by omega)).trans H6.out
      have b9 : w2.heap[w.heap.size]? = some (.cells #[.int .i64 id, .int .i64 0, .string ⟨#[]⟩, .string ⟨#[]⟩] 115 (0, 0)) := (b2.block _ (by omega)).trans H9.out
      have z0 : w2.cell? ⟨w.heap.size + 1, 0, none⟩ = some (.int .i64 0) := by rw [cell_heap b6]; rfl
      have z1 : w2.cell? ⟨w.heap.size + 1, 1, none⟩ = some (.int .i64 0) := by rw [cell_heap b6]; rfl
      have z2 : w2.cell? ⟨w.heap.size + 1, 2, none⟩ = some (.string ⟨#[]⟩) := by rw [cell_heap b6]; rfl
      have z3 : w2.cell? ⟨w.heap.size + 1, 3, none⟩ = some (.string ⟨#[]⟩) := by rw [cell_heap b6]; rfl
      have f0 : w2.frozen? ⟨w.heap.size + 1, 0, none⟩ = false := frozen_heap b6
      have f1 : w2.frozen? ⟨w.heap.size + 1, 1, none⟩ = false := frozen_heap b6
      have f2 : w2.frozen? ⟨w.heap.size + 1, 2, none⟩ = false := frozen_heap b6
      have f3 : w2.frozen? ⟨w.heap.size + 1, 3, none⟩ = false := frozen_heap b6
      have p0 : w2.cell? ⟨w.heap.size, 0, none⟩ = some (.int .i64 id) := by rw [cell_heap b9]; rfl
      have p1 : w2.cell? ⟨w.heap.size, 1, none⟩ = some (.int .i64 0) := by rw [cell_heap b9]; rfl
      have p2 : w2.cell? ⟨w.heap.size, 2, none⟩ = some (.string ⟨#[]⟩) := by rw [cell_heap b9]; rfl
      have p3 : w2.cell? ⟨w.heap.size, 3, none⟩ = some (.string ⟨#[]⟩) := by rw [cell_heap b9]; rfl
      have g1 : w2.frozen? ⟨w.heap.size, 1, none⟩ = false := frozen_heap b9
      have g2 : w2.frozen? ⟨w.heap.size, 2, none⟩ = false := frozen_heap b9
      have g3 : w2.frozen? ⟨w.heap.size, 3, none⟩ = false := frozen_heap b9
      clear b2 b6 b9
      go_wp2_with fail
      refine (C6j.out _).mono ?_
      rintro e w3 ⟨rfl, b3⟩
      have hB : Hid (Below w.heap.size w w3) := hB2.out.trans (b3.mono hB2.out.size)
      have b6 : w3.heap[w.heap.size + 1]? = some (.cells #[.int .i64 0, .int .i64 0, .string ⟨#[]⟩, .string ⟨#[]⟩] 115 (0, 0)) := (b3.block _ (by omega)).trans K6.out
      have b9 : w3.heap[w.heap.size]? = some (.cells #[.int .i64 id, .int .i64 0, .string ⟨#[]⟩, .string ⟨#[]⟩] 115 (0, 0)) := (b3.block _ (by omega)).trans K9.out
      have z0 : w3.cell? ⟨w.heap.size + 1, 0, none⟩ = some (.int .i64 0) := by rw [cell_heap b6]; rfl
      have z1 : w3.cell? ⟨w.heap.size + 1, 1, none⟩ = some (.int .i64 0) := by rw [cell_heap b6]; rfl
      have z2 : w3.cell? ⟨w.heap.size + 1, 2, none⟩ = some (.string ⟨#[]⟩) := by rw [cell_heap b6]; rfl
      have z3 : w3.cell? ⟨w.heap.size + 1, 3, none⟩ = some (.string ⟨#[]⟩) := by rw [cell_heap b6]; rfl
      have f0 : w3.frozen? ⟨w.heap.size + 1, 0, none⟩ = false := frozen_heap b6
      have f1 : w3.frozen? ⟨w.heap.size + 1, 1, none⟩ = false := frozen_heap b6
      have f2 : w3.frozen? ⟨w.heap.size + 1, 2, none⟩ = false := frozen_heap b6
      have f3 : w3.frozen? ⟨w.heap.size + 1, 3, none⟩ = false := frozen_heap b6
      have p0 : w3.cell? ⟨w.heap.size, 0, none⟩ = some (.int .i64 id) := by rw [cell_heap b9]; rfl
      have p1 : w3.cell? ⟨w.heap.size, 1, none⟩ = some (.int .i64 0) := by rw [cell_heap b9]; rfl
      have p2 : w3.cell? ⟨w.heap.size, 2, none⟩ = some (.string ⟨#[]⟩) := by rw [cell_heap b9]; rfl
      have p3 : w3.cell? ⟨w.heap.size, 3, none⟩ = some (.string ⟨#[]⟩) := by rw [cell_heap b9]; rfl
      have g1 : w3.frozen? ⟨w.heap.size, 1, none⟩ = false := frozen_heap b9
      have g2 : w3.frozen? ⟨w.heap.size, 2, none⟩ = false := frozen_heap b9
      have g3 : w3.frozen? ⟨w.heap.size, 3, none⟩ = false := frozen_heap b9
      clear b3 b6 b9
      go_wp2
      refine bodyPost_ret (v := .tuple #[.agg #[.int .i64 id, .int .i64 0, .string a, .string a2], .int .i64 t2, .bool (c2 == 0)]) (by simp [results, Tryz.results122, go_sem, z0, z1, z2, z3]) rfl (RetR.mk HV.out ?_)
      (repeat (refine Below.setCell ?_ (by first | (simp; done) | (simp; omega) | omega) _)); exact hB.out
    · have hne : (c != 0) = true := by rw [bne_iff_ne]; exact hc
      have hfl : (c == 0) = false := by rw [beq_eq_false_iff_ne]; exact hc
      simp only [ne_eq, hc, not_false_eq_true, if_true] at hv
      have HV := Lib.hid hv
      have HF := Lib.hid hfl
      clear hv hc hfl
      go_enter Tryz.func122, Tryz.ntmps122
      go_wp2_with fail
      refine (CK.out _).mono ?_
      rintro e w1 ⟨rfl, b1⟩
      have B1 : Hid (Below w.heap.size w w1) := H0.out.trans (b1.mono (by omega))
      have hs1 : w.heap.size + 2 ≤ w1.heap.size := by have := b1.size; omega
      have b6 : w1.heap[w.heap.size + 1]? = some (.cells #[.int .i64 0, .int .i64 0, .string ⟨#[]⟩, .string ⟨#[]⟩] 115 (0, 0)) := (b1.block _ (by omega)).trans h6.out
      have b9 : w1.heap[w.heap.size]? = some (.cells #[.int .i64 id, .int .i64 0, .string ⟨#[]⟩, .string ⟨#[]⟩] 115 (0, 0)) := (b1.block _ (by omega)).trans h9.out
      have H6 := Lib.hid b6
      have H9 := Lib.hid b9
      have z0 : w1.cell? ⟨w.heap.size + 1, 0, none⟩ = some (.int .i64 0) := by rw [cell_heap b6]; rfl
      have z1 : w1.cell? ⟨w.heap.size + 1, 1, none⟩ = some (.int .i64 0) := by rw [cell_heap b6]; rfl
      have z2 : w1.cell? ⟨w.heap.size + 1, 2, none⟩ = some (.string ⟨#[]⟩) := by rw [cell_heap b6]; rfl
      have z3 : w1.cell? ⟨w.heap.size + 1, 3, none⟩ = some (.string ⟨#[]⟩) := by rw [cell_heap b6]; rfl
      have f0 : w1.frozen? ⟨w.heap.size + 1, 0, none⟩ = false := frozen_heap b6
      have f1 : w1.frozen? ⟨w.heap.size + 1, 1, none⟩ = false := frozen_heap b6
      have f2 : w1.frozen? ⟨w.heap.size + 1, 2, none⟩ = false := frozen_heap b6
      have f3 : w1.frozen? ⟨w.heap.size + 1, 3, none⟩ = false := frozen_heap b6
      have p0 : w1.cell? ⟨w.heap.size, 0, none⟩ = some (.int .i64 id) := by rw [cell_heap b9]; rfl
      have p1 : w1.cell? ⟨w.heap.size, 1, none⟩ = some (.int .i64 0) := by rw [cell_heap b9]; rfl
      have p2 : w1.cell? ⟨w.heap.size, 2, none⟩ = some (.string ⟨#[]⟩) := by rw [cell_heap b9]; rfl
      have p3 : w1.cell? ⟨w.heap.size, 3, none⟩ = some (.string ⟨#[]⟩) := by rw [cell_heap b9]; rfl
      have g1 : w1.frozen? ⟨w.heap.size, 1, none⟩ = false := frozen_heap b9
      have g2 : w1.frozen? ⟨w.heap.size, 2, none⟩ = false := frozen_heap b9
      have g3 : w1.frozen? ⟨w.heap.size, 3, none⟩ = false := frozen_heap b9
      clear b1 b6 b9
      go_wp2_with fail
      refine (C6i.out _).mono ?_
      rintro e w2 ⟨rfl, b2⟩
      have hB : Hid (Below w.heap.size w w2) := B1.out.trans (b2.mono B1.out.size)
      have b6 : w2.heap[w.heap.size + 1]? = some (.cells #[.int .i64 0, .int .i64 0, .string ⟨#[]⟩, .string ⟨#[]⟩] 115 (0, 0)) := (b2.block _ (by omega)).trans H6.out
      have b9 : w2.heap[w.heap.size]? = some (.cells #[.int .i64 id, .int .i64 0, .string ⟨#[]⟩, .string ⟨#[]⟩] 115 (0, 0)) := (b2.block _ (by omega)).trans H9.out
      have z0 : w2.cell? ⟨w.heap.size + 1, 0, none⟩ = some (.int .i64 0) := by rw [cell_heap b6]; rfl
      have z1 : w2.cell? ⟨w.heap.size + 1, 1, none⟩ = some (.int .i64 0) := by rw [cell_heap b6]; rfl
      have z2 : w2.cell? ⟨w.heap.size + 1, 2, none⟩ = some (.string ⟨#[]⟩) := by rw [cell_heap b6]; rfl
      have z3 : w2.cell? ⟨w.heap.size + 1, 3, none⟩ = some (.string ⟨#[]⟩) := by rw [cell_heap b6]; rfl
      have f0 : w2.frozen? ⟨w.heap.size + 1, 0, none⟩ = false := frozen_heap b6
      have f1 : w2.frozen? ⟨w.heap.size + 1, 1, none⟩ = false := frozen_heap b6
      have f2 : w2.frozen? ⟨w.heap.size + 1, 2, none⟩ = false := frozen_heap b6
      have f3 : w2.frozen? ⟨w.heap.size + 1, 3, none⟩ = false := frozen_heap b6
      have p0 : w2.cell? ⟨w.heap.size, 0, none⟩ = some (.int .i64 id) := by rw [cell_heap b9]; rfl
      have p1 : w2.cell? ⟨w.heap.size, 1, none⟩ = some (.int .i64 0) := by rw [cell_heap b9]; rfl
      have p2 : w2.cell? ⟨w.heap.size, 2, none⟩ = some (.string ⟨#[]⟩) := by rw [cell_heap b9]; rfl
      have p3 : w2.cell? ⟨w.heap.size, 3, none⟩ = some (.string ⟨#[]⟩) := by rw [cell_heap b9]; rfl
      have g1 : w2.frozen? ⟨w.heap.size, 1, none⟩ = false := frozen_heap b9
      have g2 : w2.frozen? ⟨w.heap.size, 2, none⟩ = false := frozen_heap b9
      have g3 : w2.frozen? ⟨w.heap.size, 3, none⟩ = false := frozen_heap b9
      clear b2 b6 b9
      go_wp2
      refine bodyPost_ret (v := .tuple #[.agg #[.int .i64 id, .int .i64 0, .string ⟨#[]⟩, .string ⟨#[]⟩], .int .i64 0, .bool false]) (by simp [results, Tryz.results122, go_sem, z0, z1, z2, z3]) rfl ?_
      rw [← HF.out]
      refine RetR.mk HV.out ?_
      (repeat (refine Below.setCell ?_ (by first | (simp; done) | (simp; omega) | omega) _)); exact hB.out
  · have hk3 : k = 1 ∨ k = 2 ∨ k = 3 := by omega
    have C9 := Lib.hid (rwidth_any k hk3)
    rw [if_neg (by omega), if_neg (by omega), if_neg (by omega), if_neg (by omega)] at hv
    have e4 : (k == 4) = false := by rw [beq_eq_false_iff_ne]; omega
    have e5 : (k == 5) = false := by rw [beq_eq_false_iff_ne]; omega
    have e6 : (k == 6) = false := by rw [beq_eq_false_iff_ne]; omega
    have e7 : (k == 7) = false := by rw [beq_eq_false_iff_ne]; omega
    have C8k := Lib.hid (C8.out (PR.wd k))
    clear hk hk3 h0 C4 C5 C6 C8
    generalize PR.wd k = wk at *
    generalize VP.rd s at_ wk = R at *
    obtain ⟨a, t, c⟩ := R
    simp only at C8k hv
    have HV := Lib.hid hv
    clear hv
    go_enter Tryz.func122, Tryz.ntmps122
    go_wp2_with fail
    refine (CK.out _).mono ?_
    rintro e w1 ⟨rfl, b1⟩
    have B1 : Hid (Below w.heap.size w w1) := H0.out.trans (b1.mono (by omega))
    have hs1 : w.heap.size + 2 ≤ w1.heap.size := by have := b1.size; omega
    have b6 : w1.heap[w.heap.size + 1]? = some (.cells #[.int .i64 0, .int .i64 0, .string ⟨#[]⟩, .string ⟨#[]⟩] 115 (0, 0)) := (b1.block _ (by omega)).trans h6.out
    have b9 : w1.heap[w.heap.size]? = some (.cells #[.int .i64 id, .int .i64 0, .string ⟨#[]⟩, .string ⟨#[]⟩] 115 (0, 0)) := (b1.block _ (by omega)).trans h9.out
    have H6 := Lib.hid b6
    have H9 := Lib.hid b9
    have z0 : w1.cell? ⟨w.heap.size + 1, 0, none⟩ = some (.int .i64 0) := by rw [cell_heap b6]; rfl
    have z1 : w1.cell? ⟨w.heap.size + 1, 1, none⟩ = some (.int .i64 0) := by rw [cell_heap b6]; rfl
    have z2 : w1.cell? ⟨w.heap.size + 1, 2, none⟩ = some (.string ⟨#[]⟩) := by rw [cell_heap b6]; rfl
    have z3 : w1.cell? ⟨w.heap.size + 1, 3, none⟩ = some (.string ⟨#[]⟩) := by rw [cell_heap b6]; rfl
    have f0 : w1.frozen? ⟨w.heap.size + 1, 0, none⟩ = false := frozen_heap b6
    have f1 : w1.frozen? ⟨w.heap.size + 1, 1, none⟩ = false := frozen_heap b6
    have f2 : w1.frozen? ⟨w.heap.size + 1, 2, none⟩ = false := frozen_heap b6
    have f3 : w1.frozen? ⟨w.heap.size + 1, 3, none⟩ = false := frozen_heap b6
    have p0 : w1.cell? ⟨w.heap.size, 0, none⟩ = some (.int .i64 id) := by rw [cell_heap b9]; rfl
    have p1 : w1.cell? ⟨w.heap.size, 1, none⟩ = some (.int .i64 0) := by rw [cell_heap b9]; rfl
    have p2 : w1.cell? ⟨w.heap.size, 2, none⟩ = some (.string ⟨#[]⟩) := by rw [cell_heap b9]; rfl
    have p3 : w1.cell? ⟨w.heap.size, 3, none⟩ = some (.string ⟨#[]⟩) := by rw [cell_heap b9]; rfl
    have g1 : w1.frozen? ⟨w.heap.size, 1, none⟩ = false := frozen_heap b9
    have g2 : w1.frozen? ⟨w.heap.size, 2, none⟩ = false := frozen_heap b9
    have g3 : w1.frozen? ⟨w.heap.size, 3, none⟩ = false := frozen_heap b9
    clear b1 b6 b9
    go_wp2_with fail
    refine (C9.out _).mono ?_
    rintro e w2 ⟨rfl, rfl⟩
    go_wp2_with fail
    refine (C8k.out _).mono ?_
    rintro e w2 ⟨rfl, rfl⟩
    have hB := B1
    go_wp2
    refine bodyPost_ret (v := .tuple #[.agg #[.int .i64 id, .int .i64 a, .string ⟨#[]⟩, .string ⟨#[]⟩], .int .i64 t, .bool (c == 0)]) (by simp [results, Tryz.results122, go_sem, z0, z1, z2, z3]) rfl (RetR.mk HV.out ?_)
    (repeat (refine Below.setCell ?_ (by first | (simp; done) | (simp; omega) | omega) _)); exact hB.out
end Go.Proofs.YtemfcaaoobjgkaaGreatDoor
namespace Go.Proofs.YtemfcaaoobjgkaaGreatDoor
open Go.RowKit
attribute [local go_sem ↓] Go.wp_at_zero Go.wp_at_succ

theorem rpInfo : (Tryz.prog.info? 115).map (fun i => (i.zero, i.size, i.bytes)) = some (some (.agg #[.int .i64 0, .int .i64 0, .string ⟨#[]⟩, .string ⟨#[]⟩]), 4, 48) := by kernel_rfl
/-- Four cells of a block. -/
def S4 (b : Nat) (a0 a1 a2 a3 : Value) (w : World) : Prop := w.cell? ⟨b, 0, none⟩ = some a0 ∧ w.cell? ⟨b, 1, none⟩ = some a1 ∧ w.cell? ⟨b, 2, none⟩ = some a2 ∧ w.cell? ⟨b, 3, none⟩ = some a3
theorem S4.alloc {b : Nat} {a0 a1 a2 a3 : Value} {w : World} (h : S4 b a0 a1 a2 a3 w) (hb : b < w.heap.size) (o : Obj) : S4 b a0 a1 a2 a3 (w.alloc o) :=
  ⟨(World.cell?_alloc_lt _ _ _ hb).trans h.1, (World.cell?_alloc_lt _ _ _ hb).trans h.2.1, (World.cell?_alloc_lt _ _ _ hb).trans h.2.2.1, (World.cell?_alloc_lt _ _ _ hb).trans h.2.2.2⟩
theorem S4.grown {b : Nat} {a0 a1 a2 a3 : Value} {w w' : World} {row : Option Nat} (h : S4 b a0 a1 a2 a3 w) (hg : w.grownBy w' row) (hb : b < w.heap.size) (hne : some b ≠ row) : S4 b a0 a1 a2 a3 w' :=
  ⟨(hg.cell_far _ hb hne).trans h.1, (hg.cell_far _ hb hne).trans h.2.1, (hg.cell_far _ hb hne).trans h.2.2.1, (hg.cell_far _ hb hne).trans h.2.2.2⟩

/-- Two rows of the same properties. -/
def Rows2 (N : Nat) (w : World) (a b : Value) (l : List Pr) : Prop :=
  w.ownsRow N 116 4 a l.length (flatP l) ∧ w.ownsRow N 115 4 b l.length (flatP l)
theorem Rows2.below {N : Nat} {w w' : World} {a b : Value} {l : List Pr} (h : Rows2 N w a b l) (hb : Below w.heap.size w w') : Rows2 N w' a b l := ⟨own_below h.1 hb, own_below h.2 hb⟩

section
variable {N : Nat} {wc wa w1 wb w2 : World} {a b : Value} {l : List Pr}
theorem Rows2.kept1 (h : Rows2 N wc a b l) (hg : wa.grownBy w1 a.ownBlock) (ha : Below wc.heap.size wc wa) : w1.ownsRow N 115 4 b l.length (flatP l) :=
  (own_below h.2 ha).kept hg (rows_apart (own_below h.2 ha) (own_below h.1 ha) (by decide))
theorem Rows2.step (h : Rows2 N wc a b l) (p : Pr) (hN : N ≤ wc.heap.size) {v1 v2 : Value}
    (ha : Below wc.heap.size wc wa) (q1 : wa.grownBy w1 a.ownBlock) (o1 : w1.ownsRow N 116 4 v1 (l.length + 1) (flatP l ++ [.int .i64 p.id, .int .i64 p.n, .string p.s, .string p.t]))
    (hb : Below w1.heap.size w1 wb) (q2 : wb.grownBy w2 b.ownBlock) (o2 : w2.ownsRow N 115 4 v2 (l.length + 1) (flatP l ++ [.int .i64 p.id, .int .i64 p.n, .string p.s, .string p.t])) :
    Rows2 N w2 v1 v2 (l ++ [p]) ∧ Below N wc w2 := by
  have k1 := h.kept1 q1 ha
  have sa := ha.size; have s1 := q1.size; have sb := hb.size
  have e1 := own_below o1 hb
  have e2 := e1.kept q2 (rows_apart e1 (own_below k1 hb) (by decide))
  refine ⟨⟨?_, ?_⟩, ?_⟩
  · rw [flatP_snoc]; simpa using e2
  · rw [flatP_snoc]; simpa using o2
  · have b1 := (ha.mono hN).grown q1 (by omega) (fun k hk => ((own_below h.1 ha).lt k hk).1)
    exact (b1.trans (hb.mono (by omega))).grown q2 (by omega) (fun k hk => ((own_below k1 hb).lt k hk).1)
end

end Go.Proofs.YtemfcaaoobjgkaaGreatDoor
namespace Go.Proofs.YtemfcaaoobjgkaaGreatDoor
open Go.RowKit

namespace PR
theorem g1_many (T : ByteArray) (p : Int) (out : List Pr) (h : 64 ≤ out.length) : g1 T p out = (zp, 0, 149) := by unfold g1; rw [if_pos h]
theorem g1_bad (T : ByteArray) (p : Int) (out : List Pr) (h : ¬ 64 ≤ out.length) (hc : (VP.get T p).2.2 ≠ 0) : g1 T p out = (zp, 0, 129) := by unfold g1; rw [if_neg h, if_pos hc]
theorem g1_id (T : ByteArray) (p : Int) (out : List Pr) (h : ¬ 64 ≤ out.length) {id t : Int} (hg : VP.get T p = (id, t, 0)) (hc : idC out id ≠ 0) : g1 T p out = (zp, 0, idC out id) := by unfold g1; rw [if_neg h, hg, if_neg (by simp), if_pos hc]
theorem g1_val (T : ByteArray) (p : Int) (out : List Pr) (h : ¬ 64 ≤ out.length) {id t : Int} (hg : VP.get T p = (id, t, 0)) (hc : idC out id = 0) : g1 T p out = if (rdv T t id).2.2 ≠ 0 then (zp, 0, 129) else rdv T t id := by unfold g1; rw [if_neg h, hg, if_neg (by simp), if_neg (by simp [hc])]
end PR
theorem str_mid (s : ByteArray) (f m : Nat) (h : f + m ≤ s.size) (w : World) :
    (Instr.slice 9 (.string s) (some (.int .i64 (f : Int))) (some (.int .i64 ((f : Int) + (m : Int)))) none).run Tryz.prog w = .ok (.string (s.extract f (f + m))) w := by
  rw [run_slice_string_if w 9 s .i64 .i64 _ _ Tryz.underlying9, if_pos (by omega), if_pos (by omega)]
  rw [show ((f : Int) + (m : Int)).toNat = f + m by omega, show ((f : Int)).toNat = f by omega]

set_option maxRecDepth 100000 in
set_option maxHeartbeats 8000000 in
theorem rgetall_any (s : ByteArray) (at_ : Int) (hs : s.size ≤ 140737488351232) (w : World) :
    Calls Tryz.prog 101 #[.string s, .int .i64 at_] w (GetP .i64 115 w (PR.getL s at_)) := by
  have hsm : s.size ≤ maxLen := by unfold maxLen; omega
  have C1 := Lib.hid (fun W => refget_any s at_ hsm W)
  by_cases hc : (VP.get s at_).2.2 = 0
  · obtain ⟨m, f, hg, hf⟩ := PR.get_at s at_ hc
    clear hc
    by_cases hl : (s.size : Int) - f < m
    · have HV := Lib.hid (PR.getL_few s at_ m f hg hl)
      rw [hg] at C1
      simp only at C1
      clear hg
      go_enter Tryz.func101, Tryz.ntmps101
      go_wp2_with fail
      refine (C1.out _).mono ?_
      rintro e w1 ⟨rfl, rfl⟩
      go_wp2
      go_ret3
      exact GetP.mk HV.out (own_nil _ _ _ _) (Below.refl _ _)
    · have hfm : f + m ≤ s.size := by omega
      have HL : Hid (∀ x, PR.gl (s.extract f (f + m)) 66 0 [] = x → PR.getL s at_ = if x.2 ≠ 0 then ([], 0, x.2) else (x.1, (f : Int) + m, 0)) := fun x hx => PR.getL_in s at_ m f hg hl hx
      have hok : Hid (∀ (p : Nat) out, (PR.g1 (s.extract f (f + m)) (p : Int) out).2.2 = 0 → ∃ q : Nat, (PR.g1 (s.extract f (f + m)) (p : Int) out).2.1 = q ∧ p < q ∧ q ≤ (s.extract f (f + m)).size ∧ out.length < 64) := fun p out h => PR.g1_ok _ p out h
      have hUs : Hid ((s.extract f (f + m)).size = m) := Lib.hid (by rw [ByteArray.size_extract]; omega)
      have hUm : Hid ((s.extract f (f + m)).size ≤ 140737488351232) := Lib.hid (by rw [ByteArray.size_extract]; omega)
      have hsl := str_mid s f m hfm
      rw [hg] at C1
      simp only at C1
      obtain ⟨i0, hi0, hz0, hz1, hz2⟩ := info_parts rpInfo
      have Hi := Lib.hid hi0; have Hz0 := Lib.hid hz0; have Hz1 := Lib.hid hz1; have Hz2 := Lib.hid hz2
      clear hg hl hi0 hz0 hz1 hz2
      generalize s.extract f (f + m) = U at *
      generalize PR.getL s at_ = GL at *
      go_enter Tryz.func101, Tryz.ntmps101
      go_wp2_with fail
      refine (C1.out _).mono ?_
      rintro e w1 ⟨rfl, rfl⟩
      clear C1
      go_wp2
      go_loopw [12, 11] (fun a lv wr => ∃ (p : Nat) (out : List Pr), a = .int .i64 (p : Int) ∧ p ≤ U.size ∧ out.length ≤ 64 ∧ (∃ A cap, lv = .slice A out.length cap) ∧ Hid (GetRel w U f out p lv 115 wr)) (fun _ lv _ => 66 - slLen lv)
      case atStart => exact ⟨0, [], by simp, by omega, by simp, ⟨none, 0, rfl⟩, Lib.hid ⟨rfl, own_nil _ _ _ _, Below.refl _ _, rfl⟩⟩
      case round =>
        obtain ⟨p, out, rfl, hp, hol, ⟨A, cap, rfl⟩, hrl⟩ := hrel
        obtain ⟨hgl, hown, hb, _⟩ := hrl.out
        have Hgl := Lib.hid hgl
        have Hown := Lib.hid hown
        have Hb := Lib.hid hb
        have hsr := hb.size
        obtain ⟨u, hu⟩ : ∃ u, 66 - out.length = u + 1 := ⟨65 - out.length, by omega⟩
        by_cases hlt : p < U.size
        · have hpU : (p : Int) < (U.size : Int) := by omega
          by_cases h64 : 64 ≤ out.length
          · have HV : Hid (GL = ([], 0, 149)) := Lib.hid (by
              have h1 := PR.gl_bad U u p out hpU (PR.g1_many U p out h64) (by decide)
              rw [← hu, hgl] at h1
              have h2 := HL.out _ h1
              rw [if_pos (by decide)] at h2
              exact h2)
            clear hgl hown hb hrl hu
            have j64 : (64 : Int) ≤ (out.length : Int) := by omega
            clear h64
            go_wp2
            go_ret3
            exact GetP.mk HV.out (own_nil _ _ _ _) Hb.out
          · have j64 : (out.length : Int) < 64 := by omega
            have CG := Lib.hid (fun W => refget_any U p (by have := hUm.out; unfold maxLen; omega) W)
            obtain ⟨⟨id, t, c⟩, hG⟩ : ∃ D, VP.get U (p : Int) = D := ⟨_, rfl⟩
            rw [hG] at CG
            simp only at CG
            have CK := Lib.hid (rkind_any id)
            by_cases hc0 : c = 0
            · subst hc0
              by_cases hk0 : PR.kd id = 0
              · have hic : PR.idC out id = 129 := by unfold PR.idC; rw [if_pos hk0]
                have HV : Hid (GL = ([], 0, 129)) := Lib.hid (by
                  have h1 := PR.gl_bad U u p out hpU ((PR.g1_id U p out h64 hG (by rw [hic]; decide)).trans (by rw [hic])) (by decide)
                  rw [← hu, hgl] at h1
                  have h2 := HL.out _ h1
                  rw [if_pos (by decide)] at h2
                  exact h2)
                rw [hk0] at CK
                clear hic hG hk0 h64
                clear hgl hown hb hrl hu
                go_wp2_with fail
                refine (CG.out _).mono ?_
                rintro e w2 ⟨rfl, rfl⟩
                go_wp2_with fail
                refine (CK.out _).mono ?_
                rintro e w2 ⟨rfl, b2⟩
                have B2 := Lib.hid b2
                clear b2
                go_wp2
                go_ret3
                exact GetP.mk HV.out (own_nil _ _ _ _) (Hb.out.trans (B2.out.mono hsr))
              · have CT : Hid (∀ W', Below wr.heap.size wr W' → Calls Tryz.prog 121 #[.slice A out.length cap, .int .i64 out.length, .int .i64 id] W' fun e w' => e = .returned (.bool (PR.dup out id)) ∧ W' = w') := fun W' hW => by
                  have := twice_any A cap out out.length id W' (by omega) (Nat.le_refl _) ((own_props hown).below hW)
                  rwa [List.take_length] at this
                have CR := Lib.hid (fun W => rread_any U t id hUm.out hk0 W)
                have hkn : (PR.kd id == 0) = false := by rw [beq_eq_false_iff_ne]; exact hk0
                by_cases hd : PR.dup out id = true
                · have hic : PR.idC out id = 130 := by unfold PR.idC; rw [if_neg hk0, if_pos hd]
                  have HV : Hid (GL = ([], 0, 130)) := Lib.hid (by
                    have h1 := PR.gl_bad U u p out hpU ((PR.g1_id U p out h64 hG (by rw [hic]; decide)).trans (by rw [hic])) (by decide)
                    rw [← hu, hgl] at h1
                    have h2 := HL.out _ h1
                    rw [if_pos (by decide)] at h2
                    exact h2)
                  rw [hd] at CT
                  clear hic hG hk0 h64 CR
                  generalize PR.kd id = kk at *
                  clear hgl hown hb hrl hu
                  go_wp2_with fail
                  refine (CG.out _).mono ?_
                  rintro e w2 ⟨rfl, rfl⟩
                  go_wp2_with fail
                  refine (CK.out _).mono ?_
                  rintro e w2 ⟨rfl, b2⟩
                  have B2 := Lib.hid b2
                  clear b2
                  go_wp2_with fail
                  refine (CT.out _ B2.out).mono ?_
                  rintro e w3 ⟨rfl, rfl⟩
                  go_wp2
                  go_ret3
                  exact GetP.mk HV.out (own_nil _ _ _ _) (Hb.out.trans (B2.out.mono hsr))
                · have hic : PR.idC out id = 0 := by unfold PR.idC; rw [if_neg hk0, if_neg hd]
                  have hd0 : PR.dup out id = false := by simpa using hd
                  rw [hd0] at CT
                  have hg1 := PR.g1_val U p out h64 hG hic
                  have hkq := hok.out p out
                  obtain ⟨⟨⟨a, b, x, y⟩, t2, c2⟩, hD⟩ : ∃ D, PR.rdv U t id = D := ⟨_, rfl⟩
                  rw [hD] at CR hg1
                  unfold RetR at CR
                  simp only at CR hg1
                  generalize PR.kd id = kk at *
                  clear hic hd hd0 hG hk0 h64 hD
                  by_cases hc2 : c2 = 0
                  · subst hc2
                    simp only [ne_eq, not_true_eq_false, if_false] at hg1
                    rw [hg1] at hkq
                    obtain ⟨q, rfl, hq1, hq2, hq3⟩ := hkq rfl
                    have HG : Hid (PR.gl U (66 - (out ++ [(⟨a, b, x, y⟩ : Pr)]).length) q (out ++ [(⟨a, b, x, y⟩ : Pr)]) = PR.gl U 66 0 []) := Lib.hid (by
                      have h1 := PR.gl_go U u p out hpU hg1
                      rw [← hu, hgl] at h1
                      rw [h1, List.length_append, List.length_singleton, Nat.sub_add_eq, hu, Nat.add_sub_cancel])
                    clear hg1 hkq
                    clear hgl hown hb hrl hu
                    go_wp2_with fail
                    refine (CG.out _).mono ?_
                    rintro e w2 ⟨rfl, rfl⟩
                    go_wp2_with fail
                    refine (CK.out _).mono ?_
                    rintro e w2 ⟨rfl, b2⟩
                    have B2 := Lib.hid b2
                    clear b2
                    go_wp2_with fail
                    refine (CT.out _ B2.out).mono ?_
                    rintro e w3 ⟨rfl, rfl⟩
                    have hs2 := B2.out.size
                    go_wp2_with fail
                    refine (CR.out _).mono ?_
                    rintro e w3 ⟨rfl, b3⟩
                    have B3 : Hid (Below w2.heap.size w2 w3) := Lib.hid b3
                    have hs3 := b3.size
                    clear b3
                    have hB3 : Below w2.heap.size w2 (w3.alloc (.cells #[.int .i64 a, .int .i64 b, .string x, .string y] 115)) := B3.out.alloc hs3 _
                    obtain ⟨v5, w5, hr5, hown5, _, hb5⟩ := app1 Tryz.underlying47 Hi.out Hz0.out Hz1.out Hz2.out rfl (by omega) (by omega) w.heap.size (.slice A out.length cap) out.length _ _ (own_below (own_below Hown.out B2.out) hB3) (by simp; omega) #[.int .i64 a, .int .i64 b, .string x, .string y] rfl (by simp [Value.oneCell']) (by omega)
                    rw [show (w3.alloc (.cells #[.int .i64 a, .int .i64 b, .string x, .string y] 115)).heap.size = w3.heap.size + 1 by simp] at hr5
                    have HN : Hid (GetRel w U f (out ++ [(⟨a, b, x, y⟩ : Pr)]) q v5 115 w5) := ⟨HG.out, by rw [flatP_snoc]; simpa using hown5, (Hb.out.trans ((B2.out.trans (hB3.mono hs2)).mono hsr)).trans hb5, rfl⟩
                    obtain ⟨A5, c5, hv5⟩ := own_form hown5
                    subst hv5
                    clear hB3 hown5 hb5 CR CT CK CG
                    go_wp2_with (at_builtin; refine wpList_run (by rfl) (.tmp 82) (.tmp 84) _ _ (by rfl) (by rfl) (by rfl) hr5 ?_; clear hr5)
                    go_roundw
                    case rel => exact ⟨q, out ++ [(⟨a, b, x, y⟩ : Pr)], rfl, by omega, by simp; omega, ⟨A5, c5, by simp⟩, HN⟩
                    case measure => simp [slLen]; omega
                  · have hne2 : (c2 == 0) = false := by rw [beq_eq_false_iff_ne]; exact hc2
                    rw [if_pos hc2] at hg1
                    have HV : Hid (GL = ([], 0, 129)) := Lib.hid (by
                      have h1 := PR.gl_bad U u p out hpU (hg1) (by decide)
                      rw [← hu, hgl] at h1
                      have h2 := HL.out _ h1
                      rw [if_pos (by decide)] at h2
                      exact h2)
                    rw [hne2] at CR
                    clear hg1 hkq hc2
                    clear hgl hown hb hrl hu
                    go_wp2_with fail
                    refine (CG.out _).mono ?_
                    rintro e w2 ⟨rfl, rfl⟩
                    go_wp2_with fail
                    refine (CK.out _).mono ?_
                    rintro e w2 ⟨rfl, b2⟩
                    have B2 := Lib.hid b2
                    clear b2
                    go_wp2_with fail
                    refine (CT.out _ B2.out).mono ?_
                    rintro e w3 ⟨rfl, rfl⟩
                    have hs2 := B2.out.size
                    go_wp2_with fail
                    refine (CR.out _).mono ?_
                    rintro e w3 ⟨rfl, b3⟩
                    have B3 : Hid (Below w2.heap.size w2 w3) := Lib.hid b3
                    have hs3 := b3.size
                    clear b3
                    clear CR CT CK CG
                    go_wp2
                    go_ret3
                    refine GetP.mk HV.out (own_nil _ _ _ _) (Hb.out.trans ((B2.out.trans (Below.mono (B := w2.heap.size) ?_ hs2)).mono hsr))
                    exact B3.out.alloc hs3 _
            · have hne : (c != 0) = true := by rw [bne_iff_ne]; exact hc0
              have HV : Hid (GL = ([], 0, 129)) := Lib.hid (by
                have h1 := PR.gl_bad U u p out hpU (PR.g1_bad U p out h64 (by rw [hG]; exact hc0)) (by decide)
                rw [← hu, hgl] at h1
                have h2 := HL.out _ h1
                rw [if_pos (by decide)] at h2
                exact h2)
              clear hG hc0 h64
              generalize PR.kd id = kk at *
              clear hgl hown hb hrl hu
              go_wp2_with fail
              refine (CG.out _).mono ?_
              rintro e w2 ⟨rfl, rfl⟩
              go_wp2_with fail
              refine (CK.out _).mono ?_
              rintro e w2 ⟨rfl, b2⟩
              have B2 := Lib.hid b2
              clear b2
              go_wp2
              go_ret3
              exact GetP.mk HV.out (own_nil _ _ _ _) (Hb.out.trans (B2.out.mono hsr))
        · have hpm : p = U.size := by omega
          have HV : Hid (GL = (out, (f : Int) + (m : Int), 0)) := Lib.hid (by
            have h1 := PR.gl_end U u p out (by omega)
            rw [← hu, hgl] at h1
            have h2 := HL.out _ h1
            simpa using h2)
          have j1 : ¬ (p : Int) < (U.size : Int) := by omega
          clear hgl hown hb hrl hu hlt
          go_wp2
          go_ret3
          exact GetP.mk HV.out Hown.out Hb.out
  · have HV := Lib.hid (PR.getL_bad s at_ hc)
    generalize VP.get s at_ = R at *
    obtain ⟨a, t, c⟩ := R
    simp only at C1 hc HV
    have hne : (c != 0) = true := by rw [bne_iff_ne]; exact hc
    clear hc
    go_enter Tryz.func101, Tryz.ntmps101
    go_wp2_with fail
    refine (C1.out _).mono ?_
    rintro e w1 ⟨rfl, rfl⟩
    go_wp2
    go_ret3
    exact GetP.mk HV.out (own_nil _ _ _ _) (Below.refl _ _)
end Go.Proofs.YtemfcaaoobjgkaaGreatDoor
namespace Go.Proofs.YtemfcaaoobjgkaaGreatDoor
open Go.RowKit
attribute [local go_sem ↓] Go.wp_at_zero Go.wp_at_succ

set_option linter.unusedSimpArgs false in
set_option maxRecDepth 100000 in
set_option maxHeartbeats 1000000 in
theorem gall_any (kd : Int) (A : Option Addr) (cap : Nat) (l : List Pr) (w : World) (hl : l.length ≤ 100) (h : Props w A l) :
    Calls Tryz.prog 102 #[.int .i64 kd, .slice A l.length cap] w fun e w' => e = .returned (.bool (PK.alAll kd l)) ∧ Below w.heap.size w w' := by
  have H := Lib.hid h
  clear h
  go_enter Tryz.func102, Tryz.ntmps102
  go_wp2
  go_loopw [5] (fun i wr => ∃ k : Nat, i = .int .i64 k ∧ k ≤ l.length ∧ Hid (PK.alAll kd (l.drop k) = PK.alAll kd l) ∧ Hid (Below w.heap.size w wr)) (fun i _ => l.length - (intOf i).toNat)
  case atStart => exact ⟨0, rfl, by omega, Lib.hid rfl, Lib.hid (Below.refl _ _)⟩
  case round =>
    obtain ⟨k, rfl, hk, hk1, hbr⟩ := hrel
    have hsr := hbr.out.size
    by_cases hlt : k < l.length
    · obtain ⟨p, hp⟩ : ∃ p, l[k]? = some p := ⟨l[k], List.getElem?_eq_getElem hlt⟩
      obtain ⟨g, o, rfl, hg, r0, r1, r2, r3⟩ := H.out k p hp
      have q0 : wr.cell? ⟨g, o + k * 4, none⟩ = some (.int .i64 p.id) := by rw [hbr.out.cell (by simp; omega)]; exact r0
      have C := Lib.hid (rallowed_any kd p.id wr)
      have i1 : (k : Int) < (l.length : Int) := by omega
      have i0 : (0 : Int) ≤ (k : Int) := by omega
      have E1 : PK.alAll kd (l.drop k) = (PK.al kd p.id && PK.alAll kd (l.drop (k + 1))) := by rw [prop_drop hp]; rfl
      clear r0 r1 r2 r3
      by_cases he : PK.al kd p.id = true
      · rw [he, Bool.true_and] at E1
        rw [he] at C
        have HE := Lib.hid E1
        clear hp he E1
        go_wp2_with fail
        refine C.out.mono ?_
        rintro e w1 ⟨rfl, b1⟩
        have B1 := Lib.hid (hbr.out.trans (b1.mono hsr))
        clear b1 C
        go_wp2_with fail
        go_roundw
        case rel => exact ⟨k + 1, by go_num, by omega, Lib.hid (by rw [← HE.out]; exact hk1.out), B1⟩
        case measure => simp [intOf]; omega
      · have he' : PK.al kd p.id = false := by simpa using he
        rw [he', Bool.false_and] at E1
        rw [he'] at C
        have HE := Lib.hid E1
        clear hp he he' E1
        go_wp2_with fail
        refine C.out.mono ?_
        rintro e w1 ⟨rfl, b1⟩
        have B1 := Lib.hid (hbr.out.trans (b1.mono hsr))
        clear b1 C
        go_wp2_with fail
        go_ret
        exact ⟨by rw [← hk1.out, HE.out]; rfl, B1.out⟩
    · have hkl : k = l.length := by omega
      subst hkl
      go_wp2
      go_ret
      exact ⟨by rw [← hk1.out, List.drop_length]; rfl, hbr.out⟩
theorem own_next {w w' : World} {B : Nat} {e : TypeId} {k : Nat} {v : Value} {n : Nat} {xs : List Value} (h : w.ownsRow B e k v n xs) (hb : Below w.heap.size w w') : w'.ownsRow B e k v n xs :=
  own_gr h (Gr.of_below (r := w.heap.size) hb) (fun hv => Nat.lt_irrefl _ (h.lt _ hv).2)
theorem own_setCell {w : World} {g j B : Nat} {e : TypeId} {k : Nat} {v : Value} {n : Nat} {xs : List Value} (u : Value) (h : w.ownsRow B e k v n xs) (hg : g < B) : (w.setCell ⟨g, j, none⟩ u).ownsRow B e k v n xs :=
  h.kept (row := some g) ⟨rfl, rfl, rfl, by simp [World.setCell], fun i _ hi => Below.heap_setCell _ _ _ _ (fun e => hi (by rw [e]))⟩ (.inr (row_ne h hg))
/-- What readProps answers. -/
def RpP (w : World) (U : ByteArray) (X : (Int × Int) × List Pr) (e : Ending) (w' : World) : Prop :=
  ∃ v, e = .returned (.tuple #[.agg (iC U X.1), v]) ∧ w'.ownsRow w.heap.size 115 4 v X.2.length (flatP X.2) ∧ Below w.heap.size w w'
theorem RpP.none {w w' : World} {U : ByteArray} {x : Int × Int} (h : Below w.heap.size w w') : RpP w U (x, []) (.returned (.tuple #[.agg (iC U x), .slice none 0 0])) w' :=
  ⟨_, rfl, own_nil w' _ _ _, h⟩

set_option maxRecDepth 100000 in
set_option maxHeartbeats 4000000 in
theorem dreadprops_any (U : ByteArray) (hU : U.size ≤ 140737488351232) (x : Int × Int) (k : Int) (w : World) :
    Calls Tryz.prog 73 #[.agg (iC U x), .int .i64 k] w (RpP w U (RG.rP U k x)) := by
  obtain ⟨p, c0⟩ := x
  have C1 := Lib.hid (rgetall_any U p hU)
  have C3 : Hid (∀ A cap W, Props W A (PR.getL U p).1 → Calls Tryz.prog 102 #[.int .i64 k, .slice A (PR.getL U p).1.length cap] W fun e w' => e = .returned (.bool (PK.alAll k (PR.getL U p).1)) ∧ Below W.heap.size W w') := fun A cap W hP => gall_any k A cap _ W (by have := (PR.getL_facts U p).2.2; omega) hP
  unfold RG.rP
  unfold GetP at C1
  dsimp only
  by_cases h0 : c0 = 0
  · subst h0
    rw [if_neg (fun h => h rfl)]
    generalize PR.getL U p = Y at *
    obtain ⟨l, a, c⟩ := Y
    dsimp only at C1 C3 ⊢
    by_cases hc : c = 0
    · subst hc
      rw [if_neg (show ¬ (cm 0 ≠ 0) by decide)]
      generalize PK.alAll k l = al at *
      cases al
      · rw [if_neg (by decide)]
        have C2 := Lib.hid (dfailed_any U (p, 0) 130)
        generalize RG.fl (p, 0) 130 = x9 at *
        go_enter Tryz.func73, Tryz.ntmps73
        go_upto_region 1 with fail
        change Code.wp _ _ _ _ ((w.alloc (.cells (iC U (p, 0)) 111)).alloc (.cells (iC ⟨#[]⟩ (0, 0)) 111))
        have H := IB.start w U (p, 0)
        generalize (w.alloc (.cells (iC U (p, 0)) 111)).alloc (.cells (iC ⟨#[]⟩ (0, 0)) 111) = W at *
        obtain ⟨⟨x0, x1, x2⟩, x3, x4⟩ := H.facts
        have HH := Lib.hid H
        clear H
        go_wp2_with fail
        refine (C1.out _).mono ?_
        rintro e w1 ⟨v, rfl, o1, b1⟩
        obtain ⟨A, cap, rfl⟩ := own_form o1
        have HN := Lib.hid (HH.out.next b1)
        have hsz := lt_heap HH.out.res
        have P1 := Lib.hid (own_props o1)
        have O1 := Lib.hid o1
        clear x0 x1 x2 x3 x4 b1 C1 HH o1
        go_wp2_with fail
        refine (C3.out _ _ _ P1.out).mono ?_
        rintro e w3 ⟨rfl, b3⟩
        have HM := Lib.hid (HN.out.next b3)
        clear HN b3 C3 P1 O1
        go_wp2_with (refine wpl_load_i (by rfl) (.tmp 2) (by rfl) w.heap.size (by rfl) HM.out.box ?_)
        refine (C2.out _).mono ?_
        rintro e w2 ⟨rfl, b2⟩
        have H2 := Lib.hid (HM.out.next b2)
        have H3 := Lib.hid ((HM.out.next b2).setO U x9)
        have HR := Lib.hid (((HM.out.next b2).setO U x9).setR U x9)
        clear HM b2 C2
        go_wp2_with (first
          | refine wpList_store_row (by rfl) 111 (.tmp 2) (.tmp 37) (by rfl) w.heap.size (iC U x9) (by rfl) (by rfl) 111 (iC U (p, 0)) H2.out.box i_info rfl (iC_one _ _) ?_
          | refine wpl_load_i (by rfl) (.tmp 2) (by rfl) w.heap.size (by rfl) H3.out.box ?_
          | refine wpList_store_row (by rfl) 111 (.tmp 4) (.tmp 38) (by rfl) (w.heap.size + 1) (iC U x9) (by rfl) (by rfl) 111 (iC ⟨#[]⟩ (0, 0)) H3.out.res i_info rfl (iC_one _ _) ?_)
        refine bodyPost_ret (v := .tuple #[.agg (iC U x9), .slice none 0 0]) ?_ rfl (RpP.none HR.out.below)
        simp only [results, Tryz.results73]
        simp
        exact read_two (load_i_var HR.out.res)
      · rw [if_pos rfl]
        go_enter Tryz.func73, Tryz.ntmps73
        go_upto_region 1 with fail
        change Code.wp _ _ _ _ ((w.alloc (.cells (iC U (p, 0)) 111)).alloc (.cells (iC ⟨#[]⟩ (0, 0)) 111))
        have H := IB.start w U (p, 0)
        generalize (w.alloc (.cells (iC U (p, 0)) 111)).alloc (.cells (iC ⟨#[]⟩ (0, 0)) 111) = W at *
        obtain ⟨⟨x0, x1, x2⟩, x3, x4⟩ := H.facts
        have HH := Lib.hid H
        clear H
        go_wp2_with fail
        refine (C1.out _).mono ?_
        rintro e w1 ⟨v, rfl, o1, b1⟩
        obtain ⟨A, cap, rfl⟩ := own_form o1
        have HN := Lib.hid (HH.out.next b1)
        have hsz := lt_heap HH.out.res
        have P1 := Lib.hid (own_props o1)
        have O1 := Lib.hid o1
        clear x0 x1 x2 x3 x4 b1 C1 HH o1
        go_wp2_with fail
        refine (C3.out _ _ _ P1.out).mono ?_
        rintro e w3 ⟨rfl, b3⟩
        have H3 := HN.out.next b3
        have O3 := own_next O1.out b3
        obtain ⟨⟨x0, x1, x2⟩, x3, x4⟩ := H3.facts
        have HM := Lib.hid (H3.setAt a)
        have HR := Lib.hid ((H3.setAt a).setR U (a, 0))
        have OR : Hid (World.ownsRow (World.setRow (World.setCell w3 ⟨w.heap.size, 1, none⟩ (.int .i64 a)) (w.heap.size + 1) (iC U (a, 0))) W.heap.size 115 4 (.slice A l.length cap) l.length (flatP l)) :=
          Lib.hid (own_setRow _ (own_setCell _ O3 (by omega)) (row_ne O3 hsz))
        clear HN b3 C3 P1 O1 H3 O3
        go_wp2_with (first
          | refine wpl_load_i (by rfl) (.tmp 2) (by rfl) w.heap.size (by rfl) HM.out.box ?_
          | refine wpList_store_row (by rfl) 111 (.tmp 4) (.tmp 41) (by rfl) (w.heap.size + 1) (iC U (a, 0)) (by rfl) (by rfl) 111 (iC ⟨#[]⟩ (0, 0)) HM.out.res i_info rfl (iC_one _ _) ?_)
        refine bodyPost_ret (v := .tuple #[.agg (iC U (a, 0)), .slice A l.length cap]) ?_ rfl ⟨_, rfl, own_base' OR.out (by omega), HR.out.below⟩
        simp only [results, Tryz.results73]
        simp
        exact read_two (load_i_var HR.out.res)
    · have hz : cm c ≠ 0 := fun h => hc (PK.cm_zero h)
      rw [if_pos hz]
      clear C3 hz
      by_cases hn : c = 242
      · subst hn
        rw [show cm 242 = 129 from rfl]
        have C2 := Lib.hid (dfailed_any U (p, 0) 129)
        generalize RG.fl (p, 0) 129 = x9 at *
        go_enter Tryz.func73, Tryz.ntmps73
        go_upto_region 1 with fail
        change Code.wp _ _ _ _ ((w.alloc (.cells (iC U (p, 0)) 111)).alloc (.cells (iC ⟨#[]⟩ (0, 0)) 111))
        have H := IB.start w U (p, 0)
        generalize (w.alloc (.cells (iC U (p, 0)) 111)).alloc (.cells (iC ⟨#[]⟩ (0, 0)) 111) = W at *
        obtain ⟨⟨x0, x1, x2⟩, x3, x4⟩ := H.facts
        have HH := Lib.hid H
        clear H
        go_wp2_with fail
        refine (C1.out _).mono ?_
        rintro e w1 ⟨v, rfl, o1, b1⟩
        obtain ⟨A, cap, rfl⟩ := own_form o1
        have HN := Lib.hid (HH.out.next b1)
        have hsz := lt_heap HH.out.res
        clear x0 x1 x2 x3 x4 b1 C1 HH o1
        go_wp2_with (refine wpl_load_i (by rfl) (.tmp 2) (by rfl) w.heap.size (by rfl) HN.out.box ?_)
        refine (C2.out _).mono ?_
        rintro e w2 ⟨rfl, b2⟩
        have H2 := Lib.hid (HN.out.next b2)
        have H3 := Lib.hid ((HN.out.next b2).setO U x9)
        have HR := Lib.hid (((HN.out.next b2).setO U x9).setR U x9)
        clear HN b2 C2
        go_wp2_with (first
          | refine wpList_store_row (by rfl) 111 (.tmp 2) (.tmp 29) (by rfl) w.heap.size (iC U x9) (by rfl) (by rfl) 111 (iC U (p, 0)) H2.out.box i_info rfl (iC_one _ _) ?_
          | refine wpl_load_i (by rfl) (.tmp 2) (by rfl) w.heap.size (by rfl) H3.out.box ?_
          | refine wpList_store_row (by rfl) 111 (.tmp 4) (.tmp 30) (by rfl) (w.heap.size + 1) (iC U x9) (by rfl) (by rfl) 111 (iC ⟨#[]⟩ (0, 0)) H3.out.res i_info rfl (iC_one _ _) ?_)
        refine bodyPost_ret (v := .tuple #[.agg (iC U x9), .slice none 0 0]) ?_ rfl (RpP.none HR.out.below)
        simp only [results, Tryz.results73]
        simp
        exact read_two (load_i_var HR.out.res)
      · rw [show cm c = c from if_neg hn]
        have hc' : (c != 0) = true := by rw [bne_iff_ne]; exact hc
        have hn' : (c == 242) = false := by rw [beq_eq_false_iff_ne]; exact hn
        have C2 := Lib.hid (dfailed_any U (p, 0) c)
        generalize RG.fl (p, 0) c = x9 at *
        go_enter Tryz.func73, Tryz.ntmps73
        go_upto_region 1 with fail
        change Code.wp _ _ _ _ ((w.alloc (.cells (iC U (p, 0)) 111)).alloc (.cells (iC ⟨#[]⟩ (0, 0)) 111))
        have H := IB.start w U (p, 0)
        generalize (w.alloc (.cells (iC U (p, 0)) 111)).alloc (.cells (iC ⟨#[]⟩ (0, 0)) 111) = W at *
        obtain ⟨⟨x0, x1, x2⟩, x3, x4⟩ := H.facts
        have HH := Lib.hid H
        clear H
        go_wp2_with fail
        refine (C1.out _).mono ?_
        rintro e w1 ⟨v, rfl, o1, b1⟩
        obtain ⟨A, cap, rfl⟩ := own_form o1
        have HN := Lib.hid (HH.out.next b1)
        have hsz := lt_heap HH.out.res
        clear x0 x1 x2 x3 x4 b1 C1 HH o1
        go_wp2_with (refine wpl_load_i (by rfl) (.tmp 2) (by rfl) w.heap.size (by rfl) HN.out.box ?_)
        refine (C2.out _).mono ?_
        rintro e w2 ⟨rfl, b2⟩
        have H2 := Lib.hid (HN.out.next b2)
        have H3 := Lib.hid ((HN.out.next b2).setO U x9)
        have HR := Lib.hid (((HN.out.next b2).setO U x9).setR U x9)
        clear HN b2 C2
        go_wp2_with (first
          | refine wpList_store_row (by rfl) 111 (.tmp 2) (.tmp 29) (by rfl) w.heap.size (iC U x9) (by rfl) (by rfl) 111 (iC U (p, 0)) H2.out.box i_info rfl (iC_one _ _) ?_
          | refine wpl_load_i (by rfl) (.tmp 2) (by rfl) w.heap.size (by rfl) H3.out.box ?_
          | refine wpList_store_row (by rfl) 111 (.tmp 4) (.tmp 30) (by rfl) (w.heap.size + 1) (iC U x9) (by rfl) (by rfl) 111 (iC ⟨#[]⟩ (0, 0)) H3.out.res i_info rfl (iC_one _ _) ?_)
        refine bodyPost_ret (v := .tuple #[.agg (iC U x9), .slice none 0 0]) ?_ rfl (RpP.none HR.out.below)
        simp only [results, Tryz.results73]
        simp
        exact read_two (load_i_var HR.out.res)
  · have h0' : (c0 != 0) = true := by rw [bne_iff_ne]; exact h0
    rw [if_pos h0]
    clear C1 C3
    go_enter Tryz.func73, Tryz.ntmps73
    go_upto_region 1 with fail
    change Code.wp _ _ _ _ ((w.alloc (.cells (iC U (p, c0)) 111)).alloc (.cells (iC ⟨#[]⟩ (0, 0)) 111))
    have H := IB.start w U (p, c0)
    generalize (w.alloc (.cells (iC U (p, c0)) 111)).alloc (.cells (iC ⟨#[]⟩ (0, 0)) 111) = W at *
    obtain ⟨⟨x0, x1, x2⟩, x3, x4⟩ := H.facts
    have HH := Lib.hid H
    clear H
    have HR := Lib.hid (HH.out.setR U (p, c0))
    go_wp2_with (first
      | refine wpl_load_i (by rfl) (.tmp 2) (by rfl) w.heap.size (by rfl) HH.out.box ?_
      | refine wpList_store_row (by rfl) 111 (.tmp 4) (.tmp 13) (by rfl) (w.heap.size + 1) (iC U (p, c0)) (by rfl) (by rfl) 111 (iC ⟨#[]⟩ (0, 0)) HH.out.res i_info rfl (iC_one _ _) ?_)
    refine bodyPost_ret (v := .tuple #[.agg (iC U (p, c0)), .slice none 0 0]) ?_ rfl (RpP.none HR.out.below)
    simp only [results, Tryz.results73]
    simp
    exact read_two (load_i_var HR.out.res)
end Go.Proofs.YtemfcaaoobjgkaaGreatDoor
namespace Go.Proofs.YtemfcaaoobjgkaaGreatDoor
open Go.RowKit

set_option maxRecDepth 100000 in
set_option maxHeartbeats 2000000 in
/-- Inv l W: what holds behind the packets l. -/
theorem through_any (K : FuncId) (cap : Array Value) (f : ByteArray → Int) (Inv : List ByteArray → World → Prop) (s : ByteArray) (most : Int) (hs : s.size ≤ 140737488351232)
    (hK : ∀ (args : Array Value) (W : World), (callFunc K args).run Tryz.prog W = .ok (.enter K args) W)
    (hC : ∀ (l : List ByteArray) (a k : Nat) (W : World), Inv l W → 2 * l.length ≤ a → 2 ≤ k → a + k ≤ s.size → Calls Tryz.prog K (#[.string (s.extract a (a + k))] ++ cap) W fun e W' => e = .returned (.int .u8 (f (s.extract a (a + k)))) ∧ (f (s.extract a (a + k)) = 0 → Inv (l ++ [s.extract a (a + k)]) W') ∧ (f (s.extract a (a + k)) ≠ 0 → Inv l W'))
    (w : World) (h0 : Inv [] w) :
    Calls Tryz.prog 16 #[.string s, .int .i64 most, .func (.func K) #[] cap] w fun e w' =>
      e = .returned (.tuple #[.int .i64 (ST.thr s most f (s.size + 1) 0).2.1, .int .u8 (ST.thr s most f (s.size + 1) 0).2.2]) ∧ Inv (ST.thr s most f (s.size + 1) 0).1 w' := by
  have HC := Lib.hid hC
  have HI := Lib.hid h0
  have HT := Lib.hid (ST.Thr.start s most f)
  obtain ⟨R, hR⟩ : ∃ R, R = ST.thr s most f (s.size + 1) 0 := ⟨_, rfl⟩
  rw [← hR]
  have HR := Lib.hid hR
  clear hC h0 hR
  go_enter Tryz.func16, Tryz.ntmps16
  go_wp2
  go_step3
  go_wp2
  go_step3
  go_wp2
  go_loopw [8] (fun i wr => ∃ (a : Nat) (l : List ByteArray), i = .int .i64 a ∧ a ≤ s.size ∧ Hid (ST.Thr s most f l a ∧ Inv l wr)) (fun i _ => s.size - (intOf i).toNat)
  case atStart => exact ⟨0, [], rfl, by omega, Lib.hid ⟨HT.out, HI.out⟩⟩
  case round =>
    obtain ⟨a, l, rfl, ha, hrl⟩ := hrel
    obtain ⟨ht, hi⟩ := hrl.out
    have hsl := st_from s a ha
    have CF := Lib.hid (first_any (s.extract a s.size) most (by rw [ByteArray.size_extract]; omega))
    have h2 := ht.size.2
    by_cases hf : (ST.first (s.extract a s.size) most).2 = 0
    · obtain ⟨k, hk, hk1, hk2⟩ := ST.first_ok _ _ hf
      rw [ByteArray.size_extract] at hk2
      rw [hk] at CF
      simp only at CF
      have hak : a + k ≤ s.size := by omega
      have hsp := st_part s a k hak
      have D := Lib.hid (HC.out l a k wr hi h2 hk1 hak)
      have HT2 := Lib.hid (fun h => ht.step hk hk1 hak h)
      have HL2 := Lib.hid (fun h => ht.left hk h)
      generalize f (s.extract a (a + k)) = c at *
      clear hf hk ht hi hrl hk2
      by_cases hc : c = 0
      · subst hc
        go_wp2_with fail
        refine (CF.out _).mono ?_
        rintro e w' ⟨rfl, rfl⟩
        go_wp2_with fail
        refine D.out.mono ?_
        rintro e w' ⟨rfl, hi, _⟩
        have HN : Hid (ST.Thr s most f (l ++ [s.extract a (a + k)]) (a + k) ∧ Inv (l ++ [s.extract a (a + k)]) w') := Lib.hid ⟨HT2.out trivial, hi trivial⟩
        clear D HT2 HL2 hi CF HC HI HT
        go_wp2
        go_roundw
        case rel => exact ⟨a + k, _, by go_num, by omega, HN⟩
        case measure => simp [intOf]; omega
      · have hne : (c != 0) = true := by rw [bne_iff_ne]; exact hc
        go_wp2_with fail
        refine (CF.out _).mono ?_
        rintro e w' ⟨rfl, rfl⟩
        go_wp2_with fail
        refine D.out.mono ?_
        rintro e w' ⟨rfl, _, hi⟩
        have HE : Hid (R = (l, a, c)) := Lib.hid (by rw [HR.out]; exact HL2.out hc)
        have HN : Hid (Inv l w') := Lib.hid (hi hc)
        clear D HT2 HL2 hi CF HC HI HT hc
        go_wp2
        try rw [Exit.noGoto_ret]
        go_ret2
        rw [HE.out]
        exact ⟨rfl, HN.out⟩
    · have HL := Lib.hid (ht.stop hf)
      have HN := Lib.hid hi
      generalize ST.first (s.extract a s.size) most = X at *
      obtain ⟨k, c⟩ := X
      simp only at CF hf HL
      have hne : (c == 0) = false := by rw [beq_eq_false_iff_ne]; exact hf
      clear ht hi hrl HC HI HT
      by_cases h242 : c = 242
      · subst h242
        go_wp2_with fail
        refine (CF.out _).mono ?_
        rintro e w' ⟨rfl, rfl⟩
        go_wp2
        try rw [Exit.noGoto_ret]
        go_ret2
        rw [HR.out, HL.out]
        exact ⟨rfl, HN.out⟩
      · have h2 : (c == 242) = false := by rw [beq_eq_false_iff_ne]; exact h242
        have HL2 : Hid (R = (l, a, c)) := Lib.hid (by rw [HR.out, HL.out, if_neg h242])
        clear HL HR h242 hf
        go_wp2_with fail
        refine (CF.out _).mono ?_
        rintro e w' ⟨rfl, rfl⟩
        go_wp2
        try rw [Exit.noGoto_ret]
        go_ret2
        rw [HL2.out]
        exact ⟨rfl, HN.out⟩
end Go.Proofs.YtemfcaaoobjgkaaGreatDoor
namespace Go.Proofs.YtemfcaaoobjgkaaGreatDoor
open Go.RowKit

/-- The reader in block r: the most, the bytes l that are left, the code c; 'p': whether its builder was used. -/
def FdAt (r : Nat) (m : Int) (p : Value) (l : List UInt8) (c : Int) (w : World) : Prop :=
  ∃ v, w.heap[r]? = some (.cells #[.int .i64 m, p, v, .int .u8 c] 68 (0, 0)) ∧ w.ownsRowF r 5 1 v l.length (Lib.byteCells l) ∧ v.ownBlock ≠ some r
def Fd (r : Nat) (m : Int) (l : List UInt8) (c : Int) (w : World) : Prop := FdAt r m (.pointer none) l c w ∨ FdAt r m (.pointer (some ⟨r, 1, none⟩)) l c w
theorem FdAt.lt {r : Nat} {m : Int} {p : Value} {l : List UInt8} {c : Int} {w : World} (h : FdAt r m p l c w) : r < w.heap.size := by
  obtain ⟨v, h1, _⟩ := h; exact lt_heap h1
theorem Fd.lt {r : Nat} {m : Int} {l : List UInt8} {c : Int} {w : World} (h : Fd r m l c w) : r < w.heap.size := by
  rcases h with h | h <;> exact h.lt
theorem ownF_below {B : Nat} {e : TypeId} {k : Nat} {v : Value} {n : Nat} {xs : List Value} {w w' : World} (h : w.ownsRowF B e k v n xs) (hb : Below w.heap.size w w') : w'.ownsRowF B e k v n xs :=
  h.kept (row := none) ⟨hb.os, hb.tape, hb.output, hb.size, fun i hi _ => hb.block i hi⟩ (by cases hv : v.ownBlock <;> simp)
theorem FdAt.below {r : Nat} {m : Int} {p : Value} {l : List UInt8} {c : Int} {w w' : World} (h : FdAt r m p l c w) (hb : Below w.heap.size w w') : FdAt r m p l c w' := by
  obtain ⟨v, h1, h2, h3⟩ := h
  exact ⟨v, (hb.block r (lt_heap h1)).trans h1, ownF_below h2 hb, h3⟩
theorem Fd.below {r : Nat} {m : Int} {l : List UInt8} {c : Int} {w w' : World} (h : Fd r m l c w) (hb : Below w.heap.size w w') : Fd r m l c w' := by
  rcases h with h | h
  · exact .inl (h.below hb)
  · exact .inr (h.below hb)
theorem ownF_set {w : World} {b j : Nat} {B : Nat} {e : TypeId} {k : Nat} {v u : Value} {n : Nat} {xs : List Value} (h : w.ownsRowF B e k v n xs) (hne : v.ownBlock ≠ some b) : (w.setCell ⟨b, j, none⟩ u).ownsRowF B e k v n xs :=
  h.kept (row := some b) ⟨rfl, rfl, rfl, by simp [World.setCell], fun i _ hi => Below.heap_setCell _ _ _ _ (fun e => hi (by simp [e]))⟩ (.inr hne)
theorem ownF_row {w : World} {B : Nat} {e : TypeId} {k : Nat} {v : Value} {n : Nat} {xs : List Value} (h : w.ownsRowF B e k v n xs) : ∀ g, v.ownBlock = some g → ∃ c fz, w.heap[g]? = some (.cells c e fz) := by
  intro g hg
  rcases h.2 with ⟨rfl, _⟩ | ⟨g', c, u, fz, rfl, _, hh, _⟩
  · cases hg
  · simp only [Value.ownBlock, Option.some.injEq] at hg
    subst hg
    exact ⟨_, _, hh⟩
theorem ownF_form {B : Nat} {e : TypeId} {k : Nat} {v : Value} {n : Nat} {xs : List Value} {w : World} (h : w.ownsRowF B e k v n xs) : ∃ A cap, v = .slice A n cap := by
  rcases h.2 with ⟨rfl, rfl⟩ | ⟨g, cap, cur, fz, rfl, _⟩
  · exact ⟨_, _, rfl⟩
  · exact ⟨_, _, rfl⟩
theorem fbldLies : liesAt Tryz.prog Tryz.prog.depth 68 (4 / Tryz.prog.cellsOf 68) 1 66 1 = true := by kernel_rfl

set_option maxHeartbeats 1000000 in
set_option maxRecDepth 100000 in
theorem fcopy_used (r : Nat) (w : World) (h0 : w.cell? ⟨r, 1, none⟩ = some (.pointer (some ⟨r, 1, none⟩))) :
    Calls Tryz.prog 30 #[.pointer (some ⟨r, 1, none⟩)] w fun e w' => e = .returned (.tuple #[]) ∧ w = w' := by
  obtain ⟨j, hj, _⟩ := bldInfo
  have hn := Lib.run_neq_ptr_same (P := Tryz.prog) w ⟨r, 1, none⟩ Tryz.underlying63 hj
  clear hj
  go_enter Tryz.func30, Tryz.ntmps30
  go_wp2
  go_end0
  exact ⟨rfl, rfl⟩
set_option maxHeartbeats 1000000 in
set_option maxRecDepth 100000 in
theorem fcopy_fresh (r : Nat) (w : World) (h0 : w.cell? ⟨r, 1, none⟩ = some (.pointer none)) (hsh : w.shape? r = some (68, 4)) (hfz : w.frozen? ⟨r, 1, none⟩ = false) :
    Calls Tryz.prog 30 #[.pointer (some ⟨r, 1, none⟩)] w fun e w' => e = .returned (.tuple #[]) ∧ w.setCell ⟨r, 1, none⟩ (.pointer (some ⟨r, 1, none⟩)) = w' := by
  obtain ⟨j, hj, hjs⟩ := bldInfo
  have r1 := Lib.run_to_unsafe (P := Tryz.prog) w ⟨r, 1, none⟩ Tryz.underlying63 Tryz.underlying132 hj (by rw [hjs]; decide) hsh (show (1 : Nat) < 4 by decide)
  have r2 := Lib.run_from_unsafe (P := Tryz.prog) w ⟨r, 1, none⟩ Tryz.underlying132 Tryz.underlying63 hj hsh fbldLies
  clear hj hjs hsh
  go_enter Tryz.func30, Tryz.ntmps30
  go_wp2
  rw [run_callFunc_extern Tryz.func62 (by kernel_rfl) (by kernel_rfl) (by kernel_rfl) (e := Extern.AbiNoEscape.same) (by kernel_rfl)]
  rw [Lib.run_noEscape]
  simp only [Result.andThen]
  rw [Oper.upon_value]
  go_wp2
  go_end0
  exact ⟨rfl, rfl⟩
theorem fcopy_any (r : Nat) (m : Int) (l : List UInt8) (c : Int) (w : World) (h : Fd r m l c w) :
    Calls Tryz.prog 30 #[.pointer (some ⟨r, 1, none⟩)] w fun e w' => e = .returned (.tuple #[]) ∧ FdAt r m (.pointer (some ⟨r, 1, none⟩)) l c w' ∧ Kp r w w' := by
  rcases h with ⟨v, h1, h2, h3⟩ | ⟨v, h1, h2, h3⟩
  · refine (fcopy_fresh r w (by rw [cell_heap h1]; rfl) (by simp [World.shape?, h1]) (frozen_heap h1)).mono ?_
    rintro e w' ⟨rfl, rfl⟩
    exact ⟨rfl, ⟨v, set_block h1 rfl, ownF_set h2 h3, h3⟩, (Kp.refl r w).setCell 1 _⟩
  · refine (fcopy_used r w (by rw [cell_heap h1]; rfl)).mono ?_
    rintro e w' ⟨rfl, rfl⟩
    exact ⟨rfl, ⟨v, h1, h2, h3⟩, Kp.refl r w⟩

set_option maxHeartbeats 2000000 in
set_option maxRecDepth 100000 in
theorem fwrite_any (r : Nat) (m : Int) (l : List UInt8) (c : Int) (s : ByteArray) (w : World) (h : Fd r m l c w) (hn : l.length + s.size ≤ 140737488355328) :
    Calls Tryz.prog 14 #[.pointer (some ⟨r, 1, none⟩), .string s] w fun e w' => e = .returned (.tuple #[.int .i64 s.size, .nilIface]) ∧ Fd r m (l ++ s.data.toList) c w' ∧ Kp r w w' := by
  have C := Lib.hid (fcopy_any r m l c w h)
  obtain ⟨i0, hi, hz0, hz1, hz2⟩ := info_parts byteInfo
  have Hi := Lib.hid hi; have Hz0 := Lib.hid hz0; have Hz1 := Lib.hid hz1; have Hz2 := Lib.hid hz2
  clear hi hz0 hz1 hz2 h
  go_enter Tryz.func14, Tryz.ntmps14
  go_wp2_with fail
  refine C.out.mono ?_
  rintro e w1 ⟨rfl, ⟨v, h1, h2, h3⟩, k1⟩
  obtain ⟨ao, cap, rfl⟩ := ownF_form h2
  have hlt := lt_heap h1
  obtain ⟨v', w2, hr, ho, hg, _⟩ := Lib.run_append_own_stringF (P := Tryz.prog) w1 r 64 9 64 5 i0 Tryz.underlying64 Tryz.underlying9 Hi.out Hz0.out Hz1.out Hz2.out _ _ _ h2 s (by unfold maxLen; omega) hn (Nat.le_of_lt hlt)
  have hb2 : w2.heap[r]? = some (.cells #[.int .i64 m, .pointer (some ⟨r, 1, none⟩), .slice ao l.length cap, .int .u8 c] 68 (0, 0)) := (hg.block r hlt (fun e => h3 e.symm)).trans h1
  have k2 : Kp r w w2 := k1.trans ⟨(Below.refl r w1).grown hg (Nat.le_of_lt hlt) (fun k hk => (h2.lt k hk).1), (Lib.OthersKept.refl _ _ _).grown hg (ownF_row h2)⟩
  have hne := Lib.ownBlock_neF ho hb2 (by decide)
  have HW : Hid (Fd r m (l ++ s.data.toList) c (w2.setCell ⟨r, 2, none⟩ v')) := .inr ⟨v', set_block hb2 rfl, by
    refine ownF_set ?_ hne
    rw [byteCells_app] at ho
    have e : (l ++ s.data.toList).length = l.length + s.size := by rw [List.length_append]; congr 1
    rw [e]; exact ho, hne⟩
  have HK : Hid (Kp r w (w2.setCell ⟨r, 2, none⟩ v')) := k2.setCell 2 _
  have c0 : w1.cell? ⟨r, 1, none⟩ = some (.pointer (some ⟨r, 1, none⟩)) := by rw [cell_heap h1]; rfl
  have c1 : w1.cell? ⟨r, 2, none⟩ = some (.slice ao l.length cap) := by rw [cell_heap h1]; rfl
  have d1 : w2.cell? ⟨r, 2, none⟩ = some (.slice ao l.length cap) := by rw [cell_heap hb2]; rfl
  have f1 : w2.frozen? ⟨r, 2, none⟩ = false := frozen_heap hb2
  obtain ⟨A2, cap2, rfl⟩ := ownF_form ho
  clear C h1 h2 h3 k1 ho hg hb2 k2 hne Hi Hz0 Hz1 Hz2
  go_wp2_with (at_builtin; refine wpList_run (by rfl) (.tmp 12) (.tmp 13) _ _ (by rfl) (by rfl) (by rfl) hr ?_; clear hr)
  go_ret2
  exact ⟨rfl, HW.out, HK.out⟩

set_option maxHeartbeats 1000000 in
set_option maxRecDepth 100000 in
theorem freset_any (r : Nat) (m : Int) (l : List UInt8) (c : Int) (w : World) (h : Fd r m l c w) :
    Calls Tryz.prog 19 #[.pointer (some ⟨r, 1, none⟩)] w fun e w' => e = .returned (.tuple #[]) ∧ Fd r m [] c w' ∧ Kp r w w' := by
  obtain ⟨p, v, h1, h2, h3⟩ : ∃ p, FdAt r m p l c w := by
    rcases h with h | h
    · exact ⟨_, h⟩
    · exact ⟨_, h⟩
  have HB1 := set_block (j := 1) (u := .pointer none) (cs' := #[.int .i64 m, .pointer none, v, .int .u8 c]) h1 rfl
  have HB2 := set_block (j := 2) (u := .slice none 0 0) (cs' := #[.int .i64 m, .pointer none, .slice none 0 0, .int .u8 c]) HB1 rfl
  have HW : Hid (Fd r m [] c ((w.setCell ⟨r, 1, none⟩ (.pointer none)).setCell ⟨r, 2, none⟩ (.slice none 0 0))) := .inl ⟨_, HB2, World.ownsRowF_nil _ _ _ _, by simp [Value.ownBlock]⟩
  have HK : Hid (Kp r w ((w.setCell ⟨r, 1, none⟩ (.pointer none)).setCell ⟨r, 2, none⟩ (.slice none 0 0))) := ((Kp.refl r w).setCell 1 _).setCell 2 _
  have c1 : w.cell? ⟨r, 1, none⟩ = some p := by rw [cell_heap h1]; rfl
  have c2 : w.cell? ⟨r, 2, none⟩ = some v := by rw [cell_heap h1]; rfl
  have f1 : w.frozen? ⟨r, 1, none⟩ = false := frozen_heap h1
  have f2 : w.frozen? ⟨r, 2, none⟩ = false := frozen_heap h1
  clear h h1 h2 h3 HB1 HB2
  go_enter Tryz.func19, Tryz.ntmps19
  go_wp2
  go_end0
  exact ⟨rfl, HW.out, HK.out⟩
end Go.Proofs.YtemfcaaoobjgkaaGreatDoor
namespace Go.Proofs.YtemfcaaoobjgkaaGreatDoor
open Go.RowKit

theorem freeze_other {w : World} {g k n : Nat} (h : k ≠ g) : (w.freeze ⟨g, 0, none⟩ n).heap[k]? = w.heap[k]? := by
  unfold World.freeze
  split
  · rfl
  · simp [Array.getElem?_modify, Ne.symm h]
theorem freeze_self {w : World} {g n m : Nat} {cur : Array Value} {e : TypeId} {fz : Nat × Nat} (h : w.heap[g]? = some (.cells cur e fz)) (hf : fz.2 ≤ m) (hn : n ≤ m) : ∃ fz', (w.freeze ⟨g, 0, none⟩ n).heap[g]? = some (.cells cur e fz') ∧ fz'.2 ≤ m := by
  obtain ⟨lo, hi⟩ := fz
  unfold World.freeze
  split
  · exact ⟨_, h, hf⟩
  · simp [Array.getElem?_modify, h]
    simp only at hf
    split
    · simp; omega
    · simp; omega
theorem Kp.freeze {r g n : Nat} {w : World} {cur : Array Value} {fz : Nat × Nat} (hr : r ≤ g) (h : w.heap[g]? = some (.cells cur 5 fz)) : Kp r w (w.freeze ⟨g, 0, none⟩ n) :=
  ⟨Lib.below_freeze (Below.refl r w) (p := ⟨g, 0, none⟩) hr n, fun k o hk hb he => by
    by_cases e : k = g
    · subst e; rw [h] at hk; injection hk with hk; exact absurd hk.symm (he _ _)
    · exact (freeze_other e).trans hk⟩
theorem Kp.drew {b : Nat} {w w' : World} (h : Kp b w.drew w') : Kp b w w' := ⟨⟨h.1.os, h.1.tape, h.1.output, h.1.size, h.1.block⟩, h.2⟩

set_option maxHeartbeats 2000000 in
set_option maxRecDepth 100000 in
theorem fstr_any (r : Nat) (m : Int) (x : UInt8) (t : List UInt8) (c : Int) (w : World) (h : Fd r m (x :: t) c w) :
    Calls Tryz.prog 15 #[.pointer (some ⟨r, 1, none⟩)] w fun e w' => e = .returned (.string ⟨(x :: t).toArray⟩) ∧ Fd r m (x :: t) c w' ∧ Kp r w w' := by
  obtain ⟨p, hp, v, h1, h2, h3⟩ : ∃ p, (p = .pointer none ∨ p = .pointer (some ⟨r, 1, none⟩)) ∧ FdAt r m p (x :: t) c w := by
    rcases h with h | h
    · exact ⟨_, .inl rfl, h⟩
    · exact ⟨_, .inr rfl, h⟩
  obtain ⟨g, cap, cur, fz, rfl, hbg, hg, hfz, hnc, hcm, hcs, htake⟩ : ∃ g cap cur fz, v = .slice (some ⟨g, 0, none⟩) (x :: t).length cap ∧ r ≤ g ∧ w.heap[g]? = some (.cells cur 5 fz) ∧ fz.2 ≤ (x :: t).length * 1 ∧ (x :: t).length ≤ cap ∧ cap ≤ maxLen ∧ cur.size = cap * 1 ∧ cur.toList.take ((x :: t).length * 1) = Lib.byteCells (x :: t) := by
    rcases h2.2 with ⟨_, hz⟩ | ⟨g, cap, cur, fz, hv, rr⟩
    · simp at hz
    · exact ⟨g, cap, cur, fz, hv, rr⟩
  have hl0 : 0 < (x :: t).length := by simp
  have hrg : r ≠ g := fun e => h3 (by simp [Value.ownBlock, e])
  have c1 : w.cell? ⟨r, 2, none⟩ = some (.slice (some ⟨g, 0, none⟩) (x :: t).length cap) := by rw [cell_heap h1]; rfl
  have hSD : (Builtin.unsafeSliceData_ #[64] 94 #[.slice (some ⟨g, 0, none⟩) (x :: t).length cap]).run Tryz.prog w.drew = .ok (.pointer (some ⟨g, 0, none⟩)) w.drew := Lib.run_unsafeSliceData_row _ _ _ _ _ _ (by omega)
  have hUS : (Builtin.unsafeString_ #[94, 3] 9 #[.pointer (some ⟨g, 0, none⟩), .int .i64 (x :: t).length]).run Tryz.prog w.drew = .ok (.string ⟨(x :: t).toArray⟩) (w.drew.freeze ⟨g, 0, none⟩ (x :: t).length) := by
    refine Lib.run_unsafeString_row w.drew 94 3 9 5 Tryz.underlying94 (by kernel_rfl) g cur.size (by have hg' : w.drew.heap[g]? = some (.cells cur 5 fz) := hg; simp [World.shape?, hg']) (x :: t) (by simp) (by omega) (by unfold maxLen at hcm; omega) ?_
    intro j y hy
    exact h2.cells (g := g) rfl j (.int .u8 y.toNat) (by rw [Lib.byteCells, List.getElem?_map, hy]; rfl)
  have HF : Hid (Fd r m (x :: t) c (w.drew.freeze ⟨g, 0, none⟩ (x :: t).length)) := Lib.hid (by
    obtain ⟨fz', e1, e2⟩ := freeze_self (n := (x :: t).length) (m := (x :: t).length * 1) (show w.drew.heap[g]? = some (.cells cur 5 fz) from hg) hfz (by omega)
    have e3 : (w.drew.freeze ⟨g, 0, none⟩ (x :: t).length).heap[r]? = some (.cells #[.int .i64 m, p, .slice (some ⟨g, 0, none⟩) (x :: t).length cap, .int .u8 c] 68 (0, 0)) := (freeze_other hrg).trans h1
    have e4 : FdAt r m p (x :: t) c (w.drew.freeze ⟨g, 0, none⟩ (x :: t).length) := ⟨_, e3, ⟨h2.1, .inr ⟨g, cap, cur, fz', rfl, hbg, e1, e2, hnc, hcm, hcs, htake⟩⟩, h3⟩
    rcases hp with rfl | rfl
    · exact .inl e4
    · exact .inr e4)
  have HK : Hid (Kp r w (w.drew.freeze ⟨g, 0, none⟩ (x :: t).length)) := Lib.hid (Kp.drew (Kp.freeze hbg (show w.drew.heap[g]? = some (.cells cur 5 fz) from hg)))
  generalize x :: t = l at *
  clear h h1 h2 h3 hg hcs htake hnc hcm hl0 hfz hp
  go_enter Tryz.func15, Tryz.ntmps15
  go_wp2
  go_region
  all_goals
    go_wp2
    go_ret
    exact ⟨rfl, HF.out, HK.out⟩

set_option maxHeartbeats 2000000 in
set_option maxRecDepth 100000 in
theorem fstr_empty (r : Nat) (m : Int) (c : Int) (w : World) (h : Fd r m [] c w) :
    Calls Tryz.prog 15 #[.pointer (some ⟨r, 1, none⟩)] w fun e w' => e = .returned (.string ⟨#[]⟩) ∧ Fd r m [] c w' ∧ Kp r w w' := by
  have hlt := h.lt
  have HH := Lib.hid h
  obtain ⟨p, v, h1, h2, h3⟩ : ∃ p, FdAt r m p [] c w := by
    rcases h with h | h
    · exact ⟨_, h⟩
    · exact ⟨_, h⟩
  have hUS := us_none
  have fin : ∀ w', Below w.heap.size w w' → Fd r m [] c w' ∧ Kp r w w' := fun w' hb => ⟨HH.out.below hb, Kp.of_below (Nat.le_of_lt hlt) hb⟩
  have FIN := Lib.hid fin
  clear fin
  rcases h2.2 with ⟨rfl, _⟩ | ⟨g, cap, cur, fz, rfl, hbg, hg, _, _, _, _, _⟩
  · have c1 : w.cell? ⟨r, 2, none⟩ = some (.slice none 0 0) := by rw [cell_heap h1]; rfl
    have hSD : (Builtin.unsafeSliceData_ #[64] 94 #[.slice none 0 0]).run Tryz.prog w.drew = .ok (.pointer none) w.drew := rfl
    clear h h1 h2 h3
    go_enter Tryz.func15, Tryz.ntmps15
    go_wp2
    go_region
    all_goals
      go_wp2
      go_ret
      exact ⟨rfl, FIN.out _ (Below.drew (Below.refl _ w))⟩
  · have c1 : w.cell? ⟨r, 2, none⟩ = some (.slice (some ⟨g, 0, none⟩) 0 cap) := by rw [cell_heap h1]; rfl
    by_cases hc0 : cap = 0
    · subst hc0
      have hSD : (Builtin.unsafeSliceData_ #[64] 94 #[.slice (some ⟨g, 0, none⟩) 0 0]).run Tryz.prog w.drew = .ok (.pointer (some ⟨w.drew.heap.size, 0, none⟩)) (w.drew.alloc (.view ⟨g, 0, none⟩ 5)) :=
        Lib.run_unsafeSliceData_zero w.drew _ _ 5 Tryz.underlying94 ⟨g, 0, none⟩ 0 (5, cur.size) (by have hg' : w.drew.heap[g]? = some (.cells cur 5 fz) := hg; simp [World.shape?, hg'])
      have c3 : (w.alloc (.view ⟨g, 0, none⟩ 5)).drew.cell? ⟨r, 2, none⟩ = some (.slice (some ⟨g, 0, none⟩) 0 0) := by
        have e : (w.alloc (.view ⟨g, 0, none⟩ 5)).drew.heap[r]? = some (.cells #[.int .i64 m, p, .slice (some ⟨g, 0, none⟩) 0 0, .int .u8 c] 68 (0, 0)) := (heap_alloc_old w _ hlt).trans h1
        rw [cell_heap e]; rfl
      clear h h1 h2 h3 hg
      go_enter Tryz.func15, Tryz.ntmps15
      go_wp2
      go_region
      all_goals
        go_wp2
        go_ret
        exact ⟨rfl, FIN.out _ ((Below.drew (Below.refl _ w)).alloc (Nat.le_refl _) _)⟩
    · have hSD : (Builtin.unsafeSliceData_ #[64] 94 #[.slice (some ⟨g, 0, none⟩) 0 cap]).run Tryz.prog w.drew = .ok (.pointer (some ⟨g, 0, none⟩)) w.drew := Lib.run_unsafeSliceData_row _ _ _ _ _ _ hc0
      clear h h1 h2 h3 hg hc0
      go_enter Tryz.func15, Tryz.ntmps15
      go_wp2
      go_region
      all_goals
        go_wp2
        go_ret
        exact ⟨rfl, FIN.out _ (Below.drew (Below.refl _ w))⟩
theorem fstring_any (r : Nat) (m : Int) (l : List UInt8) (c : Int) (w : World) (h : Fd r m l c w) :
    Calls Tryz.prog 15 #[.pointer (some ⟨r, 1, none⟩)] w fun e w' => e = .returned (.string ⟨l.toArray⟩) ∧ Fd r m l c w' ∧ Kp r w w' := by
  cases l with
  | nil => exact fstr_empty r m c w h
  | cons x t => exact fstr_any r m x t c w h
end Go.Proofs.YtemfcaaoobjgkaaGreatDoor
namespace Go.Proofs.YtemfcaaoobjgkaaGreatDoor
open Go.RowKit
attribute [local go_sem ↓] Go.wp_at_zero Go.wp_at_succ

/-- A packet and the values of its five rows. -/
structure Pv where
  p : Pk
  vc : Value
  vp : Value
  vw : Value
  vs : Value
  vf : Value
def Pv.cells (x : Pv) : List Value := (pkCells x.p x.vc x.vp x.vw x.vs x.vf).toList
def Pv.Own (x : Pv) (B : Nat) (w : World) : Prop := Own5 B x.p x.vc x.vp x.vw x.vs x.vf w
/-- A row of packets. -/
structure PkRow (B : Nat) (v : Value) (L : List Pv) (w : World) : Prop where
  row : w.ownsRow B 45 26 v L.length (L.flatMap Pv.cells)
  own : ∀ x ∈ L, x.Own B w
theorem own5_kept {B : Nat} {P : Pk} {vc vp vw vs vf : Value} {w w' : World} {row : Option Nat} (h : Own5 B P vc vp vw vs vf w) (hg : w.grownBy w' row) (hr : ∀ g, row = some g → ∃ c fz, w.heap[g]? = some (.cells c 45 fz)) : Own5 B P vc vp vw vs vf w' := by
  have key : ∀ {e : TypeId} {k : Nat} {v : Value} {n : Nat} {xs : List Value}, e ≠ 45 → w.ownsRow B e k v n xs → w'.ownsRow B e k v n xs := fun {e k v n xs} he ho => by
    refine ho.kept hg ?_
    cases hv : v.ownBlock with
    | none => exact .inl rfl
    | some g =>
      refine .inr (fun e' => ?_)
      obtain ⟨c, fz, h1⟩ := hr g e'.symm
      obtain ⟨c2, fz2, h2⟩ := own_row ho g hv
      rw [h1] at h2
      simp at h2
      exact he h2.2.1.symm
  exact ⟨key (by decide) h.codes, key (by decide) h.props, key (by decide) h.wprops, key (by decide) h.subs, key (by decide) h.filters⟩
theorem own5_base {B C : Nat} {P : Pk} {vc vp vw vs vf : Value} {w : World} (h : Own5 B P vc vp vw vs vf w) (hC : C ≤ B) : Own5 C P vc vp vw vs vf w :=
  ⟨own_base' h.codes hC, own_base' h.props hC, own_base' h.wprops hC, own_base' h.subs hC, own_base' h.filters hC⟩
theorem own5_below {B : Nat} {P : Pk} {vc vp vw vs vf : Value} {w w' : World} (h : Own5 B P vc vp vw vs vf w) (hb : Below w.heap.size w w') : Own5 B P vc vp vw vs vf w' :=
  ⟨own_below h.codes hb, own_below h.props hb, own_below h.wprops hb, own_below h.subs hb, own_below h.filters hb⟩
theorem own5_set {B b j : Nat} {P : Pk} {vc vp vw vs vf u : Value} {w : World} (h : Own5 B P vc vp vw vs vf w) (hb : b < B) : Own5 B P vc vp vw vs vf (w.setCell ⟨b, j, none⟩ u) :=
  ⟨own_set h.codes (row_ne h.codes hb), own_set h.props (row_ne h.props hb), own_set h.wprops (row_ne h.wprops hb), own_set h.subs (row_ne h.subs hb), own_set h.filters (row_ne h.filters hb)⟩
theorem PkRow.below {B : Nat} {v : Value} {L : List Pv} {w w' : World} (h : PkRow B v L w) (hb : Below w.heap.size w w') : PkRow B v L w' := ⟨own_below h.row hb, fun x hx => own5_below (h.own x hx) hb⟩
theorem PkRow.base {B C : Nat} {v : Value} {L : List Pv} {w : World} (h : PkRow B v L w) (hC : C ≤ B) : PkRow C v L w := ⟨own_base' h.row hC, fun x hx => own5_base (h.own x hx) hC⟩
theorem PkRow.set {B b j : Nat} {v u : Value} {L : List Pv} {w : World} (h : PkRow B v L w) (hb : b < B) : PkRow B v L (w.setCell ⟨b, j, none⟩ u) := ⟨own_set h.row (row_ne h.row hb), fun x hx => own5_set (h.own x hx) hb⟩
theorem pkInfo : ∃ z n, (Tryz.prog.info? 45).map (fun i => (i.zero, i.size, i.bytes)) = some (some z, 26, n) ∧ z.cells.size = 26 ∧ n ≤ 1000 := ⟨.agg (pkNil PK.zeroPk), 328, by kernel_rfl, rfl, by decide⟩

theorem fill_pk26 (P : Pk) (vc vp vw vs vf : Value) : Array.foldl (fun (cs : Array Value) (x : Value × Nat) => cs.setIfInBounds x.2 x.1) #[.int .i64 0, .bool false, .bool false, .int .i64 0, .int .i64 0, .string ⟨#[]⟩, .string ⟨#[]⟩, .int .u8 0, .slice none 0 0, .slice none 0 0, .string ⟨#[]⟩, .bool false, .int .i64 0, .bool false, .string ⟨#[]⟩, .string ⟨#[]⟩, .int .i64 0, .bool false, .slice none 0 0, .bool false, .bool false, .string ⟨#[]⟩, .string ⟨#[]⟩, .bool false, .slice none 0 0, .slice none 0 0] (pkCells P vc vp vw vs vf).zipIdx 0 26 = pkCells P vc vp vw vs vf := by
  kernel_rfl

/-- What Feed's function keeps: the packets so far, in a row that the variable in block p holds. -/
def FoI (p : Nat) (w : World) (l : List ByteArray) (W : World) : Prop :=
  ∃ v L, W.heap[p]? = some (.cells #[v] 29 (0, 0)) ∧ PkRow (p + 1) v L W ∧ L.map Pv.p = l.map (fun b => (PK.getPk b).1) ∧ p + 1 ≤ W.heap.size ∧ Below p w W
theorem FoI.below {p : Nat} {w W W' : World} {l : List ByteArray} (h : FoI p w l W) (hb : Below W.heap.size W W') : FoI p w l W' := by
  obtain ⟨v, L, h1, h2, h3, h4, h5⟩ := h
  exact ⟨v, L, (hb.block _ (lt_heap h1)).trans h1, h2.below hb, h3, Nat.le_trans h4 hb.size, h5.trans (hb.mono (by omega))⟩

set_option maxRecDepth 100000 in
set_option maxHeartbeats 1000000 in
theorem feed1_any (p : Nat) (w : World) (l : List ByteArray) (b : ByteArray) (hb : b.size ≤ 140737488351232) (hl : l.length < 1000000) (hT : ∀ W, Below p w W → Tabs W) (W : World) (h : FoI p w l W) :
    Calls Tryz.prog 17 #[.string b, .pointer (some ⟨p, 0, none⟩)] W fun e W' => e = .returned (.int .u8 (PK.getPk b).2) ∧ ((PK.getPk b).2 = 0 → FoI p w (l ++ [b]) W') ∧ ((PK.getPk b).2 ≠ 0 → FoI p w l W') := by
  obtain ⟨v, L, hv, hrow, hLl, hp1, hbe⟩ := id h
  have HF := Lib.hid h
  have CG := Lib.hid (get_pk_any b hb W (fun W' hW => hT W' (hbe.trans (hW.mono (by omega)))))
  obtain ⟨P, hP⟩ : ∃ P, P = (PK.getPk b).1 := ⟨_, rfl⟩
  have HPE := Lib.hid hP
  unfold GtP at CG
  rw [← hP] at CG
  generalize (PK.getPk b).2 = c at *
  clear hP h hT
  have HV := Lib.hid hv
  have HR := Lib.hid hrow
  have HL := Lib.hid hLl
  have HB := Lib.hid hbe
  have hLn : L.length = l.length := by have := congrArg List.length hLl; simpa using this
  clear hv hrow hLl hbe
  by_cases hc : c = 0
  · subst hc
    go_enter Tryz.func17, Tryz.ntmps17
    go_wp2_with fail
    refine CG.out.mono ?_
    rintro e w1 ⟨h1, _, b1⟩
    obtain ⟨vc, vp, vw, vs, vf, rfl, o1⟩ := h1 trivial
    have W1 := Lib.hid (pk_one P o1)
    have Z1 : Hid ((w1.alloc (.cells (pkNil PK.zeroPk) 45)).heap[w1.heap.size]? = some (.cells (pkNil PK.zeroPk) 45 (0, 0))) := Lib.hid (heap_alloc_new w1 _)
    go_upto_region 2 with (refine wpList_store_row (by rfl) 45 (.tmp 4) (.tmp 9) (by rfl) w1.heap.size (pkCells P vc vp vw vs vf) (by rfl) (by rfl) 45 (pkNil PK.zeroPk) Z1.out pk_info rfl W1.out ?_)
    obtain ⟨wA, hwA⟩ : ∃ wA, wA = (w1.alloc (.cells (pkNil PK.zeroPk) 45)).setRow w1.heap.size (pkCells P vc vp vw vs vf) := ⟨_, rfl⟩
    have PA : Hid (wA.heap[w1.heap.size]? = some (.cells (pkCells P vc vp vw vs vf) 45 (0, 0))) := Lib.hid (by rw [hwA]; exact setRow_heap Z1.out)
    have bA : Below w1.heap.size w1 wA := by rw [hwA]; exact below_setRow ((Below.refl _ _).alloc (Nat.le_refl _) _) (Nat.le_refl _) _
    change Code.wp _ _ _ _ ((w1.alloc (.cells (pkNil PK.zeroPk) 45)).setRow w1.heap.size (pkCells P vc vp vw vs vf))
    rw [← hwA]
    have hWA : Below W.heap.size W wA := b1.trans (bA.mono b1.size)
    have vA := (hWA.block _ (lt_heap HV.out)).trans HV.out
    have rA := HR.out.below hWA
    have oA := own5_base (own5_below o1 bA) hp1
    obtain ⟨z, nb, hinf, hzs, hnb⟩ := pkInfo
    obtain ⟨i0, hi0, hz0, hz1, hz2⟩ := info_parts hinf
    have hpA : p + 1 ≤ wA.heap.size := Nat.le_trans hp1 hWA.size
    obtain ⟨v2, w2, hr2, hown2, hg2, hb2⟩ := app1 Tryz.underlying29 hi0 hz0 hz1 hz2 hzs (by decide) hnb (p + 1) v L.length _ wA rA.row hpA (pkCells P vc vp vw vs vf) rfl (fun u hu => by have := W1.out; rw [Array.all_eq_true'] at this; exact this u (by simpa using hu)) (by omega)
    have hp2 := (hg2.block p (by omega) (fun e => by have := (rA.row.lt _ e.symm).1; omega)).trans vA
    obtain ⟨A2, c2, rfl⟩ := own_form hown2
    have q0 : wA.cell? ⟨p, 0, none⟩ = some v := by rw [cell_heap vA]; rfl
    have q2 : w2.cell? ⟨p, 0, none⟩ = some v := by rw [cell_heap hp2]; rfl
    have f2 : w2.frozen? ⟨p, 0, none⟩ = false := frozen_heap hp2
    have HN : Hid (FoI p w (l ++ [b]) (w2.setCell ⟨p, 0, none⟩ (.slice A2 (L.length + 1) c2))) := Lib.hid (by
      have hrr : ∀ g, v.ownBlock = some g → ∃ c fz, wA.heap[g]? = some (.cells c 45 fz) := own_row rA.row
      refine ⟨_, L ++ [⟨P, vc, vp, vw, vs, vf⟩], one_setCell hp2, PkRow.set ⟨by simpa [Pv.cells] using hown2, fun x hx => ?_⟩ (by omega), by rw [List.map_append, List.map_append, HL.out, HPE.out]; rfl, by simp [World.setCell]; have := hg2.size; omega, ?_⟩
      · rcases List.mem_append.1 hx with hx | hx
        · exact own5_kept (rA.own x hx) hg2 hrr
        · simp at hx; subst hx; exact own5_kept oA hg2 hrr
      · have h5 := ((HB.out.trans (hWA.mono (by omega))).trans (hb2.mono (Nat.le_succ p)))
        exact ⟨h5.os, h5.tape, h5.output, by simp [World.setCell]; exact h5.size, fun i hi => (Below.heap_setCell _ _ _ _ (fun e => by simp at e; omega)).trans (h5.block i hi)⟩)
    have hcz : (pkCells P vc vp vw vs vf).size = 26 := rfl
    clear hLn
    clear hwA Z1 b1 bA hWA vA rA oA o1 hinf hzs hnb hi0 hz0 hz1 hz2 hown2 hg2 hb2 hp2 HB HR HL HV CG HF
    go_wp2_with (first
      | refine wpl_load_pk (by rfl) (.tmp 4) (by rfl) w1.heap.size (by rfl) PA.out ?_
      | (at_builtin; simp only [fill_pk26]; refine wpList_run (by rfl) (.tmp 13) (.tmp 15) _ _ (by rfl) (by rfl) (by rfl) hr2 ?_; clear hr2))
    go_ret
    exact ⟨rfl, fun _ => HN.out, fun h => absurd rfl h⟩
  · have e1 : (c == 0) = false := by rw [beq_eq_false_iff_ne]; exact hc
    have HC := Lib.hid hc
    clear hc
    go_enter Tryz.func17, Tryz.ntmps17
    go_wp2_with fail
    refine CG.out.mono ?_
    rintro e w1 ⟨_, h1, b1⟩
    obtain rfl := h1 HC.out
    have O1 := Lib.hid (pkNil_one PK.zeroPk)
    have Z1 : Hid ((w1.alloc (.cells (pkNil PK.zeroPk) 45)).heap[w1.heap.size]? = some (.cells (pkNil PK.zeroPk) 45 (0, 0))) := Lib.hid (heap_alloc_new w1 _)
    have HN : Hid (FoI p w l ((w1.alloc (.cells (pkNil PK.zeroPk) 45)).setRow w1.heap.size (pkNil PK.zeroPk))) := Lib.hid (HF.out.below (b1.trans ((below_setRow ((Below.refl _ _).alloc (Nat.le_refl _) _) (Nat.le_refl _) _ : Below w1.heap.size w1 _).mono b1.size)))
    clear b1 h1 HF CG HV HR HL HB
    go_wp2_with (refine wpList_store_row (by rfl) 45 (.tmp 4) (.tmp 9) (by rfl) w1.heap.size (pkNil PK.zeroPk) (by rfl) (by rfl) 45 (pkNil PK.zeroPk) Z1.out pk_info rfl O1.out ?_)
    go_ret
    exact ⟨rfl, fun h => absurd h HC.out, fun _ => HN.out⟩
end Go.Proofs.YtemfcaaoobjgkaaGreatDoor
namespace Go.Proofs.YtemfcaaoobjgkaaGreatDoor
open Go.RowKit

section
variable {P : Program} {ops : Array Oper} {Q : Exit → Act → World → Prop} {md : Region.Mode} {S : World → Prop} {T : Nat}

/-- Whatever order is picked, and S holds behind each operation below T. -/
def wpAnyT (P : Program) (md : Region.Mode) (ops : Array Oper) (Q : Exit → Act → World → Prop) (S : World → Prop) (T : Nat) : Nat → Array Bool → Act → World → Prop
  | 0, listed, a, w => Region.ready md ops listed = [] ∧ Q .normal a w
  | fuel + 1, listed, a, w => (Region.ready md ops listed = [] → Q .normal a w) ∧
    ∀ i ∈ Region.ready md ops listed, wpOp P ops Q i (fun a' w' => (i < T → S w') ∧ wpAnyT P md ops Q S T fuel (listed.setIfInBounds i true) a' w') a w
theorem wpAny_of_T : ∀ (fuel : Nat) (listed : Array Bool) (a : Act) (w : World), wpAnyT P md ops Q S T fuel listed a w → wpAny P md ops Q fuel listed a w
  | 0, _, _, _, h => h
  | fuel + 1, _, _, _, h => ⟨h.1, fun i hi => wpOp_mono (fun a' w' h' => wpAny_of_T fuel _ a' w' h'.2) (h.2 i hi)⟩
/-- Number j waits for number i. -/
def waitsB (md : Region.Mode) (ops : Array Oper) (j i : Nat) : Bool :=
  match ops[j]? with
  | some o => o.after.any fun e => Region.binds md e && e.on == i
  | none => false
theorem waitsB_spec {j i : Nat} {oj : Oper} (h : waitsB md ops j i = true) (hj : ops[j]? = some oj) : ∃ e ∈ oj.after, Region.binds md e = true ∧ e.on = i := by
  unfold waitsB at h
  rw [hj] at h
  obtain ⟨e, he, hb⟩ := Array.any_eq_true'.1 h
  simp only [Bool.and_eq_true, beq_iff_eq] at hb
  exact ⟨e, he, hb⟩
/-- Number c is i or waits for it, by way of others too. -/
def reachB (md : Region.Mode) (ops : Array Oper) (i : Nat) : Nat → Nat → Bool
  | 0, c => c == i
  | f + 1, c => c == i || match ops[c]? with
    | some o => o.after.any fun e => Region.binds md e && reachB md ops i f e.on
    | none => false
/-- All from T on wait for number c, which waits for i. -/
def gateB (md : Region.Mode) (ops : Array Oper) (T c i : Nat) : Bool := reachB md ops i 4 c && (List.range ops.size).all fun j => decide (j < T) || waitsB md ops j c
/-- Whoever has come up, those that it waits for have. -/
def Closed (md : Region.Mode) (ops : Array Oper) (listed : Array Bool) : Prop := ∀ j oj, ops[j]? = some oj → listed.getD j false = true → ∀ e ∈ oj.after, Region.binds md e = true → listed.getD e.on false = true
def closedB (md : Region.Mode) (ops : Array Oper) (listed : Array Bool) : Bool := (List.range ops.size).all fun j => !listed.getD j false || match ops[j]? with
  | some o => o.after.all fun e => !Region.binds md e || listed.getD e.on false
  | none => true
theorem closedB_spec {listed : Array Bool} (h : closedB md ops listed = true) : Closed md ops listed := fun j oj hj hl e he hb => by
  unfold closedB at h
  rw [List.all_eq_true] at h
  have h1 := h j (List.mem_range.2 (Array.getElem?_eq_some_iff.1 hj).1)
  rw [hl, hj] at h1
  simp only [Bool.not_true, Bool.false_or] at h1
  have h2 := Array.all_eq_true'.1 h1 e he
  rw [hb] at h2
  simpa using h2
theorem Closed.set {listed : Array Bool} (h : Closed md ops listed) {i : Nat} (hi : i ∈ Region.ready md ops listed) : Closed md ops (listed.setIfInBounds i true) := fun j oj hj hl e he hb => by
  obtain ⟨_, oi, hoi, hall⟩ := mem_ready.1 hi
  by_cases hij : i = j
  · subst hij
    have : oj = oi := Option.some.inj (hj.symm.trans hoi)
    subst this
    exact getD_set_true (hall e he hb)
  · rw [getD_set_ne false hij] at hl
    exact getD_set_true (h j oj hj hl e he hb)
theorem reach_unlisted {listed : Array Bool} (h : Closed md ops listed) {i : Nat} (hi : listed.getD i false = false) : ∀ (f c : Nat), reachB md ops i f c = true → listed.getD c false = false
  | 0, c, hr => by
    unfold reachB at hr
    rw [beq_iff_eq] at hr
    subst hr
    exact hi
  | f + 1, c, hr => by
    unfold reachB at hr
    rw [Bool.or_eq_true] at hr
    rcases hr with hr | hr
    · rw [beq_iff_eq] at hr
      subst hr
      exact hi
    · cases hc : ops[c]? with
      | none => rw [hc] at hr; cases hr
      | some o =>
        rw [hc] at hr
        obtain ⟨e, he, hb⟩ := Array.any_eq_true'.1 hr
        rw [Bool.and_eq_true] at hb
        have h1 := reach_unlisted h hi f e.on hb.2
        cases hl : listed.getD c false with
        | false => rfl
        | true =>
          have h2 := h c o hc hl e he hb.1
          rw [h1] at h2
          cases h2
theorem ready_waits {listed : Array Bool} {j i : Nat} (hj : j ∈ Region.ready md ops listed) (hw : waitsB md ops j i = true) : listed.getD i false = true := by
  obtain ⟨_, oj, hoj, hall⟩ := mem_ready.1 hj
  obtain ⟨e, he, hb, hon⟩ := waitsB_spec hw hoj
  rw [← hon]
  exact hall e he hb
theorem unlisted {listed : Array Bool} {i : Nat} (h : listed.getD i true = false) : listed.getD i false = false := by
  rcases Nat.lt_or_ge i listed.size with h' | h'
  · simp [h'] at h ⊢; exact h
  · simp [Array.getElem?_eq_none h'] at h

theorem wpAnyT_first {i c : Nat} {oi : Oper} {v : Value} (hi : ops[i]? = some oi) (hsel : ∀ (j : Nat) (o : Oper) cs b, ops[j]? = some o → o.op ≠ .select cs b)
    (hQ : ∀ c a w, Q (.panic c) (a.put oi.dst v) w → Q (.panic c) a w) (hg : gateB md ops T c i = true) :
    ∀ (fuel : Nat) (listed : Array Bool) (a : Act) (w : World),
      (∀ j oj, ops[j]? = some oj → j ≠ i → listed.getD j true = false → (∀ e ∈ oj.after, Region.binds md e = true → e.on ≠ i) → oi.apart ops oj = true) →
      i ∈ Region.ready md ops listed → Closed md ops listed → YieldsIf P ops S oi v a → S w →
      wpAnyT P md ops Q S T fuel (listed.setIfInBounds i true) (a.put oi.dst v) w → wpAnyT P md ops Q S T (fuel + 1) listed a w := by
  unfold gateB at hg
  rw [Bool.and_eq_true, List.all_eq_true] at hg
  obtain ⟨hg1, hg2⟩ := hg
  intro fuel
  induction fuel with
  | zero =>
    intro listed a w _ hr _ hy hS H
    refine ⟨fun h => (by rw [h] at hr; cases hr), fun j hj => ?_⟩
    by_cases hji : j = i
    · subst hji; exact hy.wpOp hi hS ⟨fun _ => hS, H⟩
    · have := ready_mono hj hji
      rw [H.1] at this
      cases this
  | succ fuel ih =>
    intro listed a w hfree hr hcu hy hS H
    refine ⟨fun h => (by rw [h] at hr; cases hr), fun j hj => ?_⟩
    by_cases hji : j = i
    · subst hji; exact hy.wpOp hi hS ⟨fun _ => hS, H⟩
    · have h1 := H.2 j (ready_mono hj hji)
      obtain ⟨hjun, oj, hoj, hall⟩ := mem_ready.1 hj
      have h0 := unlisted (mem_ready.1 hr).1
      have hnot : ∀ e ∈ oj.after, Region.binds md e = true → e.on ≠ i := fun e he hb heq => by
        have h1 := hall e he hb
        rw [heq, h0] at h1
        cases h1
      have hjT : j < T := by
        have h3 := hg2 j (List.mem_range.2 (Array.getElem?_eq_some_iff.1 hoj).1)
        rw [Bool.or_eq_true, decide_eq_true_eq] at h3
        rcases h3 with h3 | h3
        · exact h3
        · have := ready_waits hj h3
          rw [reach_unlisted hcu h0 _ _ hg1] at this
          cases this
      have h2 := wpOp_putIf hoj (hfree j oj hoj hji hjun hnot) (fun cs b => hsel i oi cs b hi) (fun cs b => hsel j oj cs b hoj) hQ hy h1
      have hfree' : ∀ k ok, ops[k]? = some ok → k ≠ i → (listed.setIfInBounds j true).getD k true = false →
          (∀ e ∈ ok.after, Region.binds md e = true → e.on ≠ i) → oi.apart ops ok = true := fun k ok hk hki hun hno => by
        refine hfree k ok hk hki ?_ hno
        by_cases hjk : j = k
        · subst hjk; exact hjun
        · rw [getD_set_ne true hjk] at hun; exact hun
      refine wpOp_mono (fun a' w' h3 => ⟨h3.2.1, ih (listed.setIfInBounds j true) a' w' hfree' (ready_mono hr (Ne.symm hji)) (hcu.set hj) h3.1 (h3.2.1 hjT) ?_⟩) h2
      rw [Array.setIfInBounds_comm _ _ hji]
      exact h3.2.2
/-- Take number i first. -/
theorem wpAnyT_take (i c : Nat) {oi : Oper} {v : Value} {fuel : Nat} {listed : Array Bool} {a : Act} {w : World} (hi : ops[i]? = some oi) (hgd : oi.guard = none)
    (hs : Region.noSelect ops = true) (hf : Region.free md ops listed i = true) (hr : (Region.ready md ops listed).contains i = true) (hg : gateB md ops T c i = true) (hcu : closedB md ops listed = true)
    (hQ : ∀ c a w, Q (.panic c) (a.put oi.dst v) w → Q (.panic c) a w) (hy : ∀ w, S w → (execOp a.eval oi).run P w = .ok (.value v) w) (hS : S w)
    (h : wpAnyT P md ops Q S T fuel (listed.setIfInBounds i true) (a.put oi.dst v) w) : wpAnyT P md ops Q S T (fuel + 1) listed a w :=
  wpAnyT_first hi (Region.noSelect_spec hs) hQ hg fuel listed a w (Region.free_spec hi hf) (by simpa using hr) (closedB_spec hcu) (.inl ⟨by simp [Region.wanted, hgd], hy⟩) hS h
/-- One of those that may come up is carried out. -/
theorem opT {i : Nat} {o : Oper} {K : Act → World → Prop} {a : Act} {w w' : World} {v : Value} (ho : ops[i]? = some o) (hgd : o.guard = none) (hrun : (execOp a.eval o).run P w = .ok (.value v) w') (h : K (a.put o.dst v) w') : wpOp P ops Q i K a w := by
  unfold wpOp
  simp only [ho]
  rw [if_pos (by simp [Region.wanted, hgd])]
  refine .inl ?_
  unfold Oper.wp
  rw [hrun]
  exact h
theorem wpAnyT_one (i : Nat) {fuel : Nat} {listed : Array Bool} {a : Act} {w : World} (hr : Region.ready md ops listed = [i])
    (h : wpOp P ops Q i (fun a' w' => (i < T → S w') ∧ wpAnyT P md ops Q S T fuel (listed.setIfInBounds i true) a' w') a w) : wpAnyT P md ops Q S T (fuel + 1) listed a w :=
  ⟨fun h0 => (by rw [hr] at h0; cases h0), fun j hj => (by rw [hr] at hj; simp at hj; subst hj; exact h)⟩
theorem wpAnyT_two (i k : Nat) {fuel : Nat} {listed : Array Bool} {a : Act} {w : World} (hr : Region.ready md ops listed = [i, k])
    (h : wpOp P ops Q i (fun a' w' => (i < T → S w') ∧ wpAnyT P md ops Q S T fuel (listed.setIfInBounds i true) a' w') a w)
    (h' : wpOp P ops Q k (fun a' w' => (k < T → S w') ∧ wpAnyT P md ops Q S T fuel (listed.setIfInBounds k true) a' w') a w) : wpAnyT P md ops Q S T (fuel + 1) listed a w := by
  refine ⟨fun h0 => (by rw [hr] at h0; cases h0), fun j hj => ?_⟩
  rw [hr] at hj
  simp at hj
  rcases hj with rfl | rfl
  · exact h
  · exact h'
theorem wpAnyT_done {listed : Array Bool} {a : Act} {w : World} (hr : Region.ready md ops listed = []) (h : Q .normal a w) : wpAnyT P md ops Q S T 0 listed a w := ⟨hr, h⟩
theorem wp_region_T {id : Nat} {a : Act} {w : World} (hm : P.follows .mixedOrders = true) (h : wpAnyT P .any ops Q S T ops.size (Array.replicate ops.size false) a w.drew) : (Code.region id ops true).wp P Q a w :=
  wp_region_any hm (wpAny_of_T _ _ _ _ h)
end

/-- A region of a body. -/
def findR (k : Nat) : Code → Option (Array Oper)
  | .region n o _ => match n == k with
    | true => some o
    | false => none
  | .loop c => findR k c
  | .seq a b => match findR k a with
    | some o => some o
    | none => findR k b
  | .block _ c => findR k c
  | .scope c => findR k c
  | .cond _ a b => match findR k a with
    | some o => some o
    | none => findR k b
  | _ => none

theorem ev_same {a : Act} {d : Nat} {v : Value} (h : d < a.tmps.size) : (a.put (some d) v).eval (.tmp d) = v := by
  show ((a.tmps.setIfInBounds d v).getD d undef) = v
  simp [h]
theorem ev_ne {a : Act} {d e : Nat} {v : Value} (h : d ≠ e) : (a.put (some d) v).eval (.tmp e) = a.eval (.tmp e) := by
  show ((a.tmps.setIfInBounds d v).getD e undef) = a.tmps.getD e undef
  rw [Array.getD_eq_getD_getElem?, Array.getD_eq_getD_getElem?, Array.getElem?_setIfInBounds_ne h]
theorem put_sz {a : Act} {d : Nat} {v : Value} : (a.put (some d) v).tmps.size = a.tmps.size := by
  show (a.tmps.setIfInBounds d v).size = _
  simp
theorem pc {a : Act} {d e : Nat} {u v : Value} (h : d ≠ e) : (a.put (some d) u).put (some e) v = (a.put (some e) v).put (some d) u := by
  show Act.mk ((a.tmps.setIfInBounds d u).setIfInBounds e v) _ = Act.mk ((a.tmps.setIfInBounds e v).setIfInBounds d u) _
  rw [Array.setIfInBounds_comm _ _ h]
  rfl

/-- Two rows that were appended to, one behind the other. -/
def AppP (N : Nat) (wc : World) (eA eB : TypeId) (kA kB : Nat) (va vb : Value) (n : Nat) (xs ys csA csB : List Value) (v1 v2 : Value) (w2 : World) : Prop :=
  ∃ wa w1 wb g1 c1 g2 c2, v1 = .slice (some ⟨g1, 0, none⟩) (n + 1) c1 ∧ v2 = .slice (some ⟨g2, 0, none⟩) (n + 1) c2 ∧
    Below wc.heap.size wc wa ∧ wa.grownBy w1 va.ownBlock ∧ w1.ownsRow N eA kA v1 (n + 1) (xs ++ csA) ∧ (va.ownBlock = some g1 ∨ wc.heap.size ≤ g1) ∧
    Below w1.heap.size w1 wb ∧ wb.grownBy w2 vb.ownBlock ∧ w2.ownsRow N eB kB v2 (n + 1) (ys ++ csB) ∧ (vb.ownBlock = some g2 ∨ w1.heap.size ≤ g2)
end Go.Proofs.YtemfcaaoobjgkaaGreatDoor
namespace Go.Proofs.YtemfcaaoobjgkaaGreatDoor
open Go.RowKit

theorem i64_byte {c : Int} (h : 0 ≤ c ∧ c ≤ 255) : IntKind.i64.wrap c = c := by
  unfold IntKind.wrap
  simp [IntKind.bits, IntKind.signed]
  omega

end Go.Proofs.YtemfcaaoobjgkaaGreatDoor
namespace Go.Proofs.YtemfcaaoobjgkaaGreatDoor
open Go.RowKit
attribute [local go_sem ↓] Go.wp_at_zero Go.wp_at_succ

end Go.Proofs.YtemfcaaoobjgkaaGreatDoor
namespace Go.Proofs.YtemfcaaoobjgkaaGreatDoor
open Go.RowKit

/-- The cells of the document's packet. -/
def rkCells (p : Pk) (vc vp vw vs vf : Value) : Array Value :=
  #[.int .i64 p.kind, .bool p.dup, .bool p.ret, .int .i64 p.qos, .int .i64 p.id, .string p.topic, .string p.pay, .int .i64 p.code, vc, vp, .string p.client, .bool p.clean, .int .i64 p.keep, .bool p.hasWill,
    .string p.wtopic, .string p.wpay, .int .i64 p.wqos, .bool p.wret, vw, .bool p.hasUser, .bool p.hasPass, .string p.user, .string p.pass, .bool p.session, vs, vf]
def rkNil (P : Pk) : Array Value := rkCells P (.slice none 0 0) (.slice none 0 0) (.slice none 0 0) (.slice none 0 0) (.slice none 0 0)
def flatI (l : List Int) : List Value := l.map (Value.int .i64)
theorem flatI_snoc (l : List Int) (x : Int) : flatI (l ++ [x]) = flatI l ++ [.int .i64 x] := by simp [flatI]
structure Own5R (B : Nat) (P : Pk) (vc vp vw vs vf : Value) (w : World) : Prop where
  codes : w.ownsRow B 3 1 vc P.codes.length (flatI P.codes)
  props : w.ownsRow B 115 4 vp P.props.length (flatP P.props)
  wprops : w.ownsRow B 115 4 vw P.wprops.length (flatP P.wprops)
  subs : w.ownsRow B 84 5 vs P.subs.length (flatB P.subs)
  filters : w.ownsRow B 9 1 vf P.filters.length (flatT P.filters)
theorem Own5R.below {B : Nat} {P : Pk} {vc vp vw vs vf : Value} {w w' : World} (h : Own5R B P vc vp vw vs vf w) (hb : Below w.heap.size w w') : Own5R B P vc vp vw vs vf w' :=
  ⟨own_below h.codes hb, own_below h.props hb, own_below h.wprops hb, own_below h.subs hb, own_below h.filters hb⟩
theorem Own5R.set {B b j : Nat} {P : Pk} {vc vp vw vs vf u : Value} {w : World} (h : Own5R B P vc vp vw vs vf w) (hb : b < B) : Own5R B P vc vp vw vs vf (w.setCell ⟨b, j, none⟩ u) :=
  ⟨own_set h.codes (row_ne h.codes hb), own_set h.props (row_ne h.props hb), own_set h.wprops (row_ne h.wprops hb), own_set h.subs (row_ne h.subs hb), own_set h.filters (row_ne h.filters hb)⟩
theorem rk_one (P : Pk) {B : Nat} {vc vp vw vs vf : Value} {w : World} (h : Own5R B P vc vp vw vs vf w) : (rkCells P vc vp vw vs vf).all (·.oneCell') = true := by
  obtain ⟨A1, n1, rfl⟩ := own_form h.codes
  obtain ⟨A2, n2, rfl⟩ := own_form h.props
  obtain ⟨A3, n3, rfl⟩ := own_form h.wprops
  obtain ⟨A4, n4, rfl⟩ := own_form h.subs
  obtain ⟨A5, n5, rfl⟩ := own_form h.filters
  simp [rkCells, Value.oneCell']
theorem rk_info : (Tryz.prog.info? 52).map (·.size) = some 26 := by kernel_rfl

/-- On the way: the argument's box, the two answers' cells, the two packets so far. -/
structure PS (t0 : TypeId) (w : World) (C0 : Array Value) (P : Pk) (vc vp vw vs vf uc up uw us uf : Value) (W : World) : Prop where
  b0 : W.heap[w.heap.size]? = some (.cells C0 t0 (0, 0))
  b1 : W.heap[w.heap.size + 1]? = some (.cells (pkNil PK.zeroPk) 45 (0, 0))
  b2 : W.heap[w.heap.size + 2]? = some (.cells (rkNil PK.zeroPk) 52 (0, 0))
  b3 : W.heap[w.heap.size + 3]? = some (.cells (pkCells P vc vp vw vs vf) 45 (0, 0))
  b4 : W.heap[w.heap.size + 4]? = some (.cells (rkCells P uc up uw us uf) 52 (0, 0))
  own : Own5 (w.heap.size + 5) P vc vp vw vs vf W
  ref : Own5R (w.heap.size + 5) P uc up uw us uf W
  apart : uf.ownBlock = none ∨ uf.ownBlock ≠ vf.ownBlock
  below : Below w.heap.size w W

section
variable {t0 : TypeId} {w : World} {C0 : Array Value} {P : Pk} {vc vp vw vs vf uc up uw us uf : Value} {W W' : World}
theorem PS.size (h : PS t0 w C0 P vc vp vw vs vf uc up uw us uf W) : w.heap.size + 5 ≤ W.heap.size := lt_heap h.b4
theorem PS.next (h : PS t0 w C0 P vc vp vw vs vf uc up uw us uf W) (hb : Below W.heap.size W W') : PS t0 w C0 P vc vp vw vs vf uc up uw us uf W' :=
  ⟨(hb.block _ (lt_heap h.b0)).trans h.b0, (hb.block _ (lt_heap h.b1)).trans h.b1, (hb.block _ (lt_heap h.b2)).trans h.b2, (hb.block _ (lt_heap h.b3)).trans h.b3, (hb.block _ (lt_heap h.b4)).trans h.b4,
    own5_below h.own hb, h.ref.below hb, h.apart, h.below.trans (hb.mono (by have := h.size; omega))⟩
/-- The rows of a packet that was laid aside for a while. -/
theorem AppP.keep {N : Nat} {wc w2 : World} {eA eB : TypeId} {kA kB : Nat} {va vb v1 v2 : Value} {n : Nat} {xs ys csA csB : List Value} (hp : AppP N wc eA eB kA kB va vb n xs ys csA csB v1 v2 w2)
    {M : Nat} {e : TypeId} {k : Nat} {v : Value} {m : Nat} {zs : List Value} (h : wc.ownsRow M e k v m zs) (ha : v.ownBlock = none ∨ v.ownBlock ≠ va.ownBlock) (hb : v.ownBlock = none ∨ v.ownBlock ≠ vb.ownBlock) : w2.ownsRow M e k v m zs := by
  obtain ⟨wa, w1, wb, g1, c1, g2, c2, rfl, rfl, b1, q1, o1, t1, b2, q2, o2, t2⟩ := hp
  exact (own_below ((own_below h b1).kept q1 ha) b2).kept q2 hb
theorem AppP.block {N : Nat} {wc w2 : World} {eA eB : TypeId} {kA kB : Nat} {va vb v1 v2 : Value} {n : Nat} {xs ys csA csB : List Value} (hp : AppP N wc eA eB kA kB va vb n xs ys csA csB v1 v2 w2) {b : Nat} {o : Obj} (ho : wc.heap[b]? = some o)
    (ha : va.ownBlock ≠ some b) (hb : vb.ownBlock ≠ some b) : w2.heap[b]? = some o := by
  obtain ⟨wa, w1, wb, g1, c1, g2, c2, rfl, rfl, b1, q1, o1, t1, b2, q2, o2, t2⟩ := hp
  have h1 := (b1.block _ (lt_heap ho)).trans ho
  have h2 := (q1.block _ (lt_heap h1) (Ne.symm ha)).trans h1
  have h3 := (b2.block _ (lt_heap h2)).trans h2
  exact (q2.block _ (lt_heap h3) (Ne.symm hb)).trans h3
theorem AppP.below {N K : Nat} {wc w2 : World} {eA eB : TypeId} {kA kB : Nat} {va vb v1 v2 : Value} {n : Nat} {xs ys csA csB : List Value} (hp : AppP N wc eA eB kA kB va vb n xs ys csA csB v1 v2 w2) (hA : wc.ownsRow N eA kA va n xs) (hB : wc.ownsRow N eB kB vb n ys) (hN : K ≤ N) (hs : K ≤ wc.heap.size) : Below K wc w2 := by
  obtain ⟨wa, w1, wb, g1, c1, g2, c2, rfl, rfl, b1, q1, o1, t1, b2, q2, o2, t2⟩ := hp
  have s1 := b1.size; have s2 := q1.size; have s3 := b2.size
  have h1 := (b1.mono hs).grown q1 (by omega) (fun k hk => Nat.le_trans hN (hA.lt k hk).1)
  exact (h1.trans (b2.mono (by omega))).grown q2 (by omega) (fun k hk => Nat.le_trans hN (hB.lt k hk).1)
theorem AppP.rows {N : Nat} {wc w2 : World} {eA eB : TypeId} {kA kB : Nat} {va vb v1 v2 : Value} {n : Nat} {xs ys csA csB : List Value} (hp : AppP N wc eA eB kA kB va vb n xs ys csA csB v1 v2 w2) (hB : wc.ownsRow N eB kB vb n ys) (hap : vb.ownBlock = none ∨ vb.ownBlock ≠ va.ownBlock) :
    w2.ownsRow N eA kA v1 (n + 1) (xs ++ csA) ∧ w2.ownsRow N eB kB v2 (n + 1) (ys ++ csB) ∧ v2.ownBlock ≠ v1.ownBlock := by
  obtain ⟨wa, w1, wb, g1, c1, g2, c2, rfl, rfl, b1, q1, o1, t1, b2, q2, o2, t2⟩ := hp
  have l1 := (o1.lt g1 rfl).2
  have s1 := b1.size; have s2 := q1.size
  have ne : vb.ownBlock ≠ some g1 := fun e => by
    rcases t1 with t | t
    · rcases hap with h | h
      · rw [h] at e; cases e
      · exact h (e.trans t.symm)
    · have := (hB.lt g1 e).2; omega
  refine ⟨(own_below o1 b2).kept q2 (.inr (Ne.symm ne)), o2, fun e => ?_⟩
  have e' : g2 = g1 := by simpa [Value.ownBlock] using e
  subst e'
  rcases t2 with t | t
  · exact ne t
  · omega
end
end Go.Proofs.YtemfcaaoobjgkaaGreatDoor
namespace Go.Proofs.YtemfcaaoobjgkaaGreatDoor
open Go.RowKit
attribute [local go_sem ↓] Go.wp_at_zero Go.wp_at_succ

theorem Own5R.setRow {B b : Nat} {P : Pk} {vc vp vw vs vf : Value} {w : World} (h : Own5R B P vc vp vw vs vf w) (hb : b < B) (cs : Array Value) : Own5R B P vc vp vw vs vf (w.setRow b cs) :=
  ⟨own_setRow cs h.codes (row_ne h.codes hb), own_setRow cs h.props (row_ne h.props hb), own_setRow cs h.wprops (row_ne h.wprops hb), own_setRow cs h.subs (row_ne h.subs hb), own_setRow cs h.filters (row_ne h.filters hb)⟩
theorem Own5R.base {B C : Nat} {P : Pk} {vc vp vw vs vf : Value} {w : World} (h : Own5R B P vc vp vw vs vf w) (hC : C ≤ B) : Own5R C P vc vp vw vs vf w :=
  ⟨own_base' h.codes hC, own_base' h.props hC, own_base' h.wprops hC, own_base' h.subs hC, own_base' h.filters hC⟩
/-- Two results, each out of its box. -/
theorem two_boxes {P : Program} {W : World} {g h : Nat} {S T : TypeId} {x y : Value} (hl : (loadVar S ⟨g, 0, none⟩).run P W = .ok x W) (hm : (loadVar T ⟨h, 0, none⟩).run P W = .ok y W) :
    ((Sem.run P (asAddr (.pointer (some ⟨g, 0, none⟩))) W).andThen fun a w' => (Sem.run P (loadVar S a) w').andThen fun a w' => (Sem.run P (asAddr (.pointer (some ⟨h, 0, none⟩))) w').andThen fun b w' => (Sem.run P (loadVar T b) w').andThen fun b w' => Result.ok (Value.tuple #[a, b]) w') = .ok (Value.tuple #[x, y]) W := by
  show ((Sem.run P (loadVar S ⟨g, 0, none⟩) W).andThen _) = _
  rw [hl]
  show ((Sem.run P (loadVar T ⟨h, 0, none⟩) W).andThen _) = _
  rw [hm]
  rfl
theorem rN1_le (U : ByteArray) (x : Int × Int) : 0 ≤ (RG.rN U 1 x).2 ∧ (RG.rN U 1 x).2 ≤ 255 := by
  have h1 := PK.rd_nn U x.1 1
  have h2 := PK.rd_1le U x.1
  unfold RG.rN
  split
  · exact ⟨Int.le_refl _, (by decide : (0 : Int) ≤ 255)⟩
  split
  · exact ⟨Int.le_refl _, (by decide : (0 : Int) ≤ 255)⟩
  · exact ⟨h1.1, h2⟩
theorem below_drew (n : Nat) (w : World) : Below n w w.drew := ⟨rfl, rfl, rfl, Nat.le_refl _, fun _ _ => rfl⟩
theorem rk_var {w : World} {g : Nat} {P : Pk} {vc vp vw vs vf : Value} (h : w.heap[g]? = some (.cells (rkCells P vc vp vw vs vf) 52 (0, 0))) :
    (loadVar 52 ⟨g, 0, none⟩).run Tryz.prog w = .ok (.agg (rkCells P vc vp vw vs vf)) w :=
  run_loadVar_mid _ g 0 52 (rkCells P vc vp vw vs vf).toList _ (fun j v hv => by rw [Nat.zero_add, cell_heap h, ← hv]; simp) Tryz.underlying52 rfl (by kernel_rfl)
theorem wpl_load_r {ops : Array Oper} {rest : List Oper} {op : Oper} {a : Act} {w : World} {Q : Exit → Act → World → Prop} (hgd : op.guard = none) (x : Operand) (ho : op.op = .load 52 x)
    (n : Nat) (hx : a.eval x = .pointer (some ⟨n, 0, none⟩)) {p : Pk} {vc vp vw vs vf : Value} (hb : w.heap[n]? = some (.cells (rkCells p vc vp vw vs vf) 52 (0, 0)))
    (h : wpList Tryz.prog ops Q rest (a.put op.dst (.agg (rkCells p vc vp vw vs vf))) w) : wpList Tryz.prog ops Q (op :: rest) a w :=
  wpList_load_mid hgd 52 x ho n 0 hx (rkCells p vc vp vw vs vf).toList _ (fun j v hv => by rw [Nat.zero_add, cell_heap hb, ← hv]; simp) Tryz.underlying52 rfl (by kernel_rfl) h
theorem Bare.own {P : Pk} (h : Bare P) (B : Nat) (w : World) : Own5R B P (.slice none 0 0) (.slice none 0 0) (.slice none 0 0) (.slice none 0 0) (.slice none 0 0) w :=
  ⟨by rw [h.codes]; exact own_nil _ _ _ _, by rw [h.props]; exact own_nil _ _ _ _, by rw [h.wprops]; exact own_nil _ _ _ _, by rw [h.subs]; exact own_nil _ _ _ _, by rw [h.filters]; exact own_nil _ _ _ _⟩

/-- The boxes of such a function: what is read, the packet, the two answers. -/
structure PB (w : World) (U : ByteArray) (x : Int × Int) (P : Pk) (vc vp vw vs vf : Value) (W : World) : Prop where
  box : W.heap[w.heap.size]? = some (.cells (iC U x) 111 (0, 0))
  pk : W.heap[w.heap.size + 1]? = some (.cells (rkCells P vc vp vw vs vf) 52 (0, 0))
  ri : W.heap[w.heap.size + 2]? = some (.cells (iC ⟨#[]⟩ (0, 0)) 111 (0, 0))
  rp : W.heap[w.heap.size + 3]? = some (.cells (rkNil PK.zeroPk) 52 (0, 0))
  own : Own5R (w.heap.size + 4) P vc vp vw vs vf W
  below : Below w.heap.size w W
/-- What such a function answers. -/
def GB (w : World) (U : ByteArray) (X : (Int × Int) × Pk) (e : Ending) (w' : World) : Prop :=
  ∃ vc vp vw vs vf, e = .returned (.tuple #[.agg (iC U X.1), .agg (rkCells X.2 vc vp vw vs vf)]) ∧ Own5R w.heap.size X.2 vc vp vw vs vf w' ∧ Below w.heap.size w w'
section
variable {w W W' : World} {U : ByteArray} {x : Int × Int} {P : Pk} {vc vp vw vs vf : Value}
theorem PB.size (h : PB w U x P vc vp vw vs vf W) : w.heap.size + 4 ≤ W.heap.size := lt_heap h.rp
theorem PB.next (h : PB w U x P vc vp vw vs vf W) (hb : Below W.heap.size W W') : PB w U x P vc vp vw vs vf W' :=
  ⟨(hb.block _ (lt_heap h.box)).trans h.box, (hb.block _ (lt_heap h.pk)).trans h.pk, (hb.block _ (lt_heap h.ri)).trans h.ri, (hb.block _ (lt_heap h.rp)).trans h.rp, h.own.below hb, h.below.trans (hb.mono h.below.size)⟩
theorem PB.setO (h : PB w U x P vc vp vw vs vf W) (x' : Int × Int) : PB w U x' P vc vp vw vs vf (W.setRow w.heap.size (iC U x')) :=
  ⟨setRow_heap h.box, (setRow_other _ (by omega)).trans h.pk, (setRow_other _ (by omega)).trans h.ri, (setRow_other _ (by omega)).trans h.rp, h.own.setRow (by omega) _, below_setRow h.below (Nat.le_refl _) _⟩
/-- A store into the packet. -/
theorem PB.setF (h : PB w U x P vc vp vw vs vf W) (j : Nat) (u : Value) (P' : Pk) (hc : (rkCells P vc vp vw vs vf).set! j u = rkCells P' vc vp vw vs vf) (h1 : P'.codes = P.codes) (h2 : P'.props = P.props) (h3 : P'.wprops = P.wprops) (h4 : P'.subs = P.subs) (h5 : P'.filters = P.filters) :
    PB w U x P' vc vp vw vs vf (W.setCell ⟨w.heap.size + 1, j, none⟩ u) :=
  ⟨(Below.heap_setCell _ _ _ _ (show w.heap.size ≠ w.heap.size + 1 by omega)).trans h.box, set_block h.pk hc, (Below.heap_setCell _ _ _ _ (show w.heap.size + 2 ≠ w.heap.size + 1 by omega)).trans h.ri, (Below.heap_setCell _ _ _ _ (show w.heap.size + 3 ≠ w.heap.size + 1 by omega)).trans h.rp,
    by have o := h.own.set (b := w.heap.size + 1) (j := j) (u := u) (by omega)
       exact ⟨by rw [h1]; exact o.codes, by rw [h2]; exact o.props, by rw [h3]; exact o.wprops, by rw [h4]; exact o.subs, by rw [h5]; exact o.filters⟩,
    h.below.setCell (p := ⟨w.heap.size + 1, j, none⟩) (by show w.heap.size ≤ w.heap.size + 1; omega) _⟩
/-- Properties, stored into the packet. -/
theorem PB.setP (h : PB w U x P vc vp vw vs vf W) {l : List Pr} {v : Value} (o : W.ownsRow (w.heap.size + 4) 115 4 v l.length (flatP l)) :
    PB w U x { P with props := l } vc v vw vs vf (W.setCell ⟨w.heap.size + 1, 9, none⟩ v) :=
  ⟨(Below.heap_setCell _ _ _ _ (show w.heap.size ≠ w.heap.size + 1 by omega)).trans h.box, set_block h.pk rfl, (Below.heap_setCell _ _ _ _ (show w.heap.size + 2 ≠ w.heap.size + 1 by omega)).trans h.ri, (Below.heap_setCell _ _ _ _ (show w.heap.size + 3 ≠ w.heap.size + 1 by omega)).trans h.rp,
    by have q := h.own.set (b := w.heap.size + 1) (j := 9) (u := v) (by omega)
       exact ⟨q.codes, own_set o (row_ne o (by omega)), q.wprops, q.subs, q.filters⟩,
    h.below.setCell (p := ⟨w.heap.size + 1, 9, none⟩) (by show w.heap.size ≤ w.heap.size + 1; omega) _⟩
theorem PB.setW (h : PB w U x P vc vp vw vs vf W) {l : List Pr} {v : Value} (o : W.ownsRow (w.heap.size + 4) 115 4 v l.length (flatP l)) :
    PB w U x { P with wprops := l } vc vp v vs vf (W.setCell ⟨w.heap.size + 1, 18, none⟩ v) :=
  ⟨(Below.heap_setCell _ _ _ _ (show w.heap.size ≠ w.heap.size + 1 by omega)).trans h.box, set_block h.pk rfl, (Below.heap_setCell _ _ _ _ (show w.heap.size + 2 ≠ w.heap.size + 1 by omega)).trans h.ri, (Below.heap_setCell _ _ _ _ (show w.heap.size + 3 ≠ w.heap.size + 1 by omega)).trans h.rp,
    by have q := h.own.set (b := w.heap.size + 1) (j := 18) (u := v) (by omega)
       exact ⟨q.codes, q.props, own_set o (row_ne o (by omega)), q.subs, q.filters⟩,
    h.below.setCell (p := ⟨w.heap.size + 1, 18, none⟩) (by show w.heap.size ≤ w.heap.size + 1; omega) _⟩
theorem PB.start (w : World) (U : ByteArray) (x : Int × Int) (P : Pk) (hP : Bare P) : PB w U x P (.slice none 0 0) (.slice none 0 0) (.slice none 0 0) (.slice none 0 0) (.slice none 0 0)
    ((((w.alloc (.cells (iC U x) 111)).alloc (.cells (rkNil P) 52)).alloc (.cells (iC ⟨#[]⟩ (0, 0)) 111)).alloc (.cells (rkNil PK.zeroPk) 52)) := by
  have s1 : (w.alloc (.cells (iC U x) 111)).heap.size = w.heap.size + 1 := by simp
  generalize h1 : w.alloc (.cells (iC U x) 111) = w1 at *
  have b1 : Below w.heap.size w w1 := by rw [← h1]; exact (Below.refl _ _).alloc (Nat.le_refl _) _
  have k1 : w1.heap[w.heap.size]? = some (.cells (iC U x) 111 (0, 0)) := by rw [← h1]; exact heap_alloc_new w _
  have s2 : (w1.alloc (.cells (rkNil P) 52)).heap.size = w1.heap.size + 1 := by simp
  have b2 : Below w1.heap.size w1 (w1.alloc (.cells (rkNil P) 52)) := (Below.refl _ _).alloc (Nat.le_refl _) _
  have k2 := heap_alloc_new w1 (.cells (rkNil P) 52)
  generalize w1.alloc (.cells (rkNil P) 52) = w2 at *
  have s3 : (w2.alloc (.cells (iC ⟨#[]⟩ (0, 0)) 111)).heap.size = w2.heap.size + 1 := by simp
  have b3 : Below w2.heap.size w2 (w2.alloc (.cells (iC ⟨#[]⟩ (0, 0)) 111)) := (Below.refl _ _).alloc (Nat.le_refl _) _
  have k3 := heap_alloc_new w2 (.cells (iC ⟨#[]⟩ (0, 0)) 111)
  generalize w2.alloc (.cells (iC ⟨#[]⟩ (0, 0)) 111) = w3 at *
  have b4 : Below w3.heap.size w3 (w3.alloc (.cells (rkNil PK.zeroPk) 52)) := (Below.refl _ _).alloc (Nat.le_refl _) _
  have k4 := heap_alloc_new w3 (.cells (rkNil PK.zeroPk) 52)
  rw [s3, s2, s1] at k4
  rw [s2, s1] at k3
  rw [s1] at k2
  exact ⟨((b4.block _ (by omega)).trans ((b3.block _ (by omega)).trans ((b2.block _ (by omega)).trans k1))), ((b4.block _ (by omega)).trans ((b3.block _ (by omega)).trans k2)), (b4.block _ (by omega)).trans k3, k4, hP.own _ _,
    b1.trans ((b2.mono (by omega)).trans ((b3.mono (by omega)).trans (b4.mono (by omega))))⟩
/-- Both answers, stored. -/
theorem PB.fin (h : PB w U x P vc vp vw vs vf W) : ((W.drew.setRow (w.heap.size + 2) (iC U x)).setRow (w.heap.size + 3) (rkCells P vc vp vw vs vf)).heap[w.heap.size + 2]? = some (.cells (iC U x) 111 (0, 0)) ∧
    ((W.drew.setRow (w.heap.size + 2) (iC U x)).setRow (w.heap.size + 3) (rkCells P vc vp vw vs vf)).heap[w.heap.size + 3]? = some (.cells (rkCells P vc vp vw vs vf) 52 (0, 0)) ∧
    GB w U (x, P) (.returned (.tuple #[.agg (iC U x), .agg (rkCells P vc vp vw vs vf)])) ((W.drew.setRow (w.heap.size + 2) (iC U x)).setRow (w.heap.size + 3) (rkCells P vc vp vw vs vf)) := by
  have d := h.next (below_drew W.heap.size W)
  have r1 : (W.drew.setRow (w.heap.size + 2) (iC U x)).heap[w.heap.size + 2]? = some (.cells (iC U x) 111 (0, 0)) := setRow_heap d.ri
  have r2 : (W.drew.setRow (w.heap.size + 2) (iC U x)).heap[w.heap.size + 3]? = some (.cells (rkNil PK.zeroPk) 52 (0, 0)) := (setRow_other _ (by omega)).trans d.rp
  exact ⟨(setRow_other _ (by omega)).trans r1, setRow_heap r2, _, _, _, _, _, rfl, ((d.own.setRow (by omega) _).setRow (by omega) _).base (by omega), below_setRow (below_setRow d.below (by omega) _) (by omega) _⟩
end

section
variable {ops : Array Oper} {Q : Exit → Act → World → Prop}
theorem any_one {md : Region.Mode} (i : Nat) {fuel : Nat} {listed : Array Bool} {a : Act} {w : World} (hr : Region.ready md ops listed = [i])
    (h : wpOp Tryz.prog ops Q i (fun a' w' => wpAny Tryz.prog md ops Q fuel (listed.setIfInBounds i true) a' w') a w) : wpAny Tryz.prog md ops Q (fuel + 1) listed a w :=
  ⟨fun h0 => (by rw [hr] at h0; cases h0), fun j hj => (by rw [hr] at hj; simp at hj; subst hj; exact h)⟩
theorem any_two {md : Region.Mode} (i k : Nat) {fuel : Nat} {listed : Array Bool} {a : Act} {w : World} (hr : Region.ready md ops listed = [i, k])
    (h : wpOp Tryz.prog ops Q i (fun a' w' => wpAny Tryz.prog md ops Q fuel (listed.setIfInBounds i true) a' w') a w)
    (h' : wpOp Tryz.prog ops Q k (fun a' w' => wpAny Tryz.prog md ops Q fuel (listed.setIfInBounds k true) a' w') a w) : wpAny Tryz.prog md ops Q (fuel + 1) listed a w := by
  refine ⟨fun h0 => (by rw [hr] at h0; cases h0), fun j hj => ?_⟩
  rw [hr] at hj
  simp at hj
  rcases hj with rfl | rfl
  · exact h
  · exact h'
theorem opU_wp {i : Nat} {o : Oper} {K : Act → World → Prop} {a : Act} {w : World} (ho : ops[i]? = some o) (hgd : o.guard = none) (h : o.wp Tryz.prog a w K Q) : wpOp Tryz.prog ops Q i K a w := by
  unfold wpOp
  simp only [ho]
  rw [if_pos (by simp [Region.wanted, hgd])]
  exact .inl h
theorem opU_in {i n d : Nat} {o : Oper} {K : Act → World → Prop} {a : Act} {w : World} (ho : ops[i]? = some o) (hgd : o.guard = none) {x : Operand} (hop : o.op = .load 111 x) (hd : o.dst = some d)
    (hx : a.eval x = .pointer (some ⟨n, 0, none⟩)) {U : ByteArray} {p : Int × Int} (hb : w.heap[n]? = some (.cells (iC U p) 111 (0, 0))) (h : K (a.put (some d) (.agg (iC U p))) w) : wpOp Tryz.prog ops Q i K a w :=
  opU_wp ho hgd (wp_load_mid 111 x hop n 0 hx (iC U p).toList _ (fun j v hv => by rw [Nat.zero_add, cell_heap hb, ← hv]; simp) Tryz.underlying111 rfl (by kernel_rfl) (by rw [hd]; exact h))
theorem opU_rk {i n d : Nat} {o : Oper} {K : Act → World → Prop} {a : Act} {w : World} (ho : ops[i]? = some o) (hgd : o.guard = none) {x : Operand} (hop : o.op = .load 52 x) (hd : o.dst = some d)
    (hx : a.eval x = .pointer (some ⟨n, 0, none⟩)) {p : Pk} {vc vp vw vs vf : Value} (hb : w.heap[n]? = some (.cells (rkCells p vc vp vw vs vf) 52 (0, 0))) (h : K (a.put (some d) (.agg (rkCells p vc vp vw vs vf))) w) : wpOp Tryz.prog ops Q i K a w :=
  opU_wp ho hgd (wp_load_mid 52 x hop n 0 hx (rkCells p vc vp vw vs vf).toList _ (fun j v hv => by rw [Nat.zero_add, cell_heap hb, ← hv]; simp) Tryz.underlying52 rfl (by kernel_rfl) (by rw [hd]; exact h))
theorem opU_store {i : Nat} {o : Oper} {K : Act → World → Prop} {a : Act} {w : World} (ho : ops[i]? = some o) (hgd : o.guard = none) (hd : o.dst = none) (ty : TypeId) (x y : Operand) (hop : o.op = .store ty x y)
    (g : Nat) (cells : Array Value) (hx : a.eval x = .pointer (some ⟨g, 0, none⟩)) (hy : a.eval y = .agg cells)
    (t : TypeId) (old : Array Value) (hg : w.heap[g]? = some (.cells old t (0, 0))) (hi : (Tryz.prog.info? ty).map (·.size) = some cells.size)
    (hold : old.size = cells.size) (h1 : cells.all (·.oneCell') = true) (h : K a (w.setRow g cells)) : wpOp Tryz.prog ops Q i K a w := by
  refine opU_wp ho hgd (wp_store_row ty x y hop g cells hx hy t old hg hi hold h1 ?_)
  rw [hd]
  exact h
/-- The last region: what is read and the packet are loaded, and both are stored as answers, in whatever order. -/
theorem wp_fin {id : Nat} {a : Act} {W : World} {o0 o1 o2 o3 : Oper} {n0 n1 m0 m1 d0 d1 : Nat} (hm : Tryz.prog.follows .mixedOrders = true)
    (hs : ops.size = 4) (e0 : ops[0]? = some o0) (e1 : ops[1]? = some o1) (e2 : ops[2]? = some o2) (e3 : ops[3]? = some o3)
    (g0 : o0.guard = none) (g1 : o1.guard = none) (g2 : o2.guard = none) (g3 : o3.guard = none)
    (p0 : o0.op = .load 111 (.tmp n0)) (p1 : o1.op = .load 52 (.tmp n1)) (p2 : o2.op = .store 111 (.tmp m0) (.tmp d0)) (p3 : o3.op = .store 52 (.tmp m1) (.tmp d1))
    (q0 : o0.dst = some d0) (q1 : o1.dst = some d1) (q2 : o2.dst = none) (q3 : o3.dst = none)
    (r0 : Region.ready .any ops #[false, false, false, false] = [0, 1]) (r1 : Region.ready .any ops #[true, false, false, false] = [1, 2]) (r2 : Region.ready .any ops #[false, true, false, false] = [0]) (r3 : Region.ready .any ops #[true, true, false, false] = [2])
    (r4 : Region.ready .any ops #[true, false, true, false] = [1]) (r5 : Region.ready .any ops #[true, true, true, false] = [3]) (r6 : Region.ready .any ops #[true, true, true, true] = [])
    (hd : d0 < a.tmps.size ∧ d1 < a.tmps.size ∧ d0 ≠ d1 ∧ d0 ≠ n1 ∧ d0 ≠ m0 ∧ d0 ≠ m1 ∧ d1 ≠ n0 ∧ d1 ≠ m0 ∧ d1 ≠ m1)
    {b0 b1 c0 c1 : Nat} {U V : ByteArray} {x y : Int × Int} {P P0 : Pk} {vc vp vw vs vf : Value}
    (hn0 : a.eval (.tmp n0) = .pointer (some ⟨b0, 0, none⟩)) (hn1 : a.eval (.tmp n1) = .pointer (some ⟨b1, 0, none⟩)) (hm0 : a.eval (.tmp m0) = .pointer (some ⟨c0, 0, none⟩)) (hm1 : a.eval (.tmp m1) = .pointer (some ⟨c1, 0, none⟩))
    (hb0 : W.heap[b0]? = some (.cells (iC U x) 111 (0, 0))) (hb1 : W.heap[b1]? = some (.cells (rkCells P vc vp vw vs vf) 52 (0, 0)))
    (hc0 : W.heap[c0]? = some (.cells (iC V y) 111 (0, 0))) (hc1 : W.heap[c1]? = some (.cells (rkNil P0) 52 (0, 0))) (hne : b1 ≠ c0 ∧ c1 ≠ c0)
    (h1 : (rkCells P vc vp vw vs vf).all (·.oneCell') = true)
    (h : Q .normal ((a.put (some d0) (.agg (iC U x))).put (some d1) (.agg (rkCells P vc vp vw vs vf))) ((W.drew.setRow c0 (iC U x)).setRow c1 (rkCells P vc vp vw vs vf))) :
    (Code.region id ops true).wp Tryz.prog Q a W := by
  obtain ⟨z0, z1, k0, k1, k2, k3, k4, k5, k6⟩ := hd
  refine wp_region_any hm ?_
  rw [hs]
  show wpAny _ _ _ _ (3 + 1) #[false, false, false, false] a W.drew
  have hb0' : W.drew.heap[b0]? = some (.cells (iC U x) 111 (0, 0)) := hb0
  have hb1' : W.drew.heap[b1]? = some (.cells (rkCells P vc vp vw vs vf) 52 (0, 0)) := hb1
  have hc0' : W.drew.heap[c0]? = some (.cells (iC V y) 111 (0, 0)) := hc0
  have hc1' : W.drew.heap[c1]? = some (.cells (rkNil P0) 52 (0, 0)) := hc1
  generalize W.drew = w at *
  have s1 : (w.setRow c0 (iC U x)).heap[b1]? = some (.cells (rkCells P vc vp vw vs vf) 52 (0, 0)) := (setRow_other _ hne.1).trans hb1'
  have s2 : (w.setRow c0 (iC U x)).heap[c1]? = some (.cells (rkNil P0) 52 (0, 0)) := (setRow_other _ hne.2).trans hc1'
  have A1 : ((a.put (some d0) (.agg (iC U x))).put (some d1) (.agg (rkCells P vc vp vw vs vf))).eval (.tmp m0) = .pointer (some ⟨c0, 0, none⟩) := (ev_ne k5).trans ((ev_ne k2).trans hm0)
  have A2 : ((a.put (some d0) (.agg (iC U x))).put (some d1) (.agg (rkCells P vc vp vw vs vf))).eval (.tmp m1) = .pointer (some ⟨c1, 0, none⟩) := (ev_ne k6).trans ((ev_ne k3).trans hm1)
  have A3 : ((a.put (some d0) (.agg (iC U x))).put (some d1) (.agg (rkCells P vc vp vw vs vf))).eval (.tmp d0) = .agg (iC U x) := (ev_ne (Ne.symm k0)).trans (ev_same z0)
  have A4 : ((a.put (some d0) (.agg (iC U x))).put (some d1) (.agg (rkCells P vc vp vw vs vf))).eval (.tmp d1) = .agg (rkCells P vc vp vw vs vf) := ev_same (by rw [put_sz]; exact z1)
  have F : wpAny Tryz.prog .any ops Q 1 #[true, true, true, false] ((a.put (some d0) (.agg (iC U x))).put (some d1) (.agg (rkCells P vc vp vw vs vf))) (w.setRow c0 (iC U x)) :=
    any_one 3 r5 (opU_store e3 g3 q3 52 (.tmp m1) (.tmp d1) p3 c1 _ A2 A4 52 _ s2 rk_info rfl h1 (wpAny_done r6 h _))
  have E : wpAny Tryz.prog .any ops Q 2 #[true, true, false, false] ((a.put (some d0) (.agg (iC U x))).put (some d1) (.agg (rkCells P vc vp vw vs vf))) w :=
    any_one 2 r3 (opU_store e2 g2 q2 111 (.tmp m0) (.tmp d0) p2 c0 _ A1 A3 111 _ hc0' i_info rfl (iC_one _ _) F)
  refine any_two 0 1 r0 (opU_in e0 g0 p0 q0 hn0 hb0' ?_) (opU_rk e1 g1 p1 q1 hn1 hb1' ?_)
  · refine any_two 1 2 r1 (opU_rk e1 g1 p1 q1 ((ev_ne k1).trans hn1) hb1' E) (opU_store e2 g2 q2 111 (.tmp m0) (.tmp d0) p2 c0 _ ((ev_ne k2).trans hm0) (ev_same z0) 111 _ hc0' i_info rfl (iC_one _ _) ?_)
    exact any_one 1 r4 (opU_rk e1 g1 p1 q1 ((ev_ne k1).trans hn1) s1 F)
  · refine any_one 0 r2 (opU_in e0 g0 p0 q0 ((ev_ne k4).trans hn0) hb0' ?_)
    rw [pc (Ne.symm k0)]
    exact E
end
end Go.Proofs.YtemfcaaoobjgkaaGreatDoor
namespace Go.Proofs.YtemfcaaoobjgkaaGreatDoor
open Go.RowKit
attribute [local go_sem ↓] Go.wp_at_zero Go.wp_at_succ
theorem PB.facts {w W : World} {U : ByteArray} {x : Int × Int} {P : Pk} {vc vp vw vs vf : Value} (h : PB w U x P vc vp vw vs vf W) : W.cell? ⟨w.heap.size, 0, none⟩ = some (.string U) ∧ W.cell? ⟨w.heap.size, 1, none⟩ = some (.int .i64 x.1) ∧ W.cell? ⟨w.heap.size, 2, none⟩ = some (.int .i64 x.2) :=
  ⟨(cell_heap (i := 0) h.box).trans rfl, (cell_heap (i := 1) h.box).trans rfl, (cell_heap (i := 2) h.box).trans rfl⟩
/-- A local of this kind, made and stored at once. -/
def nb (v : World) (U : ByteArray) (x : Int × Int) : World := (v.alloc (.cells (iC ⟨#[]⟩ (0, 0)) 111)).setRow v.heap.size (iC U x)
theorem nb_heap (v : World) (U : ByteArray) (x : Int × Int) : (nb v U x).heap[v.heap.size]? = some (.cells (iC U x) 111 (0, 0)) := setRow_heap (heap_alloc_new v _)
theorem nb_below (v : World) (U : ByteArray) (x : Int × Int) : Below v.heap.size v (nb v U x) := below_setRow ((Below.refl _ _).alloc (Nat.le_refl _) _) (Nat.le_refl _) _
set_option maxRecDepth 100000 in
set_option maxHeartbeats 2000000 in
theorem dgetend_any (U : ByteArray) (hU : U.size ≤ 140737488351232) (x : Int × Int) (P : Pk) (hP : Bare P) (w : World) :
    Calls Tryz.prog 76 #[.agg (iC U x), .agg (rkNil P)] w (GB w U (RG.end1 U P x)) := by
  have C1 := Lib.hid (dreadnum_any U (by unfold maxLen; omega) x 1)
  have C2 : Hid (∀ x' w', Calls Tryz.prog 73 #[.agg (iC U x'), .int .i64 P.kind] w' (RpP w' U (RG.rP U P.kind x'))) := Lib.hid (fun x' w' => dreadprops_any U hU x' P.kind w')
  obtain ⟨x1, hX⟩ : ∃ y, y = (if x.2 = 0 ∧ x.1 < (U.size : Int) then (RG.rN U 1 x).1 else x) := ⟨_, rfl⟩
  obtain ⟨P1, hQ⟩ : ∃ y, y = (if x.2 = 0 ∧ x.1 < (U.size : Int) then { P with code := (RG.rN U 1 x).2 } else P) := ⟨_, rfl⟩
  have e1 : RG.end1 U P x = RG.end2 U P1 x1 := by
    unfold RG.end1
    rw [hX, hQ]
    split <;> rfl
  have ek : P1.kind = P.kind := by rw [hQ]; split <;> rfl
  rw [← ek] at C2
  rw [e1]
  obtain ⟨X2, hX2⟩ : ∃ y, y = RG.end2 U P1 x1 := ⟨_, rfl⟩
  rw [← hX2]
  have HX := Lib.hid hX; have HQ := Lib.hid hQ; have HX2 := Lib.hid hX2
  clear hX hQ hX2 e1 ek
  go_enter Tryz.func76, Tryz.ntmps76
  go_upto_region 1 with fail
  change Code.wp _ _ _ _ ((((w.alloc (.cells (iC U x) 111)).alloc (.cells (rkNil P) 52)).alloc (.cells (iC ⟨#[]⟩ (0, 0)) 111)).alloc (.cells (rkNil PK.zeroPk) 52))
  have H := PB.start w U x P hP
  generalize ((((w.alloc (.cells (iC U x) 111)).alloc (.cells (rkNil P) 52)).alloc (.cells (iC ⟨#[]⟩ (0, 0)) 111)).alloc (.cells (rkNil PK.zeroPk) 52)) = W at *
  have HH := Lib.hid H
  clear H
  obtain ⟨y0, y1, y2⟩ := HH.out.facts
  go_cut [20] from 10 to 51 (fun b wx => b = .bool (decide (x.2 = 0 ∧ x.1 < (U.size : Int))) ∧ W = wx)
  case first =>
    by_cases h0 : x.2 = 0
    · have h0' : (x.2 == 0) = true := by rw [beq_iff_eq]; exact h0
      go_wp2
      go_meet
      exact ⟨congrArg Value.bool (by simp [h0]), rfl⟩
    · have h0' : (x.2 == 0) = false := by rw [beq_eq_false_iff_ne]; exact h0
      go_wp2
      go_meet
      exact ⟨congrArg Value.bool (by simp [h0]), rfl⟩
  case rest =>
  obtain ⟨rfl, rfl⟩ := hcut
  clear y0 y1 y2
  go_upto_if 20 with fail
  go_cut [] from 10 to 51 (fun wx => PB w U x1 P1 (.slice none 0 0) (.slice none 0 0) (.slice none 0 0) (.slice none 0 0) (.slice none 0 0) wx)
  case first =>
    by_cases hc : x.2 = 0 ∧ x.1 < (U.size : Int)
    · have E1 : x1 = (RG.rN U 1 x).1 := by rw [HX.out, if_pos hc]
      have E2 : P1 = { P with code := (RG.rN U 1 x).2 } := by rw [HQ.out, if_pos hc]
      have HE := Lib.hid E2
      clear E2
      rw [decide_eq_true hc]
      clear hc
      go_wp2_with (refine wpl_load_i (by rfl) (.tmp 2) (by rfl) w.heap.size (by rfl) HH.out.box ?_)
      refine (C1.out _).mono ?_
      rintro e v1 ⟨rfl, b1⟩
      have H1 := HH.out.next b1
      clear HH b1 C1
      rw [← E1]
      generalize (RG.rN U 1 x).2 = n1 at *
      clear E1
      have H2 := H1.next (nb_below v1 U x1)
      have G2 := nb_heap v1 U x1
      have A2 := Lib.hid (heap_alloc_new v1 (.cells (iC ⟨#[]⟩ (0, 0)) 111))
      clear H1
      go_upto_region 3 with (refine wpList_store_row (by rfl) 111 (.tmp 6) (.tmp 24) (by rfl) v1.heap.size (iC U x1) (by rfl) (by rfl) 111 (iC ⟨#[]⟩ (0, 0)) A2.out i_info rfl (iC_one _ _) ?_)
      clear A2
      change Code.wp _ _ _ _ (nb v1 U x1)
      generalize nb v1 U x1 = W2 at *
      generalize v1.heap.size = g1 at *
      have HA := Lib.hid H2; have GA := Lib.hid G2
      clear H2 G2
      go_upto_region 4 with (first
        | refine wpl_load_i (by rfl) (.tmp 6) (by rfl) g1 (by rfl) GA.out ?_
        | refine wpList_store_row (by rfl) 111 (.tmp 2) (.tmp 26) (by rfl) w.heap.size (iC U x1) (by rfl) (by rfl) 111 (iC U x) HA.out.box i_info rfl (iC_one _ _) ?_)
      change Code.wp _ _ _ _ (W2.setRow w.heap.size (iC U x1))
      have H3 := HA.out.setO x1
      clear HA GA
      generalize W2.setRow w.heap.size (iC U x1) = W3 at *
      have y7 := (cell_heap (i := 7) H3.pk).trans (show _ = some (.int .i64 P.code) from rfl)
      have y7' := frozen_heap (i := 7) H3.pk
      have H4 := Lib.hid (H3.setF 7 (.int .i64 n1) { P with code := n1 } rfl rfl rfl rfl rfl rfl)
      clear H3
      go_wp2_with fail
      go_meet
      rw [HE.out]
      exact H4.out
    · have E1 : x1 = x := by rw [HX.out, if_neg hc]
      have E2 : P1 = P := by rw [HQ.out, if_neg hc]
      have HE1 := Lib.hid E1; have HE2 := Lib.hid E2
      clear E1 E2
      rw [decide_eq_false hc]
      clear hc
      go_wp2
      go_meet
      rw [HE1.out, HE2.out]
      exact HH.out
  case rest =>
  clear HH C1 HX HQ W
  have HH := Lib.hid hcut
  clear hcut
  obtain ⟨y0, y1, y2⟩ := HH.out.facts
  go_upto_region 5 with fail
  go_cut [39] from 10 to 51 (fun b wx => b = .bool (decide (x1.2 = 0 ∧ x1.1 < (U.size : Int))) ∧ wc = wx)
  case first =>
    by_cases h0 : x1.2 = 0
    · have h0' : (x1.2 == 0) = true := by rw [beq_iff_eq]; exact h0
      go_wp2
      go_meet
      exact ⟨congrArg Value.bool (by simp [h0]), rfl⟩
    · have h0' : (x1.2 == 0) = false := by rw [beq_eq_false_iff_ne]; exact h0
      go_wp2
      go_meet
      exact ⟨congrArg Value.bool (by simp [h0]), rfl⟩
  case rest =>
  obtain ⟨rfl, rfl⟩ := hcut
  clear y0 y1 y2
  by_cases hc : x1.2 = 0 ∧ x1.1 < (U.size : Int)
  · have E2 : X2 = ((RG.rP U P1.kind x1).1, { P1 with props := (RG.rP U P1.kind x1).2 }) := by rw [HX2.out]; unfold RG.end2; rw [if_pos hc]
    simp only [decide_eq_true hc]
    have C3 := Lib.hid (C2.out x1)
    clear C2
    generalize RG.rP U P1.kind x1 = Y at *
    obtain ⟨x2, l2⟩ := Y
    have HE := Lib.hid E2
    clear hc E2 HX2
    have z0 := (cell_heap (i := 0) HH.out.pk).trans (show _ = some (.int .i64 P1.kind) from rfl)
    go_wp2_with (refine wpl_load_i (by rfl) (.tmp 2) (by rfl) w.heap.size (by rfl) HH.out.box ?_)
    refine (C3.out _).mono ?_
    rintro e v1 ⟨v, rfl, o1, b1⟩
    obtain ⟨A, cap, rfl⟩ := own_form o1
    have H1 := HH.out.next b1
    have O1 := own_base' o1 HH.out.size
    clear HH b1 C3 z0 o1
    dsimp only at O1 ⊢
    have H2 := H1.next (nb_below v1 U x2)
    have O2 := own_below O1 (nb_below v1 U x2)
    have G2 := nb_heap v1 U x2
    have A2 := Lib.hid (heap_alloc_new v1 (.cells (iC ⟨#[]⟩ (0, 0)) 111))
    clear H1 O1
    go_upto_region 7 with (refine wpList_store_row (by rfl) 111 (.tmp 8) (.tmp 45) (by rfl) v1.heap.size (iC U x2) (by rfl) (by rfl) 111 (iC ⟨#[]⟩ (0, 0)) A2.out i_info rfl (iC_one _ _) ?_)
    clear A2
    change Code.wp _ _ _ _ (nb v1 U x2)
    generalize nb v1 U x2 = W2 at *
    generalize v1.heap.size = g1 at *
    have HA := Lib.hid H2; have GA := Lib.hid G2; have OA := Lib.hid O2
    clear H2 G2 O2
    go_upto_region 8 with (first
      | refine wpl_load_i (by rfl) (.tmp 8) (by rfl) g1 (by rfl) GA.out ?_
      | refine wpList_store_row (by rfl) 111 (.tmp 2) (.tmp 47) (by rfl) w.heap.size (iC U x2) (by rfl) (by rfl) 111 (iC U x1) HA.out.box i_info rfl (iC_one _ _) ?_)
    change Code.wp _ _ _ _ (W2.setRow w.heap.size (iC U x2))
    have H3 := HA.out.setO x2
    have O3 := own_setRow (iC U x2) OA.out (row_ne OA.out (show w.heap.size < w.heap.size + 4 by omega))
    clear HA GA OA
    generalize W2.setRow w.heap.size (iC U x2) = W3 at *
    have y9 := (cell_heap (i := 9) H3.pk).trans (show _ = some (.slice none 0 0) from rfl)
    have y9' := frozen_heap (i := 9) H3.pk
    have H4 := Lib.hid (H3.setP O3)
    clear H3 O3
    go_upto_region 9 with fail
    change Code.wp _ _ _ _ (W3.setCell ⟨w.heap.size + 1, 9, none⟩ (.slice A l2.length cap))
    generalize W3.setCell ⟨w.heap.size + 1, 9, none⟩ (.slice A l2.length cap) = W4 at *
    have H5 := H4.out
    clear H4 y9 y9'
    obtain ⟨f1, f2, f3⟩ := H5.fin
    have k1 := rk_one _ H5.own
    refine wp_fin (n0 := 2) (n1 := 3) (m0 := 4) (m1 := 5) (d0 := 50) (d1 := 51) (b0 := w.heap.size) (b1 := w.heap.size + 1) (c0 := w.heap.size + 2) (c1 := w.heap.size + 3) (by kernel_rfl) rfl rfl rfl rfl rfl rfl rfl rfl rfl rfl rfl rfl rfl rfl rfl rfl rfl (by kernel_rfl) (by kernel_rfl) (by kernel_rfl) (by kernel_rfl) (by kernel_rfl) (by kernel_rfl) (by kernel_rfl) (by simp) rfl rfl rfl rfl H5.box H5.pk H5.ri H5.rp (by omega) k1 ?_
    have F1 := Lib.hid f1; have F2 := Lib.hid f2; have F3 := Lib.hid f3
    clear f1 f2 f3 k1
    go_wp2_with fail
    refine bodyPost_ret (v := .tuple #[.agg (iC U x2), .agg (rkCells { P1 with props := l2 } (.slice none 0 0) (.slice A l2.length cap) (.slice none 0 0) (.slice none 0 0) (.slice none 0 0))]) ?_ rfl (by rw [HE.out]; exact F3.out)
    simp only [results, Tryz.results76]
    simp
    exact two_boxes (load_i_var F1.out) (rk_var F2.out)
  · have E2 : X2 = (x1, P1) := by rw [HX2.out]; unfold RG.end2; rw [if_neg hc]
    simp only [decide_eq_false hc]
    have HE := Lib.hid E2
    clear hc E2 HX2
    have H5 := HH.out
    go_upto_region 9 with fail
    obtain ⟨f1, f2, f3⟩ := H5.fin
    have k1 := rk_one _ H5.own
    refine wp_fin (n0 := 2) (n1 := 3) (m0 := 4) (m1 := 5) (d0 := 50) (d1 := 51) (b0 := w.heap.size) (b1 := w.heap.size + 1) (c0 := w.heap.size + 2) (c1 := w.heap.size + 3) (by kernel_rfl) rfl rfl rfl rfl rfl rfl rfl rfl rfl rfl rfl rfl rfl rfl rfl rfl rfl (by kernel_rfl) (by kernel_rfl) (by kernel_rfl) (by kernel_rfl) (by kernel_rfl) (by kernel_rfl) (by kernel_rfl) (by simp) rfl rfl rfl rfl H5.box H5.pk H5.ri H5.rp (by omega) k1 ?_
    have F1 := Lib.hid f1; have F2 := Lib.hid f2; have F3 := Lib.hid f3
    clear f1 f2 f3 k1
    go_wp2_with fail
    refine bodyPost_ret (v := .tuple #[.agg (iC U x1), .agg (rkCells P1 (.slice none 0 0) (.slice none 0 0) (.slice none 0 0) (.slice none 0 0) (.slice none 0 0))]) ?_ rfl (by rw [HE.out]; exact F3.out)
    simp only [results, Tryz.results76]
    simp
    exact two_boxes (load_i_var F1.out) (rk_var F2.out)
end Go.Proofs.YtemfcaaoobjgkaaGreatDoor
