/- The document's reader of packets as code: a filter with its options. (Written by wip/tools/gen_rgsub.py.) -/
import Derived.Test.YtemfcaaoobjgkaaGreatDoorMC
namespace Go.Proofs.YtemfcaaoobjgkaaGreatDoor
open Go.RowKit
attribute [local go_sem ↓] Go.wp_at_zero Go.wp_at_succ

theorem step_load_in {ops : Array Oper} {o : Oper} {a : Act} {w : World} {K : Act → World → Prop} {Q : Exit → Act → World → Prop} {E : Prop} (hgd : o.guard = none) (x : Operand) (ho : o.op = .load 111 x)
    (n : Nat) (hx : a.eval x = .pointer (some ⟨n, 0, none⟩)) {U : ByteArray} {p : Int × Int} (hb : w.heap[n]? = some (.cells (iC U p) 111 (0, 0)))
    (h : K (a.put o.dst (.agg (iC U p))) w) : if Region.wanted o (yielded ops a.tmps) = true then Oper.wp Tryz.prog o a w K Q else E := by
  rw [if_pos (by simp [Region.wanted, hgd])]
  exact wp_load_mid 111 x ho n 0 hx (iC U p).toList _ (fun j v hv => by rw [Nat.zero_add, cell_heap hb, ← hv]; simp) Tryz.underlying111 rfl (by kernel_rfl) h
/-- The cells of a filter with its options. -/
def sC (s : Sb) : Array Value := #[.string s.f, .int .i64 s.q, .bool s.nl, .bool s.ap, .int .i64 s.h]
theorem sC_one (s : Sb) : (sC s).all (·.oneCell') = true := by simp [sC, Value.oneCell']
theorem s_info : (Tryz.prog.info? 84).map (·.size) = some 5 := by kernel_rfl
theorem step_load_sub {ops : Array Oper} {o : Oper} {a : Act} {w : World} {K : Act → World → Prop} {Q : Exit → Act → World → Prop} {E : Prop} (hgd : o.guard = none) (x : Operand) (ho : o.op = .load 84 x)
    (n : Nat) (hx : a.eval x = .pointer (some ⟨n, 0, none⟩)) {s : Sb} (hb : w.heap[n]? = some (.cells (sC s) 84 (0, 0)))
    (h : K (a.put o.dst (.agg (sC s))) w) : if Region.wanted o (yielded ops a.tmps) = true then Oper.wp Tryz.prog o a w K Q else E := by
  rw [if_pos (by simp [Region.wanted, hgd])]
  exact wp_load_mid 84 x ho n 0 hx (sC s).toList _ (fun j v hv => by rw [Nat.zero_add, cell_heap hb, ← hv]; simp) Tryz.underlying84 rfl (by kernel_rfl) h
theorem step_store_row (T : TypeId) {ops : Array Oper} {o : Oper} {a : Act} {w : World} {K : Act → World → Prop} {Q : Exit → Act → World → Prop} {E : Prop} (hgd : o.guard = none) (x y : Operand) (ho : o.op = .store T x y)
    (g : Nat) (cells : Array Value) (hx : a.eval x = .pointer (some ⟨g, 0, none⟩)) (hy : a.eval y = .agg cells)
    {t : TypeId} {old : Array Value} (hg : w.heap[g]? = some (.cells old t (0, 0))) (hi : (Tryz.prog.info? T).map (·.size) = some cells.size)
    (hold : old.size = cells.size) (h1 : cells.all (·.oneCell') = true)
    (h : K (a.put o.dst undef) (w.setRow g cells)) : if Region.wanted o (yielded ops a.tmps) = true then Oper.wp Tryz.prog o a w K Q else E := by
  rw [if_pos (by simp [Region.wanted, hgd])]
  exact wp_store_row T x y ho g cells hx hy t old hg hi hold h1 h
theorem load_sub_var {w : World} {g : Nat} {s : Sb} (h : w.heap[g]? = some (.cells (sC s) 84 (0, 0))) :
    (loadVar 84 ⟨g, 0, none⟩).run Tryz.prog w = .ok (.agg (sC s)) w :=
  run_loadVar_mid _ g 0 84 (sC s).toList _ (fun j v hv => by rw [Nat.zero_add, cell_heap h, ← hv]; simp) Tryz.underlying84 rfl (by kernel_rfl)
def zSb : Sb := ⟨⟨#[]⟩, 0, false, false, 0⟩
/-- The three boxes of getSub, and the fourth one. -/
structure SB (w : World) (U : ByteArray) (x : Int × Int) (V : ByteArray) (r : Int × Int) (s : Sb) (W : World) : Prop extends IB w U x V r W where
  sub : W.heap[w.heap.size + 2]? = some (.cells (sC s) 84 (0, 0))
theorem SB.next {w W W' : World} {U V : ByteArray} {x r : Int × Int} {s : Sb} (h : SB w U x V r s W) (hb : Below W.heap.size W W') : SB w U x V r s W' := ⟨h.toIB.next hb, (hb.block _ (lt_heap h.sub)).trans h.sub⟩
theorem SB.setO {w W : World} {U V : ByteArray} {x r : Int × Int} {s : Sb} (h : SB w U x V r s W) (U' : ByteArray) (x' : Int × Int) : SB w U' x' V r s (W.setRow w.heap.size (iC U' x')) := ⟨h.toIB.setO U' x', (setRow_other _ (by omega)).trans h.sub⟩
theorem SB.setR {w W : World} {U V : ByteArray} {x r : Int × Int} {s : Sb} (h : SB w U x V r s W) (V' : ByteArray) (r' : Int × Int) : SB w U x V' r' s (W.setRow (w.heap.size + 1) (iC V' r')) := ⟨h.toIB.setR V' r', (setRow_other _ (by omega)).trans h.sub⟩
theorem SB.setS {w W : World} {U V : ByteArray} {x r : Int × Int} {s : Sb} (h : SB w U x V r s W) (s' : Sb) : SB w U x V r s' (W.setRow (w.heap.size + 2) (sC s')) :=
  ⟨⟨(setRow_other _ (by omega)).trans h.box, (setRow_other _ (by omega)).trans h.res, below_setRow h.below (by omega) _⟩, setRow_heap h.sub⟩
theorem SB.drew {w W : World} {U V : ByteArray} {x r : Int × Int} {s : Sb} (h : SB w U x V r s W) : SB w U x V r s W.drew := ⟨⟨h.box, h.res, ⟨h.below.os, h.below.tape, h.below.output, h.below.size, h.below.block⟩⟩, h.sub⟩
theorem SB.start (w : World) (U : ByteArray) (x : Int × Int) : SB w U x ⟨#[]⟩ (0, 0) zSb (((w.alloc (.cells (iC U x) 111)).alloc (.cells (iC ⟨#[]⟩ (0, 0)) 111)).alloc (.cells (sC zSb) 84)) := by
  have H := IB.start w U x
  have sz : ((w.alloc (.cells (iC U x) 111)).alloc (.cells (iC ⟨#[]⟩ (0, 0)) 111)).heap.size = w.heap.size + 2 := by simp
  exact ⟨H.next ((Below.refl _ _).alloc (Nat.le_refl _) _), by rw [← sz]; exact heap_alloc_new _ _⟩
/-- Two results, each out of its box. -/
theorem read_boxes {P : Program} {W : World} {g h : Nat} {S T : TypeId} {x y : Value} (hl : (loadVar S ⟨g, 0, none⟩).run P W = .ok x W) (hm : (loadVar T ⟨h, 0, none⟩).run P W = .ok y W) :
    ((Sem.run P (asAddr (.pointer (some ⟨g, 0, none⟩))) W).andThen fun a w' => (Sem.run P (loadVar S a) w').andThen fun a w' => (Sem.run P (asAddr (.pointer (some ⟨h, 0, none⟩))) w').andThen fun b w' => (Sem.run P (loadVar T b) w').andThen fun b w' => Result.ok (Value.tuple #[a, b]) w') = .ok (Value.tuple #[x, y]) W := by
  show ((Sem.run P (loadVar S ⟨g, 0, none⟩) W).andThen _) = _
  rw [hl]
  show ((Sem.run P (loadVar T ⟨h, 0, none⟩) W).andThen _) = _
  rw [hm]
  rfl
theorem rN_le (U : ByteArray) (x : Int × Int) : 0 ≤ (RG.rN U 1 x).2 ∧ (RG.rN U 1 x).2 ≤ 255 := by
  have h1 := PK.rd_nn U x.1 1
  have h2 := PK.rd_1le U x.1
  unfold RG.rN
  split
  · exact ⟨Int.le_refl _, (by decide : (0 : Int) ≤ 255)⟩
  split
  · exact ⟨Int.le_refl _, (by decide : (0 : Int) ≤ 255)⟩
  · exact ⟨h1.1, h2⟩

set_option maxRecDepth 100000 in
set_option maxHeartbeats 8000000 in
theorem dgetsub_any (U : ByteArray) (hU : U.size ≤ 140737488351232) (x : Int × Int) (w : World) :
    Calls Tryz.prog 104 #[.agg (iC U x)] w fun e w' => e = .returned (.tuple #[.agg (iC U (RG.sub U x).1), .agg (sC (RG.sub U x).2)]) ∧ Below w.heap.size w w' := by
  have C1 := Lib.hid (dreadtext_any U hU x)
  have C2 := Lib.hid (dreadnum_any U (by unfold maxLen; omega) (RG.rT U x).1 1)
  obtain ⟨n0, n1⟩ := rN_le U (RG.rT U x).1
  obtain ⟨xr, hxr⟩ : ∃ y, y = (RG.sub U x).1 := ⟨_, rfl⟩
  have e2 : (RG.sub U x).2 = RG.subV (RG.rT U x).2 (RG.rN U 1 (RG.rT U x).1).2 := rfl
  rw [e2, ← hxr]
  have hx : xr = if RG.subC2 (RG.rN U 1 (RG.rT U x).1).2 ≠ 0 then RG.fl (if RG.subC1 (RG.rN U 1 (RG.rT U x).1).2 ≠ 0 then RG.fl (RG.rN U 1 (RG.rT U x).1).1 (RG.subC1 (RG.rN U 1 (RG.rT U x).1).2) else (RG.rN U 1 (RG.rT U x).1).1) (RG.subC2 (RG.rN U 1 (RG.rT U x).1).2) else (if RG.subC1 (RG.rN U 1 (RG.rT U x).1).2 ≠ 0 then RG.fl (RG.rN U 1 (RG.rT U x).1).1 (RG.subC1 (RG.rN U 1 (RG.rT U x).1).2) else (RG.rN U 1 (RG.rT U x).1).1) := hxr
  clear e2 hxr
  generalize RG.rN U 1 (RG.rT U x).1 = N at *
  obtain ⟨xn, n⟩ := N
  generalize RG.rT U x = T at *
  obtain ⟨xt, f⟩ := T
  dsimp only at C1 C2 hx n0 n1 ⊢
  have CA := Lib.hid (disset_any n 4 n0 n1 (by decide) (by decide))
  have CB := Lib.hid (disset_any n 8 n0 n1 (by decide) (by decide))
  go_enter Tryz.func104, Tryz.ntmps104
  go_upto_region 1 with fail
  change Code.wp _ _ _ _ (((w.alloc (.cells (iC U x) 111)).alloc (.cells (iC ⟨#[]⟩ (0, 0)) 111)).alloc (.cells (sC zSb) 84))
  have H := Lib.hid (SB.start w U x)
  generalize ((w.alloc (.cells (iC U x) 111)).alloc (.cells (iC ⟨#[]⟩ (0, 0)) 111)).alloc (.cells (sC zSb) 84) = W at *
  go_wp2_with (refine wpl_load_i (by rfl) (.tmp 1) (by rfl) w.heap.size (by rfl) H.out.box ?_)
  refine (C1.out _).mono ?_
  rintro e w1 ⟨rfl, b1⟩
  have H1 := Lib.hid (H.out.next b1)
  have H2 := Lib.hid ((H.out.next b1).setO U xt)
  clear H b1 C1
  go_wp2_with (first
    | refine wpList_store_row (by rfl) 111 (.tmp 1) (.tmp 12) (by rfl) w.heap.size (iC U xt) (by rfl) (by rfl) 111 (iC U x) H1.out.box i_info rfl (iC_one _ _) ?_
    | refine wpl_load_i (by rfl) (.tmp 1) (by rfl) w.heap.size (by rfl) H2.out.box ?_)
  refine (C2.out _).mono ?_
  rintro e w2 ⟨rfl, b2⟩
  have H3 := Lib.hid (H2.out.next b2)
  have H4 := Lib.hid ((H2.out.next b2).setO U xn)
  clear H1 H2 b2 C2
  go_wp2_with (refine wpList_store_row (by rfl) 111 (.tmp 1) (.tmp 17) (by rfl) w.heap.size (iC U xn) (by rfl) (by rfl) 111 (iC U xt) H3.out.box i_info rfl (iC_one _ _) ?_)
  refine (CA.out _).mono ?_
  rintro e w3 ⟨rfl, b3⟩
  have H5 := Lib.hid (H4.out.next b3)
  clear H3 H4 b3 CA
  go_wp2_with fail
  refine (CB.out _).mono ?_
  rintro e w4 ⟨rfl, b4⟩
  have H6 := Lib.hid (H5.out.next b4)
  clear H5 b4 CB
  go_upto_region 6 with fail
  change Code.wp _ _ _ _ (w4.alloc (.cells (sC (RG.subV f n)) 84))
  have HG := Lib.hid (lt_heap H6.out.sub)
  have H7 := Lib.hid (H6.out.next ((Below.refl w4.heap.size w4).alloc (Nat.le_refl _) (.cells (sC (RG.subV f n)) 84)))
  have B7 : Hid ((w4.alloc (.cells (sC (RG.subV f n)) 84)).heap[w4.heap.size]? = some (.cells (sC (RG.subV f n)) 84 (0, 0))) := Lib.hid (heap_alloc_new w4 _)
  generalize w4.alloc (.cells (sC (RG.subV f n)) 84) = w5 at *
  have hg := HG.out
  clear H6 HG
  generalize w4.heap.size = g at *
  have y1 : w5.cell? ⟨g, 1, none⟩ = some (.int .i64 (n % 4)) := (cell_heap (i := 1) B7.out).trans rfl
  have y4 : w5.cell? ⟨g, 4, none⟩ = some (.int .i64 (n / 16 % 4)) := (cell_heap (i := 4) B7.out).trans rfl
  by_cases hh : n / 16 % 4 = 3
  · skip
    by_cases hq : n % 4 = 3
    · skip
      have q1 : (n % 4 == 3) = true := by rw [beq_iff_eq]; exact hq
      have q2 : (n / 16 % 4 == 3) = true := by rw [beq_iff_eq]; exact hh
      have s1 : RG.subC1 n = 129 := by unfold RG.subC1; rw [if_pos (.inl hq)]
      have s2 : RG.subC2 n = 130 := by unfold RG.subC2; rw [if_pos hh]
      rw [s1, s2] at hx
      have hx1 : xr = RG.fl (RG.fl xn 129) 130 := hx
      clear hx s1 s2
      have CF := Lib.hid (dfailed_any U xn 129)
      generalize RG.fl xn 129 = x9 at *
      have CG := Lib.hid (dfailed_any U x9 130)
      rw [← hx1] at CG
      clear hx1
      go_wp2_with (refine wpl_load_i (by rfl) (.tmp 1) (by rfl) w.heap.size (by rfl) H7.out.box ?_)
      refine (CF.out _).mono ?_
      rintro e w6 ⟨rfl, b⟩
      have J1 := Lib.hid (H7.out.next b)
      have J2 := Lib.hid ((H7.out.next b).setO U x9)
      have M : Hid ((w6.setRow w.heap.size (iC U x9)).heap[g]? = some (.cells (sC (RG.subV f n)) 84 (0, 0))) := Lib.hid ((setRow_other _ (by omega)).trans ((b.block _ (lt_heap B7.out)).trans B7.out))
      clear y1 y4 b H7 B7 CF
      have y4 : (w6.setRow w.heap.size (iC U x9)).cell? ⟨g, 4, none⟩ = some (.int .i64 (n / 16 % 4)) := (cell_heap (i := 4) M.out).trans rfl
      go_wp2_with (first | refine wpList_store_row (by rfl) 111 (.tmp 1) (.tmp 40) (by rfl) w.heap.size (iC U x9) (by rfl) (by rfl) 111 (iC U xn) J1.out.box i_info rfl (iC_one _ _) ?_ | refine wpl_load_i (by rfl) (.tmp 1) (by rfl) w.heap.size (by rfl) J2.out.box ?_)
      refine (CG.out _).mono ?_
      rintro e w7 ⟨rfl, b⟩
      have K1 := Lib.hid (J2.out.next b)
      have K2 := Lib.hid ((J2.out.next b).setO U xr)
      have N : Hid ((w7.setRow w.heap.size (iC U xr)).heap[g]? = some (.cells (sC (RG.subV f n)) 84 (0, 0))) := Lib.hid ((setRow_other _ (by omega)).trans ((b.block _ (lt_heap M.out)).trans M.out))
      clear y4 b J2 M CG
      have y4 : (w7.setRow w.heap.size (iC U xr)).cell? ⟨g, 4, none⟩ = some (.int .i64 (n / 16 % 4)) := (cell_heap (i := 4) N.out).trans rfl
      go_upto_region 10 with (refine wpList_store_row (by rfl) 111 (.tmp 1) (.tmp 45) (by rfl) w.heap.size (iC U xr) (by rfl) (by rfl) 111 (iC U x9) K1.out.box i_info rfl (iC_one _ _) ?_)
      have HB := Lib.hid (K2.out.drew.setR U xr)
      have HR := Lib.hid ((K2.out.drew.setR U xr).setS (RG.subV f n))
      refine wp_region_any (by kernel_rfl) ?_
      change wpAny _ _ _ _ _ _ _ (World.drew _)
      refine wpAny_ready (rs := [0, 1]) (by kernel_rfl) (by simp) ?_
      refine AllReady.cons rfl (fun K hK => ?_) (AllReady.cons rfl (fun K hK => ?_) AllReady.nil)
      · skip
        refine step_load_in (by rfl) (.tmp 1) (by rfl) w.heap.size (by rfl) K2.out.drew.box ?_
        refine hK _ _ ?_
        clear hK K
        refine wpAny_ready (rs := [1, 2]) (by kernel_rfl) (by simp) ?_
        refine AllReady.cons rfl (fun K hK => ?_) (AllReady.cons rfl (fun K hK => ?_) AllReady.nil)
        · skip
          refine step_load_sub (by rfl) (.tmp 8) (by rfl) g (by rfl) N.out ?_
          refine hK _ _ ?_
          clear hK K
          refine wpAny_ready (rs := [2]) (by kernel_rfl) (by simp) (AllReady.cons rfl (fun K hK => ?_) AllReady.nil)
          refine step_store_row 111 (by rfl) (.tmp 2) (.tmp 46) (by rfl) (w.heap.size + 1) (iC U xr) (by rfl) (by rfl) K2.out.drew.res i_info rfl (iC_one _ _) ?_
          refine hK _ _ ?_
          clear hK K
          refine wpAny_ready (rs := [3]) (by kernel_rfl) (by simp) (AllReady.cons rfl (fun K hK => ?_) AllReady.nil)
          refine step_store_row 84 (by rfl) (.tmp 3) (.tmp 47) (by rfl) (w.heap.size + 2) (sC (RG.subV f n)) (by rfl) (by rfl) HB.out.sub s_info rfl (sC_one _) ?_
          refine hK _ _ ?_
          clear hK K
          refine wpAny_done (by kernel_rfl) ?_ _
          clear HB
          go_wp2_with fail
          refine bodyPost_ret (v := .tuple #[.agg (iC U xr), .agg (sC (RG.subV f n))]) ?_ rfl ⟨rfl, HR.out.below⟩
          simp only [results, Tryz.results104]
          simp
          exact read_boxes (load_i_var HR.out.res) (load_sub_var HR.out.sub)
        · skip
          refine step_store_row 111 (by rfl) (.tmp 2) (.tmp 46) (by rfl) (w.heap.size + 1) (iC U xr) (by rfl) (by rfl) K2.out.drew.res i_info rfl (iC_one _ _) ?_
          refine hK _ _ ?_
          clear hK K
          refine wpAny_ready (rs := [1]) (by kernel_rfl) (by simp) (AllReady.cons rfl (fun K hK => ?_) AllReady.nil)
          refine step_load_sub (by rfl) (.tmp 8) (by rfl) g (by rfl) ((setRow_other _ (by omega)).trans N.out) ?_
          refine hK _ _ ?_
          clear hK K
          refine wpAny_ready (rs := [3]) (by kernel_rfl) (by simp) (AllReady.cons rfl (fun K hK => ?_) AllReady.nil)
          refine step_store_row 84 (by rfl) (.tmp 3) (.tmp 47) (by rfl) (w.heap.size + 2) (sC (RG.subV f n)) (by rfl) (by rfl) HB.out.sub s_info rfl (sC_one _) ?_
          refine hK _ _ ?_
          clear hK K
          refine wpAny_done (by kernel_rfl) ?_ _
          clear HB
          go_wp2_with fail
          refine bodyPost_ret (v := .tuple #[.agg (iC U xr), .agg (sC (RG.subV f n))]) ?_ rfl ⟨rfl, HR.out.below⟩
          simp only [results, Tryz.results104]
          simp
          exact read_boxes (load_i_var HR.out.res) (load_sub_var HR.out.sub)
      · skip
        refine step_load_sub (by rfl) (.tmp 8) (by rfl) g (by rfl) N.out ?_
        refine hK _ _ ?_
        clear hK K
        refine wpAny_ready (rs := [0]) (by kernel_rfl) (by simp) (AllReady.cons rfl (fun K hK => ?_) AllReady.nil)
        refine step_load_in (by rfl) (.tmp 1) (by rfl) w.heap.size (by rfl) K2.out.drew.box ?_
        refine hK _ _ ?_
        clear hK K
        refine wpAny_ready (rs := [2]) (by kernel_rfl) (by simp) (AllReady.cons rfl (fun K hK => ?_) AllReady.nil)
        refine step_store_row 111 (by rfl) (.tmp 2) (.tmp 46) (by rfl) (w.heap.size + 1) (iC U xr) (by rfl) (by rfl) K2.out.drew.res i_info rfl (iC_one _ _) ?_
        refine hK _ _ ?_
        clear hK K
        refine wpAny_ready (rs := [3]) (by kernel_rfl) (by simp) (AllReady.cons rfl (fun K hK => ?_) AllReady.nil)
        refine step_store_row 84 (by rfl) (.tmp 3) (.tmp 47) (by rfl) (w.heap.size + 2) (sC (RG.subV f n)) (by rfl) (by rfl) HB.out.sub s_info rfl (sC_one _) ?_
        refine hK _ _ ?_
        clear hK K
        refine wpAny_done (by kernel_rfl) ?_ _
        clear HB
        go_wp2_with fail
        refine bodyPost_ret (v := .tuple #[.agg (iC U xr), .agg (sC (RG.subV f n))]) ?_ rfl ⟨rfl, HR.out.below⟩
        simp only [results, Tryz.results104]
        simp
        exact read_boxes (load_i_var HR.out.res) (load_sub_var HR.out.sub)
    · skip
      by_cases h64 : 64 ≤ n
      · skip
        have q1 : (n % 4 == 3) = false := by rw [beq_eq_false_iff_ne]; exact hq
        have q2 : (n / 16 % 4 == 3) = true := by rw [beq_iff_eq]; exact hh
        have s1 : RG.subC1 n = 129 := by unfold RG.subC1; rw [if_pos (.inr h64)]
        have s2 : RG.subC2 n = 130 := by unfold RG.subC2; rw [if_pos hh]
        rw [s1, s2] at hx
        have hx1 : xr = RG.fl (RG.fl xn 129) 130 := hx
        clear hx s1 s2
        have CF := Lib.hid (dfailed_any U xn 129)
        generalize RG.fl xn 129 = x9 at *
        have CG := Lib.hid (dfailed_any U x9 130)
        rw [← hx1] at CG
        clear hx1
        go_wp2_with (refine wpl_load_i (by rfl) (.tmp 1) (by rfl) w.heap.size (by rfl) H7.out.box ?_)
        refine (CF.out _).mono ?_
        rintro e w6 ⟨rfl, b⟩
        have J1 := Lib.hid (H7.out.next b)
        have J2 := Lib.hid ((H7.out.next b).setO U x9)
        have M : Hid ((w6.setRow w.heap.size (iC U x9)).heap[g]? = some (.cells (sC (RG.subV f n)) 84 (0, 0))) := Lib.hid ((setRow_other _ (by omega)).trans ((b.block _ (lt_heap B7.out)).trans B7.out))
        clear y1 y4 b H7 B7 CF
        have y4 : (w6.setRow w.heap.size (iC U x9)).cell? ⟨g, 4, none⟩ = some (.int .i64 (n / 16 % 4)) := (cell_heap (i := 4) M.out).trans rfl
        go_wp2_with (first | refine wpList_store_row (by rfl) 111 (.tmp 1) (.tmp 40) (by rfl) w.heap.size (iC U x9) (by rfl) (by rfl) 111 (iC U xn) J1.out.box i_info rfl (iC_one _ _) ?_ | refine wpl_load_i (by rfl) (.tmp 1) (by rfl) w.heap.size (by rfl) J2.out.box ?_)
        refine (CG.out _).mono ?_
        rintro e w7 ⟨rfl, b⟩
        have K1 := Lib.hid (J2.out.next b)
        have K2 := Lib.hid ((J2.out.next b).setO U xr)
        have N : Hid ((w7.setRow w.heap.size (iC U xr)).heap[g]? = some (.cells (sC (RG.subV f n)) 84 (0, 0))) := Lib.hid ((setRow_other _ (by omega)).trans ((b.block _ (lt_heap M.out)).trans M.out))
        clear y4 b J2 M CG
        have y4 : (w7.setRow w.heap.size (iC U xr)).cell? ⟨g, 4, none⟩ = some (.int .i64 (n / 16 % 4)) := (cell_heap (i := 4) N.out).trans rfl
        go_upto_region 10 with (refine wpList_store_row (by rfl) 111 (.tmp 1) (.tmp 45) (by rfl) w.heap.size (iC U xr) (by rfl) (by rfl) 111 (iC U x9) K1.out.box i_info rfl (iC_one _ _) ?_)
        have HB := Lib.hid (K2.out.drew.setR U xr)
        have HR := Lib.hid ((K2.out.drew.setR U xr).setS (RG.subV f n))
        refine wp_region_any (by kernel_rfl) ?_
        change wpAny _ _ _ _ _ _ _ (World.drew _)
        refine wpAny_ready (rs := [0, 1]) (by kernel_rfl) (by simp) ?_
        refine AllReady.cons rfl (fun K hK => ?_) (AllReady.cons rfl (fun K hK => ?_) AllReady.nil)
        · skip
          refine step_load_in (by rfl) (.tmp 1) (by rfl) w.heap.size (by rfl) K2.out.drew.box ?_
          refine hK _ _ ?_
          clear hK K
          refine wpAny_ready (rs := [1, 2]) (by kernel_rfl) (by simp) ?_
          refine AllReady.cons rfl (fun K hK => ?_) (AllReady.cons rfl (fun K hK => ?_) AllReady.nil)
          · skip
            refine step_load_sub (by rfl) (.tmp 8) (by rfl) g (by rfl) N.out ?_
            refine hK _ _ ?_
            clear hK K
            refine wpAny_ready (rs := [2]) (by kernel_rfl) (by simp) (AllReady.cons rfl (fun K hK => ?_) AllReady.nil)
            refine step_store_row 111 (by rfl) (.tmp 2) (.tmp 46) (by rfl) (w.heap.size + 1) (iC U xr) (by rfl) (by rfl) K2.out.drew.res i_info rfl (iC_one _ _) ?_
            refine hK _ _ ?_
            clear hK K
            refine wpAny_ready (rs := [3]) (by kernel_rfl) (by simp) (AllReady.cons rfl (fun K hK => ?_) AllReady.nil)
            refine step_store_row 84 (by rfl) (.tmp 3) (.tmp 47) (by rfl) (w.heap.size + 2) (sC (RG.subV f n)) (by rfl) (by rfl) HB.out.sub s_info rfl (sC_one _) ?_
            refine hK _ _ ?_
            clear hK K
            refine wpAny_done (by kernel_rfl) ?_ _
            clear HB
            go_wp2_with fail
            refine bodyPost_ret (v := .tuple #[.agg (iC U xr), .agg (sC (RG.subV f n))]) ?_ rfl ⟨rfl, HR.out.below⟩
            simp only [results, Tryz.results104]
            simp
            exact read_boxes (load_i_var HR.out.res) (load_sub_var HR.out.sub)
          · skip
            refine step_store_row 111 (by rfl) (.tmp 2) (.tmp 46) (by rfl) (w.heap.size + 1) (iC U xr) (by rfl) (by rfl) K2.out.drew.res i_info rfl (iC_one _ _) ?_
            refine hK _ _ ?_
            clear hK K
            refine wpAny_ready (rs := [1]) (by kernel_rfl) (by simp) (AllReady.cons rfl (fun K hK => ?_) AllReady.nil)
            refine step_load_sub (by rfl) (.tmp 8) (by rfl) g (by rfl) ((setRow_other _ (by omega)).trans N.out) ?_
            refine hK _ _ ?_
            clear hK K
            refine wpAny_ready (rs := [3]) (by kernel_rfl) (by simp) (AllReady.cons rfl (fun K hK => ?_) AllReady.nil)
            refine step_store_row 84 (by rfl) (.tmp 3) (.tmp 47) (by rfl) (w.heap.size + 2) (sC (RG.subV f n)) (by rfl) (by rfl) HB.out.sub s_info rfl (sC_one _) ?_
            refine hK _ _ ?_
            clear hK K
            refine wpAny_done (by kernel_rfl) ?_ _
            clear HB
            go_wp2_with fail
            refine bodyPost_ret (v := .tuple #[.agg (iC U xr), .agg (sC (RG.subV f n))]) ?_ rfl ⟨rfl, HR.out.below⟩
            simp only [results, Tryz.results104]
            simp
            exact read_boxes (load_i_var HR.out.res) (load_sub_var HR.out.sub)
        · skip
          refine step_load_sub (by rfl) (.tmp 8) (by rfl) g (by rfl) N.out ?_
          refine hK _ _ ?_
          clear hK K
          refine wpAny_ready (rs := [0]) (by kernel_rfl) (by simp) (AllReady.cons rfl (fun K hK => ?_) AllReady.nil)
          refine step_load_in (by rfl) (.tmp 1) (by rfl) w.heap.size (by rfl) K2.out.drew.box ?_
          refine hK _ _ ?_
          clear hK K
          refine wpAny_ready (rs := [2]) (by kernel_rfl) (by simp) (AllReady.cons rfl (fun K hK => ?_) AllReady.nil)
          refine step_store_row 111 (by rfl) (.tmp 2) (.tmp 46) (by rfl) (w.heap.size + 1) (iC U xr) (by rfl) (by rfl) K2.out.drew.res i_info rfl (iC_one _ _) ?_
          refine hK _ _ ?_
          clear hK K
          refine wpAny_ready (rs := [3]) (by kernel_rfl) (by simp) (AllReady.cons rfl (fun K hK => ?_) AllReady.nil)
          refine step_store_row 84 (by rfl) (.tmp 3) (.tmp 47) (by rfl) (w.heap.size + 2) (sC (RG.subV f n)) (by rfl) (by rfl) HB.out.sub s_info rfl (sC_one _) ?_
          refine hK _ _ ?_
          clear hK K
          refine wpAny_done (by kernel_rfl) ?_ _
          clear HB
          go_wp2_with fail
          refine bodyPost_ret (v := .tuple #[.agg (iC U xr), .agg (sC (RG.subV f n))]) ?_ rfl ⟨rfl, HR.out.below⟩
          simp only [results, Tryz.results104]
          simp
          exact read_boxes (load_i_var HR.out.res) (load_sub_var HR.out.sub)
      · skip
        have q1 : (n % 4 == 3) = false := by rw [beq_eq_false_iff_ne]; exact hq
        have q2 : (n / 16 % 4 == 3) = true := by rw [beq_iff_eq]; exact hh
        have s1 : RG.subC1 n = 0 := by unfold RG.subC1; rw [if_neg (by omega)]
        have s2 : RG.subC2 n = 130 := by unfold RG.subC2; rw [if_pos hh]
        rw [s1, s2] at hx
        have hx1 : xr = RG.fl (xn) 130 := hx
        clear hx s1 s2
        have CG := Lib.hid (dfailed_any U xn 130)
        rw [← hx1] at CG
        clear hx1
        go_wp2_with (refine wpl_load_i (by rfl) (.tmp 1) (by rfl) w.heap.size (by rfl) H7.out.box ?_)
        refine (CG.out _).mono ?_
        rintro e w7 ⟨rfl, b⟩
        have K1 := Lib.hid (H7.out.next b)
        have K2 := Lib.hid ((H7.out.next b).setO U xr)
        have N : Hid ((w7.setRow w.heap.size (iC U xr)).heap[g]? = some (.cells (sC (RG.subV f n)) 84 (0, 0))) := Lib.hid ((setRow_other _ (by omega)).trans ((b.block _ (lt_heap B7.out)).trans B7.out))
        clear y1 y4 b H7 B7 CG
        have y4 : (w7.setRow w.heap.size (iC U xr)).cell? ⟨g, 4, none⟩ = some (.int .i64 (n / 16 % 4)) := (cell_heap (i := 4) N.out).trans rfl
        go_upto_region 10 with (refine wpList_store_row (by rfl) 111 (.tmp 1) (.tmp 45) (by rfl) w.heap.size (iC U xr) (by rfl) (by rfl) 111 (iC U xn) K1.out.box i_info rfl (iC_one _ _) ?_)
        have HB := Lib.hid (K2.out.drew.setR U xr)
        have HR := Lib.hid ((K2.out.drew.setR U xr).setS (RG.subV f n))
        refine wp_region_any (by kernel_rfl) ?_
        change wpAny _ _ _ _ _ _ _ (World.drew _)
        refine wpAny_ready (rs := [0, 1]) (by kernel_rfl) (by simp) ?_
        refine AllReady.cons rfl (fun K hK => ?_) (AllReady.cons rfl (fun K hK => ?_) AllReady.nil)
        · skip
          refine step_load_in (by rfl) (.tmp 1) (by rfl) w.heap.size (by rfl) K2.out.drew.box ?_
          refine hK _ _ ?_
          clear hK K
          refine wpAny_ready (rs := [1, 2]) (by kernel_rfl) (by simp) ?_
          refine AllReady.cons rfl (fun K hK => ?_) (AllReady.cons rfl (fun K hK => ?_) AllReady.nil)
          · skip
            refine step_load_sub (by rfl) (.tmp 8) (by rfl) g (by rfl) N.out ?_
            refine hK _ _ ?_
            clear hK K
            refine wpAny_ready (rs := [2]) (by kernel_rfl) (by simp) (AllReady.cons rfl (fun K hK => ?_) AllReady.nil)
            refine step_store_row 111 (by rfl) (.tmp 2) (.tmp 46) (by rfl) (w.heap.size + 1) (iC U xr) (by rfl) (by rfl) K2.out.drew.res i_info rfl (iC_one _ _) ?_
            refine hK _ _ ?_
            clear hK K
            refine wpAny_ready (rs := [3]) (by kernel_rfl) (by simp) (AllReady.cons rfl (fun K hK => ?_) AllReady.nil)
            refine step_store_row 84 (by rfl) (.tmp 3) (.tmp 47) (by rfl) (w.heap.size + 2) (sC (RG.subV f n)) (by rfl) (by rfl) HB.out.sub s_info rfl (sC_one _) ?_
            refine hK _ _ ?_
            clear hK K
            refine wpAny_done (by kernel_rfl) ?_ _
            clear HB
            go_wp2_with fail
            refine bodyPost_ret (v := .tuple #[.agg (iC U xr), .agg (sC (RG.subV f n))]) ?_ rfl ⟨rfl, HR.out.below⟩
            simp only [results, Tryz.results104]
            simp
            exact read_boxes (load_i_var HR.out.res) (load_sub_var HR.out.sub)
          · skip
            refine step_store_row 111 (by rfl) (.tmp 2) (.tmp 46) (by rfl) (w.heap.size + 1) (iC U xr) (by rfl) (by rfl) K2.out.drew.res i_info rfl (iC_one _ _) ?_
            refine hK _ _ ?_
            clear hK K
            refine wpAny_ready (rs := [1]) (by kernel_rfl) (by simp) (AllReady.cons rfl (fun K hK => ?_) AllReady.nil)
            refine step_load_sub (by rfl) (.tmp 8) (by rfl) g (by rfl) ((setRow_other _ (by omega)).trans N.out) ?_
            refine hK _ _ ?_
            clear hK K
            refine wpAny_ready (rs := [3]) (by kernel_rfl) (by simp) (AllReady.cons rfl (fun K hK => ?_) AllReady.nil)
            refine step_store_row 84 (by rfl) (.tmp 3) (.tmp 47) (by rfl) (w.heap.size + 2) (sC (RG.subV f n)) (by rfl) (by rfl) HB.out.sub s_info rfl (sC_one _) ?_
            refine hK _ _ ?_
            clear hK K
            refine wpAny_done (by kernel_rfl) ?_ _
            clear HB
            go_wp2_with fail
            refine bodyPost_ret (v := .tuple #[.agg (iC U xr), .agg (sC (RG.subV f n))]) ?_ rfl ⟨rfl, HR.out.below⟩
            simp only [results, Tryz.results104]
            simp
            exact read_boxes (load_i_var HR.out.res) (load_sub_var HR.out.sub)
        · skip
          refine step_load_sub (by rfl) (.tmp 8) (by rfl) g (by rfl) N.out ?_
          refine hK _ _ ?_
          clear hK K
          refine wpAny_ready (rs := [0]) (by kernel_rfl) (by simp) (AllReady.cons rfl (fun K hK => ?_) AllReady.nil)
          refine step_load_in (by rfl) (.tmp 1) (by rfl) w.heap.size (by rfl) K2.out.drew.box ?_
          refine hK _ _ ?_
          clear hK K
          refine wpAny_ready (rs := [2]) (by kernel_rfl) (by simp) (AllReady.cons rfl (fun K hK => ?_) AllReady.nil)
          refine step_store_row 111 (by rfl) (.tmp 2) (.tmp 46) (by rfl) (w.heap.size + 1) (iC U xr) (by rfl) (by rfl) K2.out.drew.res i_info rfl (iC_one _ _) ?_
          refine hK _ _ ?_
          clear hK K
          refine wpAny_ready (rs := [3]) (by kernel_rfl) (by simp) (AllReady.cons rfl (fun K hK => ?_) AllReady.nil)
          refine step_store_row 84 (by rfl) (.tmp 3) (.tmp 47) (by rfl) (w.heap.size + 2) (sC (RG.subV f n)) (by rfl) (by rfl) HB.out.sub s_info rfl (sC_one _) ?_
          refine hK _ _ ?_
          clear hK K
          refine wpAny_done (by kernel_rfl) ?_ _
          clear HB
          go_wp2_with fail
          refine bodyPost_ret (v := .tuple #[.agg (iC U xr), .agg (sC (RG.subV f n))]) ?_ rfl ⟨rfl, HR.out.below⟩
          simp only [results, Tryz.results104]
          simp
          exact read_boxes (load_i_var HR.out.res) (load_sub_var HR.out.sub)
  · skip
    by_cases hq : n % 4 = 3
    · skip
      have q1 : (n % 4 == 3) = true := by rw [beq_iff_eq]; exact hq
      have q2 : (n / 16 % 4 == 3) = false := by rw [beq_eq_false_iff_ne]; exact hh
      have s1 : RG.subC1 n = 129 := by unfold RG.subC1; rw [if_pos (.inl hq)]
      have s2 : RG.subC2 n = 0 := by unfold RG.subC2; rw [if_neg hh]
      rw [s1, s2] at hx
      have hx1 : xr = RG.fl xn 129 := hx
      clear hx s1 s2
      have CF := Lib.hid (dfailed_any U xn 129)
      generalize RG.fl xn 129 = x9 at *
      subst hx1
      go_wp2_with (refine wpl_load_i (by rfl) (.tmp 1) (by rfl) w.heap.size (by rfl) H7.out.box ?_)
      refine (CF.out _).mono ?_
      rintro e w6 ⟨rfl, b⟩
      have J1 := Lib.hid (H7.out.next b)
      have J2 := Lib.hid ((H7.out.next b).setO U xr)
      have M : Hid ((w6.setRow w.heap.size (iC U xr)).heap[g]? = some (.cells (sC (RG.subV f n)) 84 (0, 0))) := Lib.hid ((setRow_other _ (by omega)).trans ((b.block _ (lt_heap B7.out)).trans B7.out))
      clear y1 y4 b H7 B7 CF
      have y4 : (w6.setRow w.heap.size (iC U xr)).cell? ⟨g, 4, none⟩ = some (.int .i64 (n / 16 % 4)) := (cell_heap (i := 4) M.out).trans rfl
      go_upto_region 10 with (refine wpList_store_row (by rfl) 111 (.tmp 1) (.tmp 40) (by rfl) w.heap.size (iC U xr) (by rfl) (by rfl) 111 (iC U xn) J1.out.box i_info rfl (iC_one _ _) ?_)
      have HB := Lib.hid (J2.out.drew.setR U xr)
      have HR := Lib.hid ((J2.out.drew.setR U xr).setS (RG.subV f n))
      refine wp_region_any (by kernel_rfl) ?_
      change wpAny _ _ _ _ _ _ _ (World.drew _)
      refine wpAny_ready (rs := [0, 1]) (by kernel_rfl) (by simp) ?_
      refine AllReady.cons rfl (fun K hK => ?_) (AllReady.cons rfl (fun K hK => ?_) AllReady.nil)
      · skip
        refine step_load_in (by rfl) (.tmp 1) (by rfl) w.heap.size (by rfl) J2.out.drew.box ?_
        refine hK _ _ ?_
        clear hK K
        refine wpAny_ready (rs := [1, 2]) (by kernel_rfl) (by simp) ?_
        refine AllReady.cons rfl (fun K hK => ?_) (AllReady.cons rfl (fun K hK => ?_) AllReady.nil)
        · skip
          refine step_load_sub (by rfl) (.tmp 8) (by rfl) g (by rfl) M.out ?_
          refine hK _ _ ?_
          clear hK K
          refine wpAny_ready (rs := [2]) (by kernel_rfl) (by simp) (AllReady.cons rfl (fun K hK => ?_) AllReady.nil)
          refine step_store_row 111 (by rfl) (.tmp 2) (.tmp 46) (by rfl) (w.heap.size + 1) (iC U xr) (by rfl) (by rfl) J2.out.drew.res i_info rfl (iC_one _ _) ?_
          refine hK _ _ ?_
          clear hK K
          refine wpAny_ready (rs := [3]) (by kernel_rfl) (by simp) (AllReady.cons rfl (fun K hK => ?_) AllReady.nil)
          refine step_store_row 84 (by rfl) (.tmp 3) (.tmp 47) (by rfl) (w.heap.size + 2) (sC (RG.subV f n)) (by rfl) (by rfl) HB.out.sub s_info rfl (sC_one _) ?_
          refine hK _ _ ?_
          clear hK K
          refine wpAny_done (by kernel_rfl) ?_ _
          clear HB
          go_wp2_with fail
          refine bodyPost_ret (v := .tuple #[.agg (iC U xr), .agg (sC (RG.subV f n))]) ?_ rfl ⟨rfl, HR.out.below⟩
          simp only [results, Tryz.results104]
          simp
          exact read_boxes (load_i_var HR.out.res) (load_sub_var HR.out.sub)
        · skip
          refine step_store_row 111 (by rfl) (.tmp 2) (.tmp 46) (by rfl) (w.heap.size + 1) (iC U xr) (by rfl) (by rfl) J2.out.drew.res i_info rfl (iC_one _ _) ?_
          refine hK _ _ ?_
          clear hK K
          refine wpAny_ready (rs := [1]) (by kernel_rfl) (by simp) (AllReady.cons rfl (fun K hK => ?_) AllReady.nil)
          refine step_load_sub (by rfl) (.tmp 8) (by rfl) g (by rfl) ((setRow_other _ (by omega)).trans M.out) ?_
          refine hK _ _ ?_
          clear hK K
          refine wpAny_ready (rs := [3]) (by kernel_rfl) (by simp) (AllReady.cons rfl (fun K hK => ?_) AllReady.nil)
          refine step_store_row 84 (by rfl) (.tmp 3) (.tmp 47) (by rfl) (w.heap.size + 2) (sC (RG.subV f n)) (by rfl) (by rfl) HB.out.sub s_info rfl (sC_one _) ?_
          refine hK _ _ ?_
          clear hK K
          refine wpAny_done (by kernel_rfl) ?_ _
          clear HB
          go_wp2_with fail
          refine bodyPost_ret (v := .tuple #[.agg (iC U xr), .agg (sC (RG.subV f n))]) ?_ rfl ⟨rfl, HR.out.below⟩
          simp only [results, Tryz.results104]
          simp
          exact read_boxes (load_i_var HR.out.res) (load_sub_var HR.out.sub)
      · skip
        refine step_load_sub (by rfl) (.tmp 8) (by rfl) g (by rfl) M.out ?_
        refine hK _ _ ?_
        clear hK K
        refine wpAny_ready (rs := [0]) (by kernel_rfl) (by simp) (AllReady.cons rfl (fun K hK => ?_) AllReady.nil)
        refine step_load_in (by rfl) (.tmp 1) (by rfl) w.heap.size (by rfl) J2.out.drew.box ?_
        refine hK _ _ ?_
        clear hK K
        refine wpAny_ready (rs := [2]) (by kernel_rfl) (by simp) (AllReady.cons rfl (fun K hK => ?_) AllReady.nil)
        refine step_store_row 111 (by rfl) (.tmp 2) (.tmp 46) (by rfl) (w.heap.size + 1) (iC U xr) (by rfl) (by rfl) J2.out.drew.res i_info rfl (iC_one _ _) ?_
        refine hK _ _ ?_
        clear hK K
        refine wpAny_ready (rs := [3]) (by kernel_rfl) (by simp) (AllReady.cons rfl (fun K hK => ?_) AllReady.nil)
        refine step_store_row 84 (by rfl) (.tmp 3) (.tmp 47) (by rfl) (w.heap.size + 2) (sC (RG.subV f n)) (by rfl) (by rfl) HB.out.sub s_info rfl (sC_one _) ?_
        refine hK _ _ ?_
        clear hK K
        refine wpAny_done (by kernel_rfl) ?_ _
        clear HB
        go_wp2_with fail
        refine bodyPost_ret (v := .tuple #[.agg (iC U xr), .agg (sC (RG.subV f n))]) ?_ rfl ⟨rfl, HR.out.below⟩
        simp only [results, Tryz.results104]
        simp
        exact read_boxes (load_i_var HR.out.res) (load_sub_var HR.out.sub)
    · skip
      by_cases h64 : 64 ≤ n
      · skip
        have q1 : (n % 4 == 3) = false := by rw [beq_eq_false_iff_ne]; exact hq
        have q2 : (n / 16 % 4 == 3) = false := by rw [beq_eq_false_iff_ne]; exact hh
        have s1 : RG.subC1 n = 129 := by unfold RG.subC1; rw [if_pos (.inr h64)]
        have s2 : RG.subC2 n = 0 := by unfold RG.subC2; rw [if_neg hh]
        rw [s1, s2] at hx
        have hx1 : xr = RG.fl xn 129 := hx
        clear hx s1 s2
        have CF := Lib.hid (dfailed_any U xn 129)
        generalize RG.fl xn 129 = x9 at *
        subst hx1
        go_wp2_with (refine wpl_load_i (by rfl) (.tmp 1) (by rfl) w.heap.size (by rfl) H7.out.box ?_)
        refine (CF.out _).mono ?_
        rintro e w6 ⟨rfl, b⟩
        have J1 := Lib.hid (H7.out.next b)
        have J2 := Lib.hid ((H7.out.next b).setO U xr)
        have M : Hid ((w6.setRow w.heap.size (iC U xr)).heap[g]? = some (.cells (sC (RG.subV f n)) 84 (0, 0))) := Lib.hid ((setRow_other _ (by omega)).trans ((b.block _ (lt_heap B7.out)).trans B7.out))
        clear y1 y4 b H7 B7 CF
        have y4 : (w6.setRow w.heap.size (iC U xr)).cell? ⟨g, 4, none⟩ = some (.int .i64 (n / 16 % 4)) := (cell_heap (i := 4) M.out).trans rfl
        go_upto_region 10 with (refine wpList_store_row (by rfl) 111 (.tmp 1) (.tmp 40) (by rfl) w.heap.size (iC U xr) (by rfl) (by rfl) 111 (iC U xn) J1.out.box i_info rfl (iC_one _ _) ?_)
        have HB := Lib.hid (J2.out.drew.setR U xr)
        have HR := Lib.hid ((J2.out.drew.setR U xr).setS (RG.subV f n))
        refine wp_region_any (by kernel_rfl) ?_
        change wpAny _ _ _ _ _ _ _ (World.drew _)
        refine wpAny_ready (rs := [0, 1]) (by kernel_rfl) (by simp) ?_
        refine AllReady.cons rfl (fun K hK => ?_) (AllReady.cons rfl (fun K hK => ?_) AllReady.nil)
        · skip
          refine step_load_in (by rfl) (.tmp 1) (by rfl) w.heap.size (by rfl) J2.out.drew.box ?_
          refine hK _ _ ?_
          clear hK K
          refine wpAny_ready (rs := [1, 2]) (by kernel_rfl) (by simp) ?_
          refine AllReady.cons rfl (fun K hK => ?_) (AllReady.cons rfl (fun K hK => ?_) AllReady.nil)
          · skip
            refine step_load_sub (by rfl) (.tmp 8) (by rfl) g (by rfl) M.out ?_
            refine hK _ _ ?_
            clear hK K
            refine wpAny_ready (rs := [2]) (by kernel_rfl) (by simp) (AllReady.cons rfl (fun K hK => ?_) AllReady.nil)
            refine step_store_row 111 (by rfl) (.tmp 2) (.tmp 46) (by rfl) (w.heap.size + 1) (iC U xr) (by rfl) (by rfl) J2.out.drew.res i_info rfl (iC_one _ _) ?_
            refine hK _ _ ?_
            clear hK K
            refine wpAny_ready (rs := [3]) (by kernel_rfl) (by simp) (AllReady.cons rfl (fun K hK => ?_) AllReady.nil)
            refine step_store_row 84 (by rfl) (.tmp 3) (.tmp 47) (by rfl) (w.heap.size + 2) (sC (RG.subV f n)) (by rfl) (by rfl) HB.out.sub s_info rfl (sC_one _) ?_
            refine hK _ _ ?_
            clear hK K
            refine wpAny_done (by kernel_rfl) ?_ _
            clear HB
            go_wp2_with fail
            refine bodyPost_ret (v := .tuple #[.agg (iC U xr), .agg (sC (RG.subV f n))]) ?_ rfl ⟨rfl, HR.out.below⟩
            simp only [results, Tryz.results104]
            simp
            exact read_boxes (load_i_var HR.out.res) (load_sub_var HR.out.sub)
          · skip
            refine step_store_row 111 (by rfl) (.tmp 2) (.tmp 46) (by rfl) (w.heap.size + 1) (iC U xr) (by rfl) (by rfl) J2.out.drew.res i_info rfl (iC_one _ _) ?_
            refine hK _ _ ?_
            clear hK K
            refine wpAny_ready (rs := [1]) (by kernel_rfl) (by simp) (AllReady.cons rfl (fun K hK => ?_) AllReady.nil)
            refine step_load_sub (by rfl) (.tmp 8) (by rfl) g (by rfl) ((setRow_other _ (by omega)).trans M.out) ?_
            refine hK _ _ ?_
            clear hK K
            refine wpAny_ready (rs := [3]) (by kernel_rfl) (by simp) (AllReady.cons rfl (fun K hK => ?_) AllReady.nil)
            refine step_store_row 84 (by rfl) (.tmp 3) (.tmp 47) (by rfl) (w.heap.size + 2) (sC (RG.subV f n)) (by rfl) (by rfl) HB.out.sub s_info rfl (sC_one _) ?_
            refine hK _ _ ?_
            clear hK K
            refine wpAny_done (by kernel_rfl) ?_ _
            clear HB
            go_wp2_with fail
            refine bodyPost_ret (v := .tuple #[.agg (iC U xr), .agg (sC (RG.subV f n))]) ?_ rfl ⟨rfl, HR.out.below⟩
            simp only [results, Tryz.results104]
            simp
            exact read_boxes (load_i_var HR.out.res) (load_sub_var HR.out.sub)
        · skip
          refine step_load_sub (by rfl) (.tmp 8) (by rfl) g (by rfl) M.out ?_
          refine hK _ _ ?_
          clear hK K
          refine wpAny_ready (rs := [0]) (by kernel_rfl) (by simp) (AllReady.cons rfl (fun K hK => ?_) AllReady.nil)
          refine step_load_in (by rfl) (.tmp 1) (by rfl) w.heap.size (by rfl) J2.out.drew.box ?_
          refine hK _ _ ?_
          clear hK K
          refine wpAny_ready (rs := [2]) (by kernel_rfl) (by simp) (AllReady.cons rfl (fun K hK => ?_) AllReady.nil)
          refine step_store_row 111 (by rfl) (.tmp 2) (.tmp 46) (by rfl) (w.heap.size + 1) (iC U xr) (by rfl) (by rfl) J2.out.drew.res i_info rfl (iC_one _ _) ?_
          refine hK _ _ ?_
          clear hK K
          refine wpAny_ready (rs := [3]) (by kernel_rfl) (by simp) (AllReady.cons rfl (fun K hK => ?_) AllReady.nil)
          refine step_store_row 84 (by rfl) (.tmp 3) (.tmp 47) (by rfl) (w.heap.size + 2) (sC (RG.subV f n)) (by rfl) (by rfl) HB.out.sub s_info rfl (sC_one _) ?_
          refine hK _ _ ?_
          clear hK K
          refine wpAny_done (by kernel_rfl) ?_ _
          clear HB
          go_wp2_with fail
          refine bodyPost_ret (v := .tuple #[.agg (iC U xr), .agg (sC (RG.subV f n))]) ?_ rfl ⟨rfl, HR.out.below⟩
          simp only [results, Tryz.results104]
          simp
          exact read_boxes (load_i_var HR.out.res) (load_sub_var HR.out.sub)
      · skip
        have q1 : (n % 4 == 3) = false := by rw [beq_eq_false_iff_ne]; exact hq
        have q2 : (n / 16 % 4 == 3) = false := by rw [beq_eq_false_iff_ne]; exact hh
        have s1 : RG.subC1 n = 0 := by unfold RG.subC1; rw [if_neg (by omega)]
        have s2 : RG.subC2 n = 0 := by unfold RG.subC2; rw [if_neg hh]
        rw [s1, s2] at hx
        have hx1 : xr = xn := hx
        clear hx s1 s2
        subst hx1
        go_upto_region 10 with fail
        have HB := Lib.hid (H7.out.drew.setR U xr)
        have HR := Lib.hid ((H7.out.drew.setR U xr).setS (RG.subV f n))
        refine wp_region_any (by kernel_rfl) ?_
        change wpAny _ _ _ _ _ _ _ (World.drew _)
        refine wpAny_ready (rs := [0, 1]) (by kernel_rfl) (by simp) ?_
        refine AllReady.cons rfl (fun K hK => ?_) (AllReady.cons rfl (fun K hK => ?_) AllReady.nil)
        · skip
          refine step_load_in (by rfl) (.tmp 1) (by rfl) w.heap.size (by rfl) H7.out.drew.box ?_
          refine hK _ _ ?_
          clear hK K
          refine wpAny_ready (rs := [1, 2]) (by kernel_rfl) (by simp) ?_
          refine AllReady.cons rfl (fun K hK => ?_) (AllReady.cons rfl (fun K hK => ?_) AllReady.nil)
          · skip
            refine step_load_sub (by rfl) (.tmp 8) (by rfl) g (by rfl) B7.out ?_
            refine hK _ _ ?_
            clear hK K
            refine wpAny_ready (rs := [2]) (by kernel_rfl) (by simp) (AllReady.cons rfl (fun K hK => ?_) AllReady.nil)
            refine step_store_row 111 (by rfl) (.tmp 2) (.tmp 46) (by rfl) (w.heap.size + 1) (iC U xr) (by rfl) (by rfl) H7.out.drew.res i_info rfl (iC_one _ _) ?_
            refine hK _ _ ?_
            clear hK K
            refine wpAny_ready (rs := [3]) (by kernel_rfl) (by simp) (AllReady.cons rfl (fun K hK => ?_) AllReady.nil)
            refine step_store_row 84 (by rfl) (.tmp 3) (.tmp 47) (by rfl) (w.heap.size + 2) (sC (RG.subV f n)) (by rfl) (by rfl) HB.out.sub s_info rfl (sC_one _) ?_
            refine hK _ _ ?_
            clear hK K
            refine wpAny_done (by kernel_rfl) ?_ _
            clear HB
            go_wp2_with fail
            refine bodyPost_ret (v := .tuple #[.agg (iC U xr), .agg (sC (RG.subV f n))]) ?_ rfl ⟨rfl, HR.out.below⟩
            simp only [results, Tryz.results104]
            simp
            exact read_boxes (load_i_var HR.out.res) (load_sub_var HR.out.sub)
          · skip
            refine step_store_row 111 (by rfl) (.tmp 2) (.tmp 46) (by rfl) (w.heap.size + 1) (iC U xr) (by rfl) (by rfl) H7.out.drew.res i_info rfl (iC_one _ _) ?_
            refine hK _ _ ?_
            clear hK K
            refine wpAny_ready (rs := [1]) (by kernel_rfl) (by simp) (AllReady.cons rfl (fun K hK => ?_) AllReady.nil)
            refine step_load_sub (by rfl) (.tmp 8) (by rfl) g (by rfl) ((setRow_other _ (by omega)).trans B7.out) ?_
            refine hK _ _ ?_
            clear hK K
            refine wpAny_ready (rs := [3]) (by kernel_rfl) (by simp) (AllReady.cons rfl (fun K hK => ?_) AllReady.nil)
            refine step_store_row 84 (by rfl) (.tmp 3) (.tmp 47) (by rfl) (w.heap.size + 2) (sC (RG.subV f n)) (by rfl) (by rfl) HB.out.sub s_info rfl (sC_one _) ?_
            refine hK _ _ ?_
            clear hK K
            refine wpAny_done (by kernel_rfl) ?_ _
            clear HB
            go_wp2_with fail
            refine bodyPost_ret (v := .tuple #[.agg (iC U xr), .agg (sC (RG.subV f n))]) ?_ rfl ⟨rfl, HR.out.below⟩
            simp only [results, Tryz.results104]
            simp
            exact read_boxes (load_i_var HR.out.res) (load_sub_var HR.out.sub)
        · skip
          refine step_load_sub (by rfl) (.tmp 8) (by rfl) g (by rfl) B7.out ?_
          refine hK _ _ ?_
          clear hK K
          refine wpAny_ready (rs := [0]) (by kernel_rfl) (by simp) (AllReady.cons rfl (fun K hK => ?_) AllReady.nil)
          refine step_load_in (by rfl) (.tmp 1) (by rfl) w.heap.size (by rfl) H7.out.drew.box ?_
          refine hK _ _ ?_
          clear hK K
          refine wpAny_ready (rs := [2]) (by kernel_rfl) (by simp) (AllReady.cons rfl (fun K hK => ?_) AllReady.nil)
          refine step_store_row 111 (by rfl) (.tmp 2) (.tmp 46) (by rfl) (w.heap.size + 1) (iC U xr) (by rfl) (by rfl) H7.out.drew.res i_info rfl (iC_one _ _) ?_
          refine hK _ _ ?_
          clear hK K
          refine wpAny_ready (rs := [3]) (by kernel_rfl) (by simp) (AllReady.cons rfl (fun K hK => ?_) AllReady.nil)
          refine step_store_row 84 (by rfl) (.tmp 3) (.tmp 47) (by rfl) (w.heap.size + 2) (sC (RG.subV f n)) (by rfl) (by rfl) HB.out.sub s_info rfl (sC_one _) ?_
          refine hK _ _ ?_
          clear hK K
          refine wpAny_done (by kernel_rfl) ?_ _
          clear HB
          go_wp2_with fail
          refine bodyPost_ret (v := .tuple #[.agg (iC U xr), .agg (sC (RG.subV f n))]) ?_ rfl ⟨rfl, HR.out.below⟩
          simp only [results, Tryz.results104]
          simp
          exact read_boxes (load_i_var HR.out.res) (load_sub_var HR.out.sub)
end Go.Proofs.YtemfcaaoobjgkaaGreatDoor
