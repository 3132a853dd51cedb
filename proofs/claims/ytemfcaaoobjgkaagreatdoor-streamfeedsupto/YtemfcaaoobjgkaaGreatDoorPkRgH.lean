/- The document's reader of packets as code: Get. (Written by wip/tools/gen_rgh.py.) -/
import Derived.Test.YtemfcaaoobjgkaaGreatDoorMD
namespace Go.Proofs.YtemfcaaoobjgkaaGreatDoor
open Go.RowKit
attribute [local go_sem ↓] Go.wp_at_zero Go.wp_at_succ
/-- The boxes of Get: the answer's, and nothing's. -/
structure N2 (w W : World) : Prop where
  r : W.heap[w.heap.size]? = some (.cells (rkNil PK.zeroPk) 52 (0, 0))
  no : W.heap[w.heap.size + 1]? = some (.cells (rkNil PK.zeroPk) 52 (0, 0))
  below : Below w.heap.size w W
/-- What Get answers. -/
def DG (w : World) (X : Pk × Int) (e : Ending) (w' : World) : Prop :=
  ∃ vc vp vw vs vf, e = .returned (.tuple #[.agg (rkCells X.1 vc vp vw vs vf), .int .i64 X.2]) ∧ Own5R w.heap.size X.1 vc vp vw vs vf w' ∧ Below w.heap.size w w'
theorem zero_bare : Bare PK.zeroPk := ⟨rfl, rfl, rfl, rfl, rfl, rfl⟩
theorem rkNil_all (P : Pk) : (rkNil P).all (·.oneCell') = true := by simp [rkNil, rkCells, Value.oneCell']
theorem N2.leave {w W : World} (h : N2 w W) (c : Int) : (loadVar 52 ⟨w.heap.size, 0, none⟩).run Tryz.prog (W.setRow w.heap.size (rkNil PK.zeroPk)) = .ok (.agg (rkNil PK.zeroPk)) (W.setRow w.heap.size (rkNil PK.zeroPk)) ∧
    DG w (PK.zeroPk, c) (.returned (.tuple #[.agg (rkNil PK.zeroPk), .int .i64 c])) (W.setRow w.heap.size (rkNil PK.zeroPk)) :=
  ⟨rk_var (setRow_heap h.r), _, _, _, _, _, rfl, zero_bare.own _ _, below_setRow h.below (Nat.le_refl _) _⟩
theorem N2.next {w W W' : World} (h : N2 w W) (hb : Below W.heap.size W W') : N2 w W' := ⟨(hb.block _ (lt_heap h.r)).trans h.r, (hb.block _ (lt_heap h.no)).trans h.no, h.below.trans (hb.mono h.below.size)⟩
theorem N2.start (w : World) : N2 w ((w.alloc (.cells (rkNil PK.zeroPk) 52)).alloc (.cells (rkNil PK.zeroPk) 52)) := by
  have e := heap_alloc_new (w.alloc (.cells (rkNil PK.zeroPk) 52)) (.cells (rkNil PK.zeroPk) 52)
  have sz : (w.alloc (.cells (rkNil PK.zeroPk) 52)).heap.size = w.heap.size + 1 := by simp
  rw [sz] at e
  exact ⟨(Below.heap_alloc _ _ _ (by omega)).trans (heap_alloc_new w _), e, ((Below.refl _ _).alloc (Nat.le_refl _) _).alloc (by omega) _⟩
theorem N2.start' (w : World) : N2 w (((w.alloc (.cells (rkNil PK.zeroPk) 52)).alloc (.cells (rkNil PK.zeroPk) 52)).setRow (w.heap.size + 1) (rkNil PK.zeroPk)) :=
  ⟨(setRow_other _ (by omega)).trans (N2.start w).r, setRow_heap (N2.start w).no, below_setRow (N2.start w).below (by omega) _⟩
/-- And the packet so far. -/
structure N3 (w : World) (P : Pk) (W : World) : Prop extends N2 w W where
  pk : W.heap[w.heap.size + 2]? = some (.cells (rkNil P) 52 (0, 0))
theorem N3.next {w W W' : World} {P : Pk} (h : N3 w P W) (hb : Below W.heap.size W W') : N3 w P W' := ⟨h.toN2.next hb, (hb.block _ (lt_heap h.pk)).trans h.pk⟩
theorem N3.setF {w W : World} {P : Pk} (h : N3 w P W) (j : Nat) (u : Value) (P' : Pk) (hc : (rkNil P).set! j u = rkNil P') : N3 w P' (W.setCell ⟨w.heap.size + 2, j, none⟩ u) :=
  ⟨⟨(Below.heap_setCell _ _ _ _ (show w.heap.size ≠ w.heap.size + 2 by omega)).trans h.r, (Below.heap_setCell _ _ _ _ (show w.heap.size + 1 ≠ w.heap.size + 2 by omega)).trans h.no, h.below.setCell (p := ⟨w.heap.size + 2, j, none⟩) (by show w.heap.size ≤ w.heap.size + 2; omega) _⟩, set_block h.pk hc⟩
theorem N3.start' {w W : World} (h : N2 w W) (hs : W.heap.size = w.heap.size + 2) (P : Pk) : N3 w P ((W.alloc (.cells (rkNil PK.zeroPk) 52)).setRow (w.heap.size + 2) (rkNil P)) := by
  have e := heap_alloc_new W (.cells (rkNil PK.zeroPk) 52)
  rw [hs] at e
  have h' := h.next ((Below.refl W.heap.size W).alloc (Nat.le_refl _) (.cells (rkNil PK.zeroPk) 52))
  exact ⟨⟨(setRow_other _ (by omega)).trans h'.r, (setRow_other _ (by omega)).trans h'.no, below_setRow h'.below (by omega) _⟩, setRow_heap e⟩
theorem N3.start {w W : World} (h : N2 w W) (hs : W.heap.size = w.heap.size + 2) (P : Pk) : N3 w P (W.alloc (.cells (rkNil P) 52)) :=
  ⟨h.next ((Below.refl _ _).alloc (Nat.le_refl _) _), by rw [← hs]; exact heap_alloc_new _ _⟩
set_option linter.unusedSimpArgs false in
set_option maxHeartbeats 4000000 in
set_option maxRecDepth 100000 in
theorem rg_bad {Q : Exit → Act → World → Prop} (hQ : ∀ c d v a w, Q (.panic c) (a.put d v) w → Q (.panic c) a w) (ops : Array Oper) (hops : Tryz.f21.body.bind (findR 29) = some ops)
    (a : Act) (hsz : a.tmps.size = 113) (r no gi : Nat) (h2 : a.eval (.tmp 2) = .pointer (some ⟨r, 0, none⟩)) (h4 : a.eval (.tmp 4) = .pointer (some ⟨no, 0, none⟩)) (h12 : a.eval (.tmp 12) = .pointer (some ⟨gi, 0, none⟩))
    (W : World) (U : ByteArray) (x : Int × Int) (b0 : W.heap[r]? = some (.cells (rkNil PK.zeroPk) 52 (0, 0))) (b1 : W.heap[no]? = some (.cells (rkNil PK.zeroPk) 52 (0, 0))) (bi : W.heap[gi]? = some (.cells (iC U x) 111 (0, 0))) (e1 : no ≠ r) (e2 : gi ≠ r)
    (hK : Q .normal ((((a.put (some 102) (.agg (rkNil PK.zeroPk))).put (some 103) (.pointer (some ⟨gi, 2, none⟩))).put (some 104) (.int .i64 x.2)).put (some 3) (.int .i64 x.2)) (W.setRow r (rkNil PK.zeroPk))) :
    wpAnyT Tryz.prog .any ops Q (fun w' => w'.heap[no]? = some (.cells (rkNil PK.zeroPk) 52 (0, 0)) ∧ w'.heap[gi]? = some (.cells (iC U x) 111 (0, 0))) 5 ops.size (Array.replicate ops.size false) a W := by
  conv at hops => lhs; whnf
  obtain rfl := Option.some.inj hops
  clear hops
  have S0 : (fun w' : World => w'.heap[no]? = some (.cells (rkNil PK.zeroPk) 52 (0, 0)) ∧ w'.heap[gi]? = some (.cells (iC U x) 111 (0, 0))) W := ⟨b1, bi⟩
  change wpAnyT _ _ _ _ _ _ 5 (Array.replicate 5 false) _ _
  refine wpAnyT_take 0 0 (v := (.agg (rkNil PK.zeroPk))) (by rfl) (by rfl) (by kernel_rfl) (by kernel_rfl) (by kernel_rfl) (by kernel_rfl) (by kernel_rfl) (fun _ _ _ h => hQ _ _ _ _ _ h) (fun w hSw => (by have q0 : (loadVar 52 ⟨no, 0, none⟩).run Tryz.prog w = .ok (.agg (rkNil PK.zeroPk)) w := rk_var hSw.1; show Sem.run _ (execOp _ ⟨_, .load 52 (.tmp 4), _, _, _, _⟩) _ = _; unfold execOp; simp only [show a.eval (.tmp 4) = _ from h4, Instr.loadAt, Instr.sureAddr, Sem.run_bind, Sem.run_pure, Result.andThen_ok, q0])) S0 ?_
  change wpAnyT _ _ _ _ _ _ _ _ (a.put (some 102) (.agg (rkNil PK.zeroPk))) _
  refine wpAnyT_take 1 1 (v := (.pointer (some ⟨gi, 2, none⟩))) (by rfl) (by rfl) (by kernel_rfl) (by kernel_rfl) (by kernel_rfl) (by kernel_rfl) (by kernel_rfl) (fun _ _ _ h => hQ _ _ _ _ _ h) (fun w hSw => (by show Sem.run _ (execOp _ ⟨_, .fieldAddr 111 (.tmp 12) 2, _, _, _, _⟩) _ = _; unfold execOp; simp only [show (a.put (some 102) (.agg (rkNil PK.zeroPk))).eval (.tmp 12) = _ from ((ev_ne (by decide)).trans h12)]; go_simp)) S0 ?_
  change wpAnyT _ _ _ _ _ _ _ _ ((a.put (some 102) (.agg (rkNil PK.zeroPk))).put (some 103) (.pointer (some ⟨gi, 2, none⟩))) _
  refine wpAnyT_take 2 2 (v := (.int .i64 x.2)) (by rfl) (by rfl) (by kernel_rfl) (by kernel_rfl) (by kernel_rfl) (by kernel_rfl) (by kernel_rfl) (fun _ _ _ h => hQ _ _ _ _ _ h) (fun w hSw => (by have q0 := (cell_heap (i := 2) hSw.2).trans (show _ = some (.int .i64 x.2) from rfl); show Sem.run _ (execOp _ ⟨_, .load 3 (.tmp 103), _, _, _, _⟩) _ = _; unfold execOp; simp only [show ((a.put (some 102) (.agg (rkNil PK.zeroPk))).put (some 103) (.pointer (some ⟨gi, 2, none⟩))).eval (.tmp 103) = _ from (ev_same (by simp only [put_sz, hsz]; decide))]; go_simp)) S0 ?_
  change wpAnyT _ _ _ _ _ _ _ _ (((a.put (some 102) (.agg (rkNil PK.zeroPk))).put (some 103) (.pointer (some ⟨gi, 2, none⟩))).put (some 104) (.int .i64 x.2)) _
  refine wpAnyT_one 3 (by kernel_rfl) (opU_store (by rfl) (by rfl) (by rfl) 52 (.tmp 2) (.tmp 102) (by rfl) r (rkNil PK.zeroPk) ((ev_ne (by decide)).trans ((ev_ne (by decide)).trans ((ev_ne (by decide)).trans h2))) ((ev_ne (by decide)).trans ((ev_ne (by decide)).trans (ev_same (by simp only [put_sz, hsz]; decide)))) 52 (rkNil PK.zeroPk) b0 rk_info rfl (rkNil_all _) ⟨fun _ => ⟨(setRow_other _ e1).trans b1, (setRow_other _ e2).trans bi⟩, ?_⟩)
  refine wpAnyT_one 4 (by kernel_rfl) (opT (v := (.int .i64 x.2)) (w' := W.setRow r (rkNil PK.zeroPk)) (by rfl) (by rfl) (by show Sem.run _ (execOp _ ⟨_, .assign (.tmp 104), _, _, _, _⟩) _ = _; unfold execOp; simp only [show (((a.put (some 102) (.agg (rkNil PK.zeroPk))).put (some 103) (.pointer (some ⟨gi, 2, none⟩))).put (some 104) (.int .i64 x.2)).eval (.tmp 104) = _ from (ev_same (by simp only [put_sz, hsz]; decide))]; go_simp) ⟨fun _ => ⟨(setRow_other _ e1).trans b1, (setRow_other _ e2).trans bi⟩, ?_⟩)
  exact wpAnyT_done (by kernel_rfl) hK
set_option linter.unusedVariables false in
set_option linter.unusedSimpArgs false in
set_option maxRecDepth 100000 in
set_option maxHeartbeats 8000000 in
theorem dget_any (s : ByteArray) (hs : s.size ≤ 140737488351232) (w : World) : Calls Tryz.prog 21 #[.string s] w (DG w (RG.get s)) := by
  obtain ⟨X9, hX9⟩ : ∃ y, y = RG.get s := ⟨_, rfl⟩
  rw [← hX9]
  unfold RG.get at hX9
  have HS : Hid ((((w.alloc (.cells (rkNil PK.zeroPk) 52)).alloc (.cells (rkNil PK.zeroPk) 52)).setRow (w.heap.size + 1) (rkNil PK.zeroPk)).heap.size = w.heap.size + 2) := Lib.hid (by simp [World.setRow])
  have HA := Lib.hid (N2.start w).no
  by_cases h0 : s.size = 0
  · rw [if_pos h0] at hX9
    have HE := Lib.hid hX9
    clear hX9
    obtain rfl := empty_list h0
    go_enter Tryz.func21, Tryz.ntmps21
    go_upto_region 2 with (refine wpList_store_row (by rfl) 52 (.tmp 4) (.tmp 14) (by rfl) (w.heap.size + 1) (rkNil PK.zeroPk) (by rfl) (by rfl) 52 (rkNil PK.zeroPk) HA.out rk_info rfl (rkNil_all _) ?_)
    change Code.wp _ _ _ _ (((w.alloc (.cells (rkNil PK.zeroPk) 52)).alloc (.cells (rkNil PK.zeroPk) 52)).setRow (w.heap.size + 1) (rkNil PK.zeroPk))
    have HN := Lib.hid (N2.start' w)
    generalize ((w.alloc (.cells (rkNil PK.zeroPk) 52)).alloc (.cells (rkNil PK.zeroPk) 52)).setRow (w.heap.size + 1) (rkNil PK.zeroPk) = W0 at *
    clear HA
    go_wp2_with (first
      | refine wpl_load_r (by rfl) (.tmp 4) (by rfl) (w.heap.size + 1) (by rfl) (p := PK.zeroPk) HN.out.no ?_
      | refine wpList_store_row (by rfl) 52 (.tmp 2) (.tmp 18) (by rfl) w.heap.size (rkNil PK.zeroPk) (by rfl) (by rfl) 52 (rkNil PK.zeroPk) HN.out.r rk_info rfl (rkNil_all _) ?_)
    obtain ⟨f1, f2⟩ := HN.out.leave 242
    refine bodyPost_ret (v := .tuple #[.agg (rkNil PK.zeroPk), .int .i64 242]) ?_ rfl (by rw [HE.out]; exact f2)
    simp only [results, Tryz.results21]
    simp
    exact read_two f1
  rw [if_neg h0] at hX9
  have hne := nonempty_list h0
  have hpos : 0 < s.size := by omega
  have hn : PK.b0 s = ((s[0]'hpos).toNat : Int) := by unfold PK.b0; rw [dif_pos hpos]
  have hn1 := VP.byte_lt s 0 hpos
  obtain ⟨n0, n1⟩ := RG.b0_le s
  have HX := Lib.hid hX9
  clear hX9
  go_enter Tryz.func21, Tryz.ntmps21
  go_upto_region 2 with (refine wpList_store_row (by rfl) 52 (.tmp 4) (.tmp 14) (by rfl) (w.heap.size + 1) (rkNil PK.zeroPk) (by rfl) (by rfl) 52 (rkNil PK.zeroPk) HA.out rk_info rfl (rkNil_all _) ?_)
  change Code.wp _ _ _ _ (((w.alloc (.cells (rkNil PK.zeroPk) 52)).alloc (.cells (rkNil PK.zeroPk) 52)).setRow (w.heap.size + 1) (rkNil PK.zeroPk))
  have HN := Lib.hid (N2.start' w)
  generalize ((w.alloc (.cells (rkNil PK.zeroPk) 52)).alloc (.cells (rkNil PK.zeroPk) 52)).setRow (w.heap.size + 1) (rkNil PK.zeroPk) = W0 at *
  clear HA
  go_upto_region 4 with fail
  go_cut [5] from 14 to 112 (fun v wx => v = .int .i64 (PK.b0 s) ∧ W0 = wx)
  case first =>
    go_wp2
    go_meet
    exact ⟨by rw [hn], rfl⟩
  case rest => as_aux_lemma =>
  obtain ⟨rfl, rfl⟩ := hcut
  clear hn hn1
  generalize PK.b0 s = n at *
  have hs0 := HS.out
  have HA : Hid ((W0.alloc (.cells (rkNil PK.zeroPk) 52)).heap[W0.heap.size]? = some (.cells (rkNil PK.zeroPk) 52 (0, 0))) := Lib.hid (heap_alloc_new _ _)
  have HP : Hid (N3 w (PK.barePk (n / 16) false false 0) ((W0.alloc (.cells (rkNil PK.zeroPk) 52)).setRow W0.heap.size (rkNil (PK.barePk (n / 16) false false 0)))) := Lib.hid (by rw [hs0]; exact N3.start' HN.out hs0 _)
  clear HN hs0
  go_upto_region 6 with (refine wpList_store_row (by rfl) 52 (.tmp 6) (.tmp 24) (by rfl) W0.heap.size (rkNil (PK.barePk (n / 16) false false 0)) (by rfl) (by rfl) 52 (rkNil PK.zeroPk) HA.out rk_info rfl (rkNil_all _) ?_)
  change Code.wp _ _ _ _ ((W0.alloc (.cells (rkNil PK.zeroPk) 52)).setRow W0.heap.size (rkNil (PK.barePk (n / 16) false false 0)))
  generalize (W0.alloc (.cells (rkNil PK.zeroPk) 52)).setRow W0.heap.size (rkNil (PK.barePk (n / 16) false false 0)) = W1 at *
  rw [HS.out]
  clear HA HS W0
  have HN := HP
  clear HP
  go_upto_region 7 with fail
  obtain ⟨f, hf⟩ : ∃ f, f = n % 16 := ⟨_, rfl⟩
  rw [← hf]
  have HF := Lib.hid hf
  have f1 : 0 ≤ f := by omega
  have f2 : f ≤ 255 := by omega
  clear hf
  have z0 := (cell_heap (i := 0) HN.out.pk).trans (show _ = some (.int .i64 (n / 16)) from rfl)
  by_cases k0 : n / 16 = 0
  · have k0' : (n / 16 == 0) = true := by rw [beq_iff_eq]; exact k0
    have HE : Hid (X9 = (PK.zeroPk, 129)) := Lib.hid (by rw [HX.out, if_pos]; unfold RG.begO; rw [if_pos k0])
    clear HX k0
    go_upto_region 8 with fail
    go_wp2_with (first
      | refine wpl_load_r (by rfl) (.tmp 4) (by rfl) (w.heap.size + 1) (by rfl) (p := PK.zeroPk) HN.out.no ?_
      | refine wpList_store_row (by rfl) 52 (.tmp 2) (.tmp 30) (by rfl) w.heap.size (rkNil PK.zeroPk) (by rfl) (by rfl) 52 (rkNil PK.zeroPk) HN.out.r rk_info rfl (rkNil_all _) ?_)
    obtain ⟨f1, f2⟩ := HN.out.leave 129
    refine bodyPost_ret (v := .tuple #[.agg (rkNil PK.zeroPk), .int .i64 129]) ?_ rfl (by rw [HE.out]; exact f2)
    simp only [results, Tryz.results21]
    simp
    exact read_two f1
  have k0' : (n / 16 == 0) = false := by rw [beq_eq_false_iff_ne]; exact k0
  go_upto_region 9 with fail
  go_cut [33] from 14 to 112 (fun b wx => b = .bool (decide (n / 16 = 3)) ∧ W1 = wx)
  case first =>
    go_wp2
    go_meet
    exact ⟨congrArg Value.bool (by rw [Bool.eq_iff_iff]; simp), rfl⟩
  case rest => as_aux_lemma =>
  obtain ⟨rfl, rfl⟩ := hcut
  clear z0 k0'
  go_upto_if 33 with fail
  go_cut [] from 14 to 112 (fun wx => N3 w (RG.begP n) wx ∧ RG.begO n = true)
  case first =>
    by_cases k3 : n / 16 = 3
    · simp only [decide_eq_true k3]
      have CS8 := Lib.hid (disset_any f 8 f1 f2 (by decide) (by decide))
      have CS1 := Lib.hid (disset_any f 1 f1 f2 (by decide) (by decide))
      have HP1 : Hid (RG.begP n = PK.barePk 3 (f / 8 % 2 == 1) (f % 2 == 1) (f / 2 % 4)) := Lib.hid (by unfold RG.begP; rw [if_pos k3, Int.ediv_one, ← HF.out])
      have HO : Hid (RG.begO n = !(f / 2 % 4 == 3 || (f / 8 % 2 == 1 && f / 2 % 4 == 0))) := Lib.hid (by unfold RG.begO; rw [if_neg k0, if_pos k3, ← HF.out])
      have HN3 : Hid (N3 w (PK.barePk 3 false false 0) W1) := Lib.hid (by rw [← k3]; exact HN.out)
      clear k3 k0 HN HF
      skip
      go_wp2_with fail
      refine (CS8.out _).mono ?_
      rintro e v1 ⟨rfl, b1⟩
      have H1 := Lib.hid (HN3.out.next b1)
      clear HN3 b1 CS8
      have yc := (cell_heap (i := 1) H1.out.pk).trans (show _ = some (.bool false) from rfl)
      have yf := frozen_heap (i := 1) H1.out.pk
      have HN3 := Lib.hid (H1.out.setF 1 (.bool (f / 8 % 2 == 1)) (PK.barePk 3 (f / 8 % 2 == 1) false 0) rfl)
      clear H1
      go_upto_region 11 with fail
      change Code.wp _ _ _ _ (v1.setCell ⟨w.heap.size + 2, 1, none⟩ (.bool (f / 8 % 2 == 1)))
      generalize v1.setCell ⟨w.heap.size + 2, 1, none⟩ (.bool (f / 8 % 2 == 1)) = W2 at *
      clear yc yf
      go_wp2_with fail
      refine (CS1.out _).mono ?_
      rintro e v1 ⟨rfl, b1⟩
      have H1 := Lib.hid (HN3.out.next b1)
      clear HN3 b1 CS1
      have yc := (cell_heap (i := 2) H1.out.pk).trans (show _ = some (.bool false) from rfl)
      have yf := frozen_heap (i := 2) H1.out.pk
      have HN3 := Lib.hid (H1.out.setF 2 (.bool (f % 2 == 1)) (PK.barePk 3 (f / 8 % 2 == 1) (f % 2 == 1) 0) rfl)
      clear H1
      go_upto_region 12 with fail
      change Code.wp _ _ _ _ (v1.setCell ⟨w.heap.size + 2, 2, none⟩ (.bool (f % 2 == 1)))
      generalize v1.setCell ⟨w.heap.size + 2, 2, none⟩ (.bool (f % 2 == 1)) = W3 at *
      clear yc yf
      have yc := (cell_heap (i := 3) HN3.out.pk).trans (show _ = some (.int .i64 0) from rfl)
      have yf := frozen_heap (i := 3) HN3.out.pk
      have HN4 := Lib.hid (HN3.out.setF 3 (.int .i64 (f / 2 % 4)) (PK.barePk 3 (f / 8 % 2 == 1) (f % 2 == 1) (f / 2 % 4)) rfl)
      clear HN3
      go_upto_region 13 with fail
      change Code.wp _ _ _ _ (W3.setCell ⟨w.heap.size + 2, 3, none⟩ (.int .i64 (f / 2 % 4)))
      generalize W3.setCell ⟨w.heap.size + 2, 3, none⟩ (.int .i64 (f / 2 % 4)) = W4 at *
      clear yc yf
      have z1 := (cell_heap (i := 1) HN4.out.pk).trans (show _ = some (.bool (f / 8 % 2 == 1)) from rfl)
      have z3 := (cell_heap (i := 3) HN4.out.pk).trans (show _ = some (.int .i64 (f / 2 % 4)) from rfl)
      obtain ⟨ok, hok⟩ : ∃ y, y = RG.begO n := ⟨_, rfl⟩
      rw [← hok] at HO
      have HOK := Lib.hid hok
      rw [← HP1.out] at HN4
      clear hok HP1
      generalize (f / 8 % 2 == 1) = dp at *
      generalize f / 2 % 4 = qq at *
      by_cases c2 : qq = 3
      · have c2' : (qq == 3) = true := by rw [beq_iff_eq]; exact c2
        clear c2
        have HE : Hid (X9 = (PK.zeroPk, 129)) := Lib.hid (by rw [HX.out, if_pos (by rw [← HOK.out, HO.out]; simp [*])])
        clear HX
        go_upto_region 14 with fail
        go_wp2_with (first
          | refine wpl_load_r (by rfl) (.tmp 4) (by rfl) (w.heap.size + 1) (by rfl) (p := PK.zeroPk) HN4.out.no ?_
          | refine wpList_store_row (by rfl) 52 (.tmp 2) (.tmp 56) (by rfl) w.heap.size (rkNil PK.zeroPk) (by rfl) (by rfl) 52 (rkNil PK.zeroPk) HN4.out.r rk_info rfl (rkNil_all _) ?_)
        obtain ⟨f1, f2⟩ := HN4.out.leave 129
        refine bodyPost_ret (v := .tuple #[.agg (rkNil PK.zeroPk), .int .i64 129]) ?_ rfl (by rw [HE.out]; exact f2)
        simp only [results, Tryz.results21]
        simp
        exact read_two f1
      · have c2' : (qq == 3) = false := by rw [beq_eq_false_iff_ne]; exact c2
        cases dp
        · skip
          have e0 : Hid (RG.begO n = true) := Lib.hid (by rw [← HOK.out, HO.out]; simp [*])
          clear HO HOK
          go_wp2
          go_meet
          exact ⟨HN4.out, e0.out⟩
        · by_cases c3 : qq = 0
          · have c3' : (qq == 0) = true := by rw [beq_iff_eq]; exact c3
            clear c2 c3
            have HE : Hid (X9 = (PK.zeroPk, 129)) := Lib.hid (by rw [HX.out, if_pos (by rw [← HOK.out, HO.out]; simp [*])])
            clear HX
            go_upto_region 14 with fail
            go_wp2_with (first
              | refine wpl_load_r (by rfl) (.tmp 4) (by rfl) (w.heap.size + 1) (by rfl) (p := PK.zeroPk) HN4.out.no ?_
              | refine wpList_store_row (by rfl) 52 (.tmp 2) (.tmp 56) (by rfl) w.heap.size (rkNil PK.zeroPk) (by rfl) (by rfl) 52 (rkNil PK.zeroPk) HN4.out.r rk_info rfl (rkNil_all _) ?_)
            obtain ⟨f1, f2⟩ := HN4.out.leave 129
            refine bodyPost_ret (v := .tuple #[.agg (rkNil PK.zeroPk), .int .i64 129]) ?_ rfl (by rw [HE.out]; exact f2)
            simp only [results, Tryz.results21]
            simp
            exact read_two f1
          · have c3' : (qq == 0) = false := by rw [beq_eq_false_iff_ne]; exact c3
            clear c2 c3
            have e0 : Hid (RG.begO n = true) := Lib.hid (by rw [← HOK.out, HO.out]; simp [*])
            clear HO HOK
            go_wp2
            go_meet
            exact ⟨HN4.out, e0.out⟩
    · simp only [decide_eq_false k3]
      have HP1 : Hid (RG.begP n = PK.barePk (n / 16) false false 0) := Lib.hid (by unfold RG.begP; rw [if_neg k3])
      have CF := Lib.hid (dflags_any (PK.barePk (n / 16) false false 0) (fun h => absurd h k3) (.slice none 0 0) (.slice none 0 0) (.slice none 0 0) (.slice none 0 0) (.slice none 0 0))
      have HO : Hid (RG.begO n = (f == PK.flagsN (PK.barePk (n / 16) false false 0))) := Lib.hid (by unfold RG.begO; rw [if_neg k0, if_neg k3, ← HF.out])
      generalize PK.flagsN (PK.barePk (n / 16) false false 0) = fl at *
      clear k0 k3 HF
      go_wp2_with (refine wpl_load_r (by rfl) (.tmp 6) (by rfl) (w.heap.size + 2) (by rfl) HN.out.pk ?_)
      refine (CF.out _).mono ?_
      rintro e v1 ⟨rfl, b1⟩
      have HN4 := Lib.hid (HN.out.next b1)
      rw [← HP1.out] at HN4
      clear HN b1 CF HP1
      by_cases c1 : f = fl
      · have c1' : (f != fl) = false := by rw [bne_eq_false_iff_eq]; exact c1
        have e0 : Hid (RG.begO n = true) := Lib.hid (by rw [HO.out, c1]; exact beq_self_eq_true _)
        clear c1 HO
        go_wp2
        go_meet
        exact ⟨HN4.out, e0.out⟩
      · have c1' : (f != fl) = true := by rw [bne_iff_ne]; exact c1
        have HE : Hid (X9 = (PK.zeroPk, 129)) := Lib.hid (by rw [HX.out, if_pos (by rw [HO.out, beq_eq_false_iff_ne]; exact c1)])
        clear HX c1 HO
        go_upto_region 17 with fail
        go_wp2_with (first
          | refine wpl_load_r (by rfl) (.tmp 4) (by rfl) (w.heap.size + 1) (by rfl) (p := PK.zeroPk) HN4.out.no ?_
          | refine wpList_store_row (by rfl) 52 (.tmp 2) (.tmp 62) (by rfl) w.heap.size (rkNil PK.zeroPk) (by rfl) (by rfl) 52 (rkNil PK.zeroPk) HN4.out.r rk_info rfl (rkNil_all _) ?_)
        obtain ⟨f1, f2⟩ := HN4.out.leave 129
        refine bodyPost_ret (v := .tuple #[.agg (rkNil PK.zeroPk), .int .i64 129]) ?_ rfl (by rw [HE.out]; exact f2)
        simp only [results, Tryz.results21]
        simp
        exact read_two f1
  case rest => as_aux_lemma =>
  obtain ⟨h1, h2⟩ := hcut
  have HB : Hid (Bare (RG.begP n)) := Lib.hid (by unfold RG.begP; split <;> exact ⟨rfl, rfl, rfl, rfl, rfl, rfl⟩)
  have HX2 : Hid (X9 = if PK.hdC s ≠ 0 then (PK.zeroPk, PK.hdC s) else RG.whole (RG.rest s) (RG.begP n)) := Lib.hid (by rw [HX.out, if_neg (by rw [h2]; decide)])
  have HN3 := Lib.hid h1
  clear HX HN HF h1 h2 k0
  generalize RG.begP n = P at *
  have HN : Hid (N2 w wc) := Lib.hid HN3.out.toN2
  have CG := Lib.hid (refget_any s 1 (by unfold maxLen; omega))
  by_cases hc : (VP.get s 1).2.2 = 0
  · obtain ⟨m, b, hg, hm, hb1, hb2⟩ := ST.get1 s h0 hc
    have hd : PK.hdC s = PK.lenC (m : Int) ((s.size : Int) - (b : Int)) := by unfold PK.hdC; rw [if_pos hc, hg]
    have hr : RG.rest s = s.extract b s.size := by unfold RG.rest; rw [hg]; simp
    have HX3 : Hid (X9 = if PK.lenC (m : Int) ((s.size : Int) - (b : Int)) ≠ 0 then (PK.zeroPk, PK.lenC (m : Int) ((s.size : Int) - (b : Int))) else RG.whole (s.extract b s.size) P) := Lib.hid (by rw [HX2.out, hd, hr])
    rw [hg] at CG
    simp only at CG
    clear hc hg hd hr HX2
    by_cases c1 : (65536 : Int) < (m : Int)
    · have HE : Hid (X9 = (PK.zeroPk, 149)) := Lib.hid (by
        have e : PK.lenC (m : Int) ((s.size : Int) - (b : Int)) = 149 := by unfold PK.lenC; rw [if_pos c1]
        rw [HX3.out, e, if_pos (by decide)])
      clear HX3
      go_upto_region 18 with fail
      go_wp2_with fail
      refine (CG.out _).mono ?_
      rintro e _ ⟨rfl, rfl⟩
      go_upto_region 22 with fail
      go_wp2_with (first
        | refine wpl_load_r (by rfl) (.tmp 4) (by rfl) (w.heap.size + 1) (by rfl) (p := PK.zeroPk) HN.out.no ?_
        | refine wpList_store_row (by rfl) 52 (.tmp 2) (.tmp 75) (by rfl) w.heap.size (rkNil PK.zeroPk) (by rfl) (by rfl) 52 (rkNil PK.zeroPk) HN.out.r rk_info rfl (rkNil_all _) ?_)
      obtain ⟨f1, f2⟩ := HN.out.leave 149
      refine bodyPost_ret (v := .tuple #[.agg (rkNil PK.zeroPk), .int .i64 149]) ?_ rfl (by rw [HE.out]; exact f2)
      simp only [results, Tryz.results21]
      simp
      exact read_two f1
    by_cases c2 : (s.size : Int) - (b : Int) < (m : Int)
    · have HE : Hid (X9 = (PK.zeroPk, 242)) := Lib.hid (by
        have e : PK.lenC (m : Int) ((s.size : Int) - (b : Int)) = 242 := by unfold PK.lenC; rw [if_neg c1, if_pos c2]
        rw [HX3.out, e, if_pos (by decide)])
      clear HX3
      go_upto_region 18 with fail
      go_wp2_with fail
      refine (CG.out _).mono ?_
      rintro e _ ⟨rfl, rfl⟩
      go_upto_region 24 with fail
      go_wp2_with (first
        | refine wpl_load_r (by rfl) (.tmp 4) (by rfl) (w.heap.size + 1) (by rfl) (p := PK.zeroPk) HN.out.no ?_
        | refine wpList_store_row (by rfl) 52 (.tmp 2) (.tmp 82) (by rfl) w.heap.size (rkNil PK.zeroPk) (by rfl) (by rfl) 52 (rkNil PK.zeroPk) HN.out.r rk_info rfl (rkNil_all _) ?_)
      obtain ⟨f1, f2⟩ := HN.out.leave 242
      refine bodyPost_ret (v := .tuple #[.agg (rkNil PK.zeroPk), .int .i64 242]) ?_ rfl (by rw [HE.out]; exact f2)
      simp only [results, Tryz.results21]
      simp
      exact read_two f1
    by_cases c3 : (m : Int) < (s.size : Int) - (b : Int)
    · have HE : Hid (X9 = (PK.zeroPk, 129)) := Lib.hid (by
        have e : PK.lenC (m : Int) ((s.size : Int) - (b : Int)) = 129 := by unfold PK.lenC; rw [if_neg c1, if_neg c2, if_pos c3]
        rw [HX3.out, e, if_pos (by decide)])
      clear HX3
      go_upto_region 18 with fail
      go_wp2_with fail
      refine (CG.out _).mono ?_
      rintro e _ ⟨rfl, rfl⟩
      go_upto_region 26 with fail
      go_wp2_with (first
        | refine wpl_load_r (by rfl) (.tmp 4) (by rfl) (w.heap.size + 1) (by rfl) (p := PK.zeroPk) HN.out.no ?_
        | refine wpList_store_row (by rfl) 52 (.tmp 2) (.tmp 89) (by rfl) w.heap.size (rkNil PK.zeroPk) (by rfl) (by rfl) 52 (rkNil PK.zeroPk) HN.out.r rk_info rfl (rkNil_all _) ?_)
      obtain ⟨f1, f2⟩ := HN.out.leave 129
      refine bodyPost_ret (v := .tuple #[.agg (rkNil PK.zeroPk), .int .i64 129]) ?_ rfl (by rw [HE.out]; exact f2)
      simp only [results, Tryz.results21]
      simp
      exact read_two f1
    have HW : Hid (X9 = RG.whole (s.extract b s.size) P) := Lib.hid (by
      have e : PK.lenC (m : Int) ((s.size : Int) - (b : Int)) = 0 := by unfold PK.lenC; rw [if_neg c1, if_neg c2, if_neg c3]
      rw [HX3.out, e, if_neg (by decide)])
    clear HX3 HN
    have CB : Hid (∀ W', Calls Tryz.prog 41 #[.agg (iC (s.extract b s.size) (0, 0)), .agg (rkNil P)] W' (GB W' (s.extract b s.size) (RG.body P.kind (s.extract b s.size) P (0, 0)))) := Lib.hid (fun W' => dgetbody_any _ (by rw [ByteArray.size_extract]; omega) (0, 0) ⟨by decide, by show (0 : Int) ≤ _; omega⟩ P HB.out W')
    go_upto_region 18 with fail
    go_wp2_with fail
    refine (CG.out _).mono ?_
    rintro e _ ⟨rfl, rfl⟩
    go_upto_region 27 with fail
    have D3 := HN3.out.next (below_drew _ _)
    have hbs : b ≤ s.size := by omega
    refine wp_region_noPanic (wp_region_T (by kernel_rfl) (rg_get (fun _ _ _ _ _ h => h) _ (by kernel_rfl) _ rfl s b hbs hs rfl rfl (w.heap.size + 2) rfl _ P D3.pk (RG.body P.kind (s.extract b s.size) P (0, 0)) CB.out ?_))
    intro gi gp vc vp vw vs vf w1 hG
    refine NoPanic.normal ?_
    have N1 := Lib.hid (D3.toN2.next hG.below)
    have h2n : w.heap.size + 2 < wc.drew.heap.size := lt_heap D3.pk
    have HG := Lib.hid hG
    clear HN3 D3 hG CB CG
    unfold RG.whole at HW
    generalize RG.body P.kind (s.extract b s.size) P (0, 0) = Y at *
    generalize s.extract b s.size = U at *
    obtain ⟨⟨ya, yc⟩, R⟩ := Y
    dsimp only at HG HW
    simp only [Act.put, List.setIfInBounds_toArray, List.set_cons_zero, List.set_cons_succ]
    have c0 := (cell_heap (i := 0) HG.out.bi).trans (show _ = some (.string U) from rfl)
    have c1 := (cell_heap (i := 1) HG.out.bi).trans (show _ = some (.int .i64 ya) from rfl)
    have c2 := (cell_heap (i := 2) HG.out.bi).trans (show _ = some (.int .i64 yc) from rfl)
    by_cases hy : yc = 0
    · have hy' : (yc != 0) = false := by rw [bne_eq_false_iff_eq]; exact hy
      have HW2 : Hid (X9 = if ya < (U.size : Int) then (PK.zeroPk, 129) else (R, 0)) := Lib.hid (by rw [HW.out, if_neg (by simp [hy])])
      clear HW hy
      by_cases hl : ya < (U.size : Int)
      · have HE : Hid (X9 = (PK.zeroPk, 129)) := Lib.hid (by rw [HW2.out, if_pos hl])
        clear HW2
        go_upto_region 31 with fail
        go_wp2_with (first
          | refine wpl_load_r (by rfl) (.tmp 4) (by rfl) (w.heap.size + 1) (by rfl) (p := PK.zeroPk) N1.out.no ?_
          | refine wpList_store_row (by rfl) 52 (.tmp 2) (.tmp 111) (by rfl) w.heap.size (rkNil PK.zeroPk) (by rfl) (by rfl) 52 (rkNil PK.zeroPk) N1.out.r rk_info rfl (rkNil_all _) ?_)
        obtain ⟨f1, f2⟩ := N1.out.leave 129
        refine bodyPost_ret (v := .tuple #[.agg (rkNil PK.zeroPk), .int .i64 129]) ?_ rfl (by rw [HE.out]; exact f2)
        simp only [results, Tryz.results21]
        simp
        exact read_two f1
      · have HE : Hid (X9 = (R, 0)) := Lib.hid (by rw [HW2.out, if_neg hl])
        clear HW2
        have K1 := Lib.hid (rk_one R HG.out.own)
        go_wp2_with (first
          | refine wpl_load_r (by rfl) (.tmp 13) (by rfl) gp (by rfl) HG.out.bp ?_
          | refine wpList_store_row (by rfl) 52 (.tmp 2) (.tmp 112) (by rfl) w.heap.size (rkCells R vc vp vw vs vf) (by rfl) (by rfl) 52 (rkNil PK.zeroPk) N1.out.r rk_info rfl K1.out ?_)
        have f1 := rk_var (setRow_heap (cs := rkCells R vc vp vw vs vf) N1.out.r)
        have f2 : DG w X9 (.returned (.tuple #[.agg (rkCells R vc vp vw vs vf), .int .i64 0])) (w1.setRow w.heap.size (rkCells R vc vp vw vs vf)) := by
          rw [HE.out]
          exact ⟨_, _, _, _, _, rfl, (HG.out.own.setRow (by omega) _).base (by omega), below_setRow N1.out.below (Nat.le_refl _) _⟩
        refine bodyPost_ret (v := .tuple #[.agg (rkCells R vc vp vw vs vf), .int .i64 0]) ?_ rfl f2
        simp only [results, Tryz.results21]
        simp
        exact read_two f1
    · have hy' : (yc != 0) = true := by rw [bne_iff_ne]; exact hy
      have HE : Hid (X9 = (PK.zeroPk, yc)) := Lib.hid (by rw [HW.out, if_pos hy])
      clear HW hy
      go_upto_region 29 with fail
      have N1d := N1.out.next (below_drew _ _)
      have gid := (show w1.drew.heap[gi]? = _ from HG.out.bi)
      have ne2 : gi ≠ w.heap.size := by have := HG.out.li; omega
      have L1 := N1d.leave yc
      refine wp_region_noPanic (wp_region_T (by kernel_rfl) (rg_bad (fun _ _ _ _ _ h => h) _ (by kernel_rfl) _ rfl w.heap.size (w.heap.size + 1) gi rfl rfl rfl _ U (ya, yc) N1d.r N1d.no gid (by omega) ne2 ?_))
      refine NoPanic.normal ?_
      have HL := Lib.hid L1
      clear L1 N1d gid ne2 HG N1 c0 c1 c2
      simp only [Act.put, List.setIfInBounds_toArray, List.set_cons_zero, List.set_cons_succ]
      go_wp2_with fail
      refine bodyPost_ret (v := .tuple #[.agg (rkNil PK.zeroPk), .int .i64 yc]) ?_ rfl (by rw [HE.out]; exact HL.out.2)
      simp only [results, Tryz.results21]
      simp
      exact read_two HL.out.1
  · have hd : PK.hdC s = (VP.get s 1).2.2 := by unfold PK.hdC; rw [if_neg hc]
    have HE : Hid (X9 = (PK.zeroPk, (VP.get s 1).2.2)) := Lib.hid (by rw [HX2.out, hd, if_pos hc])
    clear HX2 hd HN3
    generalize VP.get s 1 = Y at *
    obtain ⟨ym, yb, yc⟩ := Y
    dsimp only at HE CG hc
    have hy' : (yc != 0) = true := by rw [bne_iff_ne]; exact hc
    clear hc
    go_upto_region 18 with fail
    go_wp2_with fail
    refine (CG.out _).mono ?_
    rintro e _ ⟨rfl, rfl⟩
    go_upto_region 20 with fail
    go_wp2_with (first
      | refine wpl_load_r (by rfl) (.tmp 4) (by rfl) (w.heap.size + 1) (by rfl) (p := PK.zeroPk) HN.out.no ?_
      | refine wpList_store_row (by rfl) 52 (.tmp 2) (.tmp 71) (by rfl) w.heap.size (rkNil PK.zeroPk) (by rfl) (by rfl) 52 (rkNil PK.zeroPk) HN.out.r rk_info rfl (rkNil_all _) ?_)
    obtain ⟨f1, f2⟩ := HN.out.leave yc
    refine bodyPost_ret (v := .tuple #[.agg (rkNil PK.zeroPk), .int .i64 yc]) ?_ rfl (by rw [HE.out]; exact f2)
    simp only [results, Tryz.results21]
    simp
    exact read_two f1
end Go.Proofs.YtemfcaaoobjgkaaGreatDoor
