/- PacketGets: every bytes are the document's packet, or have its code. -/
import Derived.Test.YtmldnaadjhnfcaaGreatDoorMG
import Derived.Test.YtmldnaadjhnfcaaGreatDoorPkSmK5
namespace Go.Proofs.YtmldnaadjhnfcaaGreatDoor
open Go.RowKit
theorem wpl_load_pg {ops : Array Oper} {rest : List Oper} {op : Oper} {a : Act} {w : World} {Q : Exit → Act → World → Prop} (hw : Region.wanted op (yielded ops a.tmps) = true) (x : Operand) (ho : op.op = .load 31 x)
    (n : Nat) (hx : a.eval x = .pointer (some ⟨n, 0, none⟩)) {p : Pk} {vc vp vw vs vf : Value} (hb : w.heap[n]? = some (.cells (pkCells p vc vp vw vs vf) 31 (0, 0)))
    (h : wpList Tryz.prog ops Q rest (a.put op.dst (.agg (pkCells p vc vp vw vs vf))) w) : wpList Tryz.prog ops Q (op :: rest) a w :=
  BigFrame.wpList_want hw fun K hK => wp_load_mid 31 x ho n 0 hx (pkCells p vc vp vw vs vf).toList _ (fun j v hv => by rw [Nat.zero_add, cell_heap hb, ← hv]; simp) Tryz.underlying31 rfl (by kernel_rfl) (hK _ _ h)
theorem wpl_load_rg {ops : Array Oper} {rest : List Oper} {op : Oper} {a : Act} {w : World} {Q : Exit → Act → World → Prop} (hw : Region.wanted op (yielded ops a.tmps) = true) (x : Operand) (ho : op.op = .load 40 x)
    (n : Nat) (hx : a.eval x = .pointer (some ⟨n, 0, none⟩)) {p : Pk} {vc vp vw vs vf : Value} (hb : w.heap[n]? = some (.cells (rkCells p vc vp vw vs vf) 40 (0, 0)))
    (h : wpList Tryz.prog ops Q rest (a.put op.dst (.agg (rkCells p vc vp vw vs vf))) w) : wpList Tryz.prog ops Q (op :: rest) a w :=
  BigFrame.wpList_want hw fun K hK => wp_load_mid 40 x ho n 0 hx (rkCells p vc vp vw vs vf).toList _ (fun j v hv => by rw [Nat.zero_add, cell_heap hb, ← hv]; simp) Tryz.underlying40 rfl (by kernel_rfl) (hK _ _ h)
set_option linter.unusedVariables false in
set_option linter.unusedSimpArgs false in
set_option maxRecDepth 100000 in
set_option maxHeartbeats 8000000 in
theorem packetGets_walk (s : ByteArray) (hs : s.size ≤ 140737488351232) (w : World) (hT0 : Tabs w) :
    Calls Tryz.prog 3 #[.string s] w fun e w' => e = .returned (.bool true) ∧ Below w.heap.size w w' := by
  have HTb : Hid (∀ W, Below w.heap.size w W → Tabs W) := Lib.hid (fun W hW => hT0.below hW)
  have C1 : Hid (Calls Tryz.prog 6 #[.string s] w (fun e w' => ∃ vc vp vw vs vf, e = .returned (.tuple #[.agg (pkCells (PK.getPk s).1 vc vp vw vs vf), .int .u8 (PK.getPk s).2]) ∧ Own5 w.heap.size (PK.getPk s).1 vc vp vw vs vf w' ∧ Below w.heap.size w w')) :=
    Lib.hid ((get_pk_any s hs w HTb.out).mono fun e w' h => h.all)
  have C2 : Hid (∀ W, Calls Tryz.prog 7 #[.string s] W (DG W (PK.getPk s))) := Lib.hid (fun W => by rw [← RG.get_same]; exact dget_any s hs W)
  have C3 : Hid (∀ W, Below w.heap.size w W → Calls Tryz.prog 6 #[.string ⟨#[50, 7, 0, 1, 97, 0, 10, 0, 120]⟩] W (fun e w' => ∃ R c vc vp vw vs vf, e = .returned (.tuple #[.agg (pkCells R vc vp vw vs vf), .int .u8 c]) ∧ R.id = 10 ∧ Own5 W.heap.size R vc vp vw vs vf w' ∧ Below W.heap.size W w')) :=
    Lib.hid (fun W hW => (get_pk_any _ (by decide) W (fun W' hW' => HTb.out W' (hW.trans (hW'.mono hW.size)))).mono fun e w' h => by
      obtain ⟨vc, vp, vw, vs, vf, h1, h2, h3⟩ := h.all
      exact ⟨_, _, vc, vp, vw, vs, vf, h1, fixed_id, h2, h3⟩)
  have HPf := Lib.hid (PK.getPk_f s hs)
  have HC8 := Lib.hid (getPk_c8 s)
  generalize PK.getPk s = X at *
  obtain ⟨P, c⟩ := X
  dsimp only at C1 HPf HC8
  unfold DG at C2
  dsimp only at C2
  clear hT0
  go_enter Tryz.func3, Tryz.ntmps3
  go_wp2_with fail
  refine C1.out.mono ?_
  rintro e w1 ⟨vc, vp, vw, vs, vf, rfl, o1, b1⟩
  have W1 := Lib.hid (pk_one P o1)
  have Z1 : Hid ((w1.alloc (.cells (pkNil PK.zeroPk) 31)).heap[w1.heap.size]? = some (.cells (pkNil PK.zeroPk) 31 (0, 0))) := Lib.hid (heap_alloc_new w1 _)
  obtain ⟨wA, hwA⟩ : ∃ wA, wA = (w1.alloc (.cells (pkNil PK.zeroPk) 31)).setRow w1.heap.size (pkCells P vc vp vw vs vf) := ⟨_, rfl⟩
  have pA : wA.heap[w1.heap.size]? = some (.cells (pkCells P vc vp vw vs vf) 31 (0, 0)) := by rw [hwA]; exact setRow_heap Z1.out
  have bA : Below w1.heap.size w1 wA := by rw [hwA]; exact below_setRow ((Below.refl _ _).alloc (Nat.le_refl _) _) (Nat.le_refl _) _
  have OA := Lib.hid (own5_below o1 bA)
  have HBA := Lib.hid (b1.trans (bA.mono b1.size))
  have PA := Lib.hid pA; have HwA := Lib.hid hwA
  clear b1 o1 pA bA hwA C1
  go_upto_region 2 with (refine wpList_store_row (by rfl) 31 (.tmp 3) (.tmp 12) (by rfl) w1.heap.size (pkCells P vc vp vw vs vf) (by rfl) (by rfl) 31 (pkNil PK.zeroPk) Z1.out pk_info rfl W1.out ?_)
  change Code.wp _ _ _ _ ((w1.alloc (.cells (pkNil PK.zeroPk) 31)).setRow w1.heap.size (pkCells P vc vp vw vs vf))
  rw [← HwA.out]
  clear HwA Z1 W1
  generalize w1.heap.size = ga at *
  go_wp2_with fail
  refine (C2.out _).mono ?_
  rintro e w2 ⟨uc, up, uw, us, uf, rfl, o2, b2⟩
  have W2 := Lib.hid (rk_one P o2)
  have Z2 : Hid ((w2.alloc (.cells (rkNil PK.zeroPk) 40)).heap[w2.heap.size]? = some (.cells (rkNil PK.zeroPk) 40 (0, 0))) := Lib.hid (heap_alloc_new w2 _)
  obtain ⟨wB, hwB⟩ : ∃ wB, wB = (w2.alloc (.cells (rkNil PK.zeroPk) 40)).setRow w2.heap.size (rkCells P uc up uw us uf) := ⟨_, rfl⟩
  have pB : wB.heap[w2.heap.size]? = some (.cells (rkCells P uc up uw us uf) 40 (0, 0)) := by rw [hwB]; exact setRow_heap Z2.out
  have bB : Below w2.heap.size w2 wB := by rw [hwB]; exact below_setRow ((Below.refl _ _).alloc (Nat.le_refl _) _) (Nat.le_refl _) _
  have bAB : Below wA.heap.size wA wB := b2.trans (bB.mono b2.size)
  have OB := Lib.hid (own5_below OA.out bAB)
  have RB := Lib.hid (o2.below bB)
  have PA' := Lib.hid ((bAB.block _ (lt_heap PA.out)).trans PA.out)
  have HBB := Lib.hid (HBA.out.trans (bAB.mono HBA.out.size))
  have PB' := Lib.hid pB; have HwB := Lib.hid hwB
  clear b2 o2 pB bB bAB hwB C2 OA PA HBA
  go_upto_region 3 with (refine wpList_store_row (by rfl) 40 (.tmp 5) (.tmp 17) (by rfl) w2.heap.size (rkCells P uc up uw us uf) (by rfl) (by rfl) 40 (rkNil PK.zeroPk) Z2.out rk_info rfl W2.out ?_)
  change Code.wp _ _ _ _ ((w2.alloc (.cells (rkNil PK.zeroPk) 40)).setRow w2.heap.size (rkCells P uc up uw us uf))
  rw [← HwB.out]
  clear HwB Z2 W2
  generalize w2.heap.size = gb at *
  go_wp2_with fail
  refine (C3.out _ HBB.out).mono ?_
  rintro e w3 ⟨R, d, tc, tp, tw, ts, tf, rfl, hid, o3, b3⟩
  have W3 := Lib.hid (pk_one R o3)
  have Z3 : Hid ((w3.alloc (.cells (pkNil PK.zeroPk) 31)).heap[w3.heap.size]? = some (.cells (pkNil PK.zeroPk) 31 (0, 0))) := Lib.hid (heap_alloc_new w3 _)
  obtain ⟨wC, hwC⟩ : ∃ wC, wC = (w3.alloc (.cells (pkNil PK.zeroPk) 31)).setRow w3.heap.size (pkCells R tc tp tw ts tf) := ⟨_, rfl⟩
  have pC : wC.heap[w3.heap.size]? = some (.cells (pkCells R tc tp tw ts tf) 31 (0, 0)) := by rw [hwC]; exact setRow_heap Z3.out
  have bC : Below w3.heap.size w3 wC := by rw [hwC]; exact below_setRow ((Below.refl _ _).alloc (Nat.le_refl _) _) (Nat.le_refl _) _
  have bBC : Below wB.heap.size wB wC := b3.trans (bC.mono b3.size)
  have OC := Lib.hid (own5_below OB.out bBC)
  have RC := Lib.hid (RB.out.below bBC)
  have PA2 := Lib.hid ((bBC.block _ (lt_heap PA'.out)).trans PA'.out)
  have PB2 := Lib.hid ((bBC.block _ (lt_heap PB'.out)).trans PB'.out)
  have HBC := Lib.hid (HBB.out.trans (bBC.mono HBB.out.size))
  have PC' := Lib.hid pC; have HwC := Lib.hid hwC; have HID := Lib.hid hid
  clear b3 o3 pC bC bBC hwC C3 OB RB PA' PB' HBB hid
  go_upto_region 4 with (refine wpList_store_row (by rfl) 31 (.tmp 7) (.tmp 21) (by rfl) w3.heap.size (pkCells R tc tp tw ts tf) (by rfl) (by rfl) 31 (pkNil PK.zeroPk) Z3.out pk_info rfl W3.out ?_)
  change Code.wp _ _ _ _ ((w3.alloc (.cells (pkNil PK.zeroPk) 31)).setRow w3.heap.size (pkCells R tc tp tw ts tf))
  rw [← HwC.out]
  clear HwC Z3 W3
  generalize w3.heap.size = gc at *
  have x4 := (cell_heap (i := 4) PC'.out).trans (show _ = some (.int .i64 10) from by rw [← HID.out]; rfl)
  have ec : IntKind.i64.wrap c = c := i64_byte HC8.out
  have CS := Lib.hid (samepk5_any P HPf.out _ _ vc vp vw vs vf uc up uw us uf wC OC.out RC.out)
  clear OC RC PC' HID
  go_wp2_with (first
    | refine wpl_load_pg (by rfl) (.tmp 3) (by rfl) ga (by rfl) PA2.out ?_
    | refine wpl_load_rg (by rfl) (.tmp 5) (by rfl) gb (by rfl) PB2.out ?_)
  refine CS.out.mono ?_
  rintro e w4 ⟨rfl, b4⟩
  have B4 := Lib.hid (HBC.out.trans (b4.mono HBC.out.size))
  clear b4 CS HBC
  go_wp2
  go_ret
  exact ⟨rfl, B4.out⟩
end Go.Proofs.YtmldnaadjhnfcaaGreatDoor
