/- StreamPackets: packets put one behind the other are told one by one, whole, up to a beginning of one more. -/
import Derived.Test.YtlfgndhdifpngaaGreatDoorMD
import Derived.Test.YtlfgndhdifpngaaGreatDoorPkOpenR6
import Derived.Test.YtlfgndhdifpngaaGreatDoorME
import Derived.Test.YtlfgndhdifpngaaGreatDoorPkPkW6
import Derived.Test.YtlfgndhdifpngaaGreatDoorMG
import Derived.Test.YtlfgndhdifpngaaGreatDoorTxBegin
namespace Go.Proofs.YtlfgndhdifpngaaGreatDoor
open Go.RowKit
attribute [local go_sem ↓] Go.wp_at_zero Go.wp_at_succ

theorem wpl_load_x6 {ops : Array Oper} {rest : List Oper} {op : Oper} {a : Act} {w : World} {Q : Exit → Act → World → Prop} (hgd : op.guard = none) (x : Operand) (ho : op.op = .load 66 x)
    (g o : Nat) (hx : a.eval x = .pointer (some ⟨g, o, none⟩)) {p : Pk} {vc vp vw vs vf : Value} (hc : ∀ (j : Nat) v, (pkCells p vc vp vw vs vf).toList[j]? = some v → w.cell? ⟨g, o + j, none⟩ = some v)
    (h : wpList Tryz.prog ops Q rest (a.put op.dst (.agg (pkCells p vc vp vw vs vf))) w) : wpList Tryz.prog ops Q (op :: rest) a w :=
  wpList_load_mid hgd 66 x ho g o hx (pkCells p vc vp vw vs vf).toList _ hc Tryz.underlying66 rfl (by kernel_rfl) h
theorem x6_info : (Tryz.prog.info? 66).map (·.size) = some 26 := by kernel_rfl
theorem px_one (x : PX) : x.cells.all (·.oneCell') = true := by simp [PX.cells, pkCells, Value.oneCell']
theorem block_cells {w : World} {g : Nat} {cs : Array Value} {t : TypeId} (h : w.heap[g]? = some (.cells cs t (0, 0))) : ∀ (j : Nat) v, cs.toList[j]? = some v → w.cell? ⟨g, 0 + j, none⟩ = some v := fun j v hv => by
  rw [Nat.zero_add, cell_heap h, ← hv]; simp
theorem ArgX.below {w w' : World} {X : Pk} {Ac Ap Aw As Af : Option Addr} {cc cp cw cs cf : Nat} (h : ArgX w X Ac Ap Aw As Af cc cp cw cs cf) (hb : Below w.heap.size w w') : ArgX w' X Ac Ap Aw As Af cc cp cw cs cf :=
  ⟨h.codes.below hb, h.props.below hb, h.wprops.below hb, h.subs.below hb, h.filters.below hb, h.lc, h.lp, h.lw, h.ls, h.lf, h.fine⟩
theorem packets_arg {X : Pk} {Ac Ap Aw As Af : Option Addr} {cc cp cw cs cf : Nat} {w : World} (h : ArgX w X Ac Ap Aw As Af cc cp cw cs cf) : Calls Tryz.prog 16 #[.agg (pkCells X (.slice Ac X.codes.length cc) (.slice Ap X.props.length cp) (.slice Aw X.wprops.length cw) (.slice As X.subs.length cs) (.slice Af X.filters.length cf))] w (PksP w X) :=
  packets_any6 X w Ac Ap Aw As Af cc cp cw cs cf h.fine.code h.fine.codes h.codes h.props h.wprops h.subs h.filters h.lc h.lp h.lw h.ls h.lf
/-- The packets that the law's loop has made. -/
def made (l : List PX) (k : Nat) : List Pk := PK.kept ((l.take k).map fun x => cut80 x.X)
theorem take_next {l : List PX} {k : Nat} {x : PX} (h : l[k]? = some x) : l.take (k + 1) = l.take k ++ [x] := by rw [List.take_add_one, h]; rfl
theorem made_yes {l : List PX} {k : Nat} {x : PX} (h : l[k]? = some x) (hc : PK.putC (cut80 x.X) = 0) : made l (k + 1) = made l k ++ [cut80 x.X] := by
  unfold made; rw [take_next h, List.map_append, List.map_cons, List.map_nil, PK.kept_yes _ hc]
theorem made_no {l : List PX} {k : Nat} {x : PX} (h : l[k]? = some x) (hc : PK.putC (cut80 x.X) ≠ 0) : made l (k + 1) = made l k := by
  unfold made; rw [take_next h, List.map_append, List.map_cons, List.map_nil, PK.kept_no _ hc]
theorem made_len (l : List PX) (k : Nat) : (made l k).length ≤ k := by
  unfold made
  have h1 := PK.kept_len ((l.take k).map fun x => cut80 x.X)
  have h2 : ((l.take k).map fun x => cut80 x.X).length ≤ k := by simp; omega
  omega
theorem made_code {l : List PX} {k : Nat} : ∀ P ∈ made l k, PK.putC P = 0 := fun _ hP => PK.kept_mem hP
theorem made_size (l : List PX) (k : Nat) : (ST.cat ((made l k).map PK.putS)).size ≤ k * 65600 := by
  have h1 := ST.cat_size ((made l k).map PK.putS) 65600 (fun x hx => by
    obtain ⟨P, hP, rfl⟩ := List.mem_map.1 hx
    exact (PK.putS_small P (made_code P hP)).1)
  rw [List.length_map] at h1
  exact Nat.le_trans h1 (Nat.mul_le_mul_right 65600 (made_len l k))
/-- A row of texts that lies below a place. -/
def TextsB (B : Nat) (w : World) (A : Option Addr) (l : List ByteArray) : Prop := ∀ (i : Nat) x, l[i]? = some x → ∃ g o, A = some ⟨g, o, none⟩ ∧ g < B ∧ w.cell? ⟨g, o + i, none⟩ = some (.string x)
theorem TextsB.of {w : World} {A : Option Addr} {l : List ByteArray} (h : Texts w A l) : TextsB w.heap.size w A l := h
theorem TextsB.below {B : Nat} {w w' : World} {A : Option Addr} {l : List ByteArray} (h : TextsB B w A l) (hb : Below B w w') : TextsB B w' A l := fun i x hx => by
  obtain ⟨g, o, hA, hg, h0⟩ := h i x hx
  exact ⟨g, o, hA, hg, (hb.cell (p := ⟨g, _, none⟩) hg).trans h0⟩
/-- How the law's first loop stands. -/
structure SpI (w : World) (c0 : Array Value) (l : List PX) (k : Nat) (S : ByteArray) (out : Value) (wr : World) : Prop where
  str : S = ST.cat ((made l k).map PK.putS)
  row : wr.ownsRow (w.heap.size + 1) 9 1 out (made l k).length (putVs (made l k))
  box : wr.heap[w.heap.size]? = some (.cells c0 66 (0, 0))
  below : Below w.heap.size w wr
theorem SpI.keep {w : World} {c0 : Array Value} {l : List PX} {k : Nat} {S : ByteArray} {out : Value} {wr wr' : World} (h : SpI w c0 l k S out wr) (hb : Below wr.heap.size wr wr') : SpI w c0 l k S out wr' :=
  ⟨h.str, own_below h.row hb, (hb.block _ (lt_heap h.box)).trans h.box, h.below.trans (hb.mono h.below.size)⟩

set_option linter.unusedVariables false in
set_option linter.unusedSimpArgs false in
set_option maxRecDepth 100000 in
set_option maxHeartbeats 8000000 in
theorem streamPackets_walk (w : World) (A : Option Addr) (cap : Nat) (l : List PX) (hl : l.length ≤ maxLen) (h : RowX w A l) (hc : l.length ≤ cap) (X : Pk) (Ac Ap Aw As Af : Option Addr) (cc cp cw cs cf : Nat) (hX : ArgX w X Ac Ap Aw As Af cc cp cw cs cf) (cut : Int) (hcut : (Lit.int .i64 cut).wf = true) (hT0 : Tabs w) :
    Calls Tryz.prog 5 #[.slice A l.length cap, .agg (pkCells X (.slice Ac X.codes.length cc) (.slice Ap X.props.length cp) (.slice Aw X.wprops.length cw) (.slice As X.subs.length cs) (.slice Af X.filters.length cf)), .int .i64 cut] w fun e w' => e = .returned (.bool true) ∧ Below w.heap.size w w' := by
  unfold maxLen at hl
  have HTb : Hid (∀ W, Below w.heap.size w W → Tabs W) := Lib.hid (fun W hW => hT0.below hW)
  have HR := Lib.hid h
  have HA := Lib.hid hX
  have HP2 := Lib.hid (cut80_f hX.fine)
  obtain ⟨i0, hi0, hz0, hz1, hz2⟩ := info_parts strInfo
  have Hi := Lib.hid hi0; have Hz0 := Lib.hid hz0; have Hz1 := Lib.hid hz1; have Hz2 := Lib.hid hz2
  obtain ⟨n, hn, hn1, hn2⟩ : ∃ n : Nat, min (l.length : Int) 10 = (n : Int) ∧ n ≤ 10 ∧ n ≤ l.length := ⟨min l.length 10, by omega, by omega, by omega⟩
  have hn3 : ((n : Int)).toNat = n := by omega
  obtain ⟨w0, hw0⟩ : ∃ w0, w0 = w.alloc (.cells (pkCells X (.slice Ac X.codes.length cc) (.slice Ap X.props.length cp) (.slice Aw X.wprops.length cw) (.slice As X.subs.length cs) (.slice Af X.filters.length cf)) 66) := ⟨_, rfl⟩
  have I0 : SpI w (pkCells X (.slice Ac X.codes.length cc) (.slice Ap X.props.length cp) (.slice Aw X.wprops.length cw) (.slice As X.subs.length cs) (.slice Af X.filters.length cf)) l 0 ⟨#[]⟩ (.slice none 0 0) w0 := by
    rw [hw0]
    exact ⟨rfl, own_nil _ _ _ _, heap_alloc_new w _, (Below.refl _ _).alloc (Nat.le_refl _) _⟩
  have HI0 := Lib.hid I0; have HW0 := Lib.hid hw0
  clear h hX hT0 hi0 hz0 hz1 hz2 hw0 I0
  go_enter Tryz.func5, Tryz.ntmps5
  go_upto_region 1 with fail
  change Code.wp _ _ _ _ (w.alloc (.cells (pkCells X (.slice Ac X.codes.length cc) (.slice Ap X.props.length cp) (.slice Aw X.wprops.length cw) (.slice As X.subs.length cs) (.slice Af X.filters.length cf)) 66))
  rw [← HW0.out]
  clear HW0
  go_wp2_with fail
  go_loopw [7, 8, 31] (fun sv out i wr => ∃ (k : Nat) (S : ByteArray), i = .int .i64 k ∧ k ≤ n ∧ sv = .string S ∧ Hid (SpI w (pkCells X (.slice Ac X.codes.length cc) (.slice Ap X.props.length cp) (.slice Aw X.wprops.length cw) (.slice As X.subs.length cs) (.slice Af X.filters.length cf)) l k S out wr)) (fun _ _ i _ => n - (intOf i).toNat)
  case atStart => exact ⟨0, ⟨#[]⟩, rfl, by omega, rfl, HI0⟩
  case round =>
    obtain ⟨k, S, rfl, hk, rfl, hI⟩ := hrel
    clear HI0
    have hSz : S.size ≤ 656000 := by
      rw [hI.out.str]
      exact Nat.le_trans (made_size l k) (Nat.le_trans (Nat.mul_le_mul_right 65600 (show k ≤ 10 by omega)) (by decide))
    obtain ⟨Ao, co, rfl⟩ := own_form hI.out.row
    have hml := made_len l k
    by_cases hlt : k < n
    · obtain ⟨x, hx⟩ : ∃ x, l[k]? = some x := ⟨l[k]'(by omega), List.getElem?_eq_getElem _⟩
      obtain ⟨g, o, rfl, hg, hcells, harg⟩ := HR.out k x hx
      have HB := hI.out.below
      have Hc : Hid (∀ (j : Nat) v, x.cells.toList[j]? = some v → wr.cell? ⟨g, o + k * 26 + j, none⟩ = some v) := Lib.hid (fun j v hv => (HB.cell (p := ⟨g, _, none⟩) hg).trans (hcells j v hv))
      have Z1 : Hid ((wr.alloc (.cells (pkNil PK.zeroPk) 66)).heap[wr.heap.size]? = some (.cells (pkNil PK.zeroPk) 66 (0, 0))) := Lib.hid (heap_alloc_new wr _)
      obtain ⟨wA, hwA⟩ : ∃ wA, wA = (wr.alloc (.cells (pkNil PK.zeroPk) 66)).setRow wr.heap.size x.cells := ⟨_, rfl⟩
      have bA : Below wr.heap.size wr wA := by rw [hwA]; exact below_setRow ((Below.refl _ _).alloc (Nat.le_refl _) _) (Nat.le_refl _) _
      have PA : Hid (wA.heap[wr.heap.size]? = some (.cells x.cells 66 (0, 0))) := Lib.hid (by rw [hwA]; exact setRow_heap Z1.out)
      have IA := Lib.hid (hI.out.keep bA)
      have CK := Lib.hid (packets_arg (harg.below IA.out.below))
      have HPf := Lib.hid (cut80_f harg.fine)
      have HWA := Lib.hid hwA
      have ONE := Lib.hid (px_one x)
      have HX := Lib.hid hx
      have i0 : (0 : Int) ≤ (k : Int) := by omega
      have i1 : (k : Int) < (n : Int) := by omega
      clear hcells harg HB bA hwA hI hx
      go_upto_region 6 with (first
        | refine wpl_load_x6 (by rfl) (.tmp 33) (by rfl) g (o + k * 26) (by rfl) Hc.out ?_
        | refine wpList_store_row (by rfl) 66 (.tmp 10) (.tmp 34) (by rfl) wr.heap.size x.cells (by rfl) (by rfl) 66 (pkNil PK.zeroPk) Z1.out x6_info rfl ONE.out ?_)
      change Code.wp _ _ _ _ ((wr.alloc (.cells (pkNil PK.zeroPk) 66)).setRow wr.heap.size x.cells)
      rw [← HWA.out]
      clear HWA Z1 ONE Hc
      generalize wr.heap.size = bx at *
      go_wp2_with (refine wpl_load_x6 (by rfl) (.tmp 10) (by rfl) bx 0 (by rfl) (block_cells PA.out) ?_)
      refine CK.out.mono ?_
      rintro e w1 ⟨vc, vp, vw, vs, vf, uc, up, uw, us, uf, rfl, o1, or1, b1⟩
      have I1 := Lib.hid (IA.out.keep b1)
      have W1 := Lib.hid (pk_one (cut80 x.X) o1); have W2 := Lib.hid (rk_one (cut80 x.X) or1)
      obtain ⟨wB, hwB⟩ : ∃ wB, wB = (((w1.alloc (.cells (pkNil PK.zeroPk) 31)).alloc (.cells (rkNil PK.zeroPk) 40)).setRow w1.heap.size (pkCells (cut80 x.X) vc vp vw vs vf)).setRow (w1.heap.size + 1) (rkCells (cut80 x.X) uc up uw us uf) := ⟨_, rfl⟩
      obtain ⟨z1, z2, pB, oB, hBB⟩ := two_vars (uc := uc) (up := up) (uw := uw) (us := us) (uf := uf) o1 I1.out.below hwB
      have bB : Below w1.heap.size w1 wB := by
        rw [hwB]
        exact below_setRow (below_setRow (((Below.refl _ _).alloc (Nat.le_refl _) _).alloc (by simp) _) (Nat.le_refl _) _) (by omega) _
      have CP := Lib.hid (pput_any (cut80 x.X) vc vp vw vs vf wB (own5_in oB HPf.out (fun W hW => HTb.out W (hBB.trans (hW.mono hBB.size)))))
      have IB := Lib.hid (I1.out.keep bB)
      have Z1 := Lib.hid z1; have Z2 := Lib.hid z2; have PB := Lib.hid pB; have HwB := Lib.hid hwB
      clear z1 z2 pB oB bB hBB hwB o1 or1 b1 CK IA I1
      go_upto_region 7 with (first
        | refine wpList_store_row (by rfl) 31 (.tmp 11) (.tmp 38) (by rfl) w1.heap.size (pkCells (cut80 x.X) vc vp vw vs vf) (by rfl) (by rfl) 31 (pkNil PK.zeroPk) Z1.out pk_info rfl W1.out ?_
        | refine wpList_store_row (by rfl) 40 (.tmp 12) (.tmp 39) (by rfl) (w1.heap.size + 1) (rkCells (cut80 x.X) uc up uw us uf) (by rfl) (by rfl) 40 (rkNil PK.zeroPk) Z2.out rk_info rfl W2.out ?_)
      change Code.wp _ _ _ _ ((((w1.alloc (.cells (pkNil PK.zeroPk) 31)).alloc (.cells (rkNil PK.zeroPk) 40)).setRow w1.heap.size (pkCells (cut80 x.X) vc vp vw vs vf)).setRow (w1.heap.size + 1) (rkCells (cut80 x.X) uc up uw us uf))
      rw [← HwB.out]
      clear HwB Z1 Z2 W1 W2
      go_wp2_with (refine wpl_load_pk (by rfl) (.tmp 11) (by rfl) w1.heap.size (by rfl) PB.out ?_)
      refine CP.out.mono ?_
      rintro e w2 ⟨rfl, b2⟩
      have I2 := Lib.hid (IB.out.keep b2)
      clear b2 CP PB IB
      clear PA
      by_cases hcode : PK.putC (cut80 x.X) = 0
      · have hsm := (PK.putS_small (cut80 x.X) hcode).1
        have hb : (PK.putC (cut80 x.X) == 0) = true := by rw [hcode]; rfl
        have hmy := made_yes HX.out hcode
        have hrow2 := I2.out.row
        obtain ⟨v3, w3, hr3, hown3, hgr3, hbe3⟩ := app1 Tryz.underlying29 Hi.out Hz0.out Hz1.out Hz2.out rfl (by omega) (by omega) (w.heap.size + 1) (.slice Ao (made l k).length co) _ _ w2 hrow2 (lt_heap I2.out.box) #[.string (PK.putS (cut80 x.X))] rfl (by simp [Value.oneCell']) (by omega)
        have HN : Hid (SpI w (pkCells X (.slice Ac X.codes.length cc) (.slice Ap X.props.length cp) (.slice Aw X.wprops.length cw) (.slice As X.subs.length cs) (.slice Af X.filters.length cf)) l (k + 1) (S ++ PK.putS (cut80 x.X)) v3 w3) := Lib.hid (by
          refine ⟨?_, ?_, (hbe3.block _ (Nat.lt_succ_self _)).trans ?_, ?_⟩
          · rw [hmy, List.map_append, List.map_cons, List.map_nil, ST.cat_snoc, ← I2.out.str]
          · rw [hmy, putVs_app, List.length_append]; exact hown3
          · exact I2.out.box
          · exact I2.out.below.trans (hbe3.mono (Nat.le_succ _)))
        generalize PK.putS (cut80 x.X) = B at *
        clear hcode hmy hrow2 hown3 hgr3 hbe3 HX I2 HPf
        go_wp2_with (at_builtin; refine wpList_run (by rfl) (.tmp 50) (.tmp 52) _ _ (by rfl) (by rfl) (by rfl) hr3 ?_; clear hr3)
        go_roundw
        case rel => exact ⟨k + 1, _, by go_num, by omega, rfl, HN⟩
        case measure => simp [intOf]; omega
      · have hb : (PK.putC (cut80 x.X) == 0) = false := by rw [beq_eq_false_iff_ne]; exact hcode
        have hmn := made_no HX.out hcode
        have HN : Hid (SpI w (pkCells X (.slice Ac X.codes.length cc) (.slice Ap X.props.length cp) (.slice Aw X.wprops.length cw) (.slice As X.subs.length cs) (.slice Af X.filters.length cf)) l (k + 1) S (.slice Ao (made l k).length co) w2) := Lib.hid (by
          refine ⟨?_, ?_, I2.out.box, I2.out.below⟩
          · rw [hmn]; exact I2.out.str
          · rw [hmn]; exact I2.out.row)
        clear hcode hmn HX I2 HPf
        go_wp2_with fail
        go_roundw
        case rel => exact ⟨k + 1, _, by go_num, by omega, rfl, HN⟩
        case measure => simp [intOf]; omega
    · have hkn : k = n := by omega
      subst hkn
      have CK := Lib.hid (packets_arg (HA.out.below hI.out.below))
      have HPf := HP2
      have IA := hI
      have PA : Hid (wr.heap[w.heap.size]? = some (.cells (pkCells X (.slice Ac X.codes.length cc) (.slice Ap X.props.length cp) (.slice Aw X.wprops.length cw) (.slice As X.subs.length cs) (.slice Af X.filters.length cf)) 66 (0, 0))) := Lib.hid hI.out.box
      clear hI HA HR
      go_wp2_with (refine wpl_load_x6 (by rfl) (.tmp 4) (by rfl) w.heap.size 0 (by rfl) (block_cells PA.out) ?_)
      refine CK.out.mono ?_
      rintro e w1 ⟨vc, vp, vw, vs, vf, uc, up, uw, us, uf, rfl, o1, or1, b1⟩
      have I1 := Lib.hid (IA.out.keep b1)
      have W1 := Lib.hid (pk_one (cut80 X) o1); have W2 := Lib.hid (rk_one (cut80 X) or1)
      obtain ⟨wB, hwB⟩ : ∃ wB, wB = (((w1.alloc (.cells (pkNil PK.zeroPk) 31)).alloc (.cells (rkNil PK.zeroPk) 40)).setRow w1.heap.size (pkCells (cut80 X) vc vp vw vs vf)).setRow (w1.heap.size + 1) (rkCells (cut80 X) uc up uw us uf) := ⟨_, rfl⟩
      obtain ⟨z1, z2, pB, oB, hBB⟩ := two_vars (uc := uc) (up := up) (uw := uw) (us := us) (uf := uf) o1 I1.out.below hwB
      have bB : Below w1.heap.size w1 wB := by
        rw [hwB]
        exact below_setRow (below_setRow (((Below.refl _ _).alloc (Nat.le_refl _) _).alloc (by simp) _) (Nat.le_refl _) _) (by omega) _
      have CP := Lib.hid (pput_any (cut80 X) vc vp vw vs vf wB (own5_in oB HPf.out (fun W hW => HTb.out W (hBB.trans (hW.mono hBB.size)))))
      have IB := Lib.hid (I1.out.keep bB)
      have Z1 := Lib.hid z1; have Z2 := Lib.hid z2; have PB := Lib.hid pB; have HwB := Lib.hid hwB
      clear z1 z2 pB oB bB hBB hwB o1 or1 b1 CK IA I1
      go_upto_region 13 with (first
        | refine wpList_store_row (by rfl) 31 (.tmp 15) (.tmp 58) (by rfl) w1.heap.size (pkCells (cut80 X) vc vp vw vs vf) (by rfl) (by rfl) 31 (pkNil PK.zeroPk) Z1.out pk_info rfl W1.out ?_
        | refine wpList_store_row (by rfl) 40 (.tmp 16) (.tmp 59) (by rfl) (w1.heap.size + 1) (rkCells (cut80 X) uc up uw us uf) (by rfl) (by rfl) 40 (rkNil PK.zeroPk) Z2.out rk_info rfl W2.out ?_)
      change Code.wp _ _ _ _ ((((w1.alloc (.cells (pkNil PK.zeroPk) 31)).alloc (.cells (rkNil PK.zeroPk) 40)).setRow w1.heap.size (pkCells (cut80 X) vc vp vw vs vf)).setRow (w1.heap.size + 1) (rkCells (cut80 X) uc up uw us uf))
      rw [← HwB.out]
      clear HwB Z1 Z2 W1 W2
      go_wp2_with (refine wpl_load_pk (by rfl) (.tmp 15) (by rfl) w1.heap.size (by rfl) PB.out ?_)
      refine CP.out.mono ?_
      rintro e w2 ⟨rfl, b2⟩
      have I2 := Lib.hid (IB.out.keep b2)
      clear b2 CP PB IB
      clear PA
      generalize hP : cut80 X = P at *
      obtain ⟨t, ht, htz, hstep⟩ : ∃ t : ByteArray, (ST.first t 65541).2 = 242 ∧ t.size ≤ 65600 ∧ ((PK.putC P = 0 ∧ ∃ kn : Nat, max 0 cut % ((PK.putS P).size : Int) = (kn : Int) ∧ kn < (PK.putS P).size ∧ t = (PK.putS P).extract 0 kn) ∨ (PK.putC P ≠ 0 ∧ PK.putS P = t)) := by
        by_cases hcode : PK.putC P = 0
        · obtain ⟨hs1, hs2⟩ := PK.putS_small P hcode
          obtain ⟨kn, hk0, hk1⟩ : ∃ kn : Nat, max 0 cut % ((PK.putS P).size : Int) = (kn : Int) ∧ kn < (PK.putS P).size := by
            have h1 := Int.emod_nonneg (max 0 cut) (show ((PK.putS P).size : Int) ≠ 0 by omega)
            have h2 := Int.emod_lt_of_pos (max 0 cut) (show (0 : Int) < ((PK.putS P).size : Int) by omega)
            exact ⟨(max 0 cut % ((PK.putS P).size : Int)).toNat, by omega, by omega⟩
          exact ⟨_, ST.first_cut P hcode kn hk1, by rw [ByteArray.size_extract]; omega, .inl ⟨hcode, kn, hk0, hk1, rfl⟩⟩
        · refine ⟨⟨#[]⟩, ST.first_empty rfl, Nat.zero_le _, .inr ⟨hcode, ?_⟩⟩
          exact PK.putS_bad P hcode
      have HT := Lib.hid ht
      have HS := Lib.hid hstep
      clear ht hstep hP
      have hM : ∀ Q ∈ made l k, PK.putC Q = 0 := made_code
      have hMl := made_len l k
      have hMz := made_size l k
      have FED := Lib.hid (ST.fed_all (made l k) hM t HT.out)
      have LEFT := Lib.hid (ST.left_all (made l k) hM t HT.out)
      have hSE := I2.out.str
      have TX : Hid (Texts w2 Ao ((made l k).map PK.putS)) := Lib.hid (own_texts (l := (made l k).map PK.putS) (by
        have e : putVs (made l k) = flatT ((made l k).map PK.putS) := by simp [putVs, flatT]
        rw [← e]; exact I2.out.row))
      rw [← hSE] at FED LEFT
      have B2 := Lib.hid I2.out.below
      have HM := Lib.hid hM
      have hMz2 : S.size ≤ 656000 := by rw [hSE]; exact Nat.le_trans hMz (Nat.le_trans (Nat.mul_le_mul_right 65600 (show k ≤ 10 by omega)) (by decide))
      generalize made l k = M at *
      clear hM hSE hMz I2 HPf HP2
      rcases HS.out with ⟨hcode, kn, hk0, hk1, hte⟩ | ⟨hcode, hte⟩
      · have hb : (PK.putC P == 0) = true := by rw [hcode]; rfl
        have hz : (0 : Int) < ((PK.putS P).size : Int) := by omega
        have hz1 : (0 : Int) ≤ max 0 cut := by omega
        have hsl : ∀ W, (Instr.slice 9 (.string (PK.putS P)) none (some (.int .i64 (max 0 cut % ((PK.putS P).size : Int)))) none).run Tryz.prog W = .ok (.string t) W := by
          intro W; rw [hk0, hte]; exact slice_upto _ kn (by omega) W
        clear hk0 hte HS hcode
        generalize PK.putS P = PS at *
        generalize PK.putC P = pc at *
        have CN := Lib.hid (new_any 65541 w2)
        go_wp2_with fail
        refine CN.out.mono ?_
        rintro e w3 ⟨rfl, h3, b3⟩
        have hr3 := b3.size
        have hlt3 := h3.lt
        have B3 := Lib.hid (B2.out.trans (b3.mono B2.out.size))
        have eU : (⟨([] ++ (S ++ t).data.toList).toArray⟩ : ByteArray) = S ++ t := by apply ByteArray.ext; apply Array.toList_inj.1; simp
        have hsz : (S ++ t).size ≤ 1900000 := by rw [ByteArray.size_append]; omega
        have CF : Hid (Calls Tryz.prog 12 #[.pointer (some ⟨w2.heap.size, 0, none⟩), .string (S ++ t)] w3 (FeP w2.heap.size 65541 (S ++ t) w3)) := Lib.hid (by
          have := feed_any w2.heap.size 65541 [] (S ++ t) w3 h3 (by simp only [List.length_nil]; omega) (fun W hW => HTb.out W (B3.out.trans (hW.mono B2.out.size)))
          rw [eU] at this
          exact this)
        have HB3 := Lib.hid b3
        have hr2 := B2.out.size
        clear b3 h3 CN B2 eU
        go_wp2_with fail
        refine CF.out.mono ?_
        rintro e w4 hF
        obtain ⟨v, L, rfl, hpr, hmap, h4, k4⟩ := hF
        rw [FED.out] at hmap h4 ⊢
        rw [LEFT.out] at h4
        have HLF : Hid (∀ x ∈ L, PkF x.p) := Lib.hid (fun x hx => by
          have h1 : x.p ∈ L.map Pv.p := List.mem_map.2 ⟨x, hx, rfl⟩
          rw [hmap] at h1
          obtain ⟨b, hb1, hb2⟩ := List.mem_map.1 h1
          obtain ⟨Q, hQ, rfl⟩ := List.mem_map.1 hb1
          rw [← hb2]
          exact PK.getPk_f _ (Nat.le_trans (PK.putS_small Q (HM.out Q hQ)).1 (by decide)))
        have hLM : L.length = M.length := by have := congrArg List.length hmap; simpa using this
        have hnn : ((L.length : Int) != (M.length : Int)) = false := by rw [hLM]; simp
        obtain ⟨Av, cv, rfl⟩ := own_form hpr.row
        have B4 := Lib.hid (B3.out.trans (k4.1.mono hr2))
        have HMAP := Lib.hid hmap; have H4 := Lib.hid h4; have HPR := Lib.hid hpr
        have hz4 := k4.1.size
        have TX4 : Hid (TextsB w2.heap.size w4 Ao (M.map PK.putS)) := Lib.hid (TextsB.below (TextsB.of TX.out) (HB3.out.trans k4.1))
        clear hmap h4 hpr CF FED LEFT TX B3 k4 HB3
        have hr4 : w2.heap.size ≤ w4.heap.size := by omega
        have CW := Lib.hid (swakes_any w4 (fun W hW => HTb.out W (B4.out.trans (hW.mono B4.out.size))))
        go_wp2_with fail
        refine CW.out.mono ?_
        rintro e w5 ⟨rfl, b5⟩
        have H5 := Lib.hid (H4.out.below b5)
        have PR5 := Lib.hid (HPR.out.below b5)
        have TXr := Lib.hid (TX4.out.below (b5.mono hr4))
        have B5 := Lib.hid (B4.out.trans (b5.mono B4.out.size))
        have hz5 := b5.size
        have CL := Lib.hid (left_any w2.heap.size 65541 t.data.toList 0 w5 H5.out (by rw [← Lib.size_eq]; omega))
        have eL : (⟨t.data.toList.toArray⟩ : ByteArray) = t := by apply ByteArray.ext; simp
        rw [eL] at CL
        have eT : (t.toList == t.toList) = true := beq_self_eq_true _
        have eT2 : (t.toList != t.toList) = false := by simp
        clear b5 H4 HPR TX4 CW eL
        go_wp2_with fail
        refine CL.out.mono ?_
        rintro e w6 ⟨rfl, h6, k6⟩
        have PR6 := Lib.hid (PR5.out.kp k6 hlt3)
        have TX6 : Hid (Texts w6 Ao (M.map PK.putS)) := Lib.hid (fun i x hx => by
          obtain ⟨g, o, hA, hg, h0⟩ := TXr.out i x hx
          exact ⟨g, o, hA, by have := k6.1.size; omega, (k6.1.cell (p := ⟨g, _, none⟩) hg).trans h0⟩)
        have B6 := Lib.hid (B5.out.trans (k6.1.mono hr2))
        have hz6 := k6.1.size
        clear h6 k6 CL H5 PR5 TXr B5
        go_wp2_with fail
        go_loopw [109] (fun i wi => ∃ j : Nat, i = .int .i64 j ∧ j ≤ L.length ∧ Hid (Below w6.heap.size w6 wi)) (fun i _ => L.length - (intOf i).toNat)
        case atStart => exact ⟨0, rfl, by omega, Lib.hid (Below.refl _ _)⟩
        case round =>
          obtain ⟨j, rfl, hj, hbi⟩ := hrel
          have hj0 : (0 : Int) ≤ (j : Int) := by omega
          by_cases hjl : j < L.length
          · obtain ⟨x, hx⟩ : ∃ x, L[j]? = some x := ⟨L[j]'hjl, List.getElem?_eq_getElem _⟩
            obtain ⟨Q, hQ⟩ : ∃ Q, M[j]? = some Q := ⟨M[j]'(by omega), List.getElem?_eq_getElem _⟩
            have hQc := HM.out Q (List.mem_of_getElem? hQ)
            obtain ⟨t1, t2, _⟩ := PK.back Q hQc
            have hxp : x.p = (PK.getPk (PK.putS Q)).1 := by
              have h1 : (L.map Pv.p)[j]? = some x.p := by rw [List.getElem?_map, hx]; rfl
              rw [HMAP.out, List.getElem?_map, List.getElem?_map, hQ] at h1
              exact (Option.some.inj h1).symm
            rw [← hxp] at t1 t2
            have hpw := PR6.out.below hbi.out
            obtain ⟨g2, p2', hv2, hg2, hg2'⟩ := hpw.row.form (by omega)
            injection hv2 with hv2 _ hcv
            subst hv2
            have hcell : ∀ jj u, (pkCells x.p x.vc x.vp x.vw x.vs x.vf).toList[jj]? = some u → wr.cell? ⟨g2, j * 26 + jj, none⟩ = some u := fun jj u hu => by
              rw [← add0]
              exact hpw.row.cells (g := g2) rfl (j * 26 + jj) u (flat_at L j x hx jj u hu)
            have ho5 := hpw.own x (List.mem_of_getElem? hx)
            obtain ⟨g3, o3, rfl, hg3, hw0⟩ := (TX6.out.below hbi.out) j (PK.putS Q) (by rw [List.getElem?_map, hQ]; rfl)
            have HBI := Lib.hid (B6.out.trans (hbi.out.mono B6.out.size))
            have CP := Lib.hid (pput_any x.p x.vc x.vp x.vw x.vs x.vf wr (own5_in ho5 (HLF.out x (List.mem_of_getElem? hx)) (fun W hW => HTb.out W (HBI.out.trans (hW.mono HBI.out.size)))))
            rw [t1, t2] at CP
            generalize PK.putS Q = bs at *
            have eB : (bs.toList == bs.toList) = true := beq_self_eq_true _
            have eB2 : (bs.toList != bs.toList) = false := by simp
            have hi1 : (j : Int) < (L.length : Int) := by omega
            have hi2 : (j : Int) < (M.length : Int) := by omega
            have HW0 := Lib.hid hw0
            clear hpw ho5 t1 t2 hxp hQc hQ hx hcv hw0
            go_wp2_with (refine wpl_load_at (by rfl) (.tmp 115) (by rfl) g2 (j * 26) (by rfl) hcell ?_)
            refine CP.out.mono ?_
            rintro e w7 ⟨rfl, b7⟩
            have hw7 : w7.cell? ⟨g3, o3 + j, none⟩ = some (.string bs) := (b7.cell (p := ⟨g3, _, none⟩) hg3).trans HW0.out
            have HN := Lib.hid (hbi.out.trans (b7.mono hbi.out.size))
            clear CP b7 hcell HW0
            go_wp2_with fail
            go_roundw
            case rel => exact ⟨j + 1, by go_num, by omega, HN⟩
            case measure => simp [intOf]; omega
          · go_wp2_with fail
            go_ret
            exact ⟨rfl, B6.out.trans (hbi.out.mono B6.out.size)⟩
      · have hb : (PK.putC P == 0) = false := by rw [beq_eq_false_iff_ne]; exact hcode
        clear HS hcode
        generalize PK.putS P = PS at *
        subst hte
        generalize PK.putC P = pc at *
        have CN := Lib.hid (new_any 65541 w2)
        go_wp2_with fail
        refine CN.out.mono ?_
        rintro e w3 ⟨rfl, h3, b3⟩
        have hr3 := b3.size
        have hlt3 := h3.lt
        have B3 := Lib.hid (B2.out.trans (b3.mono B2.out.size))
        have eU : (⟨([] ++ (S ++ PS).data.toList).toArray⟩ : ByteArray) = S ++ PS := by apply ByteArray.ext; apply Array.toList_inj.1; simp
        have hsz : (S ++ PS).size ≤ 1900000 := by rw [ByteArray.size_append]; omega
        have CF : Hid (Calls Tryz.prog 12 #[.pointer (some ⟨w2.heap.size, 0, none⟩), .string (S ++ PS)] w3 (FeP w2.heap.size 65541 (S ++ PS) w3)) := Lib.hid (by
          have := feed_any w2.heap.size 65541 [] (S ++ PS) w3 h3 (by simp only [List.length_nil]; omega) (fun W hW => HTb.out W (B3.out.trans (hW.mono B2.out.size)))
          rw [eU] at this
          exact this)
        have HB3 := Lib.hid b3
        have hr2 := B2.out.size
        clear b3 h3 CN B2 eU
        go_wp2_with fail
        refine CF.out.mono ?_
        rintro e w4 hF
        obtain ⟨v, L, rfl, hpr, hmap, h4, k4⟩ := hF
        rw [FED.out] at hmap h4 ⊢
        rw [LEFT.out] at h4
        have HLF : Hid (∀ x ∈ L, PkF x.p) := Lib.hid (fun x hx => by
          have h1 : x.p ∈ L.map Pv.p := List.mem_map.2 ⟨x, hx, rfl⟩
          rw [hmap] at h1
          obtain ⟨b, hb1, hb2⟩ := List.mem_map.1 h1
          obtain ⟨Q, hQ, rfl⟩ := List.mem_map.1 hb1
          rw [← hb2]
          exact PK.getPk_f _ (Nat.le_trans (PK.putS_small Q (HM.out Q hQ)).1 (by decide)))
        have hLM : L.length = M.length := by have := congrArg List.length hmap; simpa using this
        have hnn : ((L.length : Int) != (M.length : Int)) = false := by rw [hLM]; simp
        obtain ⟨Av, cv, rfl⟩ := own_form hpr.row
        have B4 := Lib.hid (B3.out.trans (k4.1.mono hr2))
        have HMAP := Lib.hid hmap; have H4 := Lib.hid h4; have HPR := Lib.hid hpr
        have hz4 := k4.1.size
        have TX4 : Hid (TextsB w2.heap.size w4 Ao (M.map PK.putS)) := Lib.hid (TextsB.below (TextsB.of TX.out) (HB3.out.trans k4.1))
        clear hmap h4 hpr CF FED LEFT TX B3 k4 HB3
        have hr4 : w2.heap.size ≤ w4.heap.size := by omega
        have CW := Lib.hid (swakes_any w4 (fun W hW => HTb.out W (B4.out.trans (hW.mono B4.out.size))))
        go_wp2_with fail
        refine CW.out.mono ?_
        rintro e w5 ⟨rfl, b5⟩
        have H5 := Lib.hid (H4.out.below b5)
        have PR5 := Lib.hid (HPR.out.below b5)
        have TXr := Lib.hid (TX4.out.below (b5.mono hr4))
        have B5 := Lib.hid (B4.out.trans (b5.mono B4.out.size))
        have hz5 := b5.size
        have CL := Lib.hid (left_any w2.heap.size 65541 PS.data.toList 0 w5 H5.out (by rw [← Lib.size_eq]; omega))
        have eL : (⟨PS.data.toList.toArray⟩ : ByteArray) = PS := by apply ByteArray.ext; simp
        rw [eL] at CL
        have eT : (PS.toList == PS.toList) = true := beq_self_eq_true _
        have eT2 : (PS.toList != PS.toList) = false := by simp
        clear b5 H4 HPR TX4 CW eL
        go_wp2_with fail
        refine CL.out.mono ?_
        rintro e w6 ⟨rfl, h6, k6⟩
        have PR6 := Lib.hid (PR5.out.kp k6 hlt3)
        have TX6 : Hid (Texts w6 Ao (M.map PK.putS)) := Lib.hid (fun i x hx => by
          obtain ⟨g, o, hA, hg, h0⟩ := TXr.out i x hx
          exact ⟨g, o, hA, by have := k6.1.size; omega, (k6.1.cell (p := ⟨g, _, none⟩) hg).trans h0⟩)
        have B6 := Lib.hid (B5.out.trans (k6.1.mono hr2))
        have hz6 := k6.1.size
        clear h6 k6 CL H5 PR5 TXr B5
        go_wp2_with fail
        go_loopw [109] (fun i wi => ∃ j : Nat, i = .int .i64 j ∧ j ≤ L.length ∧ Hid (Below w6.heap.size w6 wi)) (fun i _ => L.length - (intOf i).toNat)
        case atStart => exact ⟨0, rfl, by omega, Lib.hid (Below.refl _ _)⟩
        case round =>
          obtain ⟨j, rfl, hj, hbi⟩ := hrel
          have hj0 : (0 : Int) ≤ (j : Int) := by omega
          by_cases hjl : j < L.length
          · obtain ⟨x, hx⟩ : ∃ x, L[j]? = some x := ⟨L[j]'hjl, List.getElem?_eq_getElem _⟩
            obtain ⟨Q, hQ⟩ : ∃ Q, M[j]? = some Q := ⟨M[j]'(by omega), List.getElem?_eq_getElem _⟩
            have hQc := HM.out Q (List.mem_of_getElem? hQ)
            obtain ⟨t1, t2, _⟩ := PK.back Q hQc
            have hxp : x.p = (PK.getPk (PK.putS Q)).1 := by
              have h1 : (L.map Pv.p)[j]? = some x.p := by rw [List.getElem?_map, hx]; rfl
              rw [HMAP.out, List.getElem?_map, List.getElem?_map, hQ] at h1
              exact (Option.some.inj h1).symm
            rw [← hxp] at t1 t2
            have hpw := PR6.out.below hbi.out
            obtain ⟨g2, p2', hv2, hg2, hg2'⟩ := hpw.row.form (by omega)
            injection hv2 with hv2 _ hcv
            subst hv2
            have hcell : ∀ jj u, (pkCells x.p x.vc x.vp x.vw x.vs x.vf).toList[jj]? = some u → wr.cell? ⟨g2, j * 26 + jj, none⟩ = some u := fun jj u hu => by
              rw [← add0]
              exact hpw.row.cells (g := g2) rfl (j * 26 + jj) u (flat_at L j x hx jj u hu)
            have ho5 := hpw.own x (List.mem_of_getElem? hx)
            obtain ⟨g3, o3, rfl, hg3, hw0⟩ := (TX6.out.below hbi.out) j (PK.putS Q) (by rw [List.getElem?_map, hQ]; rfl)
            have HBI := Lib.hid (B6.out.trans (hbi.out.mono B6.out.size))
            have CP := Lib.hid (pput_any x.p x.vc x.vp x.vw x.vs x.vf wr (own5_in ho5 (HLF.out x (List.mem_of_getElem? hx)) (fun W hW => HTb.out W (HBI.out.trans (hW.mono HBI.out.size)))))
            rw [t1, t2] at CP
            generalize PK.putS Q = bs at *
            have eB : (bs.toList == bs.toList) = true := beq_self_eq_true _
            have eB2 : (bs.toList != bs.toList) = false := by simp
            have hi1 : (j : Int) < (L.length : Int) := by omega
            have hi2 : (j : Int) < (M.length : Int) := by omega
            have HW0 := Lib.hid hw0
            clear hpw ho5 t1 t2 hxp hQc hQ hx hcv hw0
            go_wp2_with (refine wpl_load_at (by rfl) (.tmp 115) (by rfl) g2 (j * 26) (by rfl) hcell ?_)
            refine CP.out.mono ?_
            rintro e w7 ⟨rfl, b7⟩
            have hw7 : w7.cell? ⟨g3, o3 + j, none⟩ = some (.string bs) := (b7.cell (p := ⟨g3, _, none⟩) hg3).trans HW0.out
            have HN := Lib.hid (hbi.out.trans (b7.mono hbi.out.size))
            clear CP b7 hcell HW0
            go_wp2_with fail
            go_roundw
            case rel => exact ⟨j + 1, by go_num, by omega, HN⟩
            case measure => simp [intOf]; omega
          · go_wp2_with fail
            go_ret
            exact ⟨rfl, B6.out.trans (hbi.out.mono B6.out.size)⟩
end Go.Proofs.YtlfgndhdifpngaaGreatDoor
