/- TopWire: packets that were put, one behind the other, and cut anywhere into pieces, come out one by one as they went in. -/
import Derived.Test.YtemfcaaoobjgkaaGreatDoorMG
import Derived.BigQuiet
import Derived.Deep.CutRange
namespace Go.Proofs.YtemfcaaoobjgkaaGreatDoor
open Go.RowKit
attribute [local go_sem ↓] Go.wp_at_zero Go.wp_at_succ

set_option linter.unusedVariables false in
set_option linter.unusedSimpArgs false in
set_option maxRecDepth 100000 in
set_option maxHeartbeats 1500000 in
theorem topWire_walk (w : World) (A : Option Addr) (cap : Nat) (l : List Tx5) (hl : l.length ≤ maxLen) (h : Row5 w A l) (hc : l.length ≤ cap) (A' : Option Addr) (cap' : Nat) (xs : List Int) (hxl : xs.length ≤ maxLen) (hx : Ints w A' xs) (hxc : xs.length ≤ cap') (hT0 : Tabs w) :
    Calls Tryz.prog 4 #[.slice A l.length cap, .slice A' xs.length cap'] w fun e w' => e = .returned (.bool true) ∧ Below w.heap.size w w' := by
  unfold maxLen at hl hxl
  have HTb : Hid (∀ W, Below w.heap.size w W → Tabs W) := Lib.hid (fun W hW => hT0.below hW)
  have HR := Lib.hid h
  have HX := Lib.hid hx
  obtain ⟨n, hn, hn1, hn2⟩ : ∃ n : Nat, min (l.length : Int) 30 = (n : Int) ∧ n ≤ 30 ∧ n ≤ l.length := ⟨min l.length 30, by omega, by omega, by omega⟩
  have hn3 : ((n : Int)).toNat = n := by omega
  obtain ⟨q, hq, hq1, hq2⟩ : ∃ q : Nat, min (xs.length : Int) 200 = (q : Int) ∧ q ≤ 200 ∧ q ≤ xs.length := ⟨min xs.length 200, by omega, by omega, by omega⟩
  have hq3 : ((q : Int)).toNat = q := by omega
  have CR := Lib.hid (twreads_any w HTb.out)
  clear h hx hT0
  go_enter Tryz.func4, Tryz.ntmps4
  go_wp2_with fail
  refine CR.out.mono ?_
  rintro e w1 ⟨rfl, b1⟩
  have I0 : Hid (TwI w l 0 ⟨#[]⟩ (.slice none 0 0) [] w1) := Lib.hid ⟨rfl, rfl, ⟨own_nil _ _ _ _, fun x hx => by cases hx⟩, b1⟩
  clear CR b1
  go_wp2_with fail
  go_loopw [5, 6, 33] (fun out sv i wr => ∃ (k : Nat) (S : ByteArray) (L : List Pv), i = .int .i64 k ∧ k ≤ n ∧ sv = .string S ∧ Hid (TwI w l k S out L wr)) (fun _ _ i _ => n - (intOf i).toNat)
  case atStart => exact ⟨0, ⟨#[]⟩, [], rfl, by omega, rfl, I0⟩
  case round =>
    obtain ⟨k, S, L, rfl, hk, rfl, hI⟩ := hrel
    clear I0
    obtain ⟨hLk, hSz⟩ := hI.out.len
    have hSz2 : S.size ≤ 15000 := Nat.le_trans hSz (Nat.le_trans (Nat.mul_le_mul_right 500 (show k ≤ 30 by omega)) (by decide))
    clear hSz
    obtain ⟨Ao, co, rfl⟩ := own_form hI.out.row.row
    by_cases hlt : k < n
    · obtain ⟨x, hx⟩ : ∃ x, l[k]? = some x := ⟨l[k]'(by omega), List.getElem?_eq_getElem _⟩
      obtain ⟨g, o, rfl, hg, hcells, hfine⟩ := HR.out k x hx
      have HB := hI.out.below
      have Hc : Hid (∀ (j : Nat) v, x.cells[j]? = some v → wr.cell? ⟨g, o + k * 5 + j, none⟩ = some v) := Lib.hid (fun j v hv => (HB.cell (p := ⟨g, _, none⟩) hg).trans (hcells j v hv))
      have Z1 : Hid ((wr.alloc (.cells t5Nil 56)).heap[wr.heap.size]? = some (.cells t5Nil 56 (0, 0))) := Lib.hid (heap_alloc_new wr _)
      obtain ⟨wA, hwA⟩ : ∃ wA, wA = (wr.alloc (.cells t5Nil 56)).setRow wr.heap.size x.cells.toArray := ⟨_, rfl⟩
      have bA : Below wr.heap.size wr wA := by rw [hwA]; exact below_setRow ((Below.refl _ _).alloc (Nat.le_refl _) _) (Nat.le_refl _) _
      have PA : Hid (wA.heap[wr.heap.size]? = some (.cells x.cells.toArray 56 (0, 0))) := Lib.hid (by rw [hwA]; exact setRow_heap Z1.out)
      have IA := Lib.hid (hI.out.keep bA)
      have hAz := IA.out.below.size
      have CM := Lib.hid (made_any x hfine wA)
      have HWA := Lib.hid hwA
      have ONE := Lib.hid (t5_one x)
      have HXk := Lib.hid hx
      have i0 : (0 : Int) ≤ (k : Int) := by omega
      have i1 : (k : Int) < (n : Int) := by omega
      clear hcells HB bA hwA hI hx hfine
      go_upto_region 8 with (first
        | refine wpl_load_t5 (by rfl) (.tmp 35) (by rfl) g (o + k * 5) (by rfl) Hc.out ?_
        | refine wpList_store_row (by rfl) 56 (.tmp 8) (.tmp 36) (by rfl) wr.heap.size x.cells.toArray (by rfl) (by rfl) 56 t5Nil Z1.out t5_info rfl ONE.out ?_)
      change Code.wp _ _ _ _ ((wr.alloc (.cells t5Nil 56)).setRow wr.heap.size x.cells.toArray)
      rw [← HWA.out]
      clear HWA Z1 ONE Hc
      generalize wr.heap.size = bx at *
      go_wp2_with (refine wpl_load_t5 (by rfl) (.tmp 8) (by rfl) bx 0 (by rfl) (cells_t5 PA.out) ?_)
      refine CM.out.mono ?_
      rintro e w3 ⟨vs, rfl, or3, b3⟩
      have I3 := Lib.hid (IA.out.keep b3)
      obtain ⟨r1, r2, r3, r4, r5⟩ := TW.rows x
      have O3 : Own5 wA.heap.size (TW.pk x) (.slice none 0 0) (.slice none 0 0) (.slice none 0 0) vs (.slice none 0 0) w3 := by
        refine ⟨?_, ?_, ?_, or3, ?_⟩
        · rw [r1]; exact own_nil _ _ _ _
        · rw [r2]; exact own_nil _ _ _ _
        · rw [r3]; exact own_nil _ _ _ _
        · rw [r4]; exact own_nil _ _ _ _
      have W1 := Lib.hid (pk_one (TW.pk x) O3)
      have Z2 : Hid ((w3.alloc (.cells (pkNil PK.zeroPk) 45)).heap[w3.heap.size]? = some (.cells (pkNil PK.zeroPk) 45 (0, 0))) := Lib.hid (heap_alloc_new w3 _)
      obtain ⟨wB, hwB⟩ : ∃ wB, wB = (w3.alloc (.cells (pkNil PK.zeroPk) 45)).setRow w3.heap.size (pkCells (TW.pk x) (.slice none 0 0) (.slice none 0 0) (.slice none 0 0) vs (.slice none 0 0)) := ⟨_, rfl⟩
      have bB : Below w3.heap.size w3 wB := by rw [hwB]; exact below_setRow ((Below.refl _ _).alloc (Nat.le_refl _) _) (Nat.le_refl _) _
      have PB : Hid (wB.heap[w3.heap.size]? = some (.cells (pkCells (TW.pk x) (.slice none 0 0) (.slice none 0 0) (.slice none 0 0) vs (.slice none 0 0)) 45 (0, 0))) := Lib.hid (by rw [hwB]; exact setRow_heap Z2.out)
      have IB := Lib.hid (I3.out.keep bB)
      have OB := Lib.hid (own5_below O3 bB)
      have CP := Lib.hid (pput_any (TW.pk x) _ _ _ _ _ wB (own5_in OB.out (TW.f x) (fun W hW => HTb.out W (IB.out.below.trans (hW.mono IB.out.below.size)))))
      have HwB := Lib.hid hwB
      clear CM IA I3 O3 or3 b3 bB hwB r1 r2 r3 r4 r5 PA
      go_upto_region 9 with (refine wpList_store_row (by rfl) 45 (.tmp 9) (.tmp 38) (by rfl) w3.heap.size (pkCells (TW.pk x) (.slice none 0 0) (.slice none 0 0) (.slice none 0 0) vs (.slice none 0 0)) (by rfl) (by rfl) 45 (pkNil PK.zeroPk) Z2.out pk_info rfl W1.out ?_)
      change Code.wp _ _ _ _ ((w3.alloc (.cells (pkNil PK.zeroPk) 45)).setRow w3.heap.size (pkCells (TW.pk x) (.slice none 0 0) (.slice none 0 0) (.slice none 0 0) vs (.slice none 0 0)))
      rw [← HwB.out]
      clear HwB Z2 W1
      generalize w3.heap.size = by_ at *
      go_wp2_with (refine wpl_load_pk (by rfl) (.tmp 9) (by rfl) by_ (by rfl) PB.out ?_)
      refine CP.out.mono ?_
      rintro e w4 ⟨rfl, b4⟩
      have I4 := Lib.hid (IB.out.keep b4)
      have P4 := Lib.hid ((b4.block _ (lt_heap PB.out)).trans PB.out)
      have O4 := Lib.hid (own5_base (own5_below OB.out b4) hAz)
      clear b4 CP PB IB OB
      by_cases hcode : PK.putC (TW.pk x) = 0
      · have hsm := TW.size x hcode
        have hb : (PK.putC (TW.pk x) == 0) = true := by rw [hcode]; rfl
        have hb2 : (PK.putC (TW.pk x) != 0) = false := by rw [hcode]; rfl
        have hmy := TW.made_yes HXk.out hcode
        obtain ⟨v5, w5, hr5, hrow5, hb5⟩ := pkrow_app I4.out.row I4.out.below.size ⟨TW.pk x, .slice none 0 0, .slice none 0 0, .slice none 0 0, vs, .slice none 0 0⟩ O4.out (by omega)
        simp only at hr5
        have HN : Hid (TwI w l (k + 1) (S ++ PK.putS (TW.pk x)) v5 (L ++ [⟨TW.pk x, .slice none 0 0, .slice none 0 0, .slice none 0 0, vs, .slice none 0 0⟩]) w5) := Lib.hid (by
          refine ⟨?_, ?_, hrow5, I4.out.below.trans hb5⟩
          · rw [hmy, List.map_append, List.map_cons, List.map_nil, ST.cat_snoc, ← I4.out.str]
          · rw [hmy, List.map_append, I4.out.map]; rfl)
        obtain ⟨A5, c5, h5⟩ := own_form hrow5.row
        rw [show (L ++ [(⟨TW.pk x, .slice none 0 0, .slice none 0 0, .slice none 0 0, vs, .slice none 0 0⟩ : Pv)]).length = L.length + 1 by simp] at h5
        subst h5
        have hcz : (pkCells (TW.pk x) (.slice none 0 0) (.slice none 0 0) (.slice none 0 0) vs (.slice none 0 0)).size = 26 := rfl
        generalize PK.putS (TW.pk x) = Bs at *
        generalize PK.putC (TW.pk x) = pc at *
        clear hmy hrow5 hb5 I4 O4 HXk hcode
        go_wp2_with (first
          | refine wpl_load_pk (by rfl) (.tmp 9) (by rfl) by_ (by rfl) P4.out ?_
          | (at_builtin; simp only [fill_pk26]; refine wpList_run (by rfl) (.tmp 49) (.tmp 51) _ _ (by rfl) (by rfl) (by rfl) hr5 ?_; clear hr5))
        go_roundw
        case rel => exact ⟨k + 1, _, _, by go_num, by omega, rfl, HN⟩
        case measure => simp [intOf]; omega
      · have hb : (PK.putC (TW.pk x) == 0) = false := by rw [beq_eq_false_iff_ne]; exact hcode
        have hb2 : (PK.putC (TW.pk x) != 0) = true := by rw [bne_iff_ne]; exact hcode
        have hmn := TW.made_no HXk.out hcode
        have HN : Hid (TwI w l (k + 1) S (.slice Ao L.length co) L w4) := Lib.hid ⟨by rw [hmn]; exact I4.out.str, by rw [hmn]; exact I4.out.map, I4.out.row, I4.out.below⟩
        generalize PK.putS (TW.pk x) = Bs at *
        generalize PK.putC (TW.pk x) = pc at *
        clear hmn I4 O4 HXk hcode P4
        go_wp2_with fail
        go_roundw
        case rel => exact ⟨k + 1, _, L, by go_num, by omega, rfl, HN⟩
        case measure => simp [intOf]; omega
    · have hkn : k = n := by omega
      subst hkn
      clear hlt hk hn HR
      have HMF := TW.made_fed l k
      have HMM : Hid (∀ P ∈ TW.made l k, PK.putC P = 0 ∧ ∃ x, P = TW.pk x) := Lib.hid (fun P hP => TW.made_mem hP)
      have hML := TW.made_len l k
      have hstr := hI.out.str
      have HMap := Lib.hid hI.out.map
      rw [← hstr] at HMF
      have HRow := Lib.hid hI.out.row
      have HB1 := Lib.hid hI.out.below
      generalize TW.made l k = M at *
      have HF0 : Hid (ST.fed 65536 (ST.bs S.data.toList) = (M.map PK.putS, S.size, 0)) := Lib.hid (by rw [ST.bs_self]; exact HMF)
      have HSz : Hid (S.size = (ST.cat (M.map PK.putS)).size) := Lib.hid (by rw [hstr])
      have hA : Hid ((ST.fed 65536 (ST.bs S.data.toList)).1.length ≤ 1000) := Lib.hid (by rw [HF0.out]; simp; omega)
      have hLM : L.length = M.length := by have := congrArg List.length HMap.out; simpa using this
      clear HMF hstr hI
      generalize wr = v0 at *
      have CN := Lib.hid (new_any 65536 v0)
      go_wp2_with fail
      refine CN.out.mono ?_
      rintro e w2 ⟨rfl, h2, b2⟩
      have hlt2 := h2.lt
      have HX2 : Ints w2 A' (xs.take q) := fun i x hx => by
        have hi : i < q := by have := (List.getElem?_eq_some_iff.1 hx).1; simp at this; omega
        rw [List.getElem?_take_of_lt hi] at hx
        obtain ⟨g, o, hA, hg, hc⟩ := HX.out i x hx
        have hbb := HB1.out.trans (b2.mono HB1.out.size)
        exact ⟨g, o, hA, by have := hbb.size; omega, (hbb.cell (p := ⟨g, _, none⟩) hg).trans hc⟩
      have hql : (xs.take q).length = q := by simp; omega
      obtain ⟨vc, c2, cs, gc, rfl, w3, hr3, hcu, hgc, hcs, b3⟩ := app_cuts w2 A' q (xs.take q) hql hq1 HX2
      have HC3 : Hid (∀ (j : Nat) u, (cutsV (xs.take q))[j]? = some u → cs[j]? = some u) := Lib.hid hcs
      have T0 : Hid (Tw2 v0 gc w3.heap.size cs S.data.toList S (.slice none 0 0) [] [] [] w3) := Lib.hid
        ⟨ST.Way.start (by rw [HF0.out]), h2.below b3, ⟨own_nil _ _ _ _, fun x hx => by cases hx⟩, rfl, hcu, b2.trans (b3.mono b2.size), ⟨Nat.lt_of_lt_of_le hlt2 b3.size, fun e => by rw [e] at hgc; omega⟩, Nat.le_refl _⟩
      generalize w3.heap.size = B at *
      clear h2 b2 HX2 hcu hgc hcs b3 CN HX
      go_wp2_with (at_builtin; refine wpList_run (by rfl) (.tmp 62) (.tmp 63) _ _ (by rfl) (by rfl) (by rfl) hr3 ?_; clear hr3)
      go_loopw [13, 6, 66] (fun out sv i wr => ∃ (k2 : Nat) (R : ByteArray) (done : List ByteArray) (lf : List UInt8) (L2 : List Pv), i = .int .i64 k2 ∧ k2 ≤ q + 1 ∧ sv = .string R ∧ Hid (Tw2 v0 gc B cs S.data.toList R out done lf L2 wr)) (fun _ _ i _ => q + 1 - (intOf i).toNat)
      case atStart => exact ⟨0, S, [], [], [], rfl, by omega, rfl, T0⟩
      case round =>
        obtain ⟨k2, R, done, lf, L2, rfl, hk2, rfl, hJ⟩ := hrel
        clear T0
        obtain ⟨Ap, cp, rfl⟩ := own_form hJ.out.row.row
        have hRz : lf.length + R.size ≤ 15000 := by
          have h1 := hJ.out.way.size
          have hz : ∀ Y : ByteArray, Y.data.toList.length = Y.size := fun Y => by rw [Array.length_toList]; rfl
          rw [hz, hz] at h1
          omega
        have hBr := hJ.out.below
        have hz1 := hBr.size
        have HTf : Hid (∀ W, Below v0.heap.size wr W → Tabs W) := Lib.hid (fun W hW => HTb.out W (HB1.out.trans ((hBr.trans hW).mono HB1.out.size)))
        by_cases hlt3 : k2 < q + 1
        · obtain ⟨y, hy⟩ : ∃ y, (cutsV (xs.take q))[k2]? = some (.int .i64 y) := by
            by_cases hkq : k2 < q
            · refine ⟨(xs.take q)[k2]'(by omega), ?_⟩
              unfold cutsV
              rw [List.getElem?_append_left (by simpa using by omega), List.getElem?_map, List.getElem?_eq_getElem (by omega)]
              rfl
            · refine ⟨0, ?_⟩
              unfold cutsV
              rw [List.getElem?_append_right (by simpa using by omega)]
              have : k2 - (List.map (Value.int IntKind.i64) (xs.take q)).length = 0 := by simp; omega
              rw [this]; rfl
          have qc : wr.cell? ⟨gc, k2, none⟩ = some (.int .i64 y) := (cell_heap hJ.out.cuts).trans (HC3.out _ _ hy)
          have hk0 : (0 : Int) ≤ (k2 : Int) := by omega
          have hk1 : (k2 : Int) < ((q + 1 : Nat) : Int) := by omega
          have hk1' : (k2 : Int) < (q : Int) + 1 := by omega
          obtain ⟨p, hp, hp1⟩ : ∃ p : Nat, min (max 0 y % 50) (R.size : Int) = (p : Int) ∧ p ≤ R.size := by
            have h1 : 0 ≤ max 0 y % 50 := by omega
            obtain ⟨z, hz⟩ := Int.eq_ofNat_of_zero_le h1
            rw [hz]
            exact ⟨min z R.size, by omega, by omega⟩
          have hy0 : 0 ≤ max 0 y := by omega
          clear hy
          go_upto_if 77 with fail
          go_cut [16, 66] from 66 to 96 (fun v i wx => ∃ p : Nat, v = .int .i64 p ∧ p ≤ R.size ∧ i = .int .i64 k2 ∧ wr = wx)
          case first =>
            by_cases hyz : y = 0
            · have hyb : (y == 0) = true := by rw [hyz]; rfl
              go_wp2_with fail
              go_meet
              exact ⟨R.size, rfl, Nat.le_refl _, rfl, rfl⟩
            · have hyb : (y == 0) = false := by rw [beq_eq_false_iff_ne]; exact hyz
              go_wp2_with fail
              go_meet
              exact ⟨p, rfl, hp1, rfl, rfl⟩
          case rest =>
            obtain ⟨p2, rfl, hp2, rfl, rfl⟩ := hcut
            have hcj := (cut_join R p2).symm
            have hs1 := st_upto R p2 hp2
            have hs2 := st_from R p2 hp2
            have hXz : (R.extract 0 p2).size ≤ R.size := by rw [ByteArray.size_extract]; omega
            generalize hX1 : R.extract 0 p2 = X1 at *
            generalize hX2 : R.extract p2 R.size = X2 at *
            have CF := Lib.hid (feed_any v0.heap.size 65536 lf X1 wr hJ.out.fd (by omega) HTf.out)
            clear qc hp hp1 hX1 hX2
            go_wp2_with fail
            refine CF.out.mono ?_
            rintro e w5 hF
            obtain ⟨v, n2, done', lf', v2, w6, rfl, ⟨A2, c5, rfl⟩, hr6, L', hJ'⟩ := hJ.out.feed hA.out hcj hF
            obtain ⟨A6, c6, rfl⟩ := own_form hJ'.row.row
            have HN := Lib.hid hJ'
            clear hF CF hJ hJ' hcj hBr HTf
            go_wp2_with (at_builtin; refine wpList_run (by rfl) (.tmp 90) (.tmp 91) _ _ (by rfl) (by rfl) (by rfl) hr6 ?_; clear hr6)
            go_roundw
            case rel => exact ⟨k2 + 1, X2, done', lf', L', by go_num, by omega, rfl, HN⟩
            case measure => simp [intOf]; omega
        · have hkq : k2 = q + 1 := by omega
          subst hkq
          have hR0 : R.data.toList = R.data.toList ++ (ByteArray.mk #[]).data.toList := by simp
          have CF := Lib.hid (feed_any v0.heap.size 65536 lf R wr hJ.out.fd (by omega) HTf.out)
          clear hk2 hlt3 HC3
          go_wp2_with fail
          refine CF.out.mono ?_
          rintro e w5 hF
          obtain ⟨v, n2, done', lf', v2, w6, rfl, ⟨A2, c5, rfl⟩, hr6, L', hJ'⟩ := hJ.out.feed (R' := ⟨#[]⟩) hA.out hR0 hF
          obtain ⟨A6, c6, rfl⟩ := own_form hJ'.row.row
          obtain ⟨hd, hlf⟩ := hJ'.way.stop (by rw [HF0.out, ← HSz.out, Array.length_toList]; rfl)
          subst hlf
          rw [HF0.out] at hd
          simp only at hd
          have HMp : Hid (L'.map Pv.p = M.map (fun P => (PK.getPk (PK.putS P)).1)) := Lib.hid (by rw [hJ'.map, hd, List.map_map]; rfl)
          have hLL : L'.length = M.length := by have := congrArg List.length HMp.out; simpa using this
          have hB6 := hJ'.below
          have hz6 := hB6.size
          have CL := Lib.hid (left_any v0.heap.size 65536 [] 0 w6 hJ'.fd (by simp))
          have HRg := Lib.hid hJ'.row
          have hnn : ((L'.length : Int) != (M.length : Int)) = false := by rw [hLL]; simp
          have hlt6 := hJ'.lt.1
          have HB6 := Lib.hid hB6
          rw [hLM] at HRow
          clear hF CF hJ hJ' hBr HTf hR0 hd hB6
          go_wp2_with (at_builtin; refine wpList_run (by rfl) (.tmp 103) (.tmp 104) _ _ (by rfl) (by rfl) (by rfl) hr6 ?_; clear hr6)
          refine CL.out.mono ?_
          rintro e w7 ⟨rfl, h7, k7⟩
          have HR7 := Lib.hid (HRg.out.kp k7 hlt6)
          have HW7 := Lib.hid (HRow.out.below (HB6.out.trans k7.1))
          have HB7 := Lib.hid (HB1.out.trans ((HB6.out.trans k7.1).mono HB1.out.size))
          clear h7 k7 CL HRg HRow HB6 HB1
          go_wp2_with fail
          rw [hLL] at HR7
          clear hnn hlt2 hlt6 hA HF0 HSz HTb
          go_loopw [122] (fun i wi => ∃ j : Nat, i = .int .i64 j ∧ j ≤ M.length ∧ Hid (Below w7.heap.size w7 wi)) (fun i _ => M.length - (intOf i).toNat)
          case atStart => exact ⟨0, rfl, by omega, Lib.hid (Below.refl _ _)⟩
          case round =>
            obtain ⟨j, rfl, hj, hbi⟩ := hrel
            have hj0 : (0 : Int) ≤ (j : Int) := by omega
            by_cases hjl : j < M.length
            · obtain ⟨x, hx⟩ : ∃ x, L'[j]? = some x := ⟨L'[j]'(by omega), List.getElem?_eq_getElem _⟩
              obtain ⟨y, hy⟩ : ∃ y, L[j]? = some y := ⟨L[j]'(by omega), List.getElem?_eq_getElem _⟩
              have hyM : M[j]? = some y.p := by rw [← HMap.out, List.getElem?_map, hy]; rfl
              have hxp : x.p = (PK.getPk (PK.putS y.p)).1 := by
                have h1 : (L'.map Pv.p)[j]? = some x.p := by rw [List.getElem?_map, hx]; rfl
                rw [HMp.out, List.getElem?_map, hyM] at h1
                exact (Option.some.inj h1).symm
              obtain ⟨hc0, t, ht⟩ := HMM.out y.p (List.mem_of_getElem? hyM)
              have SM : Hid (PK.Sm y.p x.p) := Lib.hid (by
                rw [hxp, ht]
                exact TW.sm t (by rw [← ht]; exact hc0))
              have hr1 := HR7.out.below hbi.out
              have hr2 := HW7.out.below hbi.out
              obtain ⟨g1, hA1, hg1, hc1⟩ := pkrow_at hr1 hLL.symm hx
              obtain ⟨g2, hA2, hg2, hc2⟩ := pkrow_at hr2 hLM.symm hy
              have o1 := hr1.own x (List.mem_of_getElem? hx)
              have o2 := hr2.own y (List.mem_of_getElem? hy)
              have W1 := Lib.hid (pk_one x.p o1)
              have W2 := Lib.hid (pk_one y.p o2)
              have Z1 : Hid ((wr.alloc (.cells (pkNil PK.zeroPk) 45)).heap[wr.heap.size]? = some (.cells (pkNil PK.zeroPk) 45 (0, 0))) := Lib.hid (heap_alloc_new wr _)
              obtain ⟨wA, hwA⟩ : ∃ wA, wA = (wr.alloc (.cells (pkNil PK.zeroPk) 45)).setRow wr.heap.size (pkCells x.p x.vc x.vp x.vw x.vs x.vf) := ⟨_, rfl⟩
              have bA : Below wr.heap.size wr wA := by rw [hwA]; exact below_setRow ((Below.refl _ _).alloc (Nat.le_refl _) _) (Nat.le_refl _) _
              have PA : wA.heap[wr.heap.size]? = some (.cells (pkCells x.p x.vc x.vp x.vw x.vs x.vf) 45 (0, 0)) := by rw [hwA]; exact setRow_heap Z1.out
              have Z2 : Hid ((wA.alloc (.cells (pkNil PK.zeroPk) 45)).heap[wA.heap.size]? = some (.cells (pkNil PK.zeroPk) 45 (0, 0))) := Lib.hid (heap_alloc_new wA _)
              obtain ⟨wB, hwB⟩ : ∃ wB, wB = (wA.alloc (.cells (pkNil PK.zeroPk) 45)).setRow wA.heap.size (pkCells y.p y.vc y.vp y.vw y.vs y.vf) := ⟨_, rfl⟩
              have bB : Below wA.heap.size wA wB := by rw [hwB]; exact below_setRow ((Below.refl _ _).alloc (Nat.le_refl _) _) (Nat.le_refl _) _
              have PB : Hid (wB.heap[wA.heap.size]? = some (.cells (pkCells y.p y.vc y.vp y.vw y.vs y.vf) 45 (0, 0))) := Lib.hid (by rw [hwB]; exact setRow_heap Z2.out)
              have PA2 : Hid (wB.heap[wr.heap.size]? = some (.cells (pkCells x.p x.vc x.vp x.vw x.vs x.vf) 45 (0, 0))) := Lib.hid ((bB.block _ (lt_heap PA)).trans PA)
              have bAB : Below wr.heap.size wr wB := bA.trans (bB.mono bA.size)
              have HC1 := Lib.hid hc1
              have HC2 : Hid (∀ (i : Nat) v, (pkCells y.p y.vc y.vp y.vw y.vs y.vf).toList[i]? = some v → wA.cell? ⟨g2, j * 26 + i, none⟩ = some v) := Lib.hid (fun i v hv => (bA.cell (p := ⟨g2, _, none⟩) hg2).trans (hc2 i v hv))
              obtain ⟨Ax, cx, hvx⟩ := own_form o1.subs
              obtain ⟨Ay, cy, hvy⟩ := own_form o2.subs
              have S1 : Hid (Subs wB Ax x.p.subs) := Lib.hid (own_subs rfl (by have := (own5_below o1 bAB).subs; rw [hvx] at this; exact this))
              have S2 : Hid (Subs wB Ay y.p.subs) := Lib.hid (own_subs rfl (by have := (own5_below o2 bAB).subs; rw [hvy] at this; exact this))
              have HN0 := Lib.hid (hbi.out.trans (bAB.mono hbi.out.size))
              have hsl : y.p.subs.length ≤ 1 := by rw [ht]; exact (TW.rows t).2.2.2.2
              have HwA := Lib.hid hwA; have HwB := Lib.hid hwB
              have HVX := Lib.hid hvx; have HVY := Lib.hid hvy
              have hi1 : (j : Int) < (M.length : Int) := by omega
              subst hA1 hA2
              clear hr1 hr2 hx hy hyM hxp hc0 ht hc1 hc2 o1 o2 bA bB bAB PA hwA hwB hvx hvy
              go_upto_region 35 with (first
                | refine wpl_load_at (by rfl) (.tmp 125) (by rfl) g1 (j * 26) (by rfl) HC1.out ?_
                | refine wpList_store_row (by rfl) 45 (.tmp 22) (.tmp 126) (by rfl) wr.heap.size (pkCells x.p x.vc x.vp x.vw x.vs x.vf) (by rfl) (by rfl) 45 (pkNil PK.zeroPk) Z1.out pk_info rfl W1.out ?_)
              change Code.wp _ _ _ _ ((wr.alloc (.cells (pkNil PK.zeroPk) 45)).setRow wr.heap.size (pkCells x.p x.vc x.vp x.vw x.vs x.vf))
              rw [← HwA.out]
              clear HwA Z1 W1 HC1
              go_upto_region 36 with (first
                | refine wpl_load_at (by rfl) (.tmp 129) (by rfl) g2 (j * 26) (by rfl) HC2.out ?_
                | refine wpList_store_row (by rfl) 45 (.tmp 23) (.tmp 130) (by rfl) wA.heap.size (pkCells y.p y.vc y.vp y.vw y.vs y.vf) (by rfl) (by rfl) 45 (pkNil PK.zeroPk) Z2.out pk_info rfl W2.out ?_)
              change Code.wp _ _ _ _ ((wA.alloc (.cells (pkNil PK.zeroPk) 45)).setRow wA.heap.size (pkCells y.p y.vc y.vp y.vw y.vs y.vf))
              rw [← HwB.out]
              clear HwB Z2 W2 HC2
              generalize wr.heap.size = bx at *
              generalize wA.heap.size = by_ at *
              rw [put_none]
              go_cut [172] from 123 to 191 (fun b wx => b = .bool false ∧ wB = wx)
              case first =>
                have a0 := (cell_heap (i := 0) PA2.out).trans (show _ = some (.int .i64 x.p.kind) from rfl)
                have b0 := (cell_heap (i := 0) PB.out).trans (show _ = some (.int .i64 y.p.kind) from rfl)
                have a3 := (cell_heap (i := 3) PA2.out).trans (show _ = some (.int .i64 x.p.qos) from rfl)
                have b3 := (cell_heap (i := 3) PB.out).trans (show _ = some (.int .i64 y.p.qos) from rfl)
                have a4 := (cell_heap (i := 4) PA2.out).trans (show _ = some (.int .i64 x.p.id) from rfl)
                have b4 := (cell_heap (i := 4) PB.out).trans (show _ = some (.int .i64 y.p.id) from rfl)
                have a5 := (cell_heap (i := 5) PA2.out).trans (show _ = some (.string x.p.topic) from rfl)
                have b5 := (cell_heap (i := 5) PB.out).trans (show _ = some (.string y.p.topic) from rfl)
                have a6 := (cell_heap (i := 6) PA2.out).trans (show _ = some (.string x.p.pay) from rfl)
                have b6 := (cell_heap (i := 6) PB.out).trans (show _ = some (.string y.p.pay) from rfl)
                have a24 := (cell_heap (i := 24) PA2.out).trans (show _ = some x.vs from rfl)
                have b24 := (cell_heap (i := 24) PB.out).trans (show _ = some y.vs from rfl)
                rw [HVX.out, SM.out.subs] at a24
                rw [HVY.out] at b24
                rw [SM.out.kind] at a0
                rw [SM.out.qos] at a3
                rw [SM.out.id] at a4
                rw [SM.out.topic] at a5
                rw [SM.out.pay] at a6
                generalize y.p.kind = K at *
                generalize y.p.qos = Qo at *
                generalize y.p.id = Id at *
                generalize y.p.topic = To at *
                generalize y.p.pay = Pa at *
                generalize y.p.subs.length = sl at *
                go_wp2
                go_meet
                exact ⟨rfl, rfl⟩
              case rest =>
                obtain ⟨rfl, rfl⟩ := hcut
                have a24 : Hid (wB.cell? ⟨bx, 24, none⟩ = some (.slice Ax y.p.subs.length cx)) := Lib.hid (by rw [← SM.out.subs, ← HVX.out]; exact (cell_heap (i := 24) PA2.out).trans rfl)
                have S1' : Hid (Subs wB Ax y.p.subs) := Lib.hid (by rw [← SM.out.subs]; exact S1.out)
                have b24 : Hid (wB.cell? ⟨by_, 24, none⟩ = some (.slice Ay y.p.subs.length cy)) := Lib.hid (by rw [← HVY.out]; exact (cell_heap (i := 24) PB.out).trans rfl)
                have hbx := lt_heap PA2.out
                have hby := lt_heap PB.out
                generalize y.p.subs = sb at *
                have c24 := a24.out
                clear PA2 PB HVX HVY SM S1
                go_wp2_with fail
                clear c24
                go_loopw [176] (fun i wi => ∃ k3 : Nat, i = .int .i64 k3 ∧ k3 ≤ sb.length ∧ Hid (Below wB.heap.size wB wi)) (fun i _ => sb.length - (intOf i).toNat)
                case atStart => exact ⟨0, rfl, by omega, Lib.hid (Below.refl _ _)⟩
                case round =>
                  obtain ⟨k3, rfl, hk3, hbr⟩ := hrel
                  have hk30 : (0 : Int) ≤ (k3 : Int) := by omega
                  by_cases hlt4 : k3 < sb.length
                  · obtain ⟨s, hs⟩ : ∃ s, sb[k3]? = some s := ⟨sb[k3], List.getElem?_eq_getElem hlt4⟩
                    obtain ⟨g, o, hA, hg, r0, r1, r2, r3, r4⟩ := S1'.out k3 s hs
                    obtain ⟨g', o', hA', hg', r0', r1', r2', r3', r4'⟩ := S2.out k3 s hs
                    have q0 := (hbr.out.cell (p := ⟨g, _, none⟩) hg).trans r0
                    have q0' := (hbr.out.cell (p := ⟨g', _, none⟩) hg').trans r0'
                    have q1 := (hbr.out.cell (p := ⟨g, _, none⟩) hg).trans r1
                    have q1' := (hbr.out.cell (p := ⟨g', _, none⟩) hg').trans r1'
                    have q2 := (hbr.out.cell (p := ⟨g, _, none⟩) hg).trans r2
                    have q2' := (hbr.out.cell (p := ⟨g', _, none⟩) hg').trans r2'
                    have q3 := (hbr.out.cell (p := ⟨g, _, none⟩) hg).trans r3
                    have q3' := (hbr.out.cell (p := ⟨g', _, none⟩) hg').trans r3'
                    have q4 := (hbr.out.cell (p := ⟨g, _, none⟩) hg).trans r4
                    have q4' := (hbr.out.cell (p := ⟨g', _, none⟩) hg').trans r4'
                    have e24 := (hbr.out.cell (p := ⟨bx, 24, none⟩) hbx).trans a24.out
                    have f24 := (hbr.out.cell (p := ⟨by_, 24, none⟩) hby).trans b24.out
                    rw [hA] at e24
                    rw [hA'] at f24
                    have i2 : (k3 : Int) < (sb.length : Int) := by omega
                    clear hA hA' hs r0 r0' r1 r1' r2 r2' r3 r3' r4 r4'
                    obtain ⟨sf, sq, sn, sa, sh⟩ := s
                    simp only at q0 q1 q2 q3 q4 q0' q1' q2' q3' q4'
                    go_wp2_with fail
                    go_quiet (fail)
                    go_wp2
                    go_roundw
                    case rel => exact ⟨k3 + 1, by go_num, by omega, Lib.hid (hbr.out.trans (drewN_below _ _ _))⟩
                    case measure => simp [intOf]; omega
                  · have hkk : k3 = sb.length := by omega
                    have HN := Lib.hid (HN0.out.trans (hbr.out.mono HN0.out.size))
                    subst hkk
                    go_wp2_with fail
                    go_roundw
                    case rel => exact ⟨j + 1, by go_num, by omega, HN⟩
                    case measure => simp [intOf]; omega
            · have hjm : j = M.length := by omega
              subst hjm
              go_wp2_with fail
              go_ret
              exact ⟨rfl, HB7.out.trans (hbi.out.mono HB7.out.size)⟩
end Go.Proofs.YtemfcaaoobjgkaaGreatDoor
