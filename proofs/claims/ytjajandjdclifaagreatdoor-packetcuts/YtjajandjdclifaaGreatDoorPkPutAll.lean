/- A packet's bytes: the program's Put. -/
import Derived.Test.YtjajandjdclifaaGreatDoorPkParts
import Derived.Test.YtjajandjdclifaaGreatDoorVarPut
import Derived.BigQuiet
namespace Go.Proofs.YtjajandjdclifaaGreatDoor
open Go.RowKit
attribute [local go_sem ↓] Go.wp_at_zero Go.wp_at_succ

theorem PkIn.lift {a b : Nat} {w w' : World} {p : Pk} {vc vp vw vs vf : Value} (h : PkIn a w p vc vp vw vs vf) (hab : a ≤ b) (hb : Below a w w') : PkIn b w' p vc vp vw vs vf where
  fine := h.fine
  tabs := fun W hW => h.tabs W (hb.trans (hW.mono hab))
  props := by obtain ⟨A, c, h1, h2⟩ := h.props; exact ⟨A, c, h1, fun W hW => h2 W (hb.trans (hW.mono hab))⟩
  wprops := by obtain ⟨A, c, h1, h2⟩ := h.wprops; exact ⟨A, c, h1, fun W hW => h2 W (hb.trans (hW.mono hab))⟩
  codes := by obtain ⟨A, c, h1, h2⟩ := h.codes; exact ⟨A, c, h1, fun W hW => h2 W (hb.trans (hW.mono hab))⟩
  subs := by obtain ⟨A, c, h1, h2⟩ := h.subs; exact ⟨A, c, h1, fun W hW => h2 W (hb.trans (hW.mono hab))⟩
  filters := by obtain ⟨A, c, h1, h2⟩ := h.filters; exact ⟨A, c, h1, fun W hW => h2 W (hb.trans (hW.mono hab))⟩
namespace PK
theorem isK_is (k : Int) : isK k = true ↔ ¬ (k < 1 ∨ 15 < k) := by
  unfold isK; simp only [Bool.and_eq_true, decide_eq_true_eq]; omega
section
variable {o : ByteArray × Int} (h : o.2 ≠ 0)
include h
theorem tx_bad (s : ByteArray) : tx o s = o := ad_bad h _ _
theorem dt_bad (s : ByteArray) : dt o s = o := ad_bad h _ _
theorem pr_bad (k : Int) (l : List Pr) : pr o k l = o := by unfold pr; rw [ad_bad h, rf_bad h]; split <;> rfl
theorem idd_bad (n : Int) : idd o n = o := by unfold idd; rw [rf_bad h, ite_self, nm_bad h]
theorem sub_bad (s : Sb) : sub o s = o := by unfold sub; rw [tx_bad h, nm_bad h, rf_bad h]; split <;> rfl
theorem head_bad (p : Pk) : head o p = o := by unfold head; rw [idd_bad h, pr_bad h]
theorem ending_bad (p : Pk) : ending o p = o := by unfold ending; rw [nm_bad h, pr_bad h]; split <;> (try split) <;> rfl
omit h in
theorem fold_bad {α : Type} (f : ByteArray × Int → α → ByteArray × Int) (hf : ∀ x, f o x = o) (l : List α) : l.foldl f o = o := by
  induction l with
  | nil => rfl
  | cons a l ih => rw [List.foldl_cons, hf, ih]
theorem eachO_bad {α : Type} (f : ByteArray × Int → α → ByteArray × Int) (hf : ∀ x, f o x = o) (l : List α) : eachO o l f = o := by
  unfold eachO; rw [rf_bad h, rf_bad h, fold_bad f hf]; split <;> (try split) <;> rfl
theorem cflags_bad (p : Pk) : cflags o p = o := by unfold cflags; rw [rf_bad h, nm_bad h]; split <;> rfl
theorem conn_bad (p : Pk) : conn o p = o := by
  unfold conn conn1
  rw [tx_bad h, nm_bad h, cflags_bad h, nm_bad h, pr_bad h, tx_bad h]
  unfold conn2
  rw [pr_bad h, tx_bad h, dt_bad h, ite_self]
  unfold conn3
  rw [tx_bad h, ite_self]
  unfold conn4
  rw [dt_bad h, ite_self]
theorem pub_bad (p : Pk) : pub o p = o := by
  unfold pub pub1
  rw [tx_bad h, idd_bad h, ite_self, pr_bad h, ad_bad h]
theorem parts_bad (p : Pk) : parts o p = o := by
  unfold parts
  rw [conn_bad h, nm_bad h, nm_bad h, pr_bad h, pub_bad h, head_bad h, eachO_bad h _ (sub_bad h), eachO_bad h _ (tx_bad h), eachO_bad h _ (fun c => nm_bad h 1 c), idd_bad h, ending_bad h]
  repeat' split
  all_goals rfl
end
theorem flagsN_le {p : Pk} (h : (flagsO p).2 = 0) : 0 ≤ flagsN p ∧ flagsN p ≤ 15 := by
  unfold flagsO at h
  unfold flagsN
  by_cases h3 : p.kind = 3
  · rw [if_pos h3]
    have hc : canPub p = true := by
      by_cases hc : canPub p = true
      · exact hc
      · rw [if_pos ⟨h3, by simpa using hc⟩] at h; exact absurd h (by decide)
    unfold canPub isQ at hc
    simp only [Bool.and_eq_true, decide_eq_true_eq] at hc
    have f1 : 0 ≤ fl p.dup 8 ∧ fl p.dup 8 ≤ 8 := by unfold fl; split <;> decide
    have f2 : 0 ≤ fl p.ret 1 ∧ fl p.ret 1 ≤ 1 := by unfold fl; split <;> decide
    omega
  · rw [if_neg h3]; split <;> decide
end PK
theorem first_or {k f : Int} (hk : 0 ≤ k ∧ k ≤ 15) (hf : 0 ≤ f ∧ f ≤ 15) : bits .or .i64 (k * 16) f = 16 * k + f := by
  have h : ∀ a b : Fin 16, bits .or .i64 ((a.val : Int) * 16) (b.val : Int) = 16 * (a.val : Int) + (b.val : Int) := by decide +kernel
  have := h ⟨k.toNat, by omega⟩ ⟨f.toNat, by omega⟩
  simp only at this
  rwa [show ((k.toNat : Nat) : Int) = k by omega, show ((f.toNat : Nat) : Int) = f by omega] at this

set_option maxRecDepth 100000 in
set_option maxHeartbeats 8000000 in
theorem pput_any (p : Pk) (vc vp vw vs vf : Value) (w : World) (hp : PkIn w.heap.size w p vc vp vw vs vf) :
    Calls Tryz.prog 16 #[.agg (pkCells p vc vp vw vs vf)] w fun e w' => e = .returned (.tuple #[.string (PK.putS p), .int .u8 (PK.putC p)]) ∧ Below w.heap.size w w' := by
  have hal := (Below.refl w.heap.size w).alloc (Nat.le_refl _) (.cells (pkCells p vc vp vw vs vf) 31)
  have hb0 : (w.alloc (.cells (pkCells p vc vp vw vs vf) 31)).heap[w.heap.size]? = some (.cells (pkCells p vc vp vw vs vf) 31 (0, 0)) := heap_alloc_new w _
  have hs1 : w.heap.size + 1 = (w.alloc (.cells (pkCells p vc vp vw vs vf) 31)).heap.size := by simp
  obtain ⟨q0, -⟩ := pk_cells hb0
  have CK := Lib.hid iskind_any
  have Hal := Lib.hid hal
  have HE1 : Hid (PK.putC p = if p.kind < 1 ∨ 15 < p.kind then 129 else if (PK.bodyO p).2 ≠ 0 then (PK.bodyO p).2 else if 65536 < (PK.bodyO p).1.size then 149 else 0) := rfl
  have HE2 : Hid (PK.putS p = if PK.putC p ≠ 0 then ⟨#[]⟩ else strOfNums (VP.fixL 1 (16 * p.kind + PK.flagsN p)) ++ strOfNums (VP.putL (PK.bodyO p).1.size) ++ (PK.bodyO p).1) := rfl
  by_cases hk : PK.isK p.kind = true
  · have hk' := (PK.isK_is _).1 hk
    have hk1 : 1 ≤ p.kind := by omega
    have hk2 : p.kind ≤ 15 := by omega
    have E1 : Hid (PK.putC p = if (PK.bodyO p).2 ≠ 0 then (PK.bodyO p).2 else if 65536 < (PK.bodyO p).1.size then 149 else 0) := Lib.hid (by rw [HE1.out, if_neg hk'])
    have HK := Lib.hid hk
    clear HE1 hk hk'
    have hb1 : ((w.alloc (.cells (pkCells p vc vp vw vs vf) 31)).alloc (.cells #[.pointer none, .slice none 0 0, .int .u8 0] 120)).heap[w.heap.size]? = some (.cells (pkCells p vc vp vw vs vf) 31 (0, 0)) := (Below.heap_alloc _ _ _ (by rw [← hs1]; omega)).trans hb0
    have hal2 := (Below.refl (w.heap.size + 1) (w.alloc (.cells (pkCells p vc vp vw vs vf) 31))).alloc (Nat.le_of_eq hs1) (.cells #[.pointer none, .slice none 0 0, .int .u8 0] 120)
    have hwr := Wr.new (w.alloc (.cells (pkCells p vc vp vw vs vf) 31))
    rw [← hs1] at hwr
    have hwo : WO (w.heap.size + 1) 0 (⟨#[]⟩, 0) ((w.alloc (.cells (pkCells p vc vp vw vs vf) 31)).alloc (.cells #[.pointer none, .slice none 0 0, .int .u8 0] 120)) := ⟨[], hwr, Nat.zero_le _, fun _ => rfl, Int.le_refl 0, (by decide : (0 : Int) ≤ 255)⟩
    have hB1 : Below w.heap.size w ((w.alloc (.cells (pkCells p vc vp vw vs vf) 31)).alloc (.cells #[.pointer none, .slice none 0 0, .int .u8 0] 120)) := hal.trans (hal2.mono (Nat.le_succ _))
    have hp1 := hp.lift (Nat.le_succ _) hB1
    have C1 := Lib.hid (wflags_any (w.heap.size + 1) p vc vp vw vs vf _ hwo hp.fine)
    have HB1 := Lib.hid hB1
    have HP1 := Lib.hid hp1
    have HX1 := Lib.hid hb1
    have hne : w.heap.size ≠ w.heap.size + 1 := by omega
    clear hp hal hb0 hs1 hb1 hal2 hwr hwo hB1 hp1
    go_enter Tryz.func16, Tryz.ntmps16
    go_wp2_with fail
    refine (CK.out _ _).mono ?_
    rintro e w' ⟨rfl, rfl⟩
    rw [HK.out]
    go_wp2_with (refine wpl_load_pk (by rfl) (.tmp 1) (by rfl) w.heap.size (by rfl) HX1.out ?_)
    generalize (w.alloc (.cells (pkCells p vc vp vw vs vf) 31)).alloc (.cells #[.pointer none, .slice none 0 0, .int .u8 0] 120) = W1 at *
    refine C1.out.mono ?_
    rintro e w2 ⟨v, rfl, hv, hv64, ho2, hk2_⟩
    have HX2 := Lib.hid (boxed_kept hk2_ hne HX1.out)
    have HB2 : Hid (Below w.heap.size w w2) := HB1.out.trans (hk2_.1.mono (Nat.le_succ _))
    have C2 := Lib.hid (wparts_any (w.heap.size + 1) (PK.flagsO p) p vc vp vw vs vf w2 ho2 (HP1.out.below hk2_.1))
    have HV := Lib.hid hv
    have HV64 := Lib.hid hv64
    have EB : Hid (PK.bodyO p = PK.parts (PK.flagsO p) p) := rfl
    have EF : Hid ((PK.bodyO p).2 = 0 → (PK.flagsO p).2 = 0) := Lib.hid (fun h => by
      by_cases hf : (PK.flagsO p).2 = 0
      · exact hf
      · unfold PK.bodyO at h; rw [PK.parts_bad hf] at h; exact h)
    rw [← EB.out] at C2
    clear hv hv64 ho2 hk2_ C1 CK q0
    go_wp2_with (refine wpl_load_pk (by rfl) (.tmp 1) (by rfl) w.heap.size (by rfl) HX2.out ?_)
    refine C2.out.mono ?_
    rintro e w3 ⟨rfl, ⟨l, hw3, hl3, hl3', hc3⟩, hk3⟩
    have HX3 := Lib.hid (boxed_kept hk3 hne HX2.out)
    have HB3 : Hid (Below w.heap.size w w3) := HB2.out.trans (hk3.1.mono (Nat.le_succ _))
    obtain ⟨q2, -⟩ := code_cell hw3
    have HW3 := Lib.hid hw3
    have HL3 := Lib.hid hl3'
    clear hk3 C2 hw3 hl3' EB
    by_cases hc : (PK.bodyO p).2 = 0
    · have e0 : ((PK.bodyO p).2 != 0) = false := by simp [hc]
      have hvv : v = PK.flagsN p := HV.out (EF.out hc)
      have hfl := PK.flagsN_le (EF.out hc)
      rw [← hvv] at hfl
      have hbd : (⟨l.toArray⟩ : ByteArray) = (PK.bodyO p).1 := HL3.out hc
      have hln : l.length = (PK.bodyO p).1.size := by rw [← hbd]; simp [ByteArray.size]
      have CL := Lib.hid (wlen_any _ _ _ w3 HW3.out)
      have hf0 := hfl.1; have hf1 := hfl.2
      by_cases h65 : 65536 < (PK.bodyO p).1.size
      · have i65 : (65536 : Int) < (l.length : Int) := by omega
        have F1 : Hid (PK.putC p = 149) := Lib.hid (by rw [E1.out, if_neg (by simp [hc]), if_pos h65])
        have F2 : Hid (PK.putS p = ⟨#[]⟩) := Lib.hid (by rw [HE2.out, if_pos (by rw [F1.out]; decide)])
        clear E1 HE2 hc EF HL3 hvv hbd hln h65 HV hfl
        go_wp2_with fail
        refine CL.out.mono ?_
        rintro e w' ⟨rfl, rfl⟩
        go_wp2
        go_ret2
        exact ⟨by rw [F1.out, F2.out]; rfl, HB3.out⟩
      · have i65 : ¬ (65536 : Int) < (l.length : Int) := by omega
        have F1 : Hid (PK.putC p = 0) := Lib.hid (by rw [E1.out, if_neg (by simp [hc]), if_neg h65])
        have F2 : Hid (PK.putS p = strOfNums (VP.fixL 1 (bits .or .i64 (p.kind * 16) v)) ++ strOfNums (VP.putL (l.length : Int)) ++ ⟨l.toArray⟩) := Lib.hid (by rw [HE2.out, if_neg (by simp [F1.out]), hbd, hln, first_or ⟨by omega, hk2⟩ hfl, hvv])
        have hX := first_or (k := p.kind) (f := v) ⟨by omega, hk2⟩ hfl
        have C4 : Hid (Calls Tryz.prog 44 #[.int .i64 1, .int .i64 (bits .or .i64 (p.kind * 16) v)] w3 fun e w' => e = .returned (.tuple #[.string (strOfNums (VP.fixL 1 (bits .or .i64 (p.kind * 16) v))), .int .u8 (VP.fixC 1 (bits .or .i64 (p.kind * 16) v))]) ∧ Below w3.heap.size w3 w') := Lib.hid (fixed_any 1 _ (by rw [hX]; omega) (by rw [hX]; omega) w3)
        have C5 := Lib.hid (put_any (l.length : Int))
        have CS : Hid (∀ W, Below w3.heap.size w3 W → Calls Tryz.prog 46 #[.pointer (some ⟨w.heap.size + 1, 0, none⟩)] W fun e w' => e = .returned (.string ⟨l.toArray⟩) ∧ Below (w.heap.size + 1) W w') := fun W hW => wstring_any _ l _ W (HW3.out.below hW)
        have CL2 : Hid (∀ W, Below w3.heap.size w3 W → Calls Tryz.prog 43 #[.pointer (some ⟨w.heap.size + 1, 0, none⟩)] W fun e w' => e = .returned (.int .i64 l.length) ∧ W = w') := fun W hW => wlen_any _ l _ W (HW3.out.below hW)
        obtain ⟨q30, -⟩ := pk_cells HX3.out
        have zf := fix_size 1 (bits .or .i64 (p.kind * 16) v)
        have zp : (strOfNums (VP.putL (l.length : Int))).size ≤ 4 := by rw [strOfNums_size]; exact PR.putL_len _
        have HX := Lib.hid hX
        have hl65 : l.length ≤ 65536 := by omega
        have hll : (⟨l.toArray⟩ : ByteArray).size = l.length := by simp [ByteArray.size]
        have Hll := Lib.hid hll
        clear E1 HE2 hc EF HL3 hvv hbd hln h65 HV hfl hX hll
        go_wp2_with fail
        refine CL.out.mono ?_
        rintro e w' ⟨rfl, rfl⟩
        go_wp2_with fail
        refine C4.out.mono ?_
        rintro e w4 ⟨rfl, b4⟩
        have D4 := Lib.hid (CL2.out w4 b4)
        have B4 := Lib.hid b4
        clear b4 C4 CL
        go_wp2_with fail
        refine D4.out.mono ?_
        rintro e w' ⟨rfl, rfl⟩
        go_wp2_with fail
        refine (C5.out _).mono ?_
        rintro e w5 ⟨rfl, b5⟩
        have B5 : Hid (Below w3.heap.size w3 w5) := B4.out.trans (b5.mono B4.out.size)
        have D5 := Lib.hid (CS.out w5 B5.out)
        clear b5 C5 CS CL2 D4
        go_wp2_with fail
        refine D5.out.mono ?_
        rintro e w6 ⟨rfl, b6⟩
        have B6 : Hid (Below w.heap.size w w6) := (HB3.out.trans (B5.out.mono HB3.out.size)).trans (b6.mono (Nat.le_succ _))
        clear b6 D5
        go_wp2
        go_ret2
        exact ⟨by rw [F1.out, F2.out]; rfl, B6.out⟩
    · have e0 : ((PK.bodyO p).2 != 0) = true := by rw [bne_iff_ne]; exact hc
      have F1 : Hid (PK.putC p = (PK.bodyO p).2) := Lib.hid (by rw [E1.out, if_pos hc])
      have F2 : Hid (PK.putS p = ⟨#[]⟩) := Lib.hid (by rw [HE2.out, if_pos (by rw [F1.out]; exact hc)])
      clear E1 HE2 hc EF HL3
      go_wp2_with fail
      go_quiet (fail)
      go_wp2
      go_ret2
      exact ⟨by rw [F1.out, F2.out]; rfl, HB3.out.trans (drewN_below _ _ _)⟩
  · have hk' : p.kind < 1 ∨ 15 < p.kind := by
      by_cases h : p.kind < 1 ∨ 15 < p.kind
      · exact h
      · exact absurd ((PK.isK_is _).2 h) hk
    have E1 : Hid (PK.putC p = 129) := Lib.hid (by rw [HE1.out, if_pos hk'])
    have E2 : Hid (PK.putS p = ⟨#[]⟩) := Lib.hid (by rw [HE2.out, if_pos (by rw [E1.out]; decide)])
    have HK : Hid (PK.isK p.kind = false) := Lib.hid (by simpa using hk)
    generalize PK.putS p = S at *
    generalize PK.putC p = c at *
    clear HE1 HE2 hk hk' hp hal hb0 hs1
    go_enter Tryz.func16, Tryz.ntmps16
    go_wp2_with fail
    refine (CK.out _ _).mono ?_
    rintro e w' ⟨rfl, rfl⟩
    rw [HK.out]
    go_wp2
    go_ret2
    exact ⟨by rw [E1.out, E2.out]; rfl, Hal.out⟩
end Go.Proofs.YtjajandjdclifaaGreatDoor
