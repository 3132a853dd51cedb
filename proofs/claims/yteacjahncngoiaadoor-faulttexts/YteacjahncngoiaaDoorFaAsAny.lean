/- errors.as and errors.As at any error, CodeOf: the first fault, its code. -/
import Derived.Test.YteacjahncngoiaaDoorFaAs
namespace Go.Proofs.YteacjahncngoiaaDoor
open Go.RowKit Go.Extern.Stop Go.Stop Go.Extern FA

theorem add0 (g i : Nat) : (⟨g, 0, none⟩ : Addr).add i = ⟨g, i, none⟩ := by unfold Addr.add; split <;> simp_all

/-- What errors.As answers of an error at a target in block tb. -/
def AsP (w : World) (B tb : Nat) (e : E) (en : Ending) (w' : World) : Prop :=
  (ff e = none ∧ en = .returned (.bool false) ∧ Below w.heap.size w w') ∨
  (∃ f p, ff e = some f ∧ RepE w' B f (.iface 47 (.pointer (some ⟨p, 0, none⟩))) ∧ en = .returned (.bool true) ∧ Below B w w' ∧ w'.cell? ⟨tb, 0, none⟩ = some (.pointer (some ⟨p, 0, none⟩)))

theorem RepL.one {w : World} {B : Nat} : ∀ {l : List E} {us : List Value}, RepL w B l us → ∀ u ∈ us, u.oneCell' = true
  | [], us, h, u, hu => by simp only [RepL] at h; subst h; cases hu
  | e :: l, us, h, u, hu => by
    simp only [RepL] at h
    obtain ⟨u', us', rfl, he, hl⟩ := h
    rcases List.mem_cons.1 hu with rfl | hu
    · obtain ⟨t, b, rfl⟩ := RepE.iface he; rfl
    · exact RepL.one hl u hu

theorem len_szL (l : List E) : l.length ≤ szL l := by
  induction l with
  | nil => simp
  | cons a l ih => have := sz_pos a; simp [szL]; omega

set_option maxRecDepth 100000 in
set_option maxHeartbeats 4000000 in
theorem as_any (B tb pb : Nat) (old : Value) (hBt : B ≤ tb) : ∀ (n : Nat) (e : E), sz e ≤ n → n ≤ 1000000 → ∀ (v : Value) (w : World), RepE w B e v → B ≤ w.heap.size →
    w.cell? ⟨pb, 0, none⟩ = some (.pointer (some ⟨tb, 0, none⟩)) → w.cell? ⟨tb, 0, none⟩ = some old → w.frozen? ⟨tb, 0, none⟩ = false →
    Calls Tryd.prog 43 #[v, .iface 49 (.pointer (some ⟨tb, 0, none⟩)), .agg (tgt pb), .iface 97 (.agg #[.pointer (some ⟨4, 47, none⟩)])] w (AsP w B tb e)
  | 0, e, hz, _, _, _, _, _, _, _, _ => by have := sz_pos e; omega
  | n + 1, e, hz, hn, v, w, h, hB, hp, ht, hf => by
    have hpl : pb < w.heap.size := lt_cell hp
    have htl : tb < w.heap.size := lt_cell ht
    have fault_case : ∀ b, v = .iface 47 (.pointer (some ⟨b, 0, none⟩)) → ff e = some e →
        Calls Tryd.prog 43 #[v, .iface 49 (.pointer (some ⟨tb, 0, none⟩)), .agg (tgt pb), .iface 97 (.agg #[.pointer (some ⟨4, 47, none⟩)])] w (AsP w B tb e) := by
      rintro b rfl hff
      refine (as_fault b tb pb old w hp ht hf).mono ?_
      rintro en w' ⟨rfl, rfl⟩
      have hbl := ((((Below.refl B w).setCell (p := ⟨tb, 0, none⟩) hBt (.pointer (some ⟨b, 0, none⟩))).alloc (by simpa using hB) (.cells (tgt pb) 83)).alloc (by simp; omega) (.cells #[.pointer (some ⟨b, 0, none⟩)] 47))
      refine .inr ⟨e, b, hff, RepE.below hbl _ _ h, rfl, hbl, ?_⟩
      rw [World.cell?_alloc_lt _ _ _ (by simp; omega), World.cell?_alloc_lt _ _ _ (by simpa using htl)]
      rw [World.cell?_setCell_same _ _ _ ht]
    cases e with
    | leaf c s =>
      simp only [RepE] at h
      obtain ⟨b, hv, _⟩ := h
      exact fault_case b hv rfl
    | wrap c s k =>
      simp only [RepE] at h
      obtain ⟨b, u, hv, _⟩ := h
      exact fault_case b hv rfl
    | other s =>
      simp only [RepE] at h
      obtain ⟨b, rfl, _⟩ := h
      refine (as_other b tb pb w).mono ?_
      rintro en w' ⟨rfl, rfl⟩
      exact .inl ⟨rfl, rfl, (Below.refl _ _).alloc (Nat.le_refl _) _⟩
    | many l =>
      clear fault_case
      simp only [RepE] at h
      obtain ⟨b, g, cap, us, rfl, hlt, hh, hg, hl0, hlc, hc, hus, hl⟩ := h
      have hszl : szL l ≤ n := by simp only [sz] at hz; omega
      have hlen := len_szL l
      have hll := RepL.length hl
      have c0 : (w.alloc (.cells (tgt pb) 83)).cell? ⟨b, 0, none⟩ = some (.slice (some ⟨g, 0, none⟩) l.length cap) := by
        rw [World.cell?_alloc_lt _ _ _ (by simp; omega), cell_heap hh]; rfl
      have CU := Lib.hid (junwrap_row b g l.length cap us (w.alloc (.cells (tgt pb) 83)) c0 (by simp; omega) hll (by omega)
        (fun i u hu => by rw [World.cell?_alloc_lt _ _ _ (by simp; omega)]; exact hus i u hu) (RepL.one hl))
      clear c0
      have Hp := Lib.hid hp; have Ht := Lib.hid ht; have Hf := Lib.hid hf; have Hus := Lib.hid hus; have Hll := Lib.hid hll
      have Hl := Lib.hid hl
      have Hhh := Lib.hid hh
      clear hp ht hf hus hll hl hh
      have IH := Lib.hid (as_any B tb pb old hBt n)
      have e1 := x_typeOf; have e2 := x_assign
      have f1 := typeOfJ; have f2 := mAssign; have f3 := assignJ; have f4 := asJ; have f5 := unJ; have f6 := usJ; have f7 := mUnJ
      unfold tgt at *
      go_enter Tryd.func43, Tryd.ntmps43
      go_wp2
      refine wp_loop_rounds 1 ?_
      rw [rounds_succ]
      go_wp2_with fail
      refine CU.out.mono ?_
      rintro en w1 ⟨v1, rfl, hown1, hb1⟩
      obtain ⟨g1, cap1, rfl, hg1, hg1'⟩ := hown1.form hl0
      have Hc1 := Lib.hid (hown1.cells (g := g1) rfl)
      clear hown1 CU
      have hb1s : w.heap.size < w1.heap.size := by have := hb1.size; simp at this; omega
      have B0 : Hid (Below w.heap.size w w1) := ((Below.refl w.heap.size w).alloc (Nat.le_refl _) _).trans (hb1.mono (by simp))
      have T0 := Lib.hid (show ∀ i, w1.cell? ⟨w.heap.size, i, none⟩ = (tgt pb)[i]? from fun i => by
        rw [hb1.cell (p := ⟨w.heap.size, i, none⟩) (by simp), World.cell?_alloc_at _ _ _ _ rfl]; rfl)
      clear hb1
      go_wp2
      go_loopw [50] (fun i wr => ∃ k : Nat, i = .int .i64 k ∧ k ≤ l.length ∧ Hid (ffL (l.drop k) = ffL l) ∧ Hid (Below w1.heap.size w1 wr))
        (fun i _ => l.length - (intOf i).toNat)
      case atStart => exact ⟨0, rfl, by omega, Lib.hid rfl, Lib.hid (Below.refl _ _)⟩
      case round =>
        obtain ⟨k, rfl, hk, hk1, hbr⟩ := hrel
        have hbw : Hid (Below w.heap.size w wr) := B0.out.trans (hbr.out.mono (by omega))
        have hsr : w1.heap.size ≤ wr.heap.size := hbr.out.size
        by_cases hlt2 : k < l.length
        · obtain ⟨ek, hek⟩ : ∃ ek, l[k]? = some ek := ⟨l[k], List.getElem?_eq_getElem hlt2⟩
          obtain ⟨u, hu, hru⟩ := RepL.at_ Hl.out hek
          obtain ⟨tu, bu, rfl⟩ := RepE.iface hru
          have t0 : wr.cell? ⟨w.heap.size, 0, none⟩ = some (.pointer (some ⟨4, 49, none⟩)) := by rw [hbr.out.cell (p := ⟨w.heap.size, 0, none⟩) hb1s, T0.out]; rfl
          have t1 : wr.cell? ⟨w.heap.size, 1, none⟩ = some (.pointer (some ⟨pb, 0, none⟩)) := by rw [hbr.out.cell (p := ⟨w.heap.size, 1, none⟩) hb1s, T0.out]; rfl
          have t2 : wr.cell? ⟨w.heap.size, 2, none⟩ = some (.int .u64 150) := by rw [hbr.out.cell (p := ⟨w.heap.size, 2, none⟩) hb1s, T0.out]; rfl
          have c1 : wr.cell? ⟨g1, k, none⟩ = some (.iface tu (.pointer (some ⟨bu, 0, none⟩))) := by rw [hbr.out.cell (p := ⟨g1, k, none⟩) hg1', ← add0]; exact Hc1.out k _ hu
          have C := Lib.hid (IH.out ek (by have := szL_mem (List.mem_of_getElem? hek); omega) (by omega) _ wr (RepE.below (hbw.out.mono hB) _ _ hru) (by omega)
            (by rw [hbw.out.cell (p := ⟨pb, 0, none⟩) hpl]; exact Hp.out) (by rw [hbw.out.cell (p := ⟨tb, 0, none⟩) htl]; exact Ht.out) (by rw [hbw.out.frozen (p := ⟨tb, 0, none⟩) htl]; exact Hf.out))
          have Hek := Lib.hid hek
          clear hek hu hru
          go_wp2_with fail
          refine C.out.mono ?_
          rintro en w2 (⟨hff, rfl, hb2⟩ | ⟨f, p, hff, hrep, rfl, hb2, hc2⟩)
          · have H1 := Lib.hid (ffL_no Hek.out hff)
            have B2 := Lib.hid hb2
            clear hff hb2
            go_wp2
            go_roundw
            case rel => exact ⟨k + 1, by go_num, by omega, Lib.hid (H1.out.symm.trans hk1.out), Lib.hid (hbr.out.trans (B2.out.mono hsr))⟩
            case measure => simp [intOf]; omega
          · have H1 := Lib.hid (ffL_yes Hek.out hff)
            have B2 := Lib.hid hb2
            have H2 := Lib.hid hc2
            have H3 := Lib.hid hrep
            clear hff hb2 hc2 hrep
            go_wp2
            go_ret
            exact .inr ⟨f, p, hk1.out.symm.trans H1.out, H3.out, rfl, (hbw.out.mono hB).trans B2.out, H2.out⟩
        · have H1 := Lib.hid (ffL_end l)
          have hkl : k = l.length := by omega
          subst hkl
          go_wp2
          go_ret
          exact .inl ⟨hk1.out.symm.trans H1.out, rfl, hbw.out⟩
end Go.Proofs.YteacjahncngoiaaDoor
