/- FaultNil: of no error nothing is told; of a nil fault neither. -/
import Derived.Test.YtkdojbmimenalaaDoorFaWakes
import Derived.Test.YtkdojbmimenalaaDoorFaHas
import Derived.Test.YtkdojbmimenalaaDoorFaJoin
namespace Go.Proofs.YtkdojbmimenalaaDoor
open Go.RowKit FA

theorem write_nilf (b : Value) (w : World) :
    Calls Tryd.prog 37 #[b, .iface 47 (.pointer none)] w fun e w' => e = .returned (.tuple #[]) ∧ w = w' := by
  have a1 := taFF
  go_enter Tryd.func37, Tryd.ntmps37
  go_wp2_with fail
  refine (wfault_nil _ _).mono ?_
  rintro en w1 ⟨rfl, rfl⟩
  go_wp2
  go_end0
  exact ⟨rfl, rfl⟩

theorem ferror_nil (w : World) :
    Calls Tryd.prog 26 #[.pointer none] w fun e w' => e = .returned (.string ⟨#[]⟩) ∧ Below w.heap.size w w' := by
  have hbl := Lib.hid ((Below.refl w.heap.size w).alloc (Nat.le_refl _) (.cells #[.pointer none, .slice none 0 0] 77))
  have C := Lib.hid (str_any w.heap.size w.heap.size [] _ (Bld.new w) (by simp))
  have T : Hid (Calls Tryd.prog 19 #[.iface 47 (.pointer none)] w fun e w' => e = .returned (.string ⟨#[]⟩) ∧ Below w.heap.size w w') := by
    refine Lib.hid ?_
    go_enter Tryd.func19, Tryd.ntmps19
    go_wp2_with fail
    refine (write_nilf _ _).mono ?_
    rintro en w1 ⟨rfl, rfl⟩
    go_wp2_with fail
    refine C.out.mono ?_
    rintro en w1 ⟨rfl, b1⟩
    have B1 := Lib.hid b1
    clear b1 C
    go_wp2
    go_ret
    exact ⟨rfl, hbl.out.trans B1.out⟩
  clear C hbl
  go_enter Tryd.func26, Tryd.ntmps26
  go_wp2_with fail
  refine T.out.mono ?_
  rintro en w1 ⟨rfl, b1⟩
  have B1 := Lib.hid b1
  clear b1 T
  go_wp2
  go_ret
  exact ⟨rfl, B1.out⟩

theorem errs_nil2 (w : World) : Errs (w.alloc (.cells #[.nilIface, .nilIface] 24)) (w.heap.size + 1) (some ⟨w.heap.size, 0, none⟩) [none, none] := by
  intro i x hx
  refine ⟨w.heap.size, 0, .nilIface, rfl, by omega, ?_, ?_⟩
  · rw [World.cell?_alloc_at _ _ _ _ rfl]
    match i, hx with
    | 0, _ => rfl
    | 1, _ => rfl
  · match i, hx with
    | 0, h => simp at h; subst h; rfl
    | 1, h => simp at h; subst h; rfl

set_option maxRecDepth 100000 in
set_option maxHeartbeats 8000000 in
theorem faultNil_walk (w : World) (s : ByteArray) (c : Nat) (_hc : c < 256) (hT : Tabs w) (hG : 4 ≤ w.heap.size) :
    Calls Tryd.prog 8 #[.string s, .int .u8 c] w fun e w' => e = .returned (.bool true) ∧ Below w.heap.size w w' := by
  have HT := Lib.hid hT
  have C1 := Lib.hid (wakes_any w hT hG)
  clear hT
  go_enter Tryd.func8, Tryd.ntmps8
  go_wp2_with fail
  refine C1.out.mono ?_
  rintro en w1 ⟨rfl, b1⟩
  have B1 := Lib.hid b1
  have s1 := b1.size
  have C2 := Lib.hid (wrap_any 0 s none .nilIface w1 (Nat.zero_le _) rfl (by simp [szO]) (HT.out.below b1))
  clear b1 C1
  go_wp2_with fail
  refine C2.out.mono ?_
  rintro en w2 ⟨v2, rfl, h2, b2⟩
  obtain rfl : v2 = .nilIface := h2
  have B2 : Hid (Below w.heap.size w w2) := B1.out.trans (b2.mono s1)
  have s2 := B2.out.size
  have C3 := Lib.hid (join_any (w2.heap.size + 1) _ 2 _ _ (errs_nil2 w2) (by simp) (by simp))
  clear b2 C2 B1
  go_wp2_with fail
  refine C3.out.mono ?_
  rintro en w3 ⟨v3, rfl, h3, b3⟩
  obtain rfl : v3 = .nilIface := h3
  have B3 : Hid (Below w.heap.size w w3) := (B2.out.alloc s2 _).trans (b3.mono (by simp; omega))
  have s3 := B3.out.size
  have C4 := Lib.hid (codeOf_any 0 none .nilIface w3 (Nat.zero_le _) rfl (by simp [szO]) (HT.out.below B3.out))
  simp only [codeO] at C4
  clear b3 C3 B2
  go_wp2_with fail
  refine C4.out.mono ?_
  rintro en w4 ⟨rfl, b4⟩
  have B4 : Hid (Below w.heap.size w w4) := B3.out.trans (b4.mono s3)
  have s4 := B4.out.size
  have C5 := Lib.hid (has_any 0 c none .nilIface w4 rfl (Nat.zero_le _) (by simp [szO]))
  simp only [hasO] at C5
  clear b4 C4 B3
  go_wp2_with fail
  refine C5.out.mono ?_
  rintro en w5 ⟨rfl, b5⟩
  have B5 : Hid (Below w.heap.size w w5) := B4.out.trans (b5.mono s4)
  have s5 := B5.out.size
  have C6 := Lib.hid (path_any 0 none .nilIface w5 rfl (Nat.zero_le _) (by simp [szO]))
  clear b5 C5 B4
  go_wp2_with fail
  refine C6.out.mono ?_
  rintro en w6 ⟨v6, rfl, ho6, b6⟩
  obtain ⟨A6, cap6, rfl⟩ := own_form ho6
  have B6 : Hid (Below w.heap.size w w6) := B5.out.trans (b6.mono s5)
  have s6 := B6.out.size
  have C7 := Lib.hid (text_any 0 none .nilIface w6 rfl trivial (Nat.zero_le _) (by omega) (by simp [szO]) (HT.out.below B6.out))
  simp only [textO] at C7
  clear b6 C6 B5 ho6
  simp only [pathO, List.length_nil]
  go_wp2_with fail
  refine C7.out.mono ?_
  rintro en w7 ⟨rfl, b7⟩
  have B7 : Hid (Below w.heap.size w w7) := B6.out.trans (b7.mono s6)
  have s7 := B7.out.size
  clear b7 C7 B6
  go_wp2_with fail
  refine (unwrap_nil _).mono ?_
  rintro en w8 ⟨rfl, rfl⟩
  go_wp2_with fail
  refine (of_w c _).mono ?_
  rintro en w8 ⟨rfl, rfl⟩
  go_wp2_with fail
  refine (fis_nil _ _ _ rfl).mono ?_
  rintro en w8 ⟨rfl, rfl⟩
  go_wp2_with fail
  refine (ferror_nil _).mono ?_
  rintro en w9 ⟨rfl, b9⟩
  have B9 : Hid (Below w.heap.size w w9) := (B7.out.alloc s7 _).trans (b9.mono (by simp; omega))
  clear b9 B7
  go_wp2
  go_ret
  exact ⟨rfl, B9.out⟩
end Go.Proofs.YtkdojbmimenalaaDoor
