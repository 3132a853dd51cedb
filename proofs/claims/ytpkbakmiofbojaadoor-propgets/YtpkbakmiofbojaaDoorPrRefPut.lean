/- The bytes of properties: the document's. -/
import Derived.Test.YtpkbakmiofbojaaDoorPrPutAll
namespace Go.Proofs.YtpkbakmiofbojaaDoor
open Go.RowKit

set_option maxHeartbeats 1000000 in
theorem twice_any (A : Option Addr) (cap : Nat) (l : List Pr) (k : Nat) (id : Int) (w : World) (hl : l.length ≤ 1000) (hk : k ≤ l.length) (h : Props w A l) :
    Calls Tryd.prog 21 #[.slice A l.length cap, .int .i64 k, .int .i64 id] w fun e w' => e = .returned (.bool (PR.dup (l.take k) id)) ∧ w = w' := by
  by_cases h38 : (id == 38) = true
  · have hid : id = 38 := by simpa using h38
    subst hid
    rw [dup_38]
    clear h
    go_enter Tryd.func21, Tryd.ntmps21
    go_wp2
    go_ret
    exact ⟨rfl, rfl⟩
  · have h38' : (id == 38) = false := by simpa using h38
    rw [dup_ix h38']
    have H := Lib.hid h
    have hkl : (l.take k).length = k := by simp; omega
    have Hkl := Lib.hid hkl
    clear h h38 hkl
    go_enter Tryd.func21, Tryd.ntmps21
    go_wp2
    go_loop [7] (fun i => ∃ j : Nat, i = .int .i64 j ∧ j ≤ k ∧ Hid (ix id j ((l.take k).drop j) = ix id 0 (l.take k))) (fun i => k - (intOf i).toNat)
    case atStart => exact ⟨0, rfl, by omega, Lib.hid rfl⟩
    case round =>
      obtain ⟨j, rfl, hj, hj1⟩ := hrel
      by_cases hlt : j < k
      · obtain ⟨p, hp⟩ : ∃ p, l[j]? = some p := ⟨l[j]'(by omega), List.getElem?_eq_getElem _⟩
        have hp2 : (l.take k)[j]? = some p := by rw [List.getElem?_take, if_pos hlt]; exact hp
        obtain ⟨g, o, rfl, hg, r0, r1, r2, r3⟩ := H.out j p hp
        have i0 : (0 : Int) ≤ (j : Int) := by omega
        have i1 : (j : Int) < (l.length : Int) := by omega
        have i2 : (j : Int) < (k : Int) := by omega
        by_cases he : (p.id == id) = true
        · have E1 : Hid (decide (0 ≤ ix id 0 (l.take k)) = true) := Lib.hid (by rw [← hj1.out, ix_yes hp2 he]; simp)
          clear hp hp2 r1 r2 r3
          go_wp2
          go_ret
          exact ⟨by rw [E1.out]; rfl, rfl⟩
        · have he' : (p.id == id) = false := by simpa using he
          have E1 := Lib.hid (ix_no hp2 he')
          clear hp hp2 he r1 r2 r3
          go_wp2
          go_round
          case rel => exact ⟨j + 1, by go_num, by omega, Lib.hid (by rw [← E1.out]; exact hj1.out)⟩
          case measure => simp [intOf]; omega
      · have hjk : j = k := by omega
        subst hjk
        have E1 : Hid (decide (0 ≤ ix id 0 (l.take j)) = false) := Lib.hid (by
          have h1 := hj1.out
          have h2 := ix_end id (l.take j)
          rw [Hkl.out] at h2
          rw [← h1, h2]; rfl)
        go_wp2
        go_ret
        exact ⟨by rw [E1.out]; rfl, rfl⟩

set_option maxRecDepth 100000 in
set_option maxHeartbeats 4000000 in
theorem rvalue_any (p : Pr) (hp : Fine p) (h0 : PR.kd p.id ≠ 0) (w : World) :
    Calls Tryd.prog 22 #[.agg #[.int .i64 p.id, .int .i64 p.n, .string p.s, .string p.t]] w fun e w' => e = .returned (.tuple #[.string (PR.valS p), .int .i64 (PR.valC p)]) ∧ Below w.heap.size w w' := by
  have hbl := (Below.refl w.heap.size w).alloc (Nat.le_refl _) (.cells #[.int .i64 p.id, .int .i64 p.n, .string p.s, .string p.t] 47)
  have CK := Lib.hid (rkind_any p.id)
  have hk := kd_parts _ (PR.kd_le p.id)
  have C4 := Lib.hid (fun W => refput_any p.n W)
  have C5 : Hid (∀ W, Calls Tryd.prog 33 #[.string p.s] W fun e w' => e = .returned (.tuple #[.string (TX.dataS p.s), .int .i64 (TX.dataC p.s)]) ∧ Below W.heap.size W w') := fun W => refdata_any p.s (by have := hp.1.1; unfold maxLen; omega) W
  have C6 := Lib.hid (fun W => reftput_any p.s hp.1.1 W)
  have C7 := Lib.hid (fun W => reftput_any p.t hp.1.2 W)
  have C8 := Lib.hid (fun k W => reffixed_any k p.n hp.2.1 hp.2.2 W)
  have hvS : PR.valS p = if PR.kd p.id = 4 then strOfNums (VP.putL p.n) else if PR.kd p.id = 5 then TX.dataS p.s else if PR.kd p.id = 6 then TX.putS p.s else if PR.kd p.id = 7 then PR.pairS p.s p.t else strOfNums (VP.fixL (PR.wd (PR.kd p.id)) p.n) := rfl
  have hvC : PR.valC p = if PR.kd p.id = 4 then VP.putC p.n else if PR.kd p.id = 5 then TX.dataC p.s else if PR.kd p.id = 6 then TX.putC p.s else if PR.kd p.id = 7 then PR.pairC p.s p.t else VP.fixC (PR.wd (PR.kd p.id)) p.n := rfl
  have z1 := PR.putS_size p.s
  have z2 := PR.putS_size p.t
  obtain ⟨id, n, s, t⟩ := p
  simp only at h0 hbl CK hk C4 C5 C6 C7 C8 hvS hvC z1 z2 ⊢
  rw [hvS, hvC]
  have Hb := Lib.hid hbl
  clear hvS hvC hbl hp
  generalize PR.kd id = k at *
  rcases hk with rfl | rfl | rfl | rfl | hk
  · rw [if_pos rfl, if_pos rfl]
    generalize strOfNums (VP.putL n) = X at *
    generalize VP.putC n = Y at *
    go_enter Tryd.func22, Tryd.ntmps22
    go_wp2_with fail
    refine (CK.out _).mono ?_
    rintro e w1 ⟨rfl, b1⟩
    obtain ⟨q0, q1, q2, q3⟩ : w1.cell? ⟨w.heap.size, 0, none⟩ = some (.int .i64 id) ∧ w1.cell? ⟨w.heap.size, 1, none⟩ = some (.int .i64 n) ∧ w1.cell? ⟨w.heap.size, 2, none⟩ = some (.string s) ∧ w1.cell? ⟨w.heap.size, 3, none⟩ = some (.string t) := by
      refine ⟨?_, ?_, ?_, ?_⟩ <;> (rw [b1.cell (by simp), World.cell?_alloc_at _ _ _ _ rfl]; rfl)
    have B1 : Hid (Below w.heap.size w w1) := Hb.out.trans (b1.mono (by simp))
    have hs1 : w.heap.size < w1.heap.size := by have := b1.size; simp at this; omega
    clear b1
    go_wp2_with fail
    refine (C4.out _).mono ?_
    rintro e w2 ⟨rfl, b2⟩
    have B2 := Lib.hid b2
    clear b2
    go_wp2
    go_ret2
    exact ⟨rfl, B1.out.trans (B2.out.mono B1.out.size)⟩
  · simp only [show ((5 : Int) = 4) = False by decide, if_true, if_false]
    generalize TX.dataS s = X at *
    generalize TX.dataC s = Y at *
    go_enter Tryd.func22, Tryd.ntmps22
    go_wp2_with fail
    refine (CK.out _).mono ?_
    rintro e w1 ⟨rfl, b1⟩
    obtain ⟨q0, q1, q2, q3⟩ : w1.cell? ⟨w.heap.size, 0, none⟩ = some (.int .i64 id) ∧ w1.cell? ⟨w.heap.size, 1, none⟩ = some (.int .i64 n) ∧ w1.cell? ⟨w.heap.size, 2, none⟩ = some (.string s) ∧ w1.cell? ⟨w.heap.size, 3, none⟩ = some (.string t) := by
      refine ⟨?_, ?_, ?_, ?_⟩ <;> (rw [b1.cell (by simp), World.cell?_alloc_at _ _ _ _ rfl]; rfl)
    have B1 : Hid (Below w.heap.size w w1) := Hb.out.trans (b1.mono (by simp))
    have hs1 : w.heap.size < w1.heap.size := by have := b1.size; simp at this; omega
    clear b1
    go_wp2_with fail
    refine (C5.out _).mono ?_
    rintro e w2 ⟨rfl, b2⟩
    have B2 := Lib.hid b2
    clear b2
    go_wp2
    go_ret2
    exact ⟨rfl, B1.out.trans (B2.out.mono B1.out.size)⟩
  · simp only [show ((6 : Int) = 4) = False by decide, show ((6 : Int) = 5) = False by decide, if_true, if_false]
    generalize TX.putS s = X at *
    generalize TX.putC s = Y at *
    go_enter Tryd.func22, Tryd.ntmps22
    go_wp2_with fail
    refine (CK.out _).mono ?_
    rintro e w1 ⟨rfl, b1⟩
    obtain ⟨q0, q1, q2, q3⟩ : w1.cell? ⟨w.heap.size, 0, none⟩ = some (.int .i64 id) ∧ w1.cell? ⟨w.heap.size, 1, none⟩ = some (.int .i64 n) ∧ w1.cell? ⟨w.heap.size, 2, none⟩ = some (.string s) ∧ w1.cell? ⟨w.heap.size, 3, none⟩ = some (.string t) := by
      refine ⟨?_, ?_, ?_, ?_⟩ <;> (rw [b1.cell (by simp), World.cell?_alloc_at _ _ _ _ rfl]; rfl)
    have B1 : Hid (Below w.heap.size w w1) := Hb.out.trans (b1.mono (by simp))
    have hs1 : w.heap.size < w1.heap.size := by have := b1.size; simp at this; omega
    clear b1
    go_wp2_with fail
    refine (C6.out _).mono ?_
    rintro e w2 ⟨rfl, b2⟩
    have B2 := Lib.hid b2
    clear b2
    go_wp2
    go_ret2
    exact ⟨rfl, B1.out.trans (B2.out.mono B1.out.size)⟩
  · simp only [show ((7 : Int) = 4) = False by decide, show ((7 : Int) = 5) = False by decide, show ((7 : Int) = 6) = False by decide, if_true, if_false]
    unfold PR.pairS PR.pairC
    generalize TX.putS s = S1 at *
    generalize TX.putS t = S2 at *
    generalize TX.putC s = c1 at *
    generalize TX.putC t = c2 at *
    by_cases h1 : c1 = 0
    · subst h1
      by_cases h2 : c2 = 0
      · subst h2
        simp only [ne_eq, not_true_eq_false, if_false]
        go_enter Tryd.func22, Tryd.ntmps22
        go_wp2_with fail
        refine (CK.out _).mono ?_
        rintro e w1 ⟨rfl, b1⟩
        obtain ⟨q0, q1, q2, q3⟩ : w1.cell? ⟨w.heap.size, 0, none⟩ = some (.int .i64 id) ∧ w1.cell? ⟨w.heap.size, 1, none⟩ = some (.int .i64 n) ∧ w1.cell? ⟨w.heap.size, 2, none⟩ = some (.string s) ∧ w1.cell? ⟨w.heap.size, 3, none⟩ = some (.string t) := by
          refine ⟨?_, ?_, ?_, ?_⟩ <;> (rw [b1.cell (by simp), World.cell?_alloc_at _ _ _ _ rfl]; rfl)
        have B1 : Hid (Below w.heap.size w w1) := Hb.out.trans (b1.mono (by simp))
        have hs1 : w.heap.size < w1.heap.size := by have := b1.size; simp at this; omega
        clear b1
        go_wp2_with fail
        refine (C6.out _).mono ?_
        rintro e w2 ⟨rfl, b2⟩
        have B2 : Hid (Below w.heap.size w w2) := B1.out.trans (b2.mono B1.out.size)
        have q3 : w2.cell? ⟨w.heap.size, 3, none⟩ = some (.string t) := by rw [b2.cell (p := ⟨w.heap.size, 3, none⟩) hs1]; exact q3
        clear b2
        go_wp2_with fail
        refine (C7.out _).mono ?_
        rintro e w3 ⟨rfl, b3⟩
        have B3 : Hid (Below w.heap.size w w3) := B2.out.trans (b3.mono B2.out.size)
        clear b3
        go_wp2
        go_ret2
        exact ⟨rfl, B3.out⟩
      · have hne : (c2 != 0) = true := by rw [bne_iff_ne]; exact h2
        simp only [ne_eq, not_true_eq_false, if_false, h2, not_false_eq_true, if_true]
        clear h2
        go_enter Tryd.func22, Tryd.ntmps22
        go_wp2_with fail
        refine (CK.out _).mono ?_
        rintro e w1 ⟨rfl, b1⟩
        obtain ⟨q0, q1, q2, q3⟩ : w1.cell? ⟨w.heap.size, 0, none⟩ = some (.int .i64 id) ∧ w1.cell? ⟨w.heap.size, 1, none⟩ = some (.int .i64 n) ∧ w1.cell? ⟨w.heap.size, 2, none⟩ = some (.string s) ∧ w1.cell? ⟨w.heap.size, 3, none⟩ = some (.string t) := by
          refine ⟨?_, ?_, ?_, ?_⟩ <;> (rw [b1.cell (by simp), World.cell?_alloc_at _ _ _ _ rfl]; rfl)
        have B1 : Hid (Below w.heap.size w w1) := Hb.out.trans (b1.mono (by simp))
        have hs1 : w.heap.size < w1.heap.size := by have := b1.size; simp at this; omega
        clear b1
        go_wp2_with fail
        refine (C6.out _).mono ?_
        rintro e w2 ⟨rfl, b2⟩
        have B2 : Hid (Below w.heap.size w w2) := B1.out.trans (b2.mono B1.out.size)
        have q3 : w2.cell? ⟨w.heap.size, 3, none⟩ = some (.string t) := by rw [b2.cell (p := ⟨w.heap.size, 3, none⟩) hs1]; exact q3
        clear b2
        go_wp2_with fail
        refine (C7.out _).mono ?_
        rintro e w3 ⟨rfl, b3⟩
        have B3 : Hid (Below w.heap.size w w3) := B2.out.trans (b3.mono B2.out.size)
        clear b3
        go_wp2
        go_ret2
        exact ⟨rfl, B3.out⟩
    · have hne : (c1 != 0) = true := by rw [bne_iff_ne]; exact h1
      simp only [ne_eq, h1, not_false_eq_true, if_true]
      clear h1
      go_enter Tryd.func22, Tryd.ntmps22
      go_wp2_with fail
      refine (CK.out _).mono ?_
      rintro e w1 ⟨rfl, b1⟩
      obtain ⟨q0, q1, q2, q3⟩ : w1.cell? ⟨w.heap.size, 0, none⟩ = some (.int .i64 id) ∧ w1.cell? ⟨w.heap.size, 1, none⟩ = some (.int .i64 n) ∧ w1.cell? ⟨w.heap.size, 2, none⟩ = some (.string s) ∧ w1.cell? ⟨w.heap.size, 3, none⟩ = some (.string t) := by
        refine ⟨?_, ?_, ?_, ?_⟩ <;> (rw [b1.cell (by simp), World.cell?_alloc_at _ _ _ _ rfl]; rfl)
      have B1 : Hid (Below w.heap.size w w1) := Hb.out.trans (b1.mono (by simp))
      have hs1 : w.heap.size < w1.heap.size := by have := b1.size; simp at this; omega
      clear b1
      go_wp2_with fail
      refine (C6.out _).mono ?_
      rintro e w2 ⟨rfl, b2⟩
      have B2 : Hid (Below w.heap.size w w2) := B1.out.trans (b2.mono B1.out.size)
      clear b2
      go_wp2
      go_ret2
      exact ⟨rfl, B2.out⟩
  · have hk3 : k = 1 ∨ k = 2 ∨ k = 3 := by omega
    have C9 := Lib.hid (rwidth_any k hk3)
    rw [if_neg (by omega), if_neg (by omega), if_neg (by omega), if_neg (by omega), if_neg (by omega), if_neg (by omega), if_neg (by omega), if_neg (by omega)]
    have e4 : (k == 4) = false := by rw [beq_eq_false_iff_ne]; omega
    have e5 : (k == 5) = false := by rw [beq_eq_false_iff_ne]; omega
    have e6 : (k == 6) = false := by rw [beq_eq_false_iff_ne]; omega
    have e7 : (k == 7) = false := by rw [beq_eq_false_iff_ne]; omega
    have C8k := Lib.hid (C8.out (PR.wd k))
    clear hk hk3 h0 C4 C5 C6 C7 C8
    generalize PR.wd k = wk at *
    generalize strOfNums (VP.fixL wk n) = FS at *
    generalize VP.fixC wk n = FC at *
    go_enter Tryd.func22, Tryd.ntmps22
    go_wp2_with fail
    refine (CK.out _).mono ?_
    rintro e w1 ⟨rfl, b1⟩
    obtain ⟨q0, q1, q2, q3⟩ : w1.cell? ⟨w.heap.size, 0, none⟩ = some (.int .i64 id) ∧ w1.cell? ⟨w.heap.size, 1, none⟩ = some (.int .i64 n) ∧ w1.cell? ⟨w.heap.size, 2, none⟩ = some (.string s) ∧ w1.cell? ⟨w.heap.size, 3, none⟩ = some (.string t) := by
      refine ⟨?_, ?_, ?_, ?_⟩ <;> (rw [b1.cell (by simp), World.cell?_alloc_at _ _ _ _ rfl]; rfl)
    have B1 : Hid (Below w.heap.size w w1) := Hb.out.trans (b1.mono (by simp))
    have hs1 : w.heap.size < w1.heap.size := by have := b1.size; simp at this; omega
    clear b1
    go_wp2_with fail
    refine (C9.out _).mono ?_
    rintro e w2 ⟨rfl, rfl⟩
    go_wp2_with fail
    refine (C8k.out _).mono ?_
    rintro e w2 ⟨rfl, b2⟩
    have B2 := Lib.hid b2
    clear b2
    go_wp2
    go_ret2
    exact ⟨rfl, B1.out.trans (B2.out.mono B1.out.size)⟩

theorem zero_of {P : Prop} [Decidable P] (h : ¬ P) (a b : Int) : (if P then a else b) = b := if_neg h

set_option maxRecDepth 100000 in
set_option maxHeartbeats 4000000 in
theorem rputall_any (A : Option Addr) (cap : Nat) (l : List Pr) (w : World) (hl : l.length ≤ 100) (h : Props w A l) (hf : ∀ p ∈ l, Fine p) :
    Calls Tryd.prog 9 #[.slice A l.length cap] w fun e w' => e = .returned (.tuple #[.string (PR.putS l), .int .i64 (PR.putC l)]) ∧ Below w.heap.size w w' := by
  unfold PR.putS PR.putC
  by_cases h64 : 64 < l.length
  · rw [if_pos h64, if_pos h64]
    have i1 : (64 : Int) < (l.length : Int) := by omega
    clear h hf
    go_enter Tryd.func9, Tryd.ntmps9
    go_wp2
    go_ret2
    exact ⟨rfl, Below.refl _ _⟩
  · rw [if_neg h64, if_neg h64]
    have i1 : (l.length : Int) ≤ 64 := by omega
    obtain ⟨PS, hPS⟩ : ∃ x, x = (if PR.restC l 0 l ≠ 0 then (⟨#[]⟩ : ByteArray) else strOfNums (VP.putL (PR.allS l).size) ++ PR.allS l) := ⟨_, rfl⟩
    obtain ⟨PC, hPC⟩ : ∃ x, x = (if PR.restC l 0 l ≠ 0 then PR.restC l 0 l else 0) := ⟨_, rfl⟩
    rw [← hPS, ← hPC]
    have HPS := Lib.hid hPS
    have HPC := Lib.hid hPC
    have H := Lib.hid h
    have HF := Lib.hid hf
    clear hPS hPC h hf h64
    go_enter Tryd.func9, Tryd.ntmps9
    go_wp2
    go_loopw [4, 5] (fun s i wr => ∃ (k : Nat) (S : ByteArray), i = .int .i64 k ∧ s = .string S ∧ k ≤ l.length ∧ S.size ≤ 131078 * 64 ∧ Hid (S = PR.allS (l.take k)) ∧ Hid (PR.restC l k (l.drop k) = PR.restC l 0 l) ∧ Hid (Below w.heap.size w wr)) (fun _ i _ => l.length - (intOf i).toNat)
    case atStart => exact ⟨0, ⟨#[]⟩, rfl, rfl, by omega, Nat.zero_le _, Lib.hid rfl, Lib.hid rfl, Lib.hid (Below.refl _ _)⟩
    case round =>
      obtain ⟨k, S, rfl, rfl, hk, hS, hSe, hr1, hb⟩ := hrel
      have hsr := hb.out.size
      by_cases hlt : k < l.length
      · obtain ⟨p, hp⟩ : ∃ p, l[k]? = some p := ⟨l[k], List.getElem?_eq_getElem hlt⟩
        obtain ⟨g, o, rfl, hg, r0, r1, r2, r3⟩ := H.out k p hp
        have hfp := HF.out p (List.mem_of_getElem? hp)
        have E2 : Hid (PR.oneC (l.take k) p = 0 → PR.restC l k (l.drop k) = PR.restC l (k + 1) (l.drop (k + 1))) := fun he => PR.rest_at hp he
        have E3 : Hid (PR.oneC (l.take k) p ≠ 0 → PR.restC l k (l.drop k) = PR.oneC (l.take k) p) := fun he => PR.rest_stop hp he
        have EA : Hid (PR.allS (l.take (k + 1)) = PR.allS (l.take k) ++ (strOfNums (VP.putL p.id) ++ PR.valS p)) := Lib.hid (by rw [pr_take hp, PR.all_snoc]; rfl)
        have EC : Hid (PR.oneC (l.take k) p = if (if PR.kd p.id = 0 then (129 : Int) else if PR.dup (l.take k) p.id = true then 130 else 0) ≠ 0 then (if PR.kd p.id = 0 then (129 : Int) else if PR.dup (l.take k) p.id = true then 130 else 0) else PR.valC p) := rfl
        have CK := Lib.hid (rkind_any p.id)
        have CT : Hid (∀ W', Below w.heap.size w W' → Calls Tryd.prog 21 #[.slice (some ⟨g, o, none⟩) l.length cap, .int .i64 k, .int .i64 p.id] W' fun e w' => e = .returned (.bool (PR.dup (l.take k) p.id)) ∧ W' = w') := fun W' hW => twice_any (some ⟨g, o, none⟩) cap l k p.id W' (by omega) (by omega) (H.out.below hW)
        have CV : Hid (PR.kd p.id ≠ 0 → ∀ W', Calls Tryd.prog 22 #[.agg #[.int .i64 p.id, .int .i64 p.n, .string p.s, .string p.t]] W' fun e w' => e = .returned (.tuple #[.string (PR.valS p), .int .i64 (PR.valC p)]) ∧ Below W'.heap.size W' w') := fun h0 W' => rvalue_any p hfp h0 W'
        have CP := Lib.hid (fun W => refput_any p.id W)
        have zv := PR.valS_size p
        have zp : (strOfNums (VP.putL p.id)).size ≤ 4 := by rw [strOfNums_size]; exact PR.putL_len p.id
        have hAs := PR.allS_size (l.take (k + 1))
        have hAl : (l.take (k + 1)).length ≤ k + 1 := List.length_take_le _ _
        have hSz : S.size + (strOfNums (VP.putL p.id)).size + (PR.valS p).size ≤ 131078 * 64 := by
          have h1 := congrArg ByteArray.size EA.out
          rw [ByteArray.size_append, ByteArray.size_append, ← hSe.out] at h1
          omega
        have CELLS : Hid (∀ W', Below w.heap.size w W' → W'.cell? ⟨g, o + k * 4, none⟩ = some (.int .i64 p.id) ∧ W'.cell? ⟨g, o + k * 4 + 1, none⟩ = some (.int .i64 p.n) ∧ W'.cell? ⟨g, o + k * 4 + 2, none⟩ = some (.string p.s) ∧ W'.cell? ⟨g, o + k * 4 + 3, none⟩ = some (.string p.t)) := fun W' hW =>
          ⟨(hW.cell (p := ⟨g, _, none⟩) hg).trans r0, (hW.cell (p := ⟨g, _, none⟩) hg).trans r1, (hW.cell (p := ⟨g, _, none⟩) hg).trans r2, (hW.cell (p := ⟨g, _, none⟩) hg).trans r3⟩
        have HSe := hSe
        generalize PR.oneC (l.take k) p = oc at *
        generalize PR.valS p = VS at *
        generalize PR.valC p = VC at *
        obtain ⟨id', n', s', t'⟩ := p
        simp only at *
        generalize PR.dup (l.take k) id' = dp at *
        generalize PR.kd id' = kk at *
        generalize strOfNums (VP.putL id') = PI at *
        generalize VP.putC id' = PX at *
        obtain ⟨q0, q1, q2, q3⟩ := CELLS.out wr hb.out
        have j0 : (0 : Int) ≤ (k : Int) := by omega
        have j1 : (k : Int) < (l.length : Int) := by omega
        clear r0 r1 r2 r3 hp hfp hAs hAl
        by_cases hk0 : kk = 0
        · subst hk0
          have hoc := EC.out
          rw [if_pos rfl, if_pos (by decide)] at hoc
          have hR := Lib.hid (hr1.out.symm.trans (E3.out (by rw [hoc]; decide)))
          have Hoc := Lib.hid hoc
          clear hoc
          go_wp2_with fail
          refine (CK.out _).mono ?_
          rintro e w1 ⟨rfl, b1⟩
          have B1 := Lib.hid b1
          clear b1
          go_wp2
          go_ret2
          have f1 := HPS.out
          have f2 := HPC.out
          rw [hR.out, Hoc.out, if_pos (by decide)] at f1 f2
          exact ⟨by rw [f1, f2]; rfl, hb.out.trans (B1.out.mono hsr)⟩
        · have e0 : (kk == 0) = false := by rw [beq_eq_false_iff_ne]; exact hk0
          have CV' := Lib.hid (CV.out hk0)
          cases dp with
          | true =>
            have hoc := EC.out
            rw [if_neg hk0, if_pos rfl, if_pos (by decide)] at hoc
            have hR := Lib.hid (hr1.out.symm.trans (E3.out (by rw [hoc]; decide)))
            have Hoc := Lib.hid hoc
            clear hoc hk0 CV
            go_wp2_with fail
            refine (CK.out _).mono ?_
            rintro e w1 ⟨rfl, b1⟩
            have B1 : Hid (Below w.heap.size w w1) := hb.out.trans (b1.mono hsr)
            obtain ⟨q0, q1, q2, q3⟩ := CELLS.out w1 B1.out
            clear b1
            go_wp2_with fail
            refine (CT.out _ B1.out).mono ?_
            rintro e w2 ⟨rfl, rfl⟩
            go_wp2
            go_ret2
            have f1 := HPS.out
            have f2 := HPC.out
            rw [hR.out, Hoc.out, if_pos (by decide)] at f1 f2
            exact ⟨by rw [f1, f2]; rfl, B1.out⟩
          | false =>
            have hoc := EC.out
            rw [if_neg hk0, if_neg (by decide)] at hoc
            subst hoc
            clear hk0 CV EC
            by_cases hv0 : oc = 0
            · subst hv0
              have hR := Lib.hid ((E2.out rfl).symm.trans hr1.out)
              go_wp2_with fail
              refine (CK.out _).mono ?_
              rintro e w1 ⟨rfl, b1⟩
              have B1 : Hid (Below w.heap.size w w1) := hb.out.trans (b1.mono hsr)
              obtain ⟨q0, q1, q2, q3⟩ := CELLS.out w1 B1.out
              clear b1
              go_wp2_with fail
              refine (CT.out _ B1.out).mono ?_
              rintro e w2 ⟨rfl, rfl⟩
              go_wp2_with fail
              refine (CV'.out _).mono ?_
              rintro e w2 ⟨rfl, b2⟩
              have B2 : Hid (Below w.heap.size w w2) := B1.out.trans (b2.mono B1.out.size)
              obtain ⟨q0, q1, q2, q3⟩ := CELLS.out w2 B2.out
              clear b2
              go_wp2_with fail
              refine (CP.out _).mono ?_
              rintro e w3 ⟨rfl, b3⟩
              have B3 : Hid (Below w.heap.size w w3) := B2.out.trans (b3.mono B2.out.size)
              clear b3
              go_wp2
              go_roundw
              case rel => exact ⟨k + 1, S ++ PI ++ VS, by go_num, rfl, by omega, by rw [ByteArray.size_append, ByteArray.size_append]; exact hSz, Lib.hid (by rw [EA.out, HSe.out, ByteArray.append_assoc]), hR, B3⟩
              case measure => simp [intOf]; omega
            · have hne : (oc != 0) = true := by rw [bne_iff_ne]; exact hv0
              have hR := Lib.hid (hr1.out.symm.trans (E3.out hv0))
              have Hv0 := Lib.hid hv0
              clear hv0
              go_wp2_with fail
              refine (CK.out _).mono ?_
              rintro e w1 ⟨rfl, b1⟩
              have B1 : Hid (Below w.heap.size w w1) := hb.out.trans (b1.mono hsr)
              obtain ⟨q0, q1, q2, q3⟩ := CELLS.out w1 B1.out
              clear b1
              go_wp2_with fail
              refine (CT.out _ B1.out).mono ?_
              rintro e w2 ⟨rfl, rfl⟩
              go_wp2_with fail
              refine (CV'.out _).mono ?_
              rintro e w2 ⟨rfl, b2⟩
              have B2 : Hid (Below w.heap.size w w2) := B1.out.trans (b2.mono B1.out.size)
              clear b2
              go_wp2
              go_ret2
              have f1 := HPS.out
              have f2 := HPC.out
              rw [hR.out, if_pos Hv0.out] at f1 f2
              exact ⟨by rw [f1, f2]; rfl, B2.out⟩
      · have hkk : k = l.length := by omega
        subst hkk
        have hR : Hid (PR.restC l 0 l = 0) := Lib.hid (hr1.out.symm.trans (PR.rest_end l l))
        have hSS := hSe.out
        rw [List.take_length] at hSS
        have CP := Lib.hid (fun W => refput_any ((S.size : Nat) : Int) W)
        rw [VP.putC_in (by omega) (by omega)] at CP
        have zp : (strOfNums (VP.putL S.size)).size ≤ 4 := by rw [strOfNums_size]; exact PR.putL_len _
        have HSS := Lib.hid hSS
        clear hSS hlt
        go_wp2_with fail
        refine (CP.out _).mono ?_
        rintro e w2 ⟨rfl, b2⟩
        have B2 := Lib.hid b2
        clear b2
        go_wp2
        go_ret2
        have f1 := HPS.out
        have f2 := HPC.out
        rw [hR.out, if_neg (by decide)] at f1 f2
        rw [← HSS.out] at f1
        exact ⟨by rw [f1, f2]; rfl, hb.out.trans (B2.out.mono hsr)⟩
end Go.Proofs.YtpkbakmiofbojaaDoor
