/- Parts of packets read back from their bytes, and bytes that are read are just theirs: numbers, data, texts, properties. Told plainly: no function of the program is named here. -/
import Derived.Test.YtmommbhhffhdgaaDoorPrCutsP
namespace Go.Proofs.YtmommbhhffhdgaaDoor
namespace PR

/-- The bytes B stand in U from P on. -/
def Has (U : ByteArray) (P : Nat) (B : ByteArray) : Prop := P + B.size ≤ U.size ∧ ∀ (i : Nat) (hi : i < B.size) (hu : P + i < U.size), U[P + i]'hu = B[i]'hi

theorem ba_ext {A B : ByteArray} (hs : A.size = B.size) (h : ∀ (i : Nat) (h1 : i < A.size) (h2 : i < B.size), A[i]'h1 = B[i]'h2) : A = B := by
  apply ByteArray.ext
  apply Array.ext
  · exact hs
  · intro i h1 h2
    exact h i h1 h2

section
variable {U A B : ByteArray} {P : Nat}
theorem has_ext (h : Has U P B) : U.extract P (P + B.size) = B :=
  ba_ext (by have := h.1; rw [ByteArray.size_extract]; omega) (fun i h1 h2 => by rw [ByteArray.getElem_extract]; exact h.2 i h2 _)
theorem has_mk {q : Nat} (hpq : P ≤ q) (hq : q ≤ U.size) : Has U P (U.extract P q) :=
  ⟨by rw [ByteArray.size_extract]; omega, fun i hi hu => by rw [ByteArray.getElem_extract]⟩
theorem has_left (h : Has U P (A ++ B)) : Has U P A :=
  ⟨by have := h.1; rw [ByteArray.size_append] at this; omega, fun i hi hu => by rw [h.2 i (by rw [ByteArray.size_append]; omega) hu, ByteArray.getElem_append_left hi]⟩
theorem has_right (h : Has U P (A ++ B)) : Has U (P + A.size) B := by
  have h0 := h.1
  rw [ByteArray.size_append] at h0
  refine ⟨by omega, fun i hi hu => ?_⟩
  have h1 := h.2 (A.size + i) (by rw [ByteArray.size_append]; omega) (by omega)
  rw [ByteArray.getElem_append_right (by omega)] at h1
  simp only [Nat.add_sub_cancel_left, ← Nat.add_assoc] at h1
  exact h1
theorem has_both (ha : Has U P A) (hb : Has U (P + A.size) B) : Has U P (A ++ B) := by
  have h1 := ha.1; have h2 := hb.1
  refine ⟨by rw [ByteArray.size_append]; omega, fun i hi hu => ?_⟩
  rw [ByteArray.size_append] at hi
  by_cases h : i < A.size
  · rw [ByteArray.getElem_append_left h]; exact ha.2 i h hu
  · rw [ByteArray.getElem_append_right (by omega)]
    have h3 := hb.2 (i - A.size) (by omega) (by omega)
    have e : P + A.size + (i - A.size) = P + i := by omega
    simp only [e] at h3
    exact h3
theorem has_self (B : ByteArray) : Has B 0 B := ⟨by omega, fun i hi hu => by simp only [Nat.zero_add]⟩
theorem has_front (A B : ByteArray) : Has (A ++ B) 0 A := has_left (has_self _)
theorem has_back (A B : ByteArray) : Has (A ++ B) A.size B := by simpa using has_right (has_self (A ++ B))
theorem has_nil (h : P ≤ U.size) : Has U P ⟨#[]⟩ := ⟨h, fun i hi _ => absurd hi (Nat.not_lt_zero i)⟩
theorem has_num {xs : List Int} (h : Has U P (strOfNums xs)) (i : Nat) (hi : i < xs.length) (h0 : 0 ≤ xs[i]) (h1 : xs[i] < 256) (hu : P + i < U.size) : ((U[P + i]'hu).toNat : Int) = xs[i] := by
  rw [h.2 i (by rw [strOfNums_size]; exact hi) hu]
  exact VP.str_at xs i _ hi h0 h1
theorem num_has {xs : List Int} (hl : P + xs.length ≤ U.size) (h : ∀ (i : Nat) (hi : i < xs.length) (hu : P + i < U.size), ((U[P + i]'hu).toNat : Int) = xs[i]) : Has U P (strOfNums xs) := by
  refine ⟨by rw [strOfNums_size]; exact hl, fun i hi hu => ?_⟩
  have hi' : i < xs.length := by rw [strOfNums_size] at hi; exact hi
  have e1 := h i hi' hu
  have h2 := (U[P + i]'hu).toNat_lt
  have e2 := VP.str_at xs i hi hi' (by omega) (by omega)
  apply UInt8.toNat_inj.1
  omega

theorem get_has {n : Int} (h0 : 0 ≤ n) (h1 : n ≤ 268435455) (h : Has U P (strOfNums (VP.putL n))) : VP.get U P = (n, ((P + (strOfNums (VP.putL n)).size : Nat) : Int), 0) := by
  have hz := h.1
  have e : U.extract 0 U.size = U := by simp
  have hp := get_part (s := U) (f := P) (e := U.size) (by omega) (Nat.le_refl _) 0 (by omega)
  rw [e, Nat.add_zero] at hp
  have hb : Begins (strOfNums (VP.putL n)) (U.extract P U.size) := ⟨by rw [ByteArray.size_extract]; omega, fun j h2 h3 => by rw [ByteArray.getElem_extract]; exact (h.2 j h2 _).symm⟩
  have hg := VP.get_put h0 h1
  have hm := get_more hb (by rw [hg])
  rw [hg] at hm
  rw [show ((0 : Nat) : Int) = 0 from rfl, hm] at hp
  rw [hp, strOfNums_size]
  simp only [sh, if_true]
  refine Prod.ext rfl (Prod.ext ?_ rfl)
  simp only
  omega
theorem get_inv (hP : P ≤ U.size) (hc : (VP.get U P).2.2 = 0) : ∃ n, 0 ≤ n ∧ n ≤ 268435455 ∧ VP.get U P = (n, ((P + (strOfNums (VP.putL n)).size : Nat) : Int), 0) ∧ Has U P (strOfNums (VP.putL n)) ∧ 0 < (strOfNums (VP.putL n)).size := by
  obtain ⟨x, m, h1, h2, h3, h4, h5, h6, h7⟩ := VP.get_inv U P hP hc
  refine ⟨x, h3, h4, ?_, num_has (by omega) (fun i hi hu => h7 i hu hi), by rw [strOfNums_size]; omega⟩
  rw [h6, strOfNums_size, h5]
  refine Prod.ext rfl (Prod.ext ?_ rfl)
  simp only
  omega
theorem rd_has {w n : Int} (hc : VP.fixC w n = 0) (h : Has U P (strOfNums (VP.fixL w n))) : VP.rd U P w = (n, ((P + (strOfNums (VP.fixL w n)).size : Nat) : Int), 0) := by
  by_cases hw : VP.isW w
  · rcases hw with rfl | rfl | rfl
    · by_cases hn : n < 0 ∨ 255 < n
      · rw [(VP.fix_1out hn).2] at hc; exact absurd hc (by decide)
      · rw [(VP.fix_1 (n := n) (by omega) (by omega)).1] at h ⊢
        have hz := h.1
        rw [strOfNums_size] at hz ⊢
        simp only [List.length_cons, List.length_nil] at hz ⊢
        have b0 := has_num h 0 (by simp) (by simp; omega) (by simp; omega) (by omega)
        simp only [Nat.add_zero, List.getElem_cons_zero] at b0
        rw [VP.rd_1 U P (by omega), b0]
        refine Prod.ext rfl (Prod.ext ?_ rfl)
        simp only
        omega
    · by_cases hn : n < 0 ∨ 65535 < n
      · rw [(VP.fix_2out hn).2] at hc; exact absurd hc (by decide)
      · rw [(VP.fix_2 (n := n) (by omega) (by omega)).1] at h ⊢
        have hz := h.1
        rw [strOfNums_size] at hz ⊢
        simp only [List.length_cons, List.length_nil] at hz ⊢
        have b0 := has_num h 0 (by simp) (by simp; omega) (by simp; omega) (by omega)
        have b1 := has_num h 1 (by simp) (by simp; omega) (by simp; omega) (by omega)
        simp only [Nat.add_zero, List.getElem_cons_zero, List.getElem_cons_succ] at b0 b1
        rw [VP.rd_2 U P (by omega), b0, b1]
        refine Prod.ext ?_ (Prod.ext ?_ rfl)
        · simp only; omega
        · simp only; omega
    · by_cases hn : n < 0 ∨ 4294967295 < n
      · rw [(VP.fix_4out hn).2] at hc; exact absurd hc (by decide)
      · rw [(VP.fix_4 (n := n) (by omega) (by omega)).1] at h ⊢
        have hz := h.1
        rw [strOfNums_size] at hz ⊢
        simp only [List.length_cons, List.length_nil] at hz ⊢
        have b0 := has_num h 0 (by simp) (by simp; omega) (by simp; omega) (by omega)
        have b1 := has_num h 1 (by simp) (by simp; omega) (by simp; omega) (by omega)
        have b2 := has_num h 2 (by simp) (by simp; omega) (by simp; omega) (by omega)
        have b3 := has_num h 3 (by simp) (by simp; omega) (by simp; omega) (by omega)
        simp only [Nat.add_zero, List.getElem_cons_zero, List.getElem_cons_succ] at b0 b1 b2 b3
        rw [VP.rd_4 U P (by omega), b0, b1, b2, b3]
        refine Prod.ext ?_ (Prod.ext ?_ rfl)
        · simp only; omega
        · simp only; omega
  · rw [(VP.fix_no hw).2] at hc; exact absurd hc (by decide)
theorem rd_inv {w : Int} (hc : (VP.rd U P w).2.2 = 0) : ∃ n, VP.fixC w n = 0 ∧ VP.rd U P w = (n, ((P + (strOfNums (VP.fixL w n)).size : Nat) : Int), 0) ∧ Has U P (strOfNums (VP.fixL w n)) := by
  suffices h : VP.fixC w (VP.rd U P w).1 = 0 ∧ Has U P (strOfNums (VP.fixL w (VP.rd U P w).1)) from ⟨_, h.1, rd_has h.1 h.2, h.2⟩
  by_cases hP : P ≤ U.size
  · by_cases hw : VP.isW w
    · rcases hw with rfl | rfl | rfl
      · by_cases hs : P < U.size
        · rw [VP.rd_1 U P hs]
          have h0 := (U[P]'hs).toNat_lt
          obtain ⟨f1, f2⟩ := VP.fix_1 (n := ((U[P]'hs).toNat : Int)) (by omega) (by omega)
          simp only
          rw [f1, f2]
          refine ⟨rfl, num_has (by simp; omega) (fun i hi hu => ?_)⟩
          match i, hi with
          | 0, _ => simp
        · rw [VP.rd_1few U P hP hs] at hc; exact absurd hc (by decide)
      · by_cases hs : P + 1 < U.size
        · rw [VP.rd_2 U P hs]
          have h0 := (U[P]'(by omega)).toNat_lt
          have h1 := (U[P + 1]'hs).toNat_lt
          obtain ⟨f1, f2⟩ := VP.fix_2 (n := ((U[P]'(by omega)).toNat : Int) * 256 + (U[P + 1]'hs).toNat) (by omega) (by omega)
          simp only
          rw [f1, f2]
          refine ⟨rfl, num_has (by simp; omega) (fun i hi hu => ?_)⟩
          match i, hi with
          | 0, _ => simp only [Nat.add_zero, List.getElem_cons_zero]; omega
          | 1, _ => simp only [List.getElem_cons_succ, List.getElem_cons_zero]; omega
        · rw [VP.rd_2few U P hP hs] at hc; exact absurd hc (by decide)
      · by_cases hs : P + 3 < U.size
        · rw [VP.rd_4 U P hs]
          have h0 := (U[P]'(by omega)).toNat_lt
          have h1 := (U[P + 1]'(by omega)).toNat_lt
          have h2 := (U[P + 2]'(by omega)).toNat_lt
          have h3 := (U[P + 3]'hs).toNat_lt
          obtain ⟨f1, f2⟩ := VP.fix_4 (n := ((((U[P]'(by omega)).toNat : Int) * 256 + (U[P + 1]'(by omega)).toNat) * 256 + (U[P + 2]'(by omega)).toNat) * 256 + (U[P + 3]'hs).toNat) (by omega) (by omega)
          simp only
          rw [f1, f2]
          refine ⟨rfl, num_has (by simp; omega) (fun i hi hu => ?_)⟩
          match i, hi with
          | 0, _ => simp only [Nat.add_zero, List.getElem_cons_zero]; omega
          | 1, _ => simp only [List.getElem_cons_succ, List.getElem_cons_zero]; omega
          | 2, _ => simp only [List.getElem_cons_succ, List.getElem_cons_zero]; omega
          | 3, _ => simp only [List.getElem_cons_succ, List.getElem_cons_zero]; omega
        · rw [VP.rd_4few U P hP hs] at hc; exact absurd hc (by decide)
    · rw [VP.rd_no _ _ _ hw] at hc; exact absurd hc (by decide)
  · rw [VP.rd_out _ _ _ (.inr (by omega))] at hc; exact absurd hc (by decide)

theorem dataS_is {s : ByteArray} (hs : s.size ≤ 65535) : TX.dataS s = strOfNums (VP.fixL 2 s.size) ++ s := by
  unfold TX.dataS
  rw [if_pos hs, (VP.fix_2 (n := (s.size : Int)) (by omega) (by omega)).1]
theorem fix2_size {n : Int} (h0 : 0 ≤ n) (h1 : n ≤ 65535) : (strOfNums (VP.fixL 2 n)).size = 2 := by
  rw [(VP.fix_2 h0 h1).1, strOfNums_size]; rfl
theorem dat_has {s : ByteArray} (hs : s.size ≤ 65535) (h : Has U P (TX.dataS s)) : VP.dat U P = (s, ((P + (TX.dataS s).size : Nat) : Int), 0) := by
  rw [dataS_is hs] at h ⊢
  have hz := h.1
  have f2 := fix2_size (n := (s.size : Int)) (by omega) (by omega)
  rw [ByteArray.size_append, f2] at hz ⊢
  have hr := rd_has (VP.fix_2 (n := (s.size : Int)) (by omega) (by omega)).2 (has_left h)
  have hb := has_right h
  rw [f2] at hr hb
  have hr' : VP.rd U P 2 = ((s.size : Int), (P : Int) + 2, 0) := by rw [hr]; refine Prod.ext rfl (Prod.ext ?_ rfl); simp only; omega
  rw [VP.dat_ok U P s.size hr' (by omega), has_ext hb]
  refine Prod.ext rfl (Prod.ext ?_ rfl)
  simp only
  omega
theorem dat_inv (hc : (VP.dat U P).2.2 = 0) : ∃ s : ByteArray, s.size ≤ 65535 ∧ VP.dat U P = (s, ((P + (TX.dataS s).size : Nat) : Int), 0) ∧ Has U P (TX.dataS s) := by
  suffices h : (VP.dat U P).1.size ≤ 65535 ∧ Has U P (TX.dataS (VP.dat U P).1) from ⟨_, h.1, dat_has h.1 h.2, h.2⟩
  by_cases h2 : (VP.rd U P 2).2.2 = 0
  · obtain ⟨k, L, hk, hk2, hL, hr⟩ := VP.rd2_ok _ _ h2
    have hkp : k = P := by omega
    subst hkp
    by_cases hl : (U.size : Int) - (k + 2) < L
    · rw [VP.dat_few U k L hr hl] at hc; exact absurd hc (by decide)
    · rw [VP.dat_ok U k L hr hl]
      simp only
      have hz : (U.extract (k + 2) (k + 2 + L)).size = L := by rw [ByteArray.size_extract]; omega
      refine ⟨by omega, ?_⟩
      rw [dataS_is (by omega), hz]
      obtain ⟨n, n1, n2, n3⟩ := rd_inv h2
      have hn : n = (L : Int) := by rw [hr] at n2; injection n2 with n2; exact n2.symm
      subst hn
      refine has_both n3 ?_
      rw [fix2_size (by omega) (by omega)]
      exact has_mk (by omega) (by omega)
  · rw [VP.dat_bad _ _ h2] at hc; exact absurd hc h2
theorem getT_has {s : ByteArray} (hc : TX.putC s = 0) (h : Has U P (TX.putS s)) : TX.getT U P = (s, ((P + (TX.putS s).size : Nat) : Int), 0) := by
  unfold TX.putC at hc
  unfold TX.putS at h ⊢
  by_cases hb : TX.bad s = true
  · rw [if_pos hb] at hc; exact absurd hc (by decide)
  · rw [if_neg hb] at hc h ⊢
    have hs : s.size ≤ 65535 := by
      unfold TX.dataC at hc
      by_cases hs : s.size ≤ 65535
      · exact hs
      · rw [if_neg hs] at hc; exact absurd hc (by decide)
    have hd := dat_has hs h
    unfold TX.getT
    rw [hd]
    simp only [ne_eq, not_true_eq_false, if_false]
    rw [if_neg hb]
theorem getT_inv (hc : (TX.getT U P).2.2 = 0) : ∃ s : ByteArray, TX.putC s = 0 ∧ TX.getT U P = (s, ((P + (TX.putS s).size : Nat) : Int), 0) ∧ Has U P (TX.putS s) := by
  suffices h : TX.putC (TX.getT U P).1 = 0 ∧ Has U P (TX.putS (TX.getT U P).1) from ⟨_, h.1, getT_has h.1 h.2, h.2⟩
  unfold TX.getT at hc ⊢
  by_cases h1 : (VP.dat U P).2.2 = 0
  · rw [if_neg (by simp [h1])] at hc ⊢
    by_cases hb : TX.bad (VP.dat U P).1 = true
    · rw [if_pos hb] at hc; exact absurd hc (by decide)
    · rw [if_neg hb]
      obtain ⟨s, s1, s2, s3⟩ := dat_inv h1
      rw [s2] at hb ⊢
      simp only at hb ⊢
      unfold TX.putC TX.putS TX.dataC
      rw [if_neg hb, if_neg hb, if_pos s1]
      exact ⟨rfl, s3⟩
  · rw [if_pos h1] at hc; exact absurd hc h1
end

/-- A property with what its kind asks for alone. -/
def nrm (p : Pr) : Pr := if kd p.id = 4 then ⟨p.id, p.n, ⟨#[]⟩, ⟨#[]⟩⟩ else if kd p.id = 5 then ⟨p.id, 0, p.s, ⟨#[]⟩⟩ else if kd p.id = 6 then ⟨p.id, 0, p.s, ⟨#[]⟩⟩ else if kd p.id = 7 then ⟨p.id, 0, p.s, p.t⟩ else ⟨p.id, p.n, ⟨#[]⟩, ⟨#[]⟩⟩
theorem nrm_id (p : Pr) : (nrm p).id = p.id := by unfold nrm; repeat' split
                                                  all_goals rfl
theorem pairC_zero {s t : ByteArray} (h : pairC s t = 0) : TX.putC s = 0 ∧ TX.putC t = 0 := by
  unfold pairC at h
  by_cases h1 : TX.putC s = 0
  · rw [if_neg (by simp [h1])] at h; exact ⟨h1, h⟩
  · rw [if_pos h1] at h; exact absurd h h1
theorem pairC_both {s t : ByteArray} (h1 : TX.putC s = 0) (h2 : TX.putC t = 0) : pairC s t = 0 ∧ pairS s t = TX.putS s ++ TX.putS t := by
  unfold pairC pairS
  rw [if_neg (by simp [h1]), if_neg (by simp [h1]), if_neg (by simp [h2])]
  exact ⟨h2, rfl⟩
theorem putC_inv {n : Int} (h : VP.putC n = 0) : 0 ≤ n ∧ n ≤ 268435455 := by
  unfold VP.putC at h
  split at h
  · exact absurd h (by decide)
  · omega

section
variable {U : ByteArray} {P : Nat}
theorem rdv_has {p : Pr} (hc : valC p = 0) (h : Has U P (valS p)) : rdv U P p.id = (nrm p, ((P + (valS p).size : Nat) : Int), 0) := by
  unfold valC at hc
  unfold valS at h ⊢
  unfold rdv nrm
  by_cases k4 : kd p.id = 4
  · simp only [k4, if_true] at hc h ⊢
    obtain ⟨h0, h1⟩ := putC_inv hc
    rw [get_has h0 h1 h]
  · by_cases k5 : kd p.id = 5
    · simp only [k5, show ((5 : Int) = 4) = False by decide, if_true, if_false] at hc h ⊢
      have hs : p.s.size ≤ 65535 := by
        unfold TX.dataC at hc
        by_cases hs : p.s.size ≤ 65535
        · exact hs
        · rw [if_neg hs] at hc; exact absurd hc (by decide)
      rw [dat_has hs h]
    · by_cases k6 : kd p.id = 6
      · simp only [k6, show ((6 : Int) = 4) = False by decide, show ((6 : Int) = 5) = False by decide, if_true, if_false] at hc h ⊢
        rw [getT_has hc h]
      · by_cases k7 : kd p.id = 7
        · simp only [k7, show ((7 : Int) = 4) = False by decide, show ((7 : Int) = 5) = False by decide, show ((7 : Int) = 6) = False by decide, if_true, if_false] at hc h ⊢
          obtain ⟨c1, c2⟩ := pairC_zero hc
          rw [(pairC_both c1 c2).2] at h ⊢
          have g1 := getT_has c1 (has_left h)
          have g2 := getT_has c2 (has_right h)
          rw [g1]
          simp only [ne_eq, not_true_eq_false, if_false]
          rw [g2, ByteArray.size_append, Nat.add_assoc]
        · simp only [k4, k5, k6, k7, if_false] at hc h ⊢
          rw [rd_has hc h]
theorem rdv_inv {id : Int} (hP : P ≤ U.size) (hc : (rdv U P id).2.2 = 0) : ∃ p : Pr, p.id = id ∧ nrm p = p ∧ valC p = 0 ∧ rdv U P id = (p, ((P + (valS p).size : Nat) : Int), 0) ∧ Has U P (valS p) := by
  suffices h : ∃ p : Pr, p.id = id ∧ nrm p = p ∧ valC p = 0 ∧ Has U P (valS p) by
    obtain ⟨p, rfl, h1, h2, h3⟩ := h
    exact ⟨p, rfl, h1, h2, by rw [rdv_has h2 h3, h1], h3⟩
  unfold rdv at hc
  by_cases k4 : kd id = 4
  · simp only [k4, if_true] at hc
    obtain ⟨n, n0, n1, n2, n3, _⟩ := get_inv hP hc
    refine ⟨⟨id, n, ⟨#[]⟩, ⟨#[]⟩⟩, rfl, ?_, ?_, ?_⟩
    · unfold nrm; simp only [k4, if_true]
    · unfold valC; simp only [k4, if_true]; exact VP.putC_in n0 n1
    · unfold valS; simp only [k4, if_true]; exact n3
  · by_cases k5 : kd id = 5
    · simp only [k5, show ((5 : Int) = 4) = False by decide, if_true, if_false] at hc
      obtain ⟨s, s1, s2, s3⟩ := dat_inv hc
      refine ⟨⟨id, 0, s, ⟨#[]⟩⟩, rfl, ?_, ?_, ?_⟩
      · unfold nrm; simp only [k5, show ((5 : Int) = 4) = False by decide, if_true, if_false]
      · unfold valC; simp only [k5, show ((5 : Int) = 4) = False by decide, if_true, if_false]; unfold TX.dataC; rw [if_pos s1]
      · unfold valS; simp only [k5, show ((5 : Int) = 4) = False by decide, if_true, if_false]; exact s3
    · by_cases k6 : kd id = 6
      · simp only [k6, show ((6 : Int) = 4) = False by decide, show ((6 : Int) = 5) = False by decide, if_true, if_false] at hc
        obtain ⟨s, s1, s2, s3⟩ := getT_inv hc
        refine ⟨⟨id, 0, s, ⟨#[]⟩⟩, rfl, ?_, ?_, ?_⟩
        · unfold nrm; simp only [k6, show ((6 : Int) = 4) = False by decide, show ((6 : Int) = 5) = False by decide, if_true, if_false]
        · unfold valC; simp only [k6, show ((6 : Int) = 4) = False by decide, show ((6 : Int) = 5) = False by decide, if_true, if_false]; exact s1
        · unfold valS; simp only [k6, show ((6 : Int) = 4) = False by decide, show ((6 : Int) = 5) = False by decide, if_true, if_false]; exact s3
      · by_cases k7 : kd id = 7
        · simp only [k7, show ((7 : Int) = 4) = False by decide, show ((7 : Int) = 5) = False by decide, show ((7 : Int) = 6) = False by decide, if_true, if_false] at hc
          by_cases h1 : (TX.getT U P).2.2 = 0
          · rw [if_neg (by simp [h1])] at hc
            obtain ⟨s, s1, s2, s3⟩ := getT_inv h1
            rw [s2] at hc
            simp only at hc
            obtain ⟨t, t1, t2, t3⟩ := getT_inv hc
            obtain ⟨b1, b2⟩ := pairC_both s1 t1
            refine ⟨⟨id, 0, s, t⟩, rfl, ?_, ?_, ?_⟩
            · unfold nrm; simp only [k7, show ((7 : Int) = 4) = False by decide, show ((7 : Int) = 5) = False by decide, show ((7 : Int) = 6) = False by decide, if_true, if_false]
            · unfold valC; simp only [k7, show ((7 : Int) = 4) = False by decide, show ((7 : Int) = 5) = False by decide, show ((7 : Int) = 6) = False by decide, if_true, if_false]; exact b1
            · unfold valS; simp only [k7, show ((7 : Int) = 4) = False by decide, show ((7 : Int) = 5) = False by decide, show ((7 : Int) = 6) = False by decide, if_true, if_false]; rw [b2]; exact has_both s3 t3
          · rw [if_pos h1] at hc; exact absurd hc h1
        · simp only [k4, k5, k6, k7, if_false] at hc
          obtain ⟨n, n1, n2, n3⟩ := rd_inv hc
          refine ⟨⟨id, n, ⟨#[]⟩, ⟨#[]⟩⟩, rfl, ?_, ?_, ?_⟩
          · unfold nrm; simp only [k4, k5, k6, k7, if_false]
          · unfold valC; simp only [k4, k5, k6, k7, if_false]; exact n1
          · unfold valS; simp only [k4, k5, k6, k7, if_false]; exact n3

theorem one_zero {out : List Pr} {p : Pr} (h : oneC out p = 0) : idC out p.id = 0 ∧ valC p = 0 := by
  unfold oneC at h
  by_cases hi : idC out p.id = 0
  · rw [if_neg (by simp [hi])] at h; exact ⟨hi, h⟩
  · rw [if_pos hi] at h; exact absurd h hi
theorem one_mk {out : List Pr} {p : Pr} (h1 : idC out p.id = 0) (h2 : valC p = 0) : oneC out p = 0 := by
  unfold oneC; rw [if_neg (by simp [h1])]; exact h2
theorem idC_kd {out : List Pr} {id : Int} (h : idC out id = 0) : 0 ≤ id ∧ id ≤ 42 := by
  by_cases hr : id < 0 ∨ 42 < id
  · unfold idC at h; rw [if_pos (kd_none hr)] at h; exact absurd h (by decide)
  · omega
theorem oneS_pos {out : List Pr} {p : Pr} (h : oneC out p = 0) : 0 < (oneS p).size := by
  obtain ⟨h0, h1⟩ := idC_kd (one_zero h).1
  unfold oneS
  rw [ByteArray.size_append, strOfNums_size, VP.putL_1 h0 (by omega)]
  simp; omega
theorem g1_has {out : List Pr} {p : Pr} (hl : out.length < 64) (ho : oneC out p = 0) (h : Has U P (oneS p)) : g1 U P out = (nrm p, ((P + (oneS p).size : Nat) : Int), 0) := by
  obtain ⟨hi, hv⟩ := one_zero ho
  obtain ⟨h0, h1⟩ := idC_kd hi
  unfold oneS at h ⊢
  have hg := get_has h0 (by omega) (has_left h)
  have hr := rdv_has hv (has_right h)
  unfold g1
  rw [if_neg (by omega), hg]
  simp only [ne_eq, not_true_eq_false, if_false]
  rw [hi, hr]
  simp only [not_true_eq_false, if_false]
  rw [ByteArray.size_append, Nat.add_assoc]
theorem g1_inv {out : List Pr} (hP : P ≤ U.size) (hc : (g1 U P out).2.2 = 0) : ∃ p : Pr, nrm p = p ∧ oneC out p = 0 ∧ out.length < 64 ∧ g1 U P out = (p, ((P + (oneS p).size : Nat) : Int), 0) ∧ Has U P (oneS p) := by
  suffices h : ∃ p : Pr, nrm p = p ∧ oneC out p = 0 ∧ out.length < 64 ∧ Has U P (oneS p) by
    obtain ⟨p, h1, h2, h3, h4⟩ := h
    exact ⟨p, h1, h2, h3, by rw [g1_has h3 h2 h4, h1], h4⟩
  unfold g1 at hc
  by_cases a1 : 64 ≤ out.length
  · rw [if_pos a1] at hc; exact absurd hc (by decide)
  · rw [if_neg a1] at hc
    by_cases a2 : (VP.get U P).2.2 = 0
    · rw [if_neg (by simp [a2])] at hc
      obtain ⟨id, i0, i1, i2, i3, _⟩ := get_inv hP a2
      rw [i2] at hc
      simp only at hc
      by_cases a3 : idC out id = 0
      · rw [if_neg (by simp [a3])] at hc
        by_cases a4 : (rdv U ((P + (strOfNums (VP.putL id)).size : Nat) : Int) id).2.2 = 0
        · obtain ⟨p, rfl, p1, p2, p3, p4⟩ := rdv_inv (by have := i3.1; omega) a4
          exact ⟨p, p1, one_mk a3 p2, by omega, has_both i3 p4⟩
        · rw [if_pos a4] at hc; exact absurd hc (by decide)
      · rw [if_pos a3] at hc; exact absurd hc a3
    · rw [if_pos a2] at hc; exact absurd hc (by decide)
end

theorem ix_nrm (id : Int) : ∀ (l : List Pr) (k : Nat), ix id k (l.map nrm) = ix id k l
  | [], k => rfl
  | p :: l, k => by rw [List.map_cons, ix, ix, nrm_id, ix_nrm id l]
theorem oneC_nrm (l : List Pr) (p : Pr) : oneC (l.map nrm) p = oneC l p := by
  unfold oneC idC dup
  rw [ix_nrm]
theorem gl_has {U : ByteArray} : ∀ (r out : List Pr) (u P : Nat), Has U P (allS r) → P + (allS r).size = U.size → r.length < u → out.length + r.length ≤ 64 → (∀ (j : Nat) (p : Pr), r[j]? = some p → oneC (out ++ r.take j) p = 0) → gl U u P (out.map nrm) = ((out ++ r).map nrm, 0)
  | r, out, 0, P, _, _, h, _, _ => absurd h (Nat.not_lt_zero _)
  | [], out, u + 1, P, _, hz, _, _, _ => by
    unfold gl
    have hz' : P = U.size := hz
    rw [if_pos (by omega), List.append_nil]
  | p :: r, out, u + 1, P, h, hz, hu, hl, ho => by
    have h0 := ho 0 p rfl
    rw [List.take_zero, List.append_nil] at h0
    rw [allS] at h hz
    rw [ByteArray.size_append] at hz
    simp only [List.length_cons] at hu hl
    have hp := oneS_pos h0
    have hg := g1_has (out := out.map nrm) (by rw [List.length_map]; omega) (by rw [oneC_nrm]; exact h0) (has_left h)
    unfold gl
    rw [if_neg (by omega), hg]
    simp only [ne_eq, not_true_eq_false, if_false]
    have e : out.map nrm ++ [nrm p] = (out ++ [p]).map nrm := by simp
    rw [e]
    have ih := gl_has r (out ++ [p]) u (P + (oneS p).size) (has_right h) (by omega) (by omega) (by rw [List.length_append, List.length_singleton]; omega) (fun j q hq => by
      have := ho (j + 1) q (by simpa using hq)
      rw [List.append_assoc]
      simpa using this)
    rw [ih, List.append_assoc, List.singleton_append]
theorem gl_inv {U : ByteArray} : ∀ (u : Nat) (P : Nat) (out : List Pr), P ≤ U.size → (gl U u P out).2 = 0 → out.length ≤ 64 → out.map nrm = out → Has U 0 (allS out) → (allS out).size = P → (∀ (j : Nat) (p : Pr), out[j]? = some p → oneC (out.take j) p = 0) →
    Has U 0 (allS (gl U u P out).1) ∧ (allS (gl U u P out).1).size = U.size ∧ (gl U u P out).1.length ≤ 64 ∧ (gl U u P out).1.map nrm = (gl U u P out).1 ∧ ∀ (j : Nat) (p : Pr), (gl U u P out).1[j]? = some p → oneC ((gl U u P out).1.take j) p = 0
  | 0, P, out, _, hc, _, _, _, _, _ => absurd hc (by unfold gl; decide)
  | u + 1, P, out, hP, hc, hl, hn, hh, hz, ho => by
    unfold gl at hc ⊢
    by_cases h1 : (P : Int) < (U.size : Int)
    · rw [if_neg (by simp [h1])] at hc ⊢
      by_cases h2 : (g1 U P out).2.2 = 0
      · rw [if_neg (by simp [h2])] at hc ⊢
        obtain ⟨p, p1, p2, p3, p4, p5⟩ := g1_inv hP h2
        rw [p4] at hc ⊢
        simp only at hc ⊢
        have hs : allS (out ++ [p]) = allS out ++ oneS p := all_snoc out p
        refine gl_inv u (P + (oneS p).size) (out ++ [p]) p5.1 hc (by rw [List.length_append, List.length_singleton]; omega) (by rw [List.map_append, hn]; simp [p1]) ?_ ?_ ?_
        · rw [hs]; refine has_both hh ?_; rw [hz, Nat.zero_add]; exact p5
        · rw [hs, ByteArray.size_append, hz]
        · intro j q hq
          by_cases hj : j < out.length
          · rw [List.getElem?_append_left hj] at hq
            rw [List.take_append_of_le_length (by omega)]
            exact ho j q hq
          · rw [List.getElem?_append_right (by omega)] at hq
            have hj2 : j = out.length := by
              have := (List.getElem?_eq_some_iff.1 hq).1
              simp at this; omega
            subst hj2
            simp at hq
            subst hq
            rw [List.take_append_of_le_length (Nat.le_refl _), List.take_length]
            exact p2
      · rw [if_pos h2] at hc; exact absurd hc h2
    · rw [if_pos h1]
      exact ⟨hh, by show (allS out).size = U.size; omega, hl, hn, ho⟩

/-- Properties are read back from their bytes, with what their kinds ask for alone. -/
theorem getL_back {l : List Pr} (h : putC l = 0) : getL (putS l) 0 = (l.map nrm, ((putS l).size : Int), 0) := by
  obtain ⟨hl, hr, he⟩ := putS_is h
  have hz := allS_size l
  have ha : Has (putS l) 0 (strOfNums (VP.putL (allS l).size)) := by rw [he]; exact has_front _ _
  have hb : Has (putS l) (strOfNums (VP.putL (allS l).size)).size (allS l) := by rw [he]; exact has_back _ _
  have hg := get_has (n := ((allS l).size : Int)) (by omega) (by omega) ha
  rw [Nat.zero_add] at hg
  have hs : (putS l).size = (strOfNums (VP.putL (allS l).size)).size + (allS l).size := by rw [he, ByteArray.size_append]
  have hgl := gl_has (U := allS l) l [] 66 0 (has_self _) (by omega) (by omega) (by simpa using hl) (fun j p hp => by
    have := rest_zero l 0 hr j p hp
    simpa using this)
  rw [List.nil_append, List.map_nil] at hgl
  unfold getL
  rw [show ((0 : Nat) : Int) = 0 from rfl] at hg hgl
  rw [hg]
  simp only [ne_eq, not_true_eq_false, if_false]
  have e1 : (((strOfNums (VP.putL (allS l).size)).size : Nat) : Int).toNat = (strOfNums (VP.putL (allS l).size)).size := by omega
  have e2 : ((((strOfNums (VP.putL (allS l).size)).size : Nat) : Int) + ((allS l).size : Int)).toNat = (strOfNums (VP.putL (allS l).size)).size + (allS l).size := by omega
  rw [if_neg (by omega), e1, e2, has_ext hb, hgl]
  simp only [not_true_eq_false, if_false]
  refine Prod.ext rfl (Prod.ext ?_ rfl)
  simp only
  omega
/-- Bytes that are read are just what Put gives. -/
theorem getL_inv {s : ByteArray} (hc : (getL s 0).2.2 = 0) : ∃ n : Nat, n ≤ s.size ∧ (getL s 0).2.1 = (n : Int) ∧ putC (getL s 0).1 = 0 ∧ putS (getL s 0).1 = s.extract 0 n ∧ (getL s 0).1.map nrm = (getL s 0).1 := by
  unfold getL at hc ⊢
  by_cases h1 : (VP.get s 0).2.2 = 0
  · rw [if_neg (by simp [h1])] at hc ⊢
    obtain ⟨n, n0, n1, n2, n3, _⟩ := get_inv (U := s) (P := 0) (Nat.zero_le _) h1
    rw [show ((0 : Nat) : Int) = 0 from rfl, Nat.zero_add] at n2
    rw [n2] at hc ⊢
    simp only at hc ⊢
    obtain ⟨m, rfl⟩ := Int.eq_ofNat_of_zero_le n0
    by_cases h2 : (s.size : Int) - ((strOfNums (VP.putL (m : Int))).size : Nat) < (m : Int)
    · rw [if_pos h2] at hc; exact absurd hc (by decide)
    · rw [if_neg h2] at hc ⊢
      have e1 : (((strOfNums (VP.putL (m : Int))).size : Nat) : Int).toNat = (strOfNums (VP.putL (m : Int))).size := by omega
      have e2 : ((((strOfNums (VP.putL (m : Int))).size : Nat) : Int) + (m : Int)).toNat = (strOfNums (VP.putL (m : Int))).size + m := by omega
      rw [e1, e2] at hc ⊢
      generalize hU : s.extract (strOfNums (VP.putL (m : Int))).size ((strOfNums (VP.putL (m : Int))).size + m) = U at hc ⊢
      have hUz : U.size = m := by rw [← hU, ByteArray.size_extract]; omega
      by_cases h3 : (gl U 66 0 []).2 = 0
      · rw [if_neg (by simp [h3])]
        obtain ⟨g1, g2, g3, g4, g5⟩ := gl_inv (U := U) 66 0 [] (Nat.zero_le _) h3 (by simp) rfl (has_nil (Nat.zero_le _)) rfl (fun j p hp => by simp at hp)
        rw [show ((0 : Nat) : Int) = 0 from rfl] at g1 g2 g3 g4 g5
        have hall : allS (gl U 66 0 []).1 = U := by
          have := has_ext g1
          rw [g2, Nat.zero_add] at this
          rw [← this]
          simp
        have hrest : restC (gl U 66 0 []).1 0 (gl U 66 0 []).1 = 0 := by
          have := rest_all (L := (gl U 66 0 []).1) (gl U 66 0 []).1 [] 0 (fun j p hp => by rw [Nat.zero_add]; exact g5 j p hp)
          rw [List.append_nil] at this
          rw [this]; rfl
        refine ⟨(strOfNums (VP.putL (m : Int))).size + m, by omega, by simp only; omega, ?_, ?_, g4⟩
        · unfold putC; simp only; rw [if_neg (by omega), if_neg (by simp [hrest])]
        · unfold putS; simp only; rw [if_neg (by omega), if_neg (by simp [hrest]), hall, hUz]
          have hb : Has s 0 (strOfNums (VP.putL (m : Int)) ++ U) := by
            refine has_both n3 ?_
            rw [Nat.zero_add, ← hU]
            exact has_mk (by omega) (by omega)
          have := has_ext hb
          rw [ByteArray.size_append, hUz, Nat.zero_add] at this
          exact this.symm
      · rw [if_pos h3] at hc; exact absurd hc h3
  · rw [if_pos h1] at hc; exact absurd hc h1
end PR
end Go.Proofs.YtmommbhhffhdgaaDoor
