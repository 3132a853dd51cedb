/- Reading within a part of bytes, and properties read one behind the other: told plainly. No function of the program is named here. -/
import Derived.Test.YtmommbhhffhdgaaDoorPrPut
namespace Go.Proofs.YtmommbhhffhdgaaDoor
namespace PR

/-- A place moved by f, where one was found. -/
def sh (f : Int) (x : Int × Int × Int) : Int × Int × Int := (x.1, if x.2.2 = 0 then f + x.2.1 else x.2.1, x.2.2)
def shS (f : Int) (x : ByteArray × Int × Int) : ByteArray × Int × Int := (x.1, if x.2.2 = 0 then f + x.2.1 else x.2.1, x.2.2)

section
variable {s : ByteArray} {f e : Nat}
theorem size_upto (he : e ≤ s.size) : (s.extract 0 e).size = e := by rw [ByteArray.size_extract]; omega
theorem size_part (he : e ≤ s.size) : (s.extract f e).size = e - f := by rw [ByteArray.size_extract]; omega
theorem byte_part (_he : e ≤ s.size) (j : Nat) (h1 : f + j < (s.extract 0 e).size) (h2 : j < (s.extract f e).size) : (s.extract 0 e)[f + j]'h1 = (s.extract f e)[j]'h2 := by
  rw [ByteArray.getElem_extract, ByteArray.getElem_extract]
  congr 1
  omega

theorem getG_part (hf : f ≤ e) (he : e ≤ s.size) (p : Nat) : ∀ (u i : Nat) (n : Int), VP.getG (s.extract 0 e) (f + p) u i n = sh f (VP.getG (s.extract f e) p u i n)
  | 0, i, n => rfl
  | u + 1, i, n => by
    have z1 := size_upto (s := s) he
    have z2 := size_part (f := f) (s := s) he
    unfold VP.getG
    by_cases h : p + i < (s.extract f e).size
    · have h' : f + p + i < (s.extract 0 e).size := by omega
      have hb : (s.extract 0 e)[f + p + i]'h' = (s.extract f e)[p + i]'h := by
        have := byte_part (f := f) he (p + i) (by omega) h
        rw [← this]
        congr 1
        omega
      rw [dif_pos h, dif_pos h', hb]
      by_cases hlt : (((s.extract f e)[p + i]'h).toNat : Int) < 128
      · rw [if_pos hlt, if_pos hlt]
        by_cases hz : VP.sz (n + ((s.extract f e)[p + i]'h).toNat * 128 ^ i) = i + 1
        · rw [if_pos hz, if_pos hz]
          simp only [sh, if_true]
          refine Prod.ext rfl (Prod.ext ?_ rfl)
          simp only
          omega
        · rw [if_neg hz, if_neg hz]; rfl
      · rw [if_neg hlt, if_neg hlt]; exact getG_part hf he p u (i + 1) _
    · rw [dif_neg h, dif_neg (by omega)]; rfl
theorem get_part (hf : f ≤ e) (he : e ≤ s.size) (p : Nat) (hp : p ≤ e - f) : VP.get (s.extract 0 e) ((f + p : Nat) : Int) = sh f (VP.get (s.extract f e) (p : Int)) := by
  rw [VP.get_in _ _ (by rw [size_upto he]; omega), VP.get_in _ _ (by rw [size_part he]; omega)]
  exact getG_part hf he p 4 0 0
theorem rd_part (hf : f ≤ e) (he : e ≤ s.size) (p : Nat) (hp : p ≤ e - f) (w : Int) : VP.rd (s.extract 0 e) ((f + p : Nat) : Int) w = sh f (VP.rd (s.extract f e) (p : Int) w) := by
  have z1 := size_upto (s := s) he
  have z2 := size_part (f := f) (s := s) he
  by_cases hw : VP.isW w
  · rcases hw with rfl | rfl | rfl
    · by_cases h : p < (s.extract f e).size
      · rw [VP.rd_1 _ p h, VP.rd_1 _ (f + p) (by omega), byte_part he p (by omega) h]
        simp only [sh, if_true]
        refine Prod.ext rfl (Prod.ext ?_ rfl)
        simp only; omega
      · rw [VP.rd_1few _ p (by omega) h, VP.rd_1few _ (f + p) (by omega) (by omega)]; rfl
    · by_cases h : p + 1 < (s.extract f e).size
      · rw [VP.rd_2 _ p h, VP.rd_2 _ (f + p) (by omega)]
        have b0 := byte_part (f := f) he p (by omega) (by omega)
        have b1 := byte_part (f := f) he (p + 1) (by omega) (by omega)
        simp only [← Nat.add_assoc] at b1
        rw [b0, b1]
        simp only [sh, if_true]
        refine Prod.ext rfl (Prod.ext ?_ rfl)
        simp only; omega
      · rw [VP.rd_2few _ p (by omega) h, VP.rd_2few _ (f + p) (by omega) (by omega)]; rfl
    · by_cases h : p + 3 < (s.extract f e).size
      · rw [VP.rd_4 _ p h, VP.rd_4 _ (f + p) (by omega)]
        have b0 := byte_part (f := f) he p (by omega) (by omega)
        have b1 := byte_part (f := f) he (p + 1) (by omega) (by omega)
        have b2 := byte_part (f := f) he (p + 2) (by omega) (by omega)
        have b3 := byte_part (f := f) he (p + 3) (by omega) (by omega)
        simp only [← Nat.add_assoc] at b1 b2 b3
        rw [b0, b1, b2, b3]
        simp only [sh, if_true]
        refine Prod.ext rfl (Prod.ext ?_ rfl)
        simp only; omega
      · rw [VP.rd_4few _ p (by omega) h, VP.rd_4few _ (f + p) (by omega) (by omega)]; rfl
  · rw [VP.rd_no _ _ _ hw, VP.rd_no _ _ _ hw]; rfl
theorem dat_part (hf : f ≤ e) (he : e ≤ s.size) (p : Nat) (hp : p ≤ e - f) : VP.dat (s.extract 0 e) ((f + p : Nat) : Int) = shS f (VP.dat (s.extract f e) (p : Int)) := by
  have z1 := size_upto (s := s) he
  have z2 := size_part (f := f) (s := s) he
  have h := rd_part hf he p hp 2
  by_cases hc : (VP.rd (s.extract f e) (p : Int) 2).2.2 = 0
  · obtain ⟨k, L, hk, hk2, hL, hr⟩ := VP.rd2_ok _ _ hc
    have hkp : k = p := by omega
    subst hkp
    rw [hr] at h
    have h' : VP.rd (s.extract 0 e) ((f + k : Nat) : Int) 2 = ((L : Int), ((f + k : Nat) : Int) + 2, 0) := by
      rw [h]; simp only [sh, if_true]
      refine Prod.ext rfl (Prod.ext ?_ rfl)
      simp only; omega
    by_cases hl : ((s.extract f e).size : Int) - (k + 2) < L
    · rw [VP.dat_few _ k L hr hl, VP.dat_few _ (f + k) L h' (by omega)]; rfl
    · rw [VP.dat_ok _ k L hr hl, VP.dat_ok _ (f + k) L h' (by omega)]
      simp only [shS, if_true]
      refine Prod.ext ?_ (Prod.ext ?_ rfl)
      · simp only
        rw [ByteArray.extract_extract, ByteArray.extract_extract]
        congr 1 <;> omega
      · simp only; omega
  · have hc' : ¬ (VP.rd (s.extract 0 e) ((f + p : Nat) : Int) 2).2.2 = 0 := by rw [h]; exact hc
    rw [VP.dat_bad _ _ hc, VP.dat_bad _ _ hc', h]
    simp only [shS, sh, if_neg hc]
theorem getT_part (hf : f ≤ e) (he : e ≤ s.size) (p : Nat) (hp : p ≤ e - f) : TX.getT (s.extract 0 e) ((f + p : Nat) : Int) = shS f (TX.getT (s.extract f e) (p : Int)) := by
  have h := dat_part hf he p hp
  unfold TX.getT
  generalize VP.dat (s.extract 0 e) ((f + p : Nat) : Int) = d1 at *
  generalize VP.dat (s.extract f e) (p : Int) = d at *
  subst h
  obtain ⟨x, to, c⟩ := d
  by_cases hc : c = 0
  · subst hc
    by_cases hb : TX.bad x = true <;> simp [shS, hb]
  · simp [shS, hc]
end

/-! What was found lies within. -/
theorem getG_ok (U : ByteArray) (p : Nat) : ∀ (u i : Nat) (n : Int), (VP.getG U p u i n).2.2 = 0 → ∃ q : Nat, (VP.getG U p u i n).2.1 = q ∧ p < q ∧ q ≤ U.size
  | 0, i, n, h => by rw [VP.getG_0] at h; exact absurd h (by decide)
  | u + 1, i, n, h => by
    unfold VP.getG at h ⊢
    by_cases hs : p + i < U.size
    · rw [dif_pos hs] at h ⊢
      by_cases hlt : ((U[p + i]'hs).toNat : Int) < 128
      · rw [if_pos hlt] at h ⊢
        by_cases hz : VP.sz (n + (U[p + i]'hs).toNat * 128 ^ i) = i + 1
        · rw [if_pos hz] at h ⊢
          exact ⟨p + i + 1, by simp only; omega, by omega, by omega⟩
        · rw [if_neg hz] at h; exact absurd h (by decide)
      · rw [if_neg hlt] at h ⊢
        exact getG_ok U p u (i + 1) _ h
    · rw [dif_neg hs] at h; exact absurd h (by decide)
theorem get_ok (U : ByteArray) (p : Nat) (h : (VP.get U p).2.2 = 0) : ∃ q : Nat, (VP.get U p).2.1 = q ∧ p < q ∧ q ≤ U.size := by
  by_cases hp : p ≤ U.size
  · rw [VP.get_in _ _ hp] at h ⊢; exact getG_ok U p 4 0 0 h
  · rw [VP.get_out _ _ (.inr (by omega))] at h; exact absurd h (by decide)
theorem rd_ok (U : ByteArray) (p : Nat) (w : Int) (h : (VP.rd U p w).2.2 = 0) : ∃ q : Nat, (VP.rd U p w).2.1 = q ∧ p ≤ q ∧ q ≤ U.size := by
  by_cases hp : p ≤ U.size
  · by_cases hw : VP.isW w
    · rcases hw with rfl | rfl | rfl
      · by_cases hs : p < U.size
        · rw [VP.rd_1 _ p hs]; exact ⟨p + 1, by simp, by omega, by omega⟩
        · rw [VP.rd_1few _ p hp hs] at h; exact absurd h (by decide)
      · by_cases hs : p + 1 < U.size
        · rw [VP.rd_2 _ p hs]; exact ⟨p + 2, by simp, by omega, by omega⟩
        · rw [VP.rd_2few _ p hp hs] at h; exact absurd h (by decide)
      · by_cases hs : p + 3 < U.size
        · rw [VP.rd_4 _ p hs]; exact ⟨p + 4, by simp, by omega, by omega⟩
        · rw [VP.rd_4few _ p hp hs] at h; exact absurd h (by decide)
    · rw [VP.rd_no _ _ _ hw] at h; exact absurd h (by decide)
  · rw [VP.rd_out _ _ _ (.inr (by omega))] at h; exact absurd h (by decide)
theorem dat_ok (U : ByteArray) (p : Nat) (h : (VP.dat U p).2.2 = 0) : ∃ q : Nat, (VP.dat U p).2.1 = q ∧ p ≤ q ∧ q ≤ U.size := by
  by_cases hc : (VP.rd U p 2).2.2 = 0
  · obtain ⟨k, L, hk, hk2, hL, hr⟩ := VP.rd2_ok _ _ hc
    have hkp : k = p := by omega
    subst hkp
    by_cases hl : (U.size : Int) - (k + 2) < L
    · rw [VP.dat_few _ k L hr hl] at h; exact absurd h (by decide)
    · rw [VP.dat_ok _ k L hr hl]; exact ⟨k + 2 + L, by simp, by omega, by omega⟩
  · rw [VP.dat_bad _ _ hc] at h; exact absurd h hc
theorem getT_ok (U : ByteArray) (p : Nat) (h : (TX.getT U p).2.2 = 0) : ∃ q : Nat, (TX.getT U p).2.1 = q ∧ p ≤ q ∧ q ≤ U.size := by
  have h1 := dat_ok U p
  unfold TX.getT at h ⊢
  by_cases hc : (VP.dat U p).2.2 = 0
  · rw [if_neg (by simp [hc])] at h ⊢
    by_cases hb : TX.bad (VP.dat U p).1 = true
    · rw [if_pos hb] at h; exact absurd h (by decide)
    · rw [if_neg hb]; exact h1 hc
  · rw [if_pos hc] at h; exact absurd h hc

/-! A property's value, a property, all of them. -/
def zp : Pr := ⟨0, 0, ⟨#[]⟩, ⟨#[]⟩⟩
def rdv (T : ByteArray) (p : Int) (id : Int) : Pr × Int × Int :=
  if kd id = 4 then (⟨id, (VP.get T p).1, ⟨#[]⟩, ⟨#[]⟩⟩, (VP.get T p).2.1, (VP.get T p).2.2)
  else if kd id = 5 then (⟨id, 0, (VP.dat T p).1, ⟨#[]⟩⟩, (VP.dat T p).2.1, (VP.dat T p).2.2)
  else if kd id = 6 then (⟨id, 0, (TX.getT T p).1, ⟨#[]⟩⟩, (TX.getT T p).2.1, (TX.getT T p).2.2)
  else if kd id = 7 then (if (TX.getT T p).2.2 ≠ 0 then (⟨id, 0, ⟨#[]⟩, ⟨#[]⟩⟩, 0, (TX.getT T p).2.2) else (⟨id, 0, (TX.getT T p).1, (TX.getT T (TX.getT T p).2.1).1⟩, (TX.getT T (TX.getT T p).2.1).2.1, (TX.getT T (TX.getT T p).2.1).2.2))
  else (⟨id, (VP.rd T p (wd (kd id))).1, ⟨#[]⟩, ⟨#[]⟩⟩, (VP.rd T p (wd (kd id))).2.1, (VP.rd T p (wd (kd id))).2.2)
def g1 (T : ByteArray) (p : Int) (out : List Pr) : Pr × Int × Int :=
  if 64 ≤ out.length then (zp, 0, 149) else if (VP.get T p).2.2 ≠ 0 then (zp, 0, 129) else if idC out (VP.get T p).1 ≠ 0 then (zp, 0, idC out (VP.get T p).1)
  else if (rdv T (VP.get T p).2.1 (VP.get T p).1).2.2 ≠ 0 then (zp, 0, 129) else rdv T (VP.get T p).2.1 (VP.get T p).1
def gl (U : ByteArray) : Nat → Int → List Pr → List Pr × Int
  | 0, _, _ => ([], 149)
  | u + 1, p, out => if ¬ p < (U.size : Int) then (out, 0) else if (g1 U p out).2.2 ≠ 0 then ([], (g1 U p out).2.2) else gl U u (g1 U p out).2.1 (out ++ [(g1 U p out).1])
/-- What Get answers: the properties, the place behind, the code. -/
def getL (s : ByteArray) (at_ : Int) : List Pr × Int × Int :=
  if (VP.get s at_).2.2 ≠ 0 then ([], 0, (VP.get s at_).2.2) else if (s.size : Int) - (VP.get s at_).2.1 < (VP.get s at_).1 then ([], 0, 242)
  else if (gl (s.extract (VP.get s at_).2.1.toNat ((VP.get s at_).2.1 + (VP.get s at_).1).toNat) 66 0 []).2 ≠ 0 then ([], 0, (gl (s.extract (VP.get s at_).2.1.toNat ((VP.get s at_).2.1 + (VP.get s at_).1).toNat) 66 0 []).2)
  else ((gl (s.extract (VP.get s at_).2.1.toNat ((VP.get s at_).2.1 + (VP.get s at_).1).toNat) 66 0 []).1, (VP.get s at_).2.1 + (VP.get s at_).1, 0)

def shP (f : Int) (x : Pr × Int × Int) : Pr × Int × Int := (x.1, if x.2.2 = 0 then f + x.2.1 else x.2.1, x.2.2)
theorem rdv_ok (U : ByteArray) (p : Nat) (id : Int) (h : (rdv U p id).2.2 = 0) : ∃ q : Nat, (rdv U p id).2.1 = q ∧ p ≤ q ∧ q ≤ U.size := by
  unfold rdv at h ⊢
  split
  · rename_i hk
    rw [if_pos hk] at h
    obtain ⟨q, h1, h2, h3⟩ := get_ok U p h
    exact ⟨q, h1, by omega, h3⟩
  · rename_i hk
    rw [if_neg hk] at h
    split
    · rename_i hk2
      rw [if_pos hk2] at h
      exact dat_ok U p h
    · rename_i hk2
      rw [if_neg hk2] at h
      split
      · rename_i hk3
        rw [if_pos hk3] at h
        exact getT_ok U p h
      · rename_i hk3
        rw [if_neg hk3] at h
        split
        · rename_i hk4
          rw [if_pos hk4] at h
          split
          · rename_i hc
            rw [if_pos hc] at h
            exact absurd h hc
          · rename_i hc
            rw [if_neg hc] at h
            obtain ⟨q, h1, h2, h3⟩ := getT_ok U p (by simpa using hc)
            rw [h1] at h ⊢
            obtain ⟨q', h1', h2', h3'⟩ := getT_ok U q h
            exact ⟨q', h1', by omega, h3'⟩
        · rename_i hk4
          rw [if_neg hk4] at h
          exact rd_ok U p _ h
theorem g1_ok (U : ByteArray) (p : Nat) (out : List Pr) (h : (g1 U p out).2.2 = 0) : ∃ q : Nat, (g1 U p out).2.1 = q ∧ p < q ∧ q ≤ U.size ∧ out.length < 64 := by
  unfold g1 at h ⊢
  split
  · rename_i h1; rw [if_pos h1] at h; exact absurd h (by decide)
  · rename_i h1
    rw [if_neg h1] at h
    split
    · rename_i h2; rw [if_pos h2] at h; exact absurd h (by decide)
    · rename_i h2
      rw [if_neg h2] at h
      split
      · rename_i h3; rw [if_pos h3] at h; exact absurd h h3
      · rename_i h3
        rw [if_neg h3] at h
        split
        · rename_i h4; rw [if_pos h4] at h; exact absurd h (by decide)
        · rename_i h4
          rw [if_neg h4] at h
          obtain ⟨q, g1, g2, g3⟩ := get_ok U p (by simpa using h2)
          rw [g1] at h ⊢
          obtain ⟨q', r1, r2, r3⟩ := rdv_ok U q _ h
          exact ⟨q', r1, by omega, r3, by omega⟩

section
variable {s : ByteArray} {f e : Nat}
theorem rdv_part (hf : f ≤ e) (he : e ≤ s.size) (p : Nat) (hp : p ≤ e - f) (id : Int) : rdv (s.extract 0 e) ((f + p : Nat) : Int) id = shP f (rdv (s.extract f e) (p : Int) id) := by
  have z2 := size_part (f := f) (s := s) he
  have a1 := get_part hf he p hp
  have a2 := dat_part hf he p hp
  have a3 := getT_part hf he p hp
  have a4 := fun w => rd_part hf he p hp w
  unfold rdv
  rw [a1, a2, a3, a4]
  by_cases k4 : kd id = 4
  · simp only [k4, if_true]; rfl
  · by_cases k5 : kd id = 5
    · simp only [k5, show ((5 : Int) = 4) = False by decide, if_true, if_false]; rfl
    · by_cases k6 : kd id = 6
      · simp only [k6, show ((6 : Int) = 4) = False by decide, show ((6 : Int) = 5) = False by decide, if_true, if_false]; rfl
      · by_cases k7 : kd id = 7
        · simp only [k7, show ((7 : Int) = 4) = False by decide, show ((7 : Int) = 5) = False by decide, show ((7 : Int) = 6) = False by decide, if_true, if_false]
          by_cases hc : (TX.getT (s.extract f e) (p : Int)).2.2 = 0
          · obtain ⟨q, h1, h2, h3⟩ := getT_ok _ p hc
            have a5 := getT_part hf he q (by omega)
            have e1 : (shS (f : Int) (TX.getT (s.extract f e) (p : Int))).2.1 = ((f + q : Nat) : Int) := by simp only [shS, if_pos hc, h1]; omega
            have e2 : (shS (f : Int) (TX.getT (s.extract f e) (p : Int))).2.2 = 0 := hc
            rw [e1, e2, h1, a5, hc]
            simp only [ne_eq, not_true_eq_false, if_false]
            rfl
          · have e2 : (shS (f : Int) (TX.getT (s.extract f e) (p : Int))).2.2 = (TX.getT (s.extract f e) (p : Int)).2.2 := rfl
            rw [e2]
            simp only [ne_eq, hc, not_false_eq_true, if_true, shP, if_false]
        · simp only [k4, k5, k6, k7, if_false]; rfl
theorem g1_part (hf : f ≤ e) (he : e ≤ s.size) (p : Nat) (hp : p ≤ e - f) (out : List Pr) : g1 (s.extract 0 e) ((f + p : Nat) : Int) out = shP f (g1 (s.extract f e) (p : Int) out) := by
  have z2 := size_part (f := f) (s := s) he
  have a1 := get_part hf he p hp
  unfold g1
  rw [a1]
  by_cases h1 : 64 ≤ out.length
  · rw [if_pos h1, if_pos h1]; rfl
  · rw [if_neg h1, if_neg h1]
    by_cases h2 : (VP.get (s.extract f e) (p : Int)).2.2 = 0
    · obtain ⟨q, g1, g2, g3⟩ := get_ok _ p h2
      have e1 : (sh (f : Int) (VP.get (s.extract f e) (p : Int))).2.1 = ((f + q : Nat) : Int) := by simp only [sh, if_pos h2, g1]; omega
      have e2 : (sh (f : Int) (VP.get (s.extract f e) (p : Int))).2.2 = 0 := h2
      have e3 : (sh (f : Int) (VP.get (s.extract f e) (p : Int))).1 = (VP.get (s.extract f e) (p : Int)).1 := rfl
      have a5 := rdv_part hf he q (by omega) (VP.get (s.extract f e) (p : Int)).1
      rw [e1, e2, e3, g1, h2, a5]
      generalize rdv (s.extract f e) (q : Int) (VP.get (s.extract f e) (p : Int)).1 = D
      generalize (VP.get (s.extract f e) (p : Int)).1 = id'
      obtain ⟨dp, dt, dc⟩ := D
      by_cases h3 : idC out id' = 0
      · by_cases h4 : dc = 0 <;> simp [shP, h3, h4]
      · simp [shP, h3]
    · have e2 : (sh (f : Int) (VP.get (s.extract f e) (p : Int))).2.2 = (VP.get (s.extract f e) (p : Int)).2.2 := rfl
      rw [e2, if_pos h2, if_pos h2]; rfl
end
end PR
end Go.Proofs.YtmommbhhffhdgaaDoor
