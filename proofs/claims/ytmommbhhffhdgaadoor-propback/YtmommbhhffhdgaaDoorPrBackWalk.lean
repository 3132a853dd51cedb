/- PropBack: properties are read back from their bytes; bytes that are read are just theirs. -/
import Derived.Test.YtmommbhhffhdgaaDoorPrBackP
import Derived.Test.YtmommbhhffhdgaaDoorPrWakes
import Derived.Test.YtmommbhhffhdgaaDoorPrProps
import Derived.Test.YtmommbhhffhdgaaDoorPrGetCode
import Derived.BigQuiet
import Derived.Test.YtmommbhhffhdgaaDoorPrMisc
import Derived.OpenShut
namespace Go.Proofs.YtmommbhhffhdgaaDoor
open Go.RowKit Go.WideShapes Go.ChangeShapes

theorem own_base {w : World} {B C : Nat} {e : TypeId} {k : Nat} {v : Value} {n : Nat} {xs : List Value} (h : w.ownsRow B e k v n xs) (hC : C ≤ B) : w.ownsRow C e k v n xs := by
  refine ⟨h.1, ?_⟩
  rcases h.2 with hn | ⟨g, cap, cur, hv, hb, rest⟩
  · exact .inl hn
  · exact .inr ⟨g, cap, cur, hv, by omega, rest⟩

namespace PR
theorem getL_none {s : ByteArray} {a : Int} (h : (getL s a).2.2 ≠ 0) : (getL s a).1 = [] := by
  unfold getL at h ⊢
  split
  · rfl
  · split
    · rfl
    · split
      · rfl
      · rename_i h1 h2 h3
        rw [if_neg h1, if_neg h2, if_neg h3] at h
        exact absurd rfl h
theorem putS_small (l : List Pr) : (putS l).size ≤ 8388996 := by
  unfold putS
  split
  · exact Nat.zero_le _
  · split
    · exact Nat.zero_le _
    · rw [ByteArray.size_append, strOfNums_size]
      have := putL_len (allS l).size; have := allS_size l
      omega
theorem putS_none {l : List Pr} (h : putC l ≠ 0) : putS l = ⟨#[]⟩ := by
  unfold putC at h
  unfold putS
  split
  · rfl
  · rename_i h1
    rw [if_neg h1] at h
    split
    · rfl
    · rename_i h2
      rw [if_neg h2] at h
      exact absurd rfl h
theorem fixC_inv {w n : Int} (h : VP.fixC w n = 0) : 0 ≤ n ∧ n ≤ 4294967295 := by
  unfold VP.fixC at h
  split at h
  · split at h
    · exact absurd h (by decide)
    · omega
  · split at h
    · split at h
      · exact absurd h (by decide)
      · omega
    · split at h
      · split at h
        · exact absurd h (by decide)
        · omega
      · exact absurd h (by decide)
theorem dataC_inv {s : ByteArray} (h : TX.dataC s = 0) : s.size ≤ 65535 := by
  unfold TX.dataC at h
  split at h
  · assumption
  · exact absurd h (by decide)
theorem tputC_inv {s : ByteArray} (h : TX.putC s = 0) : s.size ≤ 65535 := by
  unfold TX.putC at h
  split at h
  · exact absurd h (by decide)
  · exact dataC_inv h
theorem fine_nrm {p : Pr} (hn : nrm p = p) (hc : valC p = 0) : Fine p := by
  rw [← hn]
  unfold valC at hc
  unfold nrm Fine
  have e0 : (⟨#[]⟩ : ByteArray).size ≤ 140737488351232 := Nat.zero_le _
  by_cases k4 : kd p.id = 4
  · simp only [k4, if_true] at hc ⊢
    have := putC_inv hc
    exact ⟨⟨e0, e0⟩, by omega, by omega⟩
  · by_cases k5 : kd p.id = 5
    · simp only [k5, show ((5 : Int) = 4) = False by decide, if_true, if_false] at hc ⊢
      have := dataC_inv hc
      exact ⟨⟨by omega, e0⟩, by decide, by decide⟩
    · by_cases k6 : kd p.id = 6
      · simp only [k6, show ((6 : Int) = 4) = False by decide, show ((6 : Int) = 5) = False by decide, if_true, if_false] at hc ⊢
        have := tputC_inv hc
        exact ⟨⟨by omega, e0⟩, by decide, by decide⟩
      · by_cases k7 : kd p.id = 7
        · simp only [k7, show ((7 : Int) = 4) = False by decide, show ((7 : Int) = 5) = False by decide, show ((7 : Int) = 6) = False by decide, if_true, if_false] at hc ⊢
          obtain ⟨c1, c2⟩ := pairC_zero hc
          have := tputC_inv c1; have := tputC_inv c2
          exact ⟨⟨by omega, by omega⟩, by decide, by decide⟩
        · simp only [k4, k5, k6, k7, if_false] at hc ⊢
          have := fixC_inv hc
          exact ⟨⟨e0, e0⟩, by omega, by omega⟩
theorem fine_all {l : List Pr} (hc : putC l = 0) (hn : l.map nrm = l) : ∀ p ∈ l, Fine p := fun p hp => by
  obtain ⟨_, hr, _⟩ := putS_is hc
  obtain ⟨j, hj⟩ := List.getElem?_of_mem hp
  have h1 := (one_zero (rest_zero l 0 hr j p hj)).2
  have h2 : (l.map nrm)[j]? = some (nrm p) := by rw [List.getElem?_map, hj]; rfl
  rw [hn, hj] at h2
  injection h2 with h2
  exact fine_nrm h2.symm h1
theorem nrm_5 {p : Pr} (h : kd p.id = 5 ∨ kd p.id = 6) : nrm p = ⟨p.id, 0, p.s, ⟨#[]⟩⟩ := by
  unfold nrm
  rcases h with h | h <;> simp [h]
theorem nrm_7 {p : Pr} (h : kd p.id = 7) : nrm p = ⟨p.id, 0, p.s, p.t⟩ := by
  unfold nrm; simp [h]
theorem nrm_n {p : Pr} (h5 : kd p.id ≠ 5) (h6 : kd p.id ≠ 6) (h7 : kd p.id ≠ 7) : nrm p = ⟨p.id, p.n, ⟨#[]⟩, ⟨#[]⟩⟩ := by
  unfold nrm; simp [h5, h6, h7]
end PR

set_option maxRecDepth 100000 in
set_option maxHeartbeats 8000000 in
theorem propBack_walk (w : World) (A : Option Addr) (cap : Nat) (l : List Pr) (hl : l.length ≤ maxLen) (h : Props w A l) (hc : l.length ≤ cap) (hz : ∀ p ∈ l, p.s.size ≤ 140737488351232 ∧ p.t.size ≤ 140737488351232) (hw : ∀ p ∈ l, (Lit.int .i64 p.id).wf = true ∧ (Lit.int .i64 p.n).wf = true)
    (s : ByteArray) (hs : s.size ≤ 140737488351232) (hT : Tabs w) :
    Calls Tryd.prog 5 #[.slice A l.length cap, .string s] w fun e w' => e = .returned (.bool true) ∧ Below w.heap.size w w' := by
  have C1 := Lib.hid (props_any A cap l hl w h hc)
  have HF : Hid (∀ p ∈ l.take 80, Fine p) := Lib.hid (fun p hp => ⟨hz p (List.mem_of_mem_take hp), wf_i64 (hw p (List.mem_of_mem_take hp)).2⟩)
  have HT := Lib.hid hT
  have hL : (l.take 80).length ≤ 80 := List.length_take_le _ _
  have hPC := putC_le (l.take 80)
  -- the end
  have C5 : Hid (∀ W', Below w.heap.size w W' → Calls Tryd.prog 11 #[.string s, .int .i64 0] W' (GetP .u8 39 W' (PR.getL s 0))) := fun W' hW => getall_any s 0 hs W' (HT.out.below hW)
  have C6 : Hid (∀ (A : Option Addr) (cap : Nat) (L : List Pr) W', Below w.heap.size w W' → W'.ownsRow w.heap.size 39 4 (.slice A L.length cap) L.length (flatP L) → L.length ≤ 100 → (∀ p ∈ L, Fine p) → Calls Tryd.prog 8 #[.slice A L.length cap] W' fun e w' => e = .returned (.tuple #[.string (PR.putS L), .int .u8 (PR.putC L)]) ∧ Below W'.heap.size W' w') := fun A cap L W' hW ho hL hf =>
    putall_any A cap L W' hL (own_cap ho) (own_capmax ho) (own_props ho) hf (HT.out.below hW)
  clear h hz hw hT
  obtain ⟨hgc0, hgc1, hML⟩ := PR.getL_facts s 0
  have HG0 : Hid ((PR.getL s 0).2.2 = 0 → ∃ n : Nat, n ≤ s.size ∧ (PR.getL s 0).2.1 = (n : Int) ∧ (∀ p ∈ (PR.getL s 0).1, Fine p) ∧ PR.putC (PR.getL s 0).1 = 0 ∧ PR.putS (PR.getL s 0).1 = s.extract 0 n) := Lib.hid (fun h => by
    obtain ⟨n, h1, h2, h3, h4, h5⟩ := PR.getL_inv h
    exact ⟨n, h1, h2, PR.fine_all h3 h5, h3, h4⟩)
  have HG1 : Hid ((PR.getL s 0).2.2 ≠ 0 → (PR.getL s 0).1 = []) := Lib.hid PR.getL_none
  unfold GetP at C5
  generalize PR.getL s 0 = G at *
  obtain ⟨M, nx, gc⟩ := G
  simp only at hgc0 hgc1 hML HG0 HG1 C5
  have C4 : Hid (PR.putC (l.take 80) = 0 → ∀ W', Below w.heap.size w W' → Calls Tryd.prog 11 #[.string (PR.putS (l.take 80)), .int .i64 0] W' (GetP .u8 39 W' ((l.take 80).map PR.nrm, ((PR.putS (l.take 80)).size : Int), 0))) := fun hP W' hW => by
    have := getall_any (PR.putS (l.take 80)) 0 (by have := PR.putS_small (l.take 80); omega) W' (HT.out.below hW)
    rwa [PR.getL_back hP] at this
  have K4 : Hid (∀ W', Below w.heap.size w W' → Calls Tryd.prog 10 #[] W' fun e w' => e = .returned (.bool true) ∧ Below W'.heap.size W' w') := fun W' hW => wakes_any W' (HT.out.below hW)
  unfold GetP at C4
  simp only at C4
  clear HT
  go_enter Tryd.func5, Tryd.ntmps5
  go_wp2_with fail
  refine C1.out.mono ?_
  rintro e w1 ⟨va, vb, rfl, hrows, b1⟩
  obtain ⟨A1, c1, rfl⟩ := own_form hrows.1
  obtain ⟨A2, c2, rfl⟩ := own_form hrows.2
  have B1 := Lib.hid b1
  have O1 := Lib.hid hrows.1
  have K2 := Lib.hid (C6.out A1 c1 (l.take 80) w1 b1 hrows.1 (by omega) HF.out)
  clear b1 C1 hrows HF
  generalize l.take 80 = L at *
  have hPS := PR.putS_small L
  generalize PR.putS L = PS at *
  generalize PR.putC L = PC at *
  go_wp2_with fail
  refine K2.out.mono ?_
  rintro e w2 ⟨rfl, b2⟩
  have B2 := Lib.hid b2
  have B02 : Hid (Below w.heap.size w w2) := B1.out.trans (b2.mono B1.out.size)
  clear b2 K2
  go_wp2_with fail
  refine (K4.out _ B02.out).mono ?_
  rintro e w3 ⟨rfl, b3⟩
  have P1 : Hid (Props w3 A1 L) := ((own_props O1.out).below B2.out).below b3
  have B03 : Hid (Below w.heap.size w w3) := B02.out.trans (b3.mono B02.out.size)
  clear b3 B02 B2 B1 O1 K4
  by_cases hP : PC = 0
  · subst hP
    have C4' := Lib.hid (C4.out rfl _ B03.out)
    have hLn : (L.map PR.nrm).length = L.length := List.length_map _
    have PN : Hid (∀ (k : Nat) (p : Pr), L[k]? = some p → (L.map PR.nrm)[k]? = some (PR.nrm p)) := fun k p hp => by rw [List.getElem?_map, hp]; rfl
    generalize L.map PR.nrm = LN at *
    clear C4
    go_wp2_with fail
    refine C4'.out.mono ?_
    rintro e w4 ⟨v4, rfl, o4, b4⟩
    obtain ⟨A4, c4, rfl⟩ := own_form o4
    have Q1 : Hid (Props w4 A1 L) := P1.out.below b4
    have Q2 : Hid (Props w4 A4 LN) := own_props o4
    have B04 : Hid (Below w.heap.size w w4) := B03.out.trans (b4.mono B03.out.size)
    rw [hLn]
    have hnn : ((L.length : Int) != (L.length : Int)) = false := by simp
    have hn2 : ((PS.size : Int) != (PS.size : Int)) = false := by simp
    clear o4 b4 C4' hLn B03 P1
    go_wp2_with fail
    go_loopw [56] (fun i wr => ∃ k : Nat, i = .int .i64 k ∧ k ≤ L.length ∧ Hid (Below w4.heap.size w4 wr)) (fun i _ => L.length - (intOf i).toNat)
    case atStart => exact ⟨0, rfl, by omega, Lib.hid (Below.refl _ _)⟩
    case round =>
      obtain ⟨k, rfl, hk, hbr⟩ := hrel
      by_cases hlt2 : k < L.length
      · obtain ⟨p, hp⟩ : ∃ p, L[k]? = some p := ⟨L[k], List.getElem?_eq_getElem hlt2⟩
        obtain ⟨g, o, rfl, hg, r0, r1, r2, r3⟩ := Q1.out k p hp
        obtain ⟨g', o', rfl, hg', r0', r1', r2', r3'⟩ := Q2.out k (PR.nrm p) (PN.out k p hp)
        have hsr := hbr.out.size
        have q0 := (hbr.out.cell (p := ⟨g, _, none⟩) hg).trans r0
        have q1 := (hbr.out.cell (p := ⟨g, _, none⟩) hg).trans r1
        have q2 := (hbr.out.cell (p := ⟨g, _, none⟩) hg).trans r2
        have q3 := (hbr.out.cell (p := ⟨g, _, none⟩) hg).trans r3
        have q0' := (hbr.out.cell (p := ⟨g', _, none⟩) hg').trans r0'
        have q1' := (hbr.out.cell (p := ⟨g', _, none⟩) hg').trans r1'
        have q2' := (hbr.out.cell (p := ⟨g', _, none⟩) hg').trans r2'
        have q3' := (hbr.out.cell (p := ⟨g', _, none⟩) hg').trans r3'
        have i1 : (0 : Int) ≤ (k : Int) := by omega
        have i2 : (k : Int) < (L.length : Int) := by omega
        clear r0 r1 r2 r3 r0' r1' r2' r3' hp
        have hN5 := @PR.nrm_5 p
        have hN7 := @PR.nrm_7 p
        have hNn := @PR.nrm_n p
        generalize PR.nrm p = pn at *
        obtain ⟨id', n', s', t'⟩ := p
        simp only at q0 q1 q2 q3 hN5 hN7 hNn
        have KK := Lib.hid (kind_any id')
        generalize PR.kd id' = kk at *
        have hg2 : g' < wr.heap.size := by omega
        have hg3 : g' ≠ wr.heap.size := by omega
        go_wp2_with fail
        refine (KK.out _).mono ?_
        rintro e w' ⟨rfl, rfl⟩
        by_cases h56 : kk = 5 ∨ kk = 6
        · have hpn := hN5 h56
          subst hpn
          simp only at q0' q1' q2' q3'
          clear hN5 hN7 hNn KK
          rcases h56 with rfl | rfl
          all_goals
            go_wp2_with fail
            go_quiet (fail)
            go_wp2
            go_roundw
            case rel => exact ⟨k + 1, by go_num, by omega, Lib.hid ((hbr.out.alloc hsr _).trans (drewN_below _ _ _))⟩
            case measure => simp [intOf]; omega
        · by_cases h7 : kk = 7
          · have hpn := hN7 h7
            subst hpn h7
            simp only at q0' q1' q2' q3'
            clear hN5 hN7 hNn KK h56
            go_wp2_with fail
            go_quiet (fail)
            go_wp2
            go_roundw
            case rel => exact ⟨k + 1, by go_num, by omega, Lib.hid ((hbr.out.alloc hsr _).trans (drewN_below _ _ _))⟩
            case measure => simp [intOf]; omega
          · have hpn := hNn (fun h => h56 (.inl h)) (fun h => h56 (.inr h)) h7
            subst hpn
            simp only at q0' q1' q2' q3'
            have e5 : (kk == 5) = false := by rw [beq_eq_false_iff_ne]; exact fun h => h56 (.inl h)
            have e6 : (kk == 6) = false := by rw [beq_eq_false_iff_ne]; exact fun h => h56 (.inr h)
            have e7 : (kk == 7) = false := by rw [beq_eq_false_iff_ne]; exact h7
            clear hN5 hN7 hNn KK h56 h7
            go_wp2_with fail
            go_quiet (fail)
            go_wp2
            go_roundw
            case rel => exact ⟨k + 1, by go_num, by omega, Lib.hid ((hbr.out.alloc hsr _).trans (drewN_below _ _ _))⟩
            case measure => simp [intOf]; omega
      · have hkl : k = L.length := by omega
        subst hkl
        have HB : Hid (Below w.heap.size w wr) := B04.out.trans (hbr.out.mono B04.out.size)
        clear hbr
        go_wp2_with fail
        refine (C5.out _ HB.out).mono ?_
        rintro e w5 ⟨v5, rfl, o5, b5⟩
        have HB5 : Hid (Below w.heap.size w w5) := HB.out.trans (b5.mono HB.out.size)
        obtain ⟨A5, c5, rfl⟩ := own_form o5
        have O5 : Hid (w5.ownsRow w.heap.size 39 4 (.slice A5 M.length c5) M.length (flatP M)) := own_base o5 HB.out.size
        clear o5 b5 C5 HB
        by_cases hQ : gc = 0
        · subst hQ
          obtain ⟨n, hn, rfl, hF6, hp0, hps⟩ := HG0.out rfl
          have C7 := C6.out A5 c5 M w5 HB5.out O5.out (by omega) hF6
          rw [hp0, hps] at C7
          have HC7 := Lib.hid C7
          have hsl := slice_upto s n hn
          clear C7 C6 HG0 HG1 hps hp0 hF6
          generalize s.extract 0 n = SX at *
          go_wp2_with fail
          refine HC7.out.mono ?_
          rintro e w6 ⟨rfl, b6⟩
          have HB6 : Hid (Below w.heap.size w w6) := HB5.out.trans (b6.mono HB5.out.size)
          clear b6 HC7
          go_wp2
          go_ret
          exact ⟨by simp, HB6.out⟩
        · have hne : (gc != 0) = true := by rw [bne_iff_ne]; exact hQ
          obtain rfl : M = [] := HG1.out hQ
          clear hQ HG0 HG1 C6
          go_wp2
          go_ret
          exact ⟨by simp, HB5.out⟩
  · have hne0 : (PC == 0) = false := by rw [beq_eq_false_iff_ne]; exact hP
    have HB := B03
    clear C4 B03 P1
    go_wp2_with fail
    refine (C5.out _ HB.out).mono ?_
    rintro e w5 ⟨v5, rfl, o5, b5⟩
    have HB5 : Hid (Below w.heap.size w w5) := HB.out.trans (b5.mono HB.out.size)
    obtain ⟨A5, c5, rfl⟩ := own_form o5
    have O5 : Hid (w5.ownsRow w.heap.size 39 4 (.slice A5 M.length c5) M.length (flatP M)) := own_base o5 HB.out.size
    clear o5 b5 C5 HB
    by_cases hQ : gc = 0
    · subst hQ
      obtain ⟨n, hn, rfl, hF6, hp0, hps⟩ := HG0.out rfl
      have C7 := C6.out A5 c5 M w5 HB5.out O5.out (by omega) hF6
      rw [hp0, hps] at C7
      have HC7 := Lib.hid C7
      have hsl := slice_upto s n hn
      clear C7 C6 HG0 HG1 hps hp0 hF6
      generalize s.extract 0 n = SX at *
      go_wp2_with fail
      refine HC7.out.mono ?_
      rintro e w6 ⟨rfl, b6⟩
      have HB6 : Hid (Below w.heap.size w w6) := HB5.out.trans (b6.mono HB5.out.size)
      clear b6 HC7
      go_wp2
      go_ret
      exact ⟨by simp, HB6.out⟩
    · have hne : (gc != 0) = true := by rw [bne_iff_ne]; exact hQ
      obtain rfl : M = [] := HG1.out hQ
      clear hQ HG0 HG1 C6
      go_wp2
      go_ret
      exact ⟨by simp, HB5.out⟩
end Go.Proofs.YtmommbhhffhdgaaDoor
