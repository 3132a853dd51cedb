/- PropCuts: the bytes of properties, cut off anywhere, are none; nor are they with one of the same identifier once more behind, but for pairs. -/
import Derived.Test.YtmommbhhffhdgaaDoorPrCutsP
import Derived.Test.YtmommbhhffhdgaaDoorPrWakes
import Derived.Test.YtmommbhhffhdgaaDoorPrProps
import Derived.Test.YtmommbhhffhdgaaDoorPrGetAll
import Derived.Test.YtmommbhhffhdgaaDoorPrMisc
import Derived.Deep.RegionLawGrows
import Derived.IntWalk
import Derived.OpenShut
namespace Go.Proofs.YtmommbhhffhdgaaDoor
open Go.RowKit Go.WideShapes Go.ChangeShapes
attribute [local go_sem ↓] Go.wp_at_zero Go.wp_at_succ

namespace PR
theorem putS_pos {l : List Pr} (h : putC l = 0) : 0 < (putS l).size := by
  obtain ⟨hl, _, he⟩ := putS_is h
  have hz := allS_size l
  have hn : ((allS l).size : Int) ≤ 268435455 := by omega
  have h1 := VP.putL_len (n := ((allS l).size : Int)) (by omega) hn
  have h2 := VP.sz_in (m := ((allS l).size : Int)) (by omega) hn
  rw [he, ByteArray.size_append, strOfNums_size]
  omega
theorem putS_size8 (l : List Pr) : (putS l).size ≤ 8388996 := by
  unfold putS
  split
  · exact Nat.zero_le _
  · split
    · exact Nat.zero_le _
    · rw [ByteArray.size_append, strOfNums_size]
      have := putL_len (allS l).size; have := allS_size l
      omega
end PR
/-- Four cells of a block, from a place on. -/
def S4o (b o : Nat) (a0 a1 a2 a3 : Value) (w : World) : Prop := w.cell? ⟨b, o, none⟩ = some a0 ∧ w.cell? ⟨b, o + 1, none⟩ = some a1 ∧ w.cell? ⟨b, o + 2, none⟩ = some a2 ∧ w.cell? ⟨b, o + 3, none⟩ = some a3
theorem S4o.below {b o : Nat} {a0 a1 a2 a3 : Value} {w w' : World} (h : S4o b o a0 a1 a2 a3 w) (hb : b < w.heap.size) (hB : Below w.heap.size w w') : S4o b o a0 a1 a2 a3 w' :=
  ⟨(hB.cell (p := ⟨b, _, none⟩) hb).trans h.1, (hB.cell (p := ⟨b, _, none⟩) hb).trans h.2.1, (hB.cell (p := ⟨b, _, none⟩) hb).trans h.2.2.1, (hB.cell (p := ⟨b, _, none⟩) hb).trans h.2.2.2⟩
theorem below_grown {w w' : World} (h : w.grownBy w' none) : Below w.heap.size w w' := (Below.refl w.heap.size w).grown h (Nat.le_refl _) (fun k hk => by cases hk)
theorem own_at {w : World} {B : Nat} {t : TypeId} {A : Option Addr} {n cap : Nat} {l : List Value} (h : w.ownsRow B t 4 (.slice A n cap) n l) : ∀ b, A = some b → ∀ (j : Nat) u, l[j]? = some u → w.cell? (b.add j) = some u := fun b hb j u hu => by
  rcases h.2 with ⟨hx, hn⟩ | ⟨g, c, cur, hx, _⟩
  · injection hx with hx; rw [hx] at hb; cases hb
  · injection hx with hx; rw [hx] at hb; injection hb with hb; subst hb; subst hx; exact h.cells (g := g) rfl j u hu

set_option maxRecDepth 100000 in
set_option maxHeartbeats 8000000 in
theorem propCuts_walk (w : World) (A : Option Addr) (cap : Nat) (l : List Pr) (hl : l.length ≤ maxLen) (h : Props w A l) (hc : l.length ≤ cap) (hz : ∀ p ∈ l, p.s.size ≤ 140737488351232 ∧ p.t.size ≤ 140737488351232) (hw : ∀ p ∈ l, (Lit.int .i64 p.id).wf = true ∧ (Lit.int .i64 p.n).wf = true)
    (cut : Int) (hcut : (Lit.int .i64 cut).wf = true) (hT : Tabs w) :
    Calls Tryd.prog 6 #[.slice A l.length cap, .int .i64 cut] w fun e w' => e = .returned (.bool true) ∧ Below w.heap.size w w' := by
  have C1 := Lib.hid (props_any A cap l hl w h hc)
  have HF : Hid (∀ p ∈ l.take 80, Fine p) := Lib.hid (fun p hp => ⟨hz p (List.mem_of_mem_take hp), wf_i64 (hw p (List.mem_of_mem_take hp)).2⟩)
  have HT := Lib.hid hT
  have hL : (l.take 80).length ≤ 80 := List.length_take_le _ _
  have hPC := putC_le (l.take 80)
  have hcu := wf_i64 hcut
  have C6 : Hid (∀ (A : Option Addr) (cap B : Nat) (L : List Pr) W', Below w.heap.size w W' → W'.ownsRow B 39 4 (.slice A L.length cap) L.length (flatP L) → L.length ≤ 100 → (∀ p ∈ L, Fine p) → Calls Tryd.prog 8 #[.slice A L.length cap] W' fun e w' => e = .returned (.tuple #[.string (PR.putS L), .int .u8 (PR.putC L)]) ∧ Below W'.heap.size W' w') := fun A cap B L W' hW ho hL hf =>
    putall_any A cap L W' hL (own_cap ho) (own_capmax ho) (own_props ho) hf (HT.out.below hW)
  have K4 : Hid (∀ W', Below w.heap.size w W' → Calls Tryd.prog 10 #[] W' fun e w' => e = .returned (.bool true) ∧ Below W'.heap.size W' w') := fun W' hW => wakes_any W' (HT.out.below hW)
  have C5 : Hid (PR.putC (l.take 80) = 0 → ∀ k, k < (PR.putS (l.take 80)).size → ∃ x : List Pr × Int, ∀ W', Below w.heap.size w W' → Calls Tryd.prog 11 #[.string ((PR.putS (l.take 80)).extract 0 k), .int .i64 0] W' (GetP .u8 39 W' (x.1, x.2, 242))) := fun hP k hk => by
    refine ⟨((PR.getL ((PR.putS (l.take 80)).extract 0 k) 0).1, (PR.getL ((PR.putS (l.take 80)).extract 0 k) 0).2.1), fun W' hW => ?_⟩
    have h1 := getall_any ((PR.putS (l.take 80)).extract 0 k) 0 (by have := PR.putS_size8 (l.take 80); rw [ByteArray.size_extract]; omega) W' (HT.out.below hW)
    have h2 := PR.get_cut hP k hk
    generalize PR.getL ((PR.putS (l.take 80)).extract 0 k) 0 = G at *
    obtain ⟨M, nx, gc⟩ := G
    simp only at h2 h1 ⊢
    subst h2
    exact h1
  have HA : Hid (PR.putC (l.take 80) = 0 → (l.take 80).length < 64 → ∀ q, (l.take 80)[(l.take 80).length - 1]? = some q → PR.putC (l.take 80 ++ [q]) = if q.id = 38 then 0 else 130) := fun h1 h2 q hq => PR.put_again h1 h2 hq
  have HP : Hid (PR.putC (l.take 80) = 0 → 0 < (PR.putS (l.take 80)).size) := PR.putS_pos
  clear h hz hw hT HT hcut
  go_enter Tryd.func6, Tryd.ntmps6
  go_wp2_with fail
  refine C1.out.mono ?_
  rintro e w1 ⟨va, vb, rfl, hrows, b1⟩
  obtain ⟨A1, c1, rfl⟩ := own_form hrows.1
  obtain ⟨A2, c2, rfl⟩ := own_form hrows.2
  have B1 := Lib.hid b1
  have O1 := Lib.hid hrows.1
  have K2 := Lib.hid (C6.out A1 c1 _ (l.take 80) w1 b1 hrows.1 (by omega) HF.out)
  clear b1 C1 hrows
  generalize l.take 80 = L at *
  generalize PR.putS L = PS at *
  generalize PR.putC L = PC at *
  go_wp2_with fail
  refine K2.out.mono ?_
  rintro e w2 ⟨rfl, b2⟩
  have O2 : Hid (w2.ownsRow w.heap.size 39 4 (.slice A1 L.length c1) L.length (flatP L)) := own_below O1.out b2
  have B02 : Hid (Below w.heap.size w w2) := B1.out.trans (b2.mono B1.out.size)
  clear b2 K2 B1 O1
  go_wp2_with fail
  refine (K4.out _ B02.out).mono ?_
  rintro e w3 ⟨rfl, b3⟩
  have O3 : Hid (w3.ownsRow w.heap.size 39 4 (.slice A1 L.length c1) L.length (flatP L)) := own_below O2.out b3
  have B03 : Hid (Below w.heap.size w w3) := B02.out.trans (b3.mono B02.out.size)
  clear b3 B02 O2
  by_cases hP : PC = 0
  · subst hP
    have hps := HP.out rfl
    obtain ⟨kn, hk0, hk1⟩ : ∃ k : Nat, max 0 cut % (PS.size : Int) = (k : Int) ∧ k < PS.size := by
      have h1 := Int.emod_nonneg (max 0 cut) (show (PS.size : Int) ≠ 0 by omega)
      have h2 := Int.emod_lt_of_pos (max 0 cut) (show (0 : Int) < (PS.size : Int) by omega)
      exact ⟨(max 0 cut % (PS.size : Int)).toNat, by omega, by omega⟩
    obtain ⟨⟨M, nx⟩, hx⟩ := C5.out rfl kn hk1
    have CG := Lib.hid hx
    unfold GetP at CG
    simp only at CG
    have hz0 : ((PS.size : Int) == 0) = false := by rw [beq_eq_false_iff_ne]; omega
    have hz1 : (0 : Int) ≤ max 0 cut := by omega
    have hsl : ∀ W, (Instr.slice 9 (.string PS) none (some (.int .i64 (max 0 cut % (PS.size : Int)))) none).run Tryd.prog W = .ok (.string (PS.extract 0 kn)) W := by
      intro W; rw [hk0]; exact slice_upto PS kn (by omega) W
    clear hk0 hx C5 HP
    go_wp2_with fail
    refine (CG.out _ B03.out).mono ?_
    rintro e w4 ⟨v4, rfl, _, b4⟩
    have O4 : Hid (w4.ownsRow w.heap.size 39 4 (.slice A1 L.length c1) L.length (flatP L)) := own_below O3.out b4
    have B04 : Hid (Below w.heap.size w w4) := B03.out.trans (b4.mono B03.out.size)
    clear b4 CG O3 B03 hsl
    by_cases hL0 : L.length = 0
    · have hd : ((L.length : Int) == 0) = true := by rw [hL0]; rfl
      clear hL0
      go_wp2
      go_ret
      exact ⟨rfl, B04.out⟩
    · have hd : ((L.length : Int) == 0) = false := by rw [beq_eq_false_iff_ne]; omega
      by_cases hL64 : 64 ≤ L.length
      · have hd2 : (64 : Int) ≤ (L.length : Int) := by omega
        go_wp2
        go_ret
        exact ⟨rfl, B04.out⟩
      · have hd2 : ¬ (64 : Int) ≤ (L.length : Int) := by omega
        obtain ⟨m, hm⟩ : ∃ m, L.length = m + 1 := ⟨L.length - 1, by omega⟩
        obtain ⟨q, hq⟩ : ∃ q, L[m]? = some q := ⟨L[m]'(by omega), List.getElem?_eq_getElem _⟩
        have hpa := HA.out trivial (by omega) q (by rw [hm]; exact hq)
        have hfq : ∀ p ∈ L ++ [q], Fine p := fun p hp => by
          rcases List.mem_append.1 hp with h | h
          · exact HF.out p h
          · rw [List.mem_singleton.1 h]; exact HF.out q (List.mem_of_getElem? hq)
        obtain ⟨pc2, hpc2⟩ : ∃ c : Int, (if q.id = 38 then 0 else 130) = c := ⟨_, rfl⟩
        rw [hpc2] at hpa
        have CP : Hid (∀ (A : Option Addr) (cap B : Nat) W', Below w.heap.size w W' → W'.ownsRow B 39 4 (.slice A (m + 1 + 1) cap) (m + 1 + 1) (flatP L ++ [.int .i64 q.id, .int .i64 q.n, .string q.s, .string q.t]) → Calls Tryd.prog 8 #[.slice A (m + 1 + 1) cap] W' fun e w' => e = .returned (.tuple #[.string (PR.putS (L ++ [q])),  .int .u8 pc2]) ∧ Below W'.heap.size W' w') := fun A cap B W' hW ho => by
          have h1 : (L ++ [q]).length = m + 1 + 1 := by rw [List.length_append, hm, List.length_singleton]
          have h2 := C6.out A cap B (L ++ [q]) W' hW (by rw [h1, flatP_snoc]; exact ho) (by omega) hfq
          rwa [h1, hpa] at h2
        have HLn : Hid ((flatP L).length = (m + 1) * 4) := Lib.hid (by rw [flatP_len, hm])
        obtain ⟨g, o, rfl, hg, r0, r1, r2, r3⟩ := own_props O4.out m q hq
        have hc1 := own_cap O4.out
        have hc2 := own_capmax O4.out
        generalize PR.putS (L ++ [q]) = PS2 at *
        obtain ⟨qi, qn, qs, qt⟩ := q
        simp only at r0 r1 r2 r3 CP hpc2
        have Hpc := Lib.hid hpc2
        clear hpc2
        have hS0 : S4o g (o + m * 4) (.int .i64 qi) (.int .i64 qn) (.string qs) (.string qt) w4 := ⟨r0, r1, r2, r3⟩
        rw [hm] at O4 hc1 ⊢
        clear hd hd2
        have hd : ((m : Int) + 1 == 0) = false := by rw [beq_eq_false_iff_ne]; omega
        have hd2 : ¬ (64 : Int) ≤ (m : Int) + 1 := by omega
        have Hm := Lib.hid hm
        have i0 : (0 : Int) ≤ (m : Int) := by omega
        have i1 : (m : Int) < (m : Int) + 1 := by omega
        have i2 : (m : Int) + 1 ≤ (c1 : Int) := by omega
        have i3 : (0 : Int) ≤ (m : Int) + 1 := by omega
        have i4 : IntKind.i64.wrap (m : Int) = (m : Int) := IntWalk.i64_in _ (by omega)
        obtain ⟨iP, hiP, hP0, hP1, hP2⟩ := info_parts ppInfo
        have HS0 := Lib.hid hS0
        clear HA C6 HF hpa hfq hq K4 hL0 hL64 hm
        go_wp2_with fail
        go_region_held3 (fun w' => w'.cell? ⟨g, o + m * 4, none⟩ = some (.int .i64 qi) ∧ w'.cell? ⟨g, o + m * 4 + 1, none⟩ = some (.int .i64 qn) ∧ w'.cell? ⟨g, o + m * 4 + 2, none⟩ = some (.string qs) ∧ w'.cell? ⟨g, o + m * 4 + 3, none⟩ = some (.string qt))
          (first
            | exact hS6
            | exact hS5
            | exact HS0.out
            | exact HS0.out.below hg (((Below.refl w4.heap.size w4).alloc (Nat.le_refl _) _).drew)
            | exact HS0.out.below hg ((Below.refl w4.heap.size w4).alloc (Nat.le_refl _) _))
          (first
            | (refine step_append_grows (by rfl) (.tmp 68) (.tmp 75) _ (by rfl) 39 iP _ 4 48 Tryd.underlying23 hiP hP0 hP1 hP2 rfl (by omega) (some ⟨g, o, none⟩) (m + 1) (m + 1) (flatP L) (by rfl) (fun h => by cases h) HLn.out (own_at (own_below O4.out ((Below.refl w4.heap.size w4).alloc (Nat.le_refl _) _).drew)) _ 1 1 [.int .i64 qi, .int .i64 qn, .string qs, .string qt] (by rfl) (by rfl) (World.news_of_block (cs := #[.int .i64 qi, .int .i64 qn, .string qs, .string qt]) (t := 39) (fr := (0, 0)) (heap_alloc_at (by first | rfl | omega | (simp; done)))) (by simp [Value.oneCell']) (by omega) (by unfold maxLen; omega) (by omega) ?_
               intro v5 w5 hown5 hgr5
               have hS5 : S4o g (o + m * 4) (.int .i64 qi) (.int .i64 qn) (.string qs) (.string qt) w5 := (HS0.out.below hg (((Below.refl w4.heap.size w4).alloc (Nat.le_refl _) _).drew)).below (by first | (simp; omega) | (show g < w4.heap.size + 1; omega)) (below_grown hgr5)
               have hb5 : Below w4.heap.size w4 w5 := (((Below.refl w4.heap.size w4).alloc (Nat.le_refl _) _).drew).trans ((below_grown hgr5).mono (by first | (simp; done) | (simp; omega) | (show w4.heap.size ≤ w4.heap.size + 1; omega)))
               obtain ⟨A5, c5, rfl⟩ := own_form hown5)
            | (go_at_call 8
               refine (CP.out _ _ _ _ (B04.out.trans (hb5.mono B04.out.size)) hown5).mono ?_
               rintro e w6 ⟨rfl, b6⟩
               have hS6 : S4o g (o + m * 4) (.int .i64 qi) (.int .i64 qn) (.string qs) (.string qt) w6 := hS5.below (by have := hb5.size; omega) b6))
        have B06 : Hid (Below w.heap.size w w6) := (B04.out.trans (hb5.mono B04.out.size)).trans (b6.mono ((B04.out.trans (hb5.mono B04.out.size)).size))
        have q6 := hS6.1
        clear hS6 hS5 b6 hb5 hgr5 hown5
        go_wp2
        go_ret
        refine ⟨?_, B06.out⟩
        rw [← Hpc.out]
        by_cases h38 : qi = 38
        · rw [if_pos h38, h38]; rfl
        · rw [if_neg h38]; simp [h38]
  · have hne0 : (PC != 0) = true := by rw [bne_iff_ne]; exact hP
    have HB := B03
    clear B03 C5 C6 HA HP
    go_wp2_with fail
    refine (K4.out _ HB.out).mono ?_
    rintro e w4 ⟨rfl, b4⟩
    have B04 : Hid (Below w.heap.size w w4) := HB.out.trans (b4.mono HB.out.size)
    clear b4
    go_wp2
    go_ret
    exact ⟨by simp, B04.out⟩
end Go.Proofs.YtmommbhhffhdgaaDoor
