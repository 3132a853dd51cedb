/- A packet that was read is such as Put takes.; stream.through, with whatever function it hands the packets to.; A stream's reader: a strings.Builder in a struct, that is written on behind its own String.; A stream's reader: what its builder holds, as a string.; The function that Feed hands a packet's bytes to.; PacketTwice: what is read and put is read the same again. -/
import Derived.Test.YtjajandjdclifaaGreatDoorMJ
import Derived.Test.YtjajandjdclifaaGreatDoorME
import Derived.Test.YtjajandjdclifaaGreatDoorMI
import Derived.WalkMore
import Derived.Test.YtjajandjdclifaaGreatDoorMA
import Derived.Lib.FrozenHead
namespace Go.Proofs.YtjajandjdclifaaGreatDoor
open Go.RowKit

namespace PK
theorem rdC_u8 (s : ByteArray) (a : Int) : 0 ≤ (rdC s a).1 ∧ (rdC s a).1 ≤ 255 := ⟨(rd_nn s a 1).1, rd_1le s a⟩
theorem rdSub_f (s : ByteArray) (hs : s.size ≤ 140737488351232) (a : Int) : SbFine (rdSub s a).1 := by
  have h1 := getT_le s a
  have h2 := rd_nn s (TX.getT s a).2.1 1
  have h3 := rd_1le s (TX.getT s a).2.1
  have b1 := and3 _ h2.1 h3
  have b2 := and3 ((VP.rd s (TX.getT s a).2.1 1).1 / 16) (by omega) (by omega)
  exact ⟨Nat.le_trans h1 hs, ⟨by show _ ≤ bits .and .i64 _ 3; omega, by show bits .and .i64 _ 3 ≤ _; omega⟩, ⟨by show _ ≤ bits .and .i64 _ 3; omega, by show bits .and .i64 _ 3 ≤ _; omega⟩⟩
theorem rdN_i (s : ByteArray) (a wd : Int) : I64 (rdN s a wd).1 := i64_of (rd_nn s a wd).1 (rd_nn s a wd).2
theorem rdId_i (s : ByteArray) (a : Int) : I64 (rdId s a).1 := i64_of (rd_nn s a 2).1 (rd_nn s a 2).2
theorem rdT_s (s : ByteArray) (hs : s.size ≤ 140737488351232) (a : Int) : Short (rdT s a).1 := Nat.le_trans (getT_le s a) hs
theorem rdD_s (s : ByteArray) (hs : s.size ≤ 140737488351232) (a : Int) : Short (rdD s a).1 := Nat.le_trans (dat_le s a) hs
section
variable {s : ByteArray} (hs : s.size ≤ 140737488351232)
include hs
theorem rdPass_f' (a : Int) (P : Pk) (h : PkF P) : PkF (rdPass s a P).1 := by
  unfold rdPass
  split
  · refine bnd_f h ?_
    obtain ⟨⟨k1, k2, k3, k4, k5, k6, k7, k8, k9, k10, k11, k12, k13, k14, k15, k16⟩, p1, p2⟩ := h
    exact ⟨⟨k1, k2, k3, k4, k5, k6, k7, k8, k9, k10, k11, k12, rdD_s s hs a, k14, k15, k16⟩, p1, p2⟩
  · exact h
theorem rdUser_f' (a : Int) (P : Pk) (h : PkF P) : PkF (rdUser s a P).1 := by
  unfold rdUser
  split
  · refine bnd_f h (rdPass_f' hs _ _ ?_)
    obtain ⟨⟨k1, k2, k3, k4, k5, k6, k7, k8, k9, k10, k11, k12, k13, k14, k15, k16⟩, p1, p2⟩ := h
    exact ⟨⟨k1, k2, k3, k4, k5, k6, k7, k8, k9, k10, k11, rdT_s s hs a, k13, k14, k15, k16⟩, p1, p2⟩
  · exact rdPass_f' hs _ _ h
theorem rdWill_f' (a : Int) (P : Pk) (h : PkF P) : PkF (rdWill s a P).1 := by
  unfold rdWill
  split
  · refine bnd_f h (bnd_f h (bnd_f h (rdUser_f' hs _ _ ?_)))
    obtain ⟨⟨k1, k2, k3, k4, k5, k6, k7, k8, k9, k10, k11, k12, k13, k14, k15, k16⟩, p1, p2⟩ := h
    exact ⟨⟨k1, k2, k3, k4, k5, k6, k7, k8, rdT_s s hs _, rdD_s s hs _, k11, k12, k13, k14, k15, k16⟩, p1, rdPr_f s a 0 hs⟩
  · exact rdUser_f' hs _ _ h
theorem rdConn1_f (a : Int) (P : Pk) (h : PkF P) : PkF (rdConn1 s a P).1 := by
  unfold rdConn1
  refine bnd_f h (bnd_f h (bnd_f h (rdWill_f' hs _ _ ?_)))
  obtain ⟨⟨k1, k2, k3, k4, k5, k6, k7, k8, k9, k10, k11, k12, k13, k14, k15, k16⟩, p1, p2⟩ := h
  exact ⟨⟨k1, k2, k3, k4, k5, k6, rdT_s s hs _, rdN_i s _ 2, k9, k10, k11, k12, k13, k14, k15, k16⟩, rdPr_f s _ P.kind hs, p2⟩
theorem rdConn_f (a : Int) (P : Pk) (h : PkF P) : PkF (rdConn s a P).1 := by
  unfold rdConn
  refine bnd_f h ?_
  split
  · exact h
  · refine bnd_f h ?_
    split
    · exact h
    · refine bnd_f h (rdConn1_f hs _ _ ?_)
      have n0 := (rd_nn s (rdN s (rdT s a).2.1 1).2.1 1).1
      have n1 := rd_1le s (rdN s (rdT s a).2.1 1).2.1
      have b := and3 ((VP.rd s (rdN s (rdT s a).2.1 1).2.1 1).1 / 8) (by omega) (by omega)
      obtain ⟨⟨k1, k2, k3, k4, k5, k6, k7, k8, k9, k10, k11, k12, k13, k14, k15, k16⟩, p1, p2⟩ := h
      exact ⟨⟨k1, k2, k3, k4, k5, k6, k7, k8, k9, k10, i64_of b.1 (Int.le_trans b.2 (by decide)), k12, k13, k14, k15, k16⟩, p1, p2⟩
theorem rdEndP_f (a k : Int) (P : Pk) (h : PkF P) : PkF (rdEndP s a k P).1 := by
  obtain ⟨⟨k1, k2, k3, k4, k5, k6, k7, k8, k9, k10, k11, k12, k13, k14, k15, k16⟩, p1, p2⟩ := h
  have e : (0 ≤ (rdEnd s a k).1.1 ∧ (rdEnd s a k).1.1 ≤ 255) ∧ ((rdEnd s a k).1.2.length ≤ 100 ∧ ∀ p ∈ (rdEnd s a k).1.2, Fine p) := by
    unfold rdEnd
    repeat' split
    · exact ⟨⟨Int.le_refl 0, (by decide : (0 : Int) ≤ 255)⟩, by simp, fun p hp => by cases hp⟩
    · exact ⟨⟨Int.le_refl 0, (by decide : (0 : Int) ≤ 255)⟩, by simp, fun p hp => by cases hp⟩
    · exact ⟨rdC_u8 s a, by simp, fun p hp => by cases hp⟩
    · exact ⟨rdC_u8 s a, rdPr_f s _ k hs⟩
  exact ⟨⟨k1, k2, k3, k4, k5, e.1, k7, k8, k9, k10, k11, k12, k13, k14, k15, k16⟩, e.2, p2⟩
theorem partsK_f (k a : Int) (P : Pk) (h : PkF P) : PkF (partsK k s a P).1 := by
  unfold partsK
  split
  · exact rdConn_f hs a P h
  split
  · refine bnd_f h (bnd_f h (bnd_f h ?_))
    obtain ⟨⟨k1, k2, k3, k4, k5, k6, k7, k8, k9, k10, k11, k12, k13, k14, k15, k16⟩, p1, p2⟩ := h
    exact ⟨⟨k1, k2, k3, k4, k5, rdC_u8 s _, k7, k8, k9, k10, k11, k12, k13, k14, k15, k16⟩, rdPr_f s _ k hs, p2⟩
  split
  · obtain ⟨⟨k1, k2, k3, k4, k5, k6, k7, k8, k9, k10, k11, k12, k13, k14, k15, k16⟩, p1, p2⟩ := h
    refine ⟨⟨k1, k2, ?_, rdT_s s hs a, ?_, k6, k7, k8, k9, k10, k11, k12, k13, k14, k15, k16⟩, rdPr_f s _ k hs, p2⟩
    · show I64 (rdI s (rdT s a).2.1 P.qos P.id).1
      unfold rdI
      split
      · exact rdId_i s _
      · exact k3
    · show (s.extract _ s.size).size ≤ _
      rw [ByteArray.size_extract]; omega
  split
  · refine bnd_f h (bnd_f h ?_)
    obtain ⟨⟨k1, k2, k3, k4, k5, k6, k7, k8, k9, k10, k11, k12, k13, k14, k15, k16⟩, p1, p2⟩ := h
    exact ⟨⟨k1, k2, rdId_i s a, k4, k5, k6, k7, k8, k9, k10, k11, k12, k13, k14, ⟨Nat.le_trans (lst_le _ _ 66 _ [] (by simp)) (by decide), lst_all _ _ _ (rdSub_f s hs) 66 _ [] (fun x hx => by cases hx)⟩, k16⟩, rdPr_f s _ k hs, p2⟩
  split
  · refine bnd_f h (bnd_f h ?_)
    obtain ⟨⟨k1, k2, k3, k4, k5, k6, k7, k8, k9, k10, k11, k12, k13, k14, k15, k16⟩, p1, p2⟩ := h
    exact ⟨⟨k1, k2, rdId_i s a, k4, k5, k6, k7, k8, k9, k10, k11, k12, k13, k14, k15, ⟨Nat.le_trans (lst_le _ _ 66 _ [] (by simp)) (by decide), lst_all _ _ _ (rdT_s s hs) 66 _ [] (fun x hx => by cases hx)⟩⟩, rdPr_f s _ k hs, p2⟩
  split
  · refine bnd_f h (bnd_f h ?_)
    obtain ⟨⟨k1, k2, k3, k4, k5, k6, k7, k8, k9, k10, k11, k12, k13, k14, k15, k16⟩, p1, p2⟩ := h
    exact ⟨⟨k1, k2, rdId_i s a, k4, k5, k6, k7, k8, k9, k10, k11, k12, k13, ⟨Nat.le_trans (lst_le _ _ 66 _ [] (by simp)) (by decide), lst_all _ _ (fun c => 0 ≤ c ∧ c ≤ 255) (rdC_u8 s) 66 _ [] (fun x hx => by cases hx)⟩, k15, k16⟩, rdPr_f s _ k hs, p2⟩
  split
  · refine bnd_f h (rdEndP_f hs _ _ _ ?_)
    obtain ⟨⟨k1, k2, k3, k4, k5, k6, k7, k8, k9, k10, k11, k12, k13, k14, k15, k16⟩, p1, p2⟩ := h
    exact ⟨⟨k1, k2, rdId_i s a, k4, k5, k6, k7, k8, k9, k10, k11, k12, k13, k14, k15, k16⟩, p1, p2⟩
  split
  · exact rdEndP_f hs _ _ _ h
  · exact h
end
theorem bare_f (k : Int) (d r : Bool) (q : Int) (hk : I64 k) (hq : I64 q) : PkF (barePk k d r q) := by
  have z : Short (ByteArray.mk #[]) := Nat.zero_le _
  have i0 : I64 0 := ⟨by decide, by decide⟩
  exact ⟨⟨hk, hq, i0, z, z, ⟨(by decide : (0 : Int) ≤ 0), (by decide : (0 : Int) ≤ 255)⟩, z, i0, z, z, i0, z, z, ⟨Nat.zero_le _, fun c hc => by cases hc⟩, ⟨Nat.zero_le _, fun c hc => by cases hc⟩, ⟨Nat.zero_le _, fun c hc => by cases hc⟩⟩, ⟨Nat.zero_le _, fun c hc => by cases hc⟩, ⟨Nat.zero_le _, fun c hc => by cases hc⟩⟩
theorem begPk_f (n : Int) (h0 : 0 ≤ n) (h1 : n ≤ 255) : PkF (begPk n) := by
  unfold begPk
  split
  · have b := and3 (n % 16 / 2) (by omega) (by omega)
    exact bare_f _ _ _ _ ⟨by decide, by decide⟩ (i64_of b.1 (Int.le_trans b.2 (by decide)))
  · exact bare_f _ _ _ _ ⟨by omega, by omega⟩ ⟨by decide, by decide⟩
theorem b0_u8 (s : ByteArray) : 0 ≤ b0 s ∧ b0 s ≤ 255 := by
  unfold b0
  split
  · rename_i h
    have := VP.byte_lt s 0 h
    omega
  · exact ⟨by decide, by decide⟩
theorem getPk_f (s : ByteArray) (hs : s.size ≤ 140737488351232) : PkF (getPk s).1 := by
  have hz : PkF zeroPk := bare_f 0 false false 0 ⟨by decide, by decide⟩ ⟨by decide, by decide⟩
  unfold getPk
  repeat' split
  all_goals first
    | exact hz
    | exact partsK_f hs _ _ _ (begPk_f _ (b0_u8 s).1 (b0_u8 s).2)
end PK
theorem own_codes {w : World} {B : Nat} {A : Option Addr} {n cap : Nat} {l : List Int} (h : w.ownsRow B 23 1 (.slice A n cap) n (flatC l)) : Codes w A l := fun i x hx => by
  have hn : l.length = n := by simpa [flatC] using h.1
  have hi : i < l.length := (List.getElem?_eq_some_iff.1 hx).1
  obtain ⟨g, c', hv, hg, hg'⟩ := h.form (by omega)
  injection hv with hv _ _
  subst hv
  refine ⟨g, 0, rfl, hg', ?_⟩
  rw [Nat.zero_add, ← add0]
  exact h.cells (g := g) rfl i _ (by rw [flatC, List.getElem?_map, hx]; rfl)
theorem own_texts {w : World} {B : Nat} {A : Option Addr} {n cap : Nat} {l : List ByteArray} (h : w.ownsRow B 9 1 (.slice A n cap) n (flatT l)) : Texts w A l := fun i x hx => by
  have hn : l.length = n := by simpa [flatT] using h.1
  have hi : i < l.length := (List.getElem?_eq_some_iff.1 hx).1
  obtain ⟨g, c', hv, hg, hg'⟩ := h.form (by omega)
  injection hv with hv _ _
  subst hv
  refine ⟨g, 0, rfl, hg', ?_⟩
  rw [Nat.zero_add, ← add0]
  exact h.cells (g := g) rfl i _ (by rw [flatT, List.getElem?_map, hx]; rfl)
theorem flatB_at : ∀ (l : List Sb) (i : Nat) (s : Sb), l[i]? = some s → (flatB l)[i * 5]? = some (.string s.f) ∧ (flatB l)[i * 5 + 1]? = some (.int .i64 s.q) ∧ (flatB l)[i * 5 + 2]? = some (.bool s.nl) ∧ (flatB l)[i * 5 + 3]? = some (.bool s.ap) ∧ (flatB l)[i * 5 + 4]? = some (.int .i64 s.h)
  | [], i, s, h => by simp at h
  | x :: l, 0, s, h => by simp at h; subst h; simp [flatB, Sb.cells]
  | x :: l, i + 1, s, h => by
    have ih := flatB_at l i s (by simpa using h)
    have e : ∀ j, (flatB (x :: l))[(i + 1) * 5 + j]? = (flatB l)[i * 5 + j]? := fun j => by
      have : (i + 1) * 5 + j = 5 + (i * 5 + j) := by omega
      rw [this]
      simp only [flatB, List.flatMap_cons]
      rw [List.getElem?_append_right (by simp [Sb.cells])]
      simp [Sb.cells]
    have e0 := e 0
    simp only [Nat.add_zero] at e0
    rw [e0, e 1, e 2, e 3, e 4]
    exact ih
theorem own_subs {w : World} {B : Nat} {A : Option Addr} {n cap : Nat} {l : List Sb} (hn : l.length = n) (h : w.ownsRow B 90 5 (.slice A n cap) n (flatB l)) : Subs w A l := fun i x hx => by
  have hi : i < l.length := (List.getElem?_eq_some_iff.1 hx).1
  obtain ⟨g, c', hv, hg, hg'⟩ := h.form (by omega)
  injection hv with hv _ _
  subst hv
  obtain ⟨f0, f1, f2, f3, f4⟩ := flatB_at l i x hx
  refine ⟨g, 0, rfl, hg', ?_, ?_, ?_, ?_, ?_⟩
  · rw [Nat.zero_add, ← add0]; exact h.cells (g := g) rfl _ _ f0
  · rw [Nat.zero_add, ← add0]; exact h.cells (g := g) rfl _ _ f1
  · rw [Nat.zero_add, ← add0]; exact h.cells (g := g) rfl _ _ f2
  · rw [Nat.zero_add, ← add0]; exact h.cells (g := g) rfl _ _ f3
  · rw [Nat.zero_add, ← add0]; exact h.cells (g := g) rfl _ _ f4
/-- A packet that was read, as Put takes one. -/
theorem own5_in {B : Nat} {P : Pk} {vc vp vw vs vf : Value} {w : World} (h : Own5 B P vc vp vw vs vf w) (hf : PkF P) (hT : ∀ W, Below w.heap.size w W → Tabs W) : PkIn w.heap.size w P vc vp vw vs vf := by
  obtain ⟨A1, n1, rfl⟩ := own_form h.codes
  obtain ⟨A2, n2, rfl⟩ := own_form h.props
  obtain ⟨A3, n3, rfl⟩ := own_form h.wprops
  obtain ⟨A4, n4, rfl⟩ := own_form h.subs
  obtain ⟨A5, n5, rfl⟩ := own_form h.filters
  exact ⟨hf.fine, hT, ⟨A2, n2, rfl, fun W hW => ⟨(own_props h.props).below hW, hf.pr.1, own_cap h.props, own_capmax h.props, hf.pr.2⟩⟩, ⟨A3, n3, rfl, fun W hW => ⟨(own_props h.wprops).below hW, hf.wpr.1, own_cap h.wprops, own_capmax h.wprops, hf.wpr.2⟩⟩,
    ⟨A1, n1, rfl, fun W hW => (own_codes h.codes).below hW⟩, ⟨A4, n4, rfl, fun W hW => (own_subs rfl h.subs).below hW⟩, ⟨A5, n5, rfl, fun W hW => (own_texts h.filters).below hW⟩⟩
end Go.Proofs.YtjajandjdclifaaGreatDoor
namespace Go.Proofs.YtjajandjdclifaaGreatDoor
open Go.RowKit

set_option maxRecDepth 100000 in
set_option maxHeartbeats 2000000 in
/-- Inv l W: what holds behind the packets l. -/
theorem through_any (K : FuncId) (cap : Array Value) (f : ByteArray → Int) (Inv : List ByteArray → World → Prop) (s : ByteArray) (most : Int) (hs : s.size ≤ 140737488351232)
    (hK : ∀ (args : Array Value) (W : World), (callFunc K args).run Tryz.prog W = .ok (.enter K args) W)
    (hC : ∀ (l : List ByteArray) (a k : Nat) (W : World), Inv l W → 2 * l.length ≤ a → 2 ≤ k → a + k ≤ s.size → Calls Tryz.prog K (#[.string (s.extract a (a + k))] ++ cap) W fun e W' => e = .returned (.int .u8 (f (s.extract a (a + k)))) ∧ (f (s.extract a (a + k)) = 0 → Inv (l ++ [s.extract a (a + k)]) W') ∧ (f (s.extract a (a + k)) ≠ 0 → Inv l W'))
    (w : World) (h0 : Inv [] w) :
    Calls Tryz.prog 48 #[.string s, .int .i64 most, .func (.func K) #[] cap] w fun e w' =>
      e = .returned (.tuple #[.int .i64 (ST.thr s most f (s.size + 1) 0).2.1, .int .u8 (ST.thr s most f (s.size + 1) 0).2.2]) ∧ Inv (ST.thr s most f (s.size + 1) 0).1 w' := by
  have HC := Lib.hid hC
  have HI := Lib.hid h0
  have HT := Lib.hid (ST.Thr.start s most f)
  obtain ⟨R, hR⟩ : ∃ R, R = ST.thr s most f (s.size + 1) 0 := ⟨_, rfl⟩
  rw [← hR]
  have HR := Lib.hid hR
  clear hC h0 hR
  go_enter Tryz.func48, Tryz.ntmps48
  go_wp2
  go_step3
  go_wp2
  go_step3
  go_wp2
  go_loopw [8] (fun i wr => ∃ (a : Nat) (l : List ByteArray), i = .int .i64 a ∧ a ≤ s.size ∧ Hid (ST.Thr s most f l a ∧ Inv l wr)) (fun i _ => s.size - (intOf i).toNat)
  case atStart => exact ⟨0, [], rfl, by omega, Lib.hid ⟨HT.out, HI.out⟩⟩
  case round =>
    obtain ⟨a, l, rfl, ha, hrl⟩ := hrel
    obtain ⟨ht, hi⟩ := hrl.out
    have hsl := st_from s a ha
    have CF := Lib.hid (first_any (s.extract a s.size) most (by rw [ByteArray.size_extract]; omega))
    have h2 := ht.size.2
    by_cases hf : (ST.first (s.extract a s.size) most).2 = 0
    · obtain ⟨k, hk, hk1, hk2⟩ := ST.first_ok _ _ hf
      rw [ByteArray.size_extract] at hk2
      rw [hk] at CF
      simp only at CF
      have hak : a + k ≤ s.size := by omega
      have hsp := st_part s a k hak
      have D := Lib.hid (HC.out l a k wr hi h2 hk1 hak)
      have HT2 := Lib.hid (fun h => ht.step hk hk1 hak h)
      have HL2 := Lib.hid (fun h => ht.left hk h)
      generalize f (s.extract a (a + k)) = c at *
      clear hf hk ht hi hrl hk2
      by_cases hc : c = 0
      · subst hc
        go_wp2_with fail
        refine (CF.out _).mono ?_
        rintro e w' ⟨rfl, rfl⟩
        go_wp2_with fail
        refine D.out.mono ?_
        rintro e w' ⟨rfl, hi, _⟩
        have HN : Hid (ST.Thr s most f (l ++ [s.extract a (a + k)]) (a + k) ∧ Inv (l ++ [s.extract a (a + k)]) w') := Lib.hid ⟨HT2.out trivial, hi trivial⟩
        clear D HT2 HL2 hi CF HC HI HT
        go_wp2
        go_roundw
        case rel => exact ⟨a + k, _, by go_num, by omega, HN⟩
        case measure => simp [intOf]; omega
      · have hne : (c != 0) = true := by rw [bne_iff_ne]; exact hc
        go_wp2_with fail
        refine (CF.out _).mono ?_
        rintro e w' ⟨rfl, rfl⟩
        go_wp2_with fail
        refine D.out.mono ?_
        rintro e w' ⟨rfl, _, hi⟩
        have HE : Hid (R = (l, a, c)) := Lib.hid (by rw [HR.out]; exact HL2.out hc)
        have HN : Hid (Inv l w') := Lib.hid (hi hc)
        clear D HT2 HL2 hi CF HC HI HT hc
        go_wp2
        try rw [Exit.noGoto_ret]
        go_ret2
        rw [HE.out]
        exact ⟨rfl, HN.out⟩
    · have HL := Lib.hid (ht.stop hf)
      have HN := Lib.hid hi
      generalize ST.first (s.extract a s.size) most = X at *
      obtain ⟨k, c⟩ := X
      simp only at CF hf HL
      have hne : (c == 0) = false := by rw [beq_eq_false_iff_ne]; exact hf
      clear ht hi hrl HC HI HT
      by_cases h242 : c = 242
      · subst h242
        go_wp2_with fail
        refine (CF.out _).mono ?_
        rintro e w' ⟨rfl, rfl⟩
        go_wp2
        try rw [Exit.noGoto_ret]
        go_ret2
        rw [HR.out, HL.out]
        exact ⟨rfl, HN.out⟩
      · have h2 : (c == 242) = false := by rw [beq_eq_false_iff_ne]; exact h242
        have HL2 : Hid (R = (l, a, c)) := Lib.hid (by rw [HR.out, HL.out, if_neg h242])
        clear HL HR h242 hf
        go_wp2_with fail
        refine (CF.out _).mono ?_
        rintro e w' ⟨rfl, rfl⟩
        go_wp2
        try rw [Exit.noGoto_ret]
        go_ret2
        rw [HL2.out]
        exact ⟨rfl, HN.out⟩
end Go.Proofs.YtjajandjdclifaaGreatDoor
namespace Go.Proofs.YtjajandjdclifaaGreatDoor
open Go.RowKit

/-- The reader in block r: the most, the bytes l that are left, the code c; 'p': whether its builder was used. -/
def FdAt (r : Nat) (m : Int) (p : Value) (l : List UInt8) (c : Int) (w : World) : Prop :=
  ∃ v, w.heap[r]? = some (.cells #[.int .i64 m, p, v, .int .u8 c] 128 (0, 0)) ∧ w.ownsRowF r 5 1 v l.length (Lib.byteCells l) ∧ v.ownBlock ≠ some r
def Fd (r : Nat) (m : Int) (l : List UInt8) (c : Int) (w : World) : Prop := FdAt r m (.pointer none) l c w ∨ FdAt r m (.pointer (some ⟨r, 1, none⟩)) l c w
theorem FdAt.lt {r : Nat} {m : Int} {p : Value} {l : List UInt8} {c : Int} {w : World} (h : FdAt r m p l c w) : r < w.heap.size := by
  obtain ⟨v, h1, _⟩ := h; exact lt_heap h1
theorem Fd.lt {r : Nat} {m : Int} {l : List UInt8} {c : Int} {w : World} (h : Fd r m l c w) : r < w.heap.size := by
  rcases h with h | h <;> exact h.lt
theorem ownF_below {B : Nat} {e : TypeId} {k : Nat} {v : Value} {n : Nat} {xs : List Value} {w w' : World} (h : w.ownsRowF B e k v n xs) (hb : Below w.heap.size w w') : w'.ownsRowF B e k v n xs :=
  h.kept (row := none) ⟨hb.os, hb.tape, hb.output, hb.size, fun i hi _ => hb.block i hi⟩ (by cases hv : v.ownBlock <;> simp)
theorem FdAt.below {r : Nat} {m : Int} {p : Value} {l : List UInt8} {c : Int} {w w' : World} (h : FdAt r m p l c w) (hb : Below w.heap.size w w') : FdAt r m p l c w' := by
  obtain ⟨v, h1, h2, h3⟩ := h
  exact ⟨v, (hb.block r (lt_heap h1)).trans h1, ownF_below h2 hb, h3⟩
theorem Fd.below {r : Nat} {m : Int} {l : List UInt8} {c : Int} {w w' : World} (h : Fd r m l c w) (hb : Below w.heap.size w w') : Fd r m l c w' := by
  rcases h with h | h
  · exact .inl (h.below hb)
  · exact .inr (h.below hb)
theorem ownF_set {w : World} {b j : Nat} {B : Nat} {e : TypeId} {k : Nat} {v u : Value} {n : Nat} {xs : List Value} (h : w.ownsRowF B e k v n xs) (hne : v.ownBlock ≠ some b) : (w.setCell ⟨b, j, none⟩ u).ownsRowF B e k v n xs :=
  h.kept (row := some b) ⟨rfl, rfl, rfl, by simp [World.setCell], fun i _ hi => Below.heap_setCell _ _ _ _ (fun e => hi (by simp [e]))⟩ (.inr hne)
theorem ownF_row {w : World} {B : Nat} {e : TypeId} {k : Nat} {v : Value} {n : Nat} {xs : List Value} (h : w.ownsRowF B e k v n xs) : ∀ g, v.ownBlock = some g → ∃ c fz, w.heap[g]? = some (.cells c e fz) := by
  intro g hg
  rcases h.2 with ⟨rfl, _⟩ | ⟨g', c, u, fz, rfl, _, hh, _⟩
  · cases hg
  · simp only [Value.ownBlock, Option.some.injEq] at hg
    subst hg
    exact ⟨_, _, hh⟩
theorem ownF_form {B : Nat} {e : TypeId} {k : Nat} {v : Value} {n : Nat} {xs : List Value} {w : World} (h : w.ownsRowF B e k v n xs) : ∃ A cap, v = .slice A n cap := by
  rcases h.2 with ⟨rfl, rfl⟩ | ⟨g, cap, cur, fz, rfl, _⟩
  · exact ⟨_, _, rfl⟩
  · exact ⟨_, _, rfl⟩
theorem fbldLies : liesAt Tryz.prog Tryz.prog.depth 128 (4 / Tryz.prog.cellsOf 128) 1 118 1 = true := by kernel_rfl

set_option maxHeartbeats 1000000 in
set_option maxRecDepth 100000 in
theorem fcopy_used (r : Nat) (w : World) (h0 : w.cell? ⟨r, 1, none⟩ = some (.pointer (some ⟨r, 1, none⟩))) :
    Calls Tryz.prog 89 #[.pointer (some ⟨r, 1, none⟩)] w fun e w' => e = .returned (.tuple #[]) ∧ w = w' := by
  obtain ⟨j, hj, _⟩ := bldInfo
  have hn := Lib.run_neq_ptr_same (P := Tryz.prog) w ⟨r, 1, none⟩ Tryz.underlying116 hj
  clear hj
  go_enter Tryz.func89, Tryz.ntmps89
  go_wp2
  go_end0
  exact ⟨rfl, rfl⟩
set_option maxHeartbeats 1000000 in
set_option maxRecDepth 100000 in
theorem fcopy_fresh (r : Nat) (w : World) (h0 : w.cell? ⟨r, 1, none⟩ = some (.pointer none)) (hsh : w.shape? r = some (128, 4)) (hfz : w.frozen? ⟨r, 1, none⟩ = false) :
    Calls Tryz.prog 89 #[.pointer (some ⟨r, 1, none⟩)] w fun e w' => e = .returned (.tuple #[]) ∧ w.setCell ⟨r, 1, none⟩ (.pointer (some ⟨r, 1, none⟩)) = w' := by
  obtain ⟨j, hj, hjs⟩ := bldInfo
  have r1 := Lib.run_to_unsafe (P := Tryz.prog) w ⟨r, 1, none⟩ Tryz.underlying116 Tryz.underlying196 hj (by rw [hjs]; decide) hsh (show (1 : Nat) < 4 by decide)
  have r2 := Lib.run_from_unsafe (P := Tryz.prog) w ⟨r, 1, none⟩ Tryz.underlying196 Tryz.underlying116 hj hsh fbldLies
  clear hj hjs hsh
  go_enter Tryz.func89, Tryz.ntmps89
  go_wp2
  rw [run_callFunc_extern Tryz.func119 (by kernel_rfl) (by kernel_rfl) (by kernel_rfl) (e := Extern.AbiNoEscape.same) (by kernel_rfl)]
  rw [Lib.run_noEscape]
  simp only [Result.andThen]
  rw [Oper.upon_value]
  go_wp2
  go_end0
  exact ⟨rfl, rfl⟩
theorem fcopy_any (r : Nat) (m : Int) (l : List UInt8) (c : Int) (w : World) (h : Fd r m l c w) :
    Calls Tryz.prog 89 #[.pointer (some ⟨r, 1, none⟩)] w fun e w' => e = .returned (.tuple #[]) ∧ FdAt r m (.pointer (some ⟨r, 1, none⟩)) l c w' ∧ Kp r w w' := by
  rcases h with ⟨v, h1, h2, h3⟩ | ⟨v, h1, h2, h3⟩
  · refine (fcopy_fresh r w (by rw [cell_heap h1]; rfl) (by simp [World.shape?, h1]) (frozen_heap h1)).mono ?_
    rintro e w' ⟨rfl, rfl⟩
    exact ⟨rfl, ⟨v, set_block h1 rfl, ownF_set h2 h3, h3⟩, (Kp.refl r w).setCell 1 _⟩
  · refine (fcopy_used r w (by rw [cell_heap h1]; rfl)).mono ?_
    rintro e w' ⟨rfl, rfl⟩
    exact ⟨rfl, ⟨v, h1, h2, h3⟩, Kp.refl r w⟩

set_option maxHeartbeats 2000000 in
set_option maxRecDepth 100000 in
theorem fwrite_any (r : Nat) (m : Int) (l : List UInt8) (c : Int) (s : ByteArray) (w : World) (h : Fd r m l c w) (hn : l.length + s.size ≤ 140737488355328) :
    Calls Tryz.prog 47 #[.pointer (some ⟨r, 1, none⟩), .string s] w fun e w' => e = .returned (.tuple #[.int .i64 s.size, .nilIface]) ∧ Fd r m (l ++ s.data.toList) c w' ∧ Kp r w w' := by
  have C := Lib.hid (fcopy_any r m l c w h)
  obtain ⟨i0, hi, hz0, hz1, hz2⟩ := info_parts byteInfo
  have Hi := Lib.hid hi; have Hz0 := Lib.hid hz0; have Hz1 := Lib.hid hz1; have Hz2 := Lib.hid hz2
  clear hi hz0 hz1 hz2 h
  go_enter Tryz.func47, Tryz.ntmps47
  go_wp2_with fail
  refine C.out.mono ?_
  rintro e w1 ⟨rfl, ⟨v, h1, h2, h3⟩, k1⟩
  obtain ⟨ao, cap, rfl⟩ := ownF_form h2
  have hlt := lt_heap h1
  obtain ⟨v', w2, hr, ho, hg, _⟩ := Lib.run_append_own_stringF (P := Tryz.prog) w1 r 45 9 45 5 i0 Tryz.underlying45 Tryz.underlying9 Hi.out Hz0.out Hz1.out Hz2.out _ _ _ h2 s (by unfold maxLen; omega) hn (Nat.le_of_lt hlt)
  have hb2 : w2.heap[r]? = some (.cells #[.int .i64 m, .pointer (some ⟨r, 1, none⟩), .slice ao l.length cap, .int .u8 c] 128 (0, 0)) := (hg.block r hlt (fun e => h3 e.symm)).trans h1
  have k2 : Kp r w w2 := k1.trans ⟨(Below.refl r w1).grown hg (Nat.le_of_lt hlt) (fun k hk => (h2.lt k hk).1), (Lib.OthersKept.refl _ _ _).grown hg (ownF_row h2)⟩
  have hne := Lib.ownBlock_neF ho hb2 (by decide)
  have HW : Hid (Fd r m (l ++ s.data.toList) c (w2.setCell ⟨r, 2, none⟩ v')) := .inr ⟨v', set_block hb2 rfl, by
    refine ownF_set ?_ hne
    rw [byteCells_app] at ho
    have e : (l ++ s.data.toList).length = l.length + s.size := by rw [List.length_append]; congr 1
    rw [e]; exact ho, hne⟩
  have HK : Hid (Kp r w (w2.setCell ⟨r, 2, none⟩ v')) := k2.setCell 2 _
  have c0 : w1.cell? ⟨r, 1, none⟩ = some (.pointer (some ⟨r, 1, none⟩)) := by rw [cell_heap h1]; rfl
  have c1 : w1.cell? ⟨r, 2, none⟩ = some (.slice ao l.length cap) := by rw [cell_heap h1]; rfl
  have d1 : w2.cell? ⟨r, 2, none⟩ = some (.slice ao l.length cap) := by rw [cell_heap hb2]; rfl
  have f1 : w2.frozen? ⟨r, 2, none⟩ = false := frozen_heap hb2
  obtain ⟨A2, cap2, rfl⟩ := ownF_form ho
  clear C h1 h2 h3 k1 ho hg hb2 k2 hne Hi Hz0 Hz1 Hz2
  go_wp2_with (at_builtin; refine wpList_run (by rfl) (.tmp 12) (.tmp 13) _ _ (by rfl) (by rfl) (by rfl) hr ?_; clear hr)
  go_ret2
  exact ⟨rfl, HW.out, HK.out⟩

set_option maxHeartbeats 1000000 in
set_option maxRecDepth 100000 in
theorem freset_any (r : Nat) (m : Int) (l : List UInt8) (c : Int) (w : World) (h : Fd r m l c w) :
    Calls Tryz.prog 50 #[.pointer (some ⟨r, 1, none⟩)] w fun e w' => e = .returned (.tuple #[]) ∧ Fd r m [] c w' ∧ Kp r w w' := by
  obtain ⟨p, v, h1, h2, h3⟩ : ∃ p, FdAt r m p l c w := by
    rcases h with h | h
    · exact ⟨_, h⟩
    · exact ⟨_, h⟩
  have HB1 := set_block (j := 1) (u := .pointer none) (cs' := #[.int .i64 m, .pointer none, v, .int .u8 c]) h1 rfl
  have HB2 := set_block (j := 2) (u := .slice none 0 0) (cs' := #[.int .i64 m, .pointer none, .slice none 0 0, .int .u8 c]) HB1 rfl
  have HW : Hid (Fd r m [] c ((w.setCell ⟨r, 1, none⟩ (.pointer none)).setCell ⟨r, 2, none⟩ (.slice none 0 0))) := .inl ⟨_, HB2, World.ownsRowF_nil _ _ _ _, by simp [Value.ownBlock]⟩
  have HK : Hid (Kp r w ((w.setCell ⟨r, 1, none⟩ (.pointer none)).setCell ⟨r, 2, none⟩ (.slice none 0 0))) := ((Kp.refl r w).setCell 1 _).setCell 2 _
  have c1 : w.cell? ⟨r, 1, none⟩ = some p := by rw [cell_heap h1]; rfl
  have c2 : w.cell? ⟨r, 2, none⟩ = some v := by rw [cell_heap h1]; rfl
  have f1 : w.frozen? ⟨r, 1, none⟩ = false := frozen_heap h1
  have f2 : w.frozen? ⟨r, 2, none⟩ = false := frozen_heap h1
  clear h h1 h2 h3 HB1 HB2
  go_enter Tryz.func50, Tryz.ntmps50
  go_wp2
  go_end0
  exact ⟨rfl, HW.out, HK.out⟩
end Go.Proofs.YtjajandjdclifaaGreatDoor
namespace Go.Proofs.YtjajandjdclifaaGreatDoor
open Go.RowKit

theorem freeze_other {w : World} {g k n : Nat} (h : k ≠ g) : (w.freeze ⟨g, 0, none⟩ n).heap[k]? = w.heap[k]? := by
  unfold World.freeze
  split
  · rfl
  · simp [Array.getElem?_modify, Ne.symm h]
theorem freeze_self {w : World} {g n m : Nat} {cur : Array Value} {e : TypeId} {fz : Nat × Nat} (h : w.heap[g]? = some (.cells cur e fz)) (hf : fz.2 ≤ m) (hn : n ≤ m) : ∃ fz', (w.freeze ⟨g, 0, none⟩ n).heap[g]? = some (.cells cur e fz') ∧ fz'.2 ≤ m := by
  obtain ⟨lo, hi⟩ := fz
  unfold World.freeze
  split
  · exact ⟨_, h, hf⟩
  · simp [Array.getElem?_modify, h]
    simp only at hf
    split
    · simp; omega
    · simp; omega
theorem freeze_size {w : World} {g n : Nat} : (w.freeze ⟨g, 0, none⟩ n).heap.size = w.heap.size := by
  unfold World.freeze
  split
  · rfl
  · simp
theorem Kp.freeze {r g n : Nat} {w : World} {cur : Array Value} {fz : Nat × Nat} (hr : r ≤ g) (h : w.heap[g]? = some (.cells cur 5 fz)) : Kp r w (w.freeze ⟨g, 0, none⟩ n) :=
  ⟨Lib.below_freeze (Below.refl r w) (p := ⟨g, 0, none⟩) hr n, fun k o hk hb he => by
    by_cases e : k = g
    · subst e; rw [h] at hk; injection hk with hk; exact absurd hk.symm (he _ _)
    · exact (freeze_other e).trans hk⟩
theorem Kp.drew {b : Nat} {w w' : World} (h : Kp b w.drew w') : Kp b w w' := ⟨⟨h.1.os, h.1.tape, h.1.output, h.1.size, h.1.block⟩, h.2⟩

set_option maxHeartbeats 2000000 in
set_option maxRecDepth 100000 in
theorem fstr_any (r : Nat) (m : Int) (x : UInt8) (t : List UInt8) (c : Int) (w : World) (h : Fd r m (x :: t) c w) :
    Calls Tryz.prog 46 #[.pointer (some ⟨r, 1, none⟩)] w fun e w' => e = .returned (.string ⟨(x :: t).toArray⟩) ∧ Fd r m (x :: t) c w' ∧ Kp r w w' := by
  obtain ⟨p, hp, v, h1, h2, h3⟩ : ∃ p, (p = .pointer none ∨ p = .pointer (some ⟨r, 1, none⟩)) ∧ FdAt r m p (x :: t) c w := by
    rcases h with h | h
    · exact ⟨_, .inl rfl, h⟩
    · exact ⟨_, .inr rfl, h⟩
  obtain ⟨g, cap, cur, fz, rfl, hbg, hg, hfz, hnc, hcm, hcs, htake⟩ : ∃ g cap cur fz, v = .slice (some ⟨g, 0, none⟩) (x :: t).length cap ∧ r ≤ g ∧ w.heap[g]? = some (.cells cur 5 fz) ∧ fz.2 ≤ (x :: t).length * 1 ∧ (x :: t).length ≤ cap ∧ cap ≤ maxLen ∧ cur.size = cap * 1 ∧ cur.toList.take ((x :: t).length * 1) = Lib.byteCells (x :: t) := by
    rcases h2.2 with ⟨_, hz⟩ | ⟨g, cap, cur, fz, hv, rr⟩
    · simp at hz
    · exact ⟨g, cap, cur, fz, hv, rr⟩
  have hl0 : 0 < (x :: t).length := by simp
  have hrg : r ≠ g := fun e => h3 (by simp [Value.ownBlock, e])
  have c1 : w.cell? ⟨r, 2, none⟩ = some (.slice (some ⟨g, 0, none⟩) (x :: t).length cap) := by rw [cell_heap h1]; rfl
  have hSD : (Builtin.unsafeSliceData_ #[45] 175 #[.slice (some ⟨g, 0, none⟩) (x :: t).length cap]).run Tryz.prog w.drew = .ok (.pointer (some ⟨g, 0, none⟩)) w.drew := Lib.run_unsafeSliceData_row _ _ _ _ _ _ (by omega)
  have hUS : (Builtin.unsafeString_ #[175, 3] 9 #[.pointer (some ⟨g, 0, none⟩), .int .i64 (x :: t).length]).run Tryz.prog w.drew = .ok (.string ⟨(x :: t).toArray⟩) (w.drew.freeze ⟨g, 0, none⟩ (x :: t).length) := by
    refine Lib.run_unsafeString_row w.drew 175 3 9 5 Tryz.underlying175 (by kernel_rfl) g cur.size (by have hg' : w.drew.heap[g]? = some (.cells cur 5 fz) := hg; simp [World.shape?, hg']) (x :: t) (by simp) (by omega) (by unfold maxLen at hcm; omega) ?_
    intro j y hy
    exact h2.cells (g := g) rfl j (.int .u8 y.toNat) (by rw [Lib.byteCells, List.getElem?_map, hy]; rfl)
  have HF : Hid (Fd r m (x :: t) c (w.drew.freeze ⟨g, 0, none⟩ (x :: t).length)) := Lib.hid (by
    obtain ⟨fz', e1, e2⟩ := freeze_self (n := (x :: t).length) (m := (x :: t).length * 1) (show w.drew.heap[g]? = some (.cells cur 5 fz) from hg) hfz (by omega)
    have e3 : (w.drew.freeze ⟨g, 0, none⟩ (x :: t).length).heap[r]? = some (.cells #[.int .i64 m, p, .slice (some ⟨g, 0, none⟩) (x :: t).length cap, .int .u8 c] 128 (0, 0)) := (freeze_other hrg).trans h1
    have e4 : FdAt r m p (x :: t) c (w.drew.freeze ⟨g, 0, none⟩ (x :: t).length) := ⟨_, e3, ⟨h2.1, .inr ⟨g, cap, cur, fz', rfl, hbg, e1, e2, hnc, hcm, hcs, htake⟩⟩, h3⟩
    rcases hp with rfl | rfl
    · exact .inl e4
    · exact .inr e4)
  have HK : Hid (Kp r w (w.drew.freeze ⟨g, 0, none⟩ (x :: t).length)) := Lib.hid (Kp.drew (Kp.freeze hbg (show w.drew.heap[g]? = some (.cells cur 5 fz) from hg)))
  generalize x :: t = l at *
  clear h h1 h2 h3 hg hcs htake hnc hcm hl0 hfz hp
  go_enter Tryz.func46, Tryz.ntmps46
  go_wp2
  go_region
  all_goals
    go_wp2
    go_ret
    exact ⟨rfl, HF.out, HK.out⟩

set_option maxHeartbeats 2000000 in
set_option maxRecDepth 100000 in
theorem fstr_empty (r : Nat) (m : Int) (c : Int) (w : World) (h : Fd r m [] c w) :
    Calls Tryz.prog 46 #[.pointer (some ⟨r, 1, none⟩)] w fun e w' => e = .returned (.string ⟨#[]⟩) ∧ Fd r m [] c w' ∧ Kp r w w' := by
  have hlt := h.lt
  have HH := Lib.hid h
  obtain ⟨p, v, h1, h2, h3⟩ : ∃ p, FdAt r m p [] c w := by
    rcases h with h | h
    · exact ⟨_, h⟩
    · exact ⟨_, h⟩
  have hUS := us_none
  have fin : ∀ w', Below w.heap.size w w' → Fd r m [] c w' ∧ Kp r w w' := fun w' hb => ⟨HH.out.below hb, Kp.of_below (Nat.le_of_lt hlt) hb⟩
  have FIN := Lib.hid fin
  clear fin
  rcases h2.2 with ⟨rfl, _⟩ | ⟨g, cap, cur, fz, rfl, hbg, hg, _, _, _, _, _⟩
  · have c1 : w.cell? ⟨r, 2, none⟩ = some (.slice none 0 0) := by rw [cell_heap h1]; rfl
    have hSD : (Builtin.unsafeSliceData_ #[45] 175 #[.slice none 0 0]).run Tryz.prog w.drew = .ok (.pointer none) w.drew := rfl
    clear h h1 h2 h3
    go_enter Tryz.func46, Tryz.ntmps46
    go_wp2
    go_region
    all_goals
      go_wp2
      go_ret
      exact ⟨rfl, FIN.out _ (Below.drew (Below.refl _ w))⟩
  · have c1 : w.cell? ⟨r, 2, none⟩ = some (.slice (some ⟨g, 0, none⟩) 0 cap) := by rw [cell_heap h1]; rfl
    by_cases hc0 : cap = 0
    · subst hc0
      have hSD : (Builtin.unsafeSliceData_ #[45] 175 #[.slice (some ⟨g, 0, none⟩) 0 0]).run Tryz.prog w.drew = .ok (.pointer (some ⟨w.drew.heap.size, 0, none⟩)) (w.drew.alloc (.view ⟨g, 0, none⟩ 5)) :=
        Lib.run_unsafeSliceData_zero w.drew _ _ 5 Tryz.underlying175 ⟨g, 0, none⟩ 0 (5, cur.size) (by have hg' : w.drew.heap[g]? = some (.cells cur 5 fz) := hg; simp [World.shape?, hg'])
      have c3 : (w.alloc (.view ⟨g, 0, none⟩ 5)).drew.cell? ⟨r, 2, none⟩ = some (.slice (some ⟨g, 0, none⟩) 0 0) := by
        have e : (w.alloc (.view ⟨g, 0, none⟩ 5)).drew.heap[r]? = some (.cells #[.int .i64 m, p, .slice (some ⟨g, 0, none⟩) 0 0, .int .u8 c] 128 (0, 0)) := (heap_alloc_old w _ hlt).trans h1
        rw [cell_heap e]; rfl
      clear h h1 h2 h3 hg
      go_enter Tryz.func46, Tryz.ntmps46
      go_wp2
      go_region
      all_goals
        go_wp2
        go_ret
        exact ⟨rfl, FIN.out _ ((Below.drew (Below.refl _ w)).alloc (Nat.le_refl _) _)⟩
    · have hSD : (Builtin.unsafeSliceData_ #[45] 175 #[.slice (some ⟨g, 0, none⟩) 0 cap]).run Tryz.prog w.drew = .ok (.pointer (some ⟨g, 0, none⟩)) w.drew := Lib.run_unsafeSliceData_row _ _ _ _ _ _ hc0
      clear h h1 h2 h3 hg hc0
      go_enter Tryz.func46, Tryz.ntmps46
      go_wp2
      go_region
      all_goals
        go_wp2
        go_ret
        exact ⟨rfl, FIN.out _ (Below.drew (Below.refl _ w))⟩
theorem fstring_any (r : Nat) (m : Int) (l : List UInt8) (c : Int) (w : World) (h : Fd r m l c w) :
    Calls Tryz.prog 46 #[.pointer (some ⟨r, 1, none⟩)] w fun e w' => e = .returned (.string ⟨l.toArray⟩) ∧ Fd r m l c w' ∧ Kp r w w' := by
  cases l with
  | nil => exact fstr_empty r m c w h
  | cons x t => exact fstr_any r m x t c w h
end Go.Proofs.YtjajandjdclifaaGreatDoor
namespace Go.Proofs.YtjajandjdclifaaGreatDoor
open Go.RowKit
attribute [local go_sem ↓] Go.wp_at_zero Go.wp_at_succ

/-- A packet and the values of its five rows. -/
structure Pv where
  p : Pk
  vc : Value
  vp : Value
  vw : Value
  vs : Value
  vf : Value
def Pv.cells (x : Pv) : List Value := (pkCells x.p x.vc x.vp x.vw x.vs x.vf).toList
def Pv.Own (x : Pv) (B : Nat) (w : World) : Prop := Own5 B x.p x.vc x.vp x.vw x.vs x.vf w
/-- A row of packets. -/
structure PkRow (B : Nat) (v : Value) (L : List Pv) (w : World) : Prop where
  row : w.ownsRow B 31 26 v L.length (L.flatMap Pv.cells)
  own : ∀ x ∈ L, x.Own B w
theorem own5_kept {B : Nat} {P : Pk} {vc vp vw vs vf : Value} {w w' : World} {row : Option Nat} (h : Own5 B P vc vp vw vs vf w) (hg : w.grownBy w' row) (hr : ∀ g, row = some g → ∃ c fz, w.heap[g]? = some (.cells c 31 fz)) : Own5 B P vc vp vw vs vf w' := by
  have key : ∀ {e : TypeId} {k : Nat} {v : Value} {n : Nat} {xs : List Value}, e ≠ 31 → w.ownsRow B e k v n xs → w'.ownsRow B e k v n xs := fun {e k v n xs} he ho => by
    refine ho.kept hg ?_
    cases hv : v.ownBlock with
    | none => exact .inl rfl
    | some g =>
      refine .inr (fun e' => ?_)
      obtain ⟨c, fz, h1⟩ := hr g e'.symm
      obtain ⟨c2, fz2, h2⟩ := own_row ho g hv
      rw [h1] at h2
      simp at h2
      exact he h2.2.1.symm
  exact ⟨key (by decide) h.codes, key (by decide) h.props, key (by decide) h.wprops, key (by decide) h.subs, key (by decide) h.filters⟩
theorem own5_base {B C : Nat} {P : Pk} {vc vp vw vs vf : Value} {w : World} (h : Own5 B P vc vp vw vs vf w) (hC : C ≤ B) : Own5 C P vc vp vw vs vf w :=
  ⟨own_base' h.codes hC, own_base' h.props hC, own_base' h.wprops hC, own_base' h.subs hC, own_base' h.filters hC⟩
theorem own5_below {B : Nat} {P : Pk} {vc vp vw vs vf : Value} {w w' : World} (h : Own5 B P vc vp vw vs vf w) (hb : Below w.heap.size w w') : Own5 B P vc vp vw vs vf w' :=
  ⟨own_below h.codes hb, own_below h.props hb, own_below h.wprops hb, own_below h.subs hb, own_below h.filters hb⟩
theorem own5_set {B b j : Nat} {P : Pk} {vc vp vw vs vf u : Value} {w : World} (h : Own5 B P vc vp vw vs vf w) (hb : b < B) : Own5 B P vc vp vw vs vf (w.setCell ⟨b, j, none⟩ u) :=
  ⟨own_set h.codes (row_ne h.codes hb), own_set h.props (row_ne h.props hb), own_set h.wprops (row_ne h.wprops hb), own_set h.subs (row_ne h.subs hb), own_set h.filters (row_ne h.filters hb)⟩
theorem PkRow.below {B : Nat} {v : Value} {L : List Pv} {w w' : World} (h : PkRow B v L w) (hb : Below w.heap.size w w') : PkRow B v L w' := ⟨own_below h.row hb, fun x hx => own5_below (h.own x hx) hb⟩
theorem PkRow.base {B C : Nat} {v : Value} {L : List Pv} {w : World} (h : PkRow B v L w) (hC : C ≤ B) : PkRow C v L w := ⟨own_base' h.row hC, fun x hx => own5_base (h.own x hx) hC⟩
theorem PkRow.set {B b j : Nat} {v u : Value} {L : List Pv} {w : World} (h : PkRow B v L w) (hb : b < B) : PkRow B v L (w.setCell ⟨b, j, none⟩ u) := ⟨own_set h.row (row_ne h.row hb), fun x hx => own5_set (h.own x hx) hb⟩
theorem pkInfo : ∃ z n, (Tryz.prog.info? 31).map (fun i => (i.zero, i.size, i.bytes)) = some (some z, 26, n) ∧ z.cells.size = 26 ∧ n ≤ 1000 := ⟨.agg (pkNil PK.zeroPk), 328, by kernel_rfl, rfl, by decide⟩

theorem fill_pk26 (P : Pk) (vc vp vw vs vf : Value) : Array.foldl (fun (cs : Array Value) (x : Value × Nat) => cs.setIfInBounds x.2 x.1) #[.int .i64 0, .bool false, .bool false, .int .i64 0, .int .i64 0, .string ⟨#[]⟩, .string ⟨#[]⟩, .int .u8 0, .slice none 0 0, .slice none 0 0, .string ⟨#[]⟩, .bool false, .int .i64 0, .bool false, .string ⟨#[]⟩, .string ⟨#[]⟩, .int .i64 0, .bool false, .slice none 0 0, .bool false, .bool false, .string ⟨#[]⟩, .string ⟨#[]⟩, .bool false, .slice none 0 0, .slice none 0 0] (pkCells P vc vp vw vs vf).zipIdx 0 26 = pkCells P vc vp vw vs vf := by
  kernel_rfl

/-- What Feed's function keeps: the packets so far, in a row that the variable in block p holds. -/
def FoI (p : Nat) (w : World) (l : List ByteArray) (W : World) : Prop :=
  ∃ v L, W.heap[p]? = some (.cells #[v] 65 (0, 0)) ∧ PkRow (p + 1) v L W ∧ L.map Pv.p = l.map (fun b => (PK.getPk b).1) ∧ p + 1 ≤ W.heap.size ∧ Below p w W
theorem FoI.below {p : Nat} {w W W' : World} {l : List ByteArray} (h : FoI p w l W) (hb : Below W.heap.size W W') : FoI p w l W' := by
  obtain ⟨v, L, h1, h2, h3, h4, h5⟩ := h
  exact ⟨v, L, (hb.block _ (lt_heap h1)).trans h1, h2.below hb, h3, Nat.le_trans h4 hb.size, h5.trans (hb.mono (by omega))⟩

set_option maxRecDepth 100000 in
set_option maxHeartbeats 1000000 in
theorem feed1_any (p : Nat) (w : World) (l : List ByteArray) (b : ByteArray) (hb : b.size ≤ 140737488351232) (hl : l.length < 1000000) (hT : ∀ W, Below p w W → Tabs W) (W : World) (h : FoI p w l W) :
    Calls Tryz.prog 49 #[.string b, .pointer (some ⟨p, 0, none⟩)] W fun e W' => e = .returned (.int .u8 (PK.getPk b).2) ∧ ((PK.getPk b).2 = 0 → FoI p w (l ++ [b]) W') ∧ ((PK.getPk b).2 ≠ 0 → FoI p w l W') := by
  obtain ⟨v, L, hv, hrow, hLl, hp1, hbe⟩ := id h
  have HF := Lib.hid h
  have CG := Lib.hid (get_pk_any b hb W (fun W' hW => hT W' (hbe.trans (hW.mono (by omega)))))
  obtain ⟨P, hP⟩ : ∃ P, P = (PK.getPk b).1 := ⟨_, rfl⟩
  have HPE := Lib.hid hP
  unfold GtP at CG
  rw [← hP] at CG
  generalize (PK.getPk b).2 = c at *
  clear hP h hT
  have HV := Lib.hid hv
  have HR := Lib.hid hrow
  have HL := Lib.hid hLl
  have HB := Lib.hid hbe
  have hLn : L.length = l.length := by have := congrArg List.length hLl; simpa using this
  clear hv hrow hLl hbe
  by_cases hc : c = 0
  · subst hc
    go_enter Tryz.func49, Tryz.ntmps49
    go_wp2_with fail
    refine CG.out.mono ?_
    rintro e w1 ⟨h1, _, b1⟩
    obtain ⟨vc, vp, vw, vs, vf, rfl, o1⟩ := h1 trivial
    have W1 := Lib.hid (pk_one P o1)
    have Z1 : Hid ((w1.alloc (.cells (pkNil PK.zeroPk) 31)).heap[w1.heap.size]? = some (.cells (pkNil PK.zeroPk) 31 (0, 0))) := Lib.hid (heap_alloc_new w1 _)
    go_upto_region 2 with (refine wpList_store_row (by rfl) 31 (.tmp 4) (.tmp 9) (by rfl) w1.heap.size (pkCells P vc vp vw vs vf) (by rfl) (by rfl) 31 (pkNil PK.zeroPk) Z1.out pk_info rfl W1.out ?_)
    obtain ⟨wA, hwA⟩ : ∃ wA, wA = (w1.alloc (.cells (pkNil PK.zeroPk) 31)).setRow w1.heap.size (pkCells P vc vp vw vs vf) := ⟨_, rfl⟩
    have PA : Hid (wA.heap[w1.heap.size]? = some (.cells (pkCells P vc vp vw vs vf) 31 (0, 0))) := Lib.hid (by rw [hwA]; exact setRow_heap Z1.out)
    have bA : Below w1.heap.size w1 wA := by rw [hwA]; exact below_setRow ((Below.refl _ _).alloc (Nat.le_refl _) _) (Nat.le_refl _) _
    change Code.wp _ _ _ _ ((w1.alloc (.cells (pkNil PK.zeroPk) 31)).setRow w1.heap.size (pkCells P vc vp vw vs vf))
    rw [← hwA]
    have hWA : Below W.heap.size W wA := b1.trans (bA.mono b1.size)
    have vA := (hWA.block _ (lt_heap HV.out)).trans HV.out
    have rA := HR.out.below hWA
    have oA := own5_base (own5_below o1 bA) hp1
    obtain ⟨z, nb, hinf, hzs, hnb⟩ := pkInfo
    obtain ⟨i0, hi0, hz0, hz1, hz2⟩ := info_parts hinf
    have hpA : p + 1 ≤ wA.heap.size := Nat.le_trans hp1 hWA.size
    obtain ⟨v2, w2, hr2, hown2, hg2, hb2⟩ := app1 Tryz.underlying65 hi0 hz0 hz1 hz2 hzs (by decide) hnb (p + 1) v L.length _ wA rA.row hpA (pkCells P vc vp vw vs vf) rfl (fun u hu => by have := W1.out; rw [Array.all_eq_true'] at this; exact this u (by simpa using hu)) (by omega)
    have hp2 := (hg2.block p (by omega) (fun e => by have := (rA.row.lt _ e.symm).1; omega)).trans vA
    obtain ⟨A2, c2, rfl⟩ := own_form hown2
    have q0 : wA.cell? ⟨p, 0, none⟩ = some v := by rw [cell_heap vA]; rfl
    have q2 : w2.cell? ⟨p, 0, none⟩ = some v := by rw [cell_heap hp2]; rfl
    have f2 : w2.frozen? ⟨p, 0, none⟩ = false := frozen_heap hp2
    have HN : Hid (FoI p w (l ++ [b]) (w2.setCell ⟨p, 0, none⟩ (.slice A2 (L.length + 1) c2))) := Lib.hid (by
      have hrr : ∀ g, v.ownBlock = some g → ∃ c fz, wA.heap[g]? = some (.cells c 31 fz) := own_row rA.row
      refine ⟨_, L ++ [⟨P, vc, vp, vw, vs, vf⟩], one_setCell hp2, PkRow.set ⟨by simpa [Pv.cells] using hown2, fun x hx => ?_⟩ (by omega), by rw [List.map_append, List.map_append, HL.out, HPE.out]; rfl, by simp [World.setCell]; have := hg2.size; omega, ?_⟩
      · rcases List.mem_append.1 hx with hx | hx
        · exact own5_kept (rA.own x hx) hg2 hrr
        · simp at hx; subst hx; exact own5_kept oA hg2 hrr
      · have h5 := ((HB.out.trans (hWA.mono (by omega))).trans (hb2.mono (Nat.le_succ p)))
        exact ⟨h5.os, h5.tape, h5.output, by simp [World.setCell]; exact h5.size, fun i hi => (Below.heap_setCell _ _ _ _ (fun e => by simp at e; omega)).trans (h5.block i hi)⟩)
    have hcz : (pkCells P vc vp vw vs vf).size = 26 := rfl
    clear hLn
    clear hwA Z1 b1 bA hWA vA rA oA o1 hinf hzs hnb hi0 hz0 hz1 hz2 hown2 hg2 hb2 hp2 HB HR HL HV CG HF
    go_wp2_with (first
      | refine wpl_load_pk (by rfl) (.tmp 4) (by rfl) w1.heap.size (by rfl) PA.out ?_
      | (at_builtin; simp only [fill_pk26]; refine wpList_run (by rfl) (.tmp 13) (.tmp 15) _ _ (by rfl) (by rfl) (by rfl) hr2 ?_; clear hr2))
    go_ret
    exact ⟨rfl, fun _ => HN.out, fun h => absurd rfl h⟩
  · have e1 : (c == 0) = false := by rw [beq_eq_false_iff_ne]; exact hc
    have HC := Lib.hid hc
    clear hc
    go_enter Tryz.func49, Tryz.ntmps49
    go_wp2_with fail
    refine CG.out.mono ?_
    rintro e w1 ⟨_, h1, b1⟩
    obtain rfl := h1 HC.out
    have O1 := Lib.hid (pkNil_one PK.zeroPk)
    have Z1 : Hid ((w1.alloc (.cells (pkNil PK.zeroPk) 31)).heap[w1.heap.size]? = some (.cells (pkNil PK.zeroPk) 31 (0, 0))) := Lib.hid (heap_alloc_new w1 _)
    have HN : Hid (FoI p w l ((w1.alloc (.cells (pkNil PK.zeroPk) 31)).setRow w1.heap.size (pkNil PK.zeroPk))) := Lib.hid (HF.out.below (b1.trans ((below_setRow ((Below.refl _ _).alloc (Nat.le_refl _) _) (Nat.le_refl _) _ : Below w1.heap.size w1 _).mono b1.size)))
    clear b1 h1 HF CG HV HR HL HB
    go_wp2_with (refine wpList_store_row (by rfl) 31 (.tmp 4) (.tmp 9) (by rfl) w1.heap.size (pkNil PK.zeroPk) (by rfl) (by rfl) 31 (pkNil PK.zeroPk) Z1.out pk_info rfl O1.out ?_)
    go_ret
    exact ⟨rfl, fun h => absurd h HC.out, fun _ => HN.out⟩
end Go.Proofs.YtjajandjdclifaaGreatDoor
namespace Go.Proofs.YtjajandjdclifaaGreatDoor
open Go.RowKit
attribute [local go_sem ↓] Go.wp_at_zero Go.wp_at_succ

/-- The packet that the laws' wakes puts. -/
def wakePk : Pk := ⟨3, false, false, 1, 10, ⟨#[97]⟩, ⟨#[120]⟩, 0, [], [], ⟨#[]⟩, false, 0, false, ⟨#[]⟩, ⟨#[]⟩, 0, false, [], false, false, ⟨#[]⟩, ⟨#[]⟩, false, [], []⟩
theorem wakePk_f : PkF wakePk := by
  have z : Short (ByteArray.mk #[]) := Nat.zero_le _
  have i0 : I64 0 := ⟨by decide, by decide⟩
  exact ⟨⟨⟨by decide, by decide⟩, ⟨by decide, by decide⟩, ⟨by decide, by decide⟩, (by decide : (1 : Nat) ≤ 140737488351232), (by decide : (1 : Nat) ≤ 140737488351232), ⟨by decide, by decide⟩, z, i0, z, z, i0, z, z, ⟨Nat.zero_le _, fun c hc => by cases hc⟩, ⟨Nat.zero_le _, fun c hc => by cases hc⟩, ⟨Nat.zero_le _, fun c hc => by cases hc⟩⟩, ⟨Nat.zero_le _, fun c hc => by cases hc⟩, ⟨Nat.zero_le _, fun c hc => by cases hc⟩⟩
theorem wakePk_s : PK.putS wakePk = ⟨#[50, 7, 0, 1, 97, 0, 10, 0, 120]⟩ := by kernel_rfl
theorem wakePk_c : PK.putC wakePk = 0 := by kernel_rfl
theorem own5_nil (B : Nat) (w : World) (P : Pk) (h1 : P.codes = []) (h2 : P.props = []) (h3 : P.wprops = []) (h4 : P.subs = []) (h5 : P.filters = []) : Own5 B P (.slice none 0 0) (.slice none 0 0) (.slice none 0 0) (.slice none 0 0) (.slice none 0 0) w := by
  refine ⟨?_, ?_, ?_, ?_, ?_⟩
  · rw [h1]; exact own_nil _ _ _ _
  · rw [h2]; exact own_nil _ _ _ _
  · rw [h3]; exact own_nil _ _ _ _
  · rw [h4]; exact own_nil _ _ _ _
  · rw [h5]; exact own_nil _ _ _ _
set_option maxRecDepth 100000 in
set_option maxHeartbeats 1000000 in
theorem lwakes_any (w : World) (hT : ∀ W, Below w.heap.size w W → Tabs W) : Calls Tryz.prog 17 #[] w fun e w' => e = .returned (.bool true) ∧ Below w.heap.size w w' := by
  have C : Hid (Calls Tryz.prog 16 #[.agg (pkNil wakePk)] w fun e w' => e = .returned (.tuple #[.string ⟨#[50, 7, 0, 1, 97, 0, 10, 0, 120]⟩, .int .u8 0]) ∧ Below w.heap.size w w') := Lib.hid (by
    have := pput_any wakePk (.slice none 0 0) (.slice none 0 0) (.slice none 0 0) (.slice none 0 0) (.slice none 0 0) w (own5_in (own5_nil 0 w wakePk rfl rfl rfl rfl rfl) wakePk_f hT)
    rw [wakePk_s, wakePk_c] at this
    exact this)
  clear hT
  go_enter Tryz.func17, Tryz.ntmps17
  go_wp2_with fail
  refine C.out.mono ?_
  rintro e w1 ⟨rfl, b1⟩
  have B1 := Lib.hid b1
  clear b1 C
  go_wp2_with fail
  go_ret
  exact ⟨rfl, B1.out⟩

set_option maxRecDepth 100000 in
set_option maxHeartbeats 4000000 in
theorem packetTwice_walk (s : ByteArray) (hs : s.size ≤ 140737488351232) (w : World) (hT0 : Tabs w) :
    Calls Tryz.prog 5 #[.string s] w fun e w' => e = .returned (.bool true) ∧ Below w.heap.size w w' := by
  have HTb : Hid (∀ W, Below w.heap.size w W → Tabs W) := Lib.hid (fun W hW => hT0.below hW)
  have CG := Lib.hid (get_pk_any s hs w HTb.out)
  have HTw := Lib.hid (PK.twice s)
  have HPf := Lib.hid (PK.getPk_f s hs)
  obtain ⟨P, hP⟩ : ∃ P, P = (PK.getPk s).1 := ⟨_, rfl⟩
  unfold GtP at CG
  rw [← hP] at CG HTw HPf
  generalize hcd : (PK.getPk s).2 = c at *
  clear hT0 hP hcd
  by_cases hc : c = 0
  · subst hc
    obtain ⟨t1, t2, t3⟩ := HTw.out (by first | rfl | trivial)
    have T1 := Lib.hid t1
    have T3 := Lib.hid t3
    generalize hS : PK.putS P = S at *
    have HS := Lib.hid hS
    have hSi : (S.size : Int) ≤ (s.size : Int) := by omega
    clear t1 t3 hS HTw
    go_enter Tryz.func5, Tryz.ntmps5
    go_wp2_with fail
    refine CG.out.mono ?_
    rintro e w1 ⟨h1, _, b1⟩
    obtain ⟨vc, vp, vw, vs, vf, rfl, o1⟩ := h1 (by first | rfl | trivial)
    have W1 := Lib.hid (pk_one P o1)
    have Z1 : Hid ((w1.alloc (.cells (pkNil PK.zeroPk) 31)).heap[w1.heap.size]? = some (.cells (pkNil PK.zeroPk) 31 (0, 0))) := Lib.hid (heap_alloc_new w1 _)
    obtain ⟨wA, hwA⟩ : ∃ wA, wA = (w1.alloc (.cells (pkNil PK.zeroPk) 31)).setRow w1.heap.size (pkCells P vc vp vw vs vf) := ⟨_, rfl⟩
    have pA : wA.heap[w1.heap.size]? = some (.cells (pkCells P vc vp vw vs vf) 31 (0, 0)) := by rw [hwA]; exact setRow_heap Z1.out
    have bA : Below w1.heap.size w1 wA := by rw [hwA]; exact below_setRow ((Below.refl _ _).alloc (Nat.le_refl _) _) (Nat.le_refl _) _
    have oA := own5_below o1 bA
    have hBA := b1.trans (bA.mono b1.size)
    have CW := Lib.hid (lwakes_any wA (fun W hW => HTb.out W (hBA.trans (hW.mono hBA.size))))
    have PA := Lib.hid pA; have OA := Lib.hid oA; have HBA := Lib.hid hBA; have HwA := Lib.hid hwA
    clear h1 b1 o1 pA bA oA hBA hwA CG
    go_upto_region 2 with (refine wpList_store_row (by rfl) 31 (.tmp 3) (.tmp 14) (by rfl) w1.heap.size (pkCells P vc vp vw vs vf) (by rfl) (by rfl) 31 (pkNil PK.zeroPk) Z1.out pk_info rfl W1.out ?_)
    change Code.wp _ _ _ _ ((w1.alloc (.cells (pkNil PK.zeroPk) 31)).setRow w1.heap.size (pkCells P vc vp vw vs vf))
    rw [← HwA.out]
    clear HwA Z1
    go_wp2_with fail
    refine CW.out.mono ?_
    rintro e w3 ⟨rfl, b3⟩
    have p3 := (b3.block _ (lt_heap PA.out)).trans PA.out
    have o3 := own5_below OA.out b3
    have hB3 := HBA.out.trans (b3.mono HBA.out.size)
    have CP := Lib.hid (pput_any P vc vp vw vs vf w3 (own5_in o3 HPf.out (fun W hW => HTb.out W (hB3.trans (hW.mono hB3.size)))))
    rw [HS.out, T1.out] at CP
    have P3 := Lib.hid p3; have HB3 := Lib.hid hB3
    obtain ⟨Ap, cp, hvp⟩ := own_form o3.props
    subst hvp
    clear b3 p3 o3 hB3 CW PA OA HBA
    go_wp2_with (refine wpl_load_pk (by rfl) (.tmp 3) (by rfl) w1.heap.size (by rfl) P3.out ?_)
    refine CP.out.mono ?_
    rintro e w4 ⟨rfl, b4⟩
    have p4 := (b4.block _ (lt_heap P3.out)).trans P3.out
    have hB4 := HB3.out.trans (b4.mono HB3.out.size)
    have CG2 := Lib.hid (get_pk_any S (by omega) w4 (fun W hW => HTb.out W (hB4.trans (hW.mono hB4.size))))
    unfold GtP at CG2
    rw [T3.out] at CG2
    have P4 := Lib.hid p4; have HB4 := Lib.hid hB4
    clear b4 p4 hB4 CP P3 HB3 T3
    go_wp2_with fail
    refine CG2.out.mono ?_
    rintro e w5 ⟨h5, _, b5⟩
    obtain ⟨uc, up, uw, us, uf, rfl, o5⟩ := h5 (by first | rfl | trivial)
    have W5 := Lib.hid (pk_one P o5)
    have p5 := (b5.block _ (lt_heap P4.out)).trans P4.out
    have hB5 := HB4.out.trans (b5.mono HB4.out.size)
    have Z5 : Hid ((w5.alloc (.cells (pkNil PK.zeroPk) 31)).heap[w5.heap.size]? = some (.cells (pkNil PK.zeroPk) 31 (0, 0))) := Lib.hid (heap_alloc_new w5 _)
    obtain ⟨wB, hwB⟩ : ∃ wB, wB = (w5.alloc (.cells (pkNil PK.zeroPk) 31)).setRow w5.heap.size (pkCells P uc up uw us uf) := ⟨_, rfl⟩
    have qB : wB.heap[w5.heap.size]? = some (.cells (pkCells P uc up uw us uf) 31 (0, 0)) := by rw [hwB]; exact setRow_heap Z5.out
    have bB : Below w5.heap.size w5 wB := by rw [hwB]; exact below_setRow ((Below.refl _ _).alloc (Nat.le_refl _) _) (Nat.le_refl _) _
    have pB := (bB.block _ (lt_heap p5)).trans p5
    have oB := own5_below o5 bB
    have hBB := hB5.trans (bB.mono hB5.size)
    have CP2 := Lib.hid (pput_any P uc up uw us uf wB (own5_in oB HPf.out (fun W hW => HTb.out W (hBB.trans (hW.mono hBB.size)))))
    rw [HS.out, T1.out] at CP2
    obtain ⟨Aq, cq, hvq⟩ := own_form oB.props
    subst hvq
    have QB := Lib.hid qB; have PB := Lib.hid pB; have HBB := Lib.hid hBB; have HwB := Lib.hid hwB
    clear h5 b5 o5 p5 hB5 qB bB pB oB hBB hwB CG2 P4 HB4
    go_upto_region 6 with (refine wpList_store_row (by rfl) 31 (.tmp 7) (.tmp 36) (by rfl) w5.heap.size (pkCells P uc (.slice Aq P.props.length cq) uw us uf) (by rfl) (by rfl) 31 (pkNil PK.zeroPk) Z5.out pk_info rfl W5.out ?_)
    change Code.wp _ _ _ _ ((w5.alloc (.cells (pkNil PK.zeroPk) 31)).setRow w5.heap.size (pkCells P uc (.slice Aq P.props.length cq) uw us uf))
    rw [← HwB.out]
    clear HwB Z5
    go_wp2_with (refine wpl_load_pk (by rfl) (.tmp 7) (by rfl) w5.heap.size (by rfl) QB.out ?_)
    refine CP2.out.mono ?_
    rintro e w7 ⟨rfl, b7⟩
    have hB7 := HBB.out.trans (b7.mono HBB.out.size)
    obtain ⟨x0, -, -, -, x4, x5, x6, x7, -, x9, -⟩ := pk_cells ((b7.block _ (lt_heap PB.out)).trans PB.out)
    obtain ⟨y0, -, -, -, y4, y5, y6, y7, -, y9, -⟩ := pk_cells ((b7.block _ (lt_heap QB.out)).trans QB.out)
    have HB7 := Lib.hid hB7
    clear b7 hB7 CP2 QB PB HBB
    go_wp2_with fail
    go_ret
    exact ⟨rfl, HB7.out⟩
  · have hne : (c != 0) = true := by rw [bne_iff_ne]; exact hc
    have HC := Lib.hid hc
    have O1 := Lib.hid (pkNil_one PK.zeroPk)
    clear hc HTw HPf
    go_enter Tryz.func5, Tryz.ntmps5
    go_wp2_with fail
    refine CG.out.mono ?_
    rintro e w1 ⟨_, h1, b1⟩
    obtain rfl := h1 HC.out
    have Z1 : Hid ((w1.alloc (.cells (pkNil PK.zeroPk) 31)).heap[w1.heap.size]? = some (.cells (pkNil PK.zeroPk) 31 (0, 0))) := Lib.hid (heap_alloc_new w1 _)
    obtain ⟨wA, hwA⟩ : ∃ wA, wA = (w1.alloc (.cells (pkNil PK.zeroPk) 31)).setRow w1.heap.size (pkNil PK.zeroPk) := ⟨_, rfl⟩
    have pA : wA.heap[w1.heap.size]? = some (.cells (pkNil PK.zeroPk) 31 (0, 0)) := by rw [hwA]; exact setRow_heap Z1.out
    have bA : Below w1.heap.size w1 wA := by rw [hwA]; exact below_setRow ((Below.refl _ _).alloc (Nat.le_refl _) _) (Nat.le_refl _) _
    have hBA := b1.trans (bA.mono b1.size)
    have CW := Lib.hid (lwakes_any wA (fun W hW => HTb.out W (hBA.trans (hW.mono hBA.size))))
    have PA := Lib.hid pA; have HBA := Lib.hid hBA; have HwA := Lib.hid hwA
    clear h1 b1 pA bA hBA hwA CG
    go_upto_region 2 with (refine wpList_store_row (by rfl) 31 (.tmp 3) (.tmp 14) (by rfl) w1.heap.size (pkNil PK.zeroPk) (by rfl) (by rfl) 31 (pkNil PK.zeroPk) Z1.out pk_info rfl O1.out ?_)
    change Code.wp _ _ _ _ ((w1.alloc (.cells (pkNil PK.zeroPk) 31)).setRow w1.heap.size (pkNil PK.zeroPk))
    rw [← HwA.out]
    clear HwA Z1
    go_wp2_with fail
    refine CW.out.mono ?_
    rintro e w3 ⟨rfl, b3⟩
    have p3 := (b3.block _ (lt_heap PA.out)).trans PA.out
    have hB3 := HBA.out.trans (b3.mono HBA.out.size)
    have CW2 := Lib.hid (lwakes_any w3 (fun W hW => HTb.out W (hB3.trans (hW.mono hB3.size))))
    have P3 := Lib.hid p3; have HB3 := Lib.hid hB3
    clear b3 p3 hB3 CW PA HBA
    go_wp2_with fail
    refine CW2.out.mono ?_
    rintro e w4 ⟨rfl, b4⟩
    have x0 : w4.cell? ⟨w1.heap.size, 0, none⟩ = some (.int .i64 0) := by rw [cell_heap ((b4.block _ (lt_heap P3.out)).trans P3.out)]; rfl
    have HB4 := Lib.hid (HB3.out.trans (b4.mono HB3.out.size))
    clear b4 CW2 P3 HB3
    go_wp2_with fail
    go_ret
    exact ⟨rfl, HB4.out⟩
end Go.Proofs.YtjajandjdclifaaGreatDoor
