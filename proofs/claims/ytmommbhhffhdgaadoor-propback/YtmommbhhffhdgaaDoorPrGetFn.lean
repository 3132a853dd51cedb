/- A property's value, read: the program's. -/
import Derived.Test.YtmommbhhffhdgaaDoorPrGetP
import Derived.Test.YtmommbhhffhdgaaDoorPrPutOne
import Derived.Test.YtmommbhhffhdgaaDoorVarGetRef
namespace Go.Proofs.YtmommbhhffhdgaaDoor
open Go.RowKit

namespace PR
def pairG (T : ByteArray) (p : Int) : ByteArray × ByteArray × Int × Int :=
  if (TX.getT T p).2.2 ≠ 0 then (⟨#[]⟩, ⟨#[]⟩, 0, (TX.getT T p).2.2) else if (TX.getT T (TX.getT T p).2.1).2.2 ≠ 0 then (⟨#[]⟩, ⟨#[]⟩, 0, (TX.getT T (TX.getT T p).2.1).2.2) else ((TX.getT T p).1, (TX.getT T (TX.getT T p).2.1).1, (TX.getT T (TX.getT T p).2.1).2.1, 0)
/-- What getValue answers: nothing beside a code. -/
def val1 (T : ByteArray) (p id : Int) : Pr × Int × Int := if (rdv T p id).2.2 ≠ 0 then (zp, 0, (rdv T p id).2.2) else rdv T p id
end PR

theorem ret4 {a b : ByteArray} {c d : Int} {x : ByteArray × ByteArray × Int × Int} (h : x = (a, b, c, d)) : Ending.returned (.tuple #[.string a, .string b, .int .i64 c, .int .u8 d]) = .returned (.tuple #[.string x.1, .string x.2.1, .int .i64 x.2.2.1, .int .u8 x.2.2.2]) := by rw [h]

set_option maxHeartbeats 1000000 in
theorem gpair_any (s : ByteArray) (at_ : Int) (hs : s.size ≤ 140737488351232) (w : World) (hT : Tabs w) :
    Calls Tryd.prog 55 #[.string s, .int .i64 at_] w fun e w' => e = .returned (.tuple #[.string (PR.pairG s at_).1, .string (PR.pairG s at_).2.1, .int .i64 (PR.pairG s at_).2.2.1, .int .u8 (PR.pairG s at_).2.2.2]) ∧ Below w.heap.size w w' := by
  have C1 := Lib.hid (tget_any s at_ hs w hT)
  have C2 : Hid (∀ W', Below w.heap.size w W' → Calls Tryd.prog 54 #[.string s, .int .i64 (TX.getT s at_).2.1] W' fun e w' => e = .returned (.tuple #[.string (TX.getT s (TX.getT s at_).2.1).1, .int .i64 (TX.getT s (TX.getT s at_).2.1).2.1, .int .u8 (TX.getT s (TX.getT s at_).2.1).2.2]) ∧ Below W'.heap.size W' w') := fun W' hW => tget_any s _ hs W' (hT.below hW)
  have hp : PR.pairG s at_ = if (TX.getT s at_).2.2 ≠ 0 then (⟨#[]⟩, ⟨#[]⟩, 0, (TX.getT s at_).2.2) else if (TX.getT s (TX.getT s at_).2.1).2.2 ≠ 0 then (⟨#[]⟩, ⟨#[]⟩, 0, (TX.getT s (TX.getT s at_).2.1).2.2) else ((TX.getT s at_).1, (TX.getT s (TX.getT s at_).2.1).1, (TX.getT s (TX.getT s at_).2.1).2.1, 0) := rfl
  generalize PR.pairG s at_ = PG at *
  generalize TX.getT s (TX.getT s at_).2.1 = d2 at *
  generalize TX.getT s at_ = d1 at *
  obtain ⟨x1, t1, c1⟩ := d1
  obtain ⟨x2, t2, c2⟩ := d2
  simp only at C1 C2 hp
  clear hT
  by_cases h1 : c1 = 0
  · subst h1
    by_cases h2 : c2 = 0
    · subst h2
      simp only [ne_eq, not_true_eq_false, if_false] at hp
      have HP := Lib.hid hp
      clear hp
      go_enter Tryd.func55, Tryd.ntmps55
      go_wp2_with fail
      refine C1.out.mono ?_
      rintro e w1 ⟨rfl, b1⟩
      have B1 := Lib.hid b1
      clear b1
      go_wp2_with fail
      refine (C2.out _ B1.out).mono ?_
      rintro e w2 ⟨rfl, b2⟩
      have B2 := Lib.hid b2
      clear b2
      go_wp2
      refine bodyPost_ret (v := .tuple #[.string x1, .string x2, .int .i64 t2, .int .u8 0]) (by simp [results, Tryd.results55, go_sem]) rfl ⟨?_, B1.out.trans (B2.out.mono B1.out.size)⟩
      exact ret4 HP.out
    · have hne : (c2 != 0) = true := by rw [bne_iff_ne]; exact h2
      simp only [ne_eq, not_true_eq_false, if_false, h2, not_false_eq_true, if_true] at hp
      have HP := Lib.hid hp
      clear hp h2
      go_enter Tryd.func55, Tryd.ntmps55
      go_wp2_with fail
      refine C1.out.mono ?_
      rintro e w1 ⟨rfl, b1⟩
      have B1 := Lib.hid b1
      clear b1
      go_wp2_with fail
      refine (C2.out _ B1.out).mono ?_
      rintro e w2 ⟨rfl, b2⟩
      have B2 := Lib.hid b2
      clear b2
      go_wp2
      refine bodyPost_ret (v := .tuple #[.string ⟨#[]⟩, .string ⟨#[]⟩, .int .i64 0, .int .u8 c2]) (by simp [results, Tryd.results55, go_sem]) rfl ⟨?_, B1.out.trans (B2.out.mono B1.out.size)⟩
      exact ret4 HP.out
  · have hne : (c1 != 0) = true := by rw [bne_iff_ne]; exact h1
    simp only [ne_eq, h1, not_false_eq_true, if_true] at hp
    have HP := Lib.hid hp
    clear hp h1
    go_enter Tryd.func55, Tryd.ntmps55
    go_wp2_with fail
    refine C1.out.mono ?_
    rintro e w1 ⟨rfl, b1⟩
    have B1 := Lib.hid b1
    clear b1
    go_wp2
    refine bodyPost_ret (v := .tuple #[.string ⟨#[]⟩, .string ⟨#[]⟩, .int .i64 0, .int .u8 c1]) (by simp [results, Tryd.results55, go_sem]) rfl ⟨?_, B1.out⟩
    exact ret4 HP.out

theorem reader4 (w : World) : Calls Tryd.prog 56 #[.int .i64 4] w fun e w' => e = .returned (.func (.func 24) #[] #[]) ∧ w = w' := by
  go_enter Tryd.func56, Tryd.ntmps56
  go_wp2
  go_ret
  exact ⟨rfl, rfl⟩
theorem readerk (k : Int) (hk : (k == 4) = false) (w : World) : Calls Tryd.prog 56 #[.int .i64 k] w fun e w' => e = .returned (.func (.func 64) #[] #[.pointer (some ⟨w.heap.size, 0, none⟩)]) ∧ w' = w.alloc (.cells #[.int .i64 (PR.wd k)] 3) := by
  have hmf : ∀ (fn : Fn) (first cap : Array Value) (w : World), (Instr.makeFunc fn first cap).run Tryd.prog w = .ok (.func fn first cap) w := fun _ _ _ _ => rfl
  have C := Lib.hid (width_any k w)
  go_enter Tryd.func56, Tryd.ntmps56
  go_wp2_with fail
  refine C.out.mono ?_
  rintro e w1 ⟨rfl, rfl⟩
  go_wp2
  go_ret
  exact ⟨rfl, rfl⟩
theorem rclo_any (s : ByteArray) (at_ wk : Int) (b : Nat) (hs : s.size ≤ maxLen) (w : World) (hc : w.cell? ⟨b, 0, none⟩ = some (.int .i64 wk)) :
    Calls Tryd.prog 64 #[.string s, .int .i64 at_, .pointer (some ⟨b, 0, none⟩)] w fun e w' => e = .returned (.tuple #[.int .i64 (VP.rd s at_ wk).1, .int .i64 (VP.rd s at_ wk).2.1, .int .u8 (VP.rd s at_ wk).2.2]) ∧ w = w' := by
  have C := Lib.hid (read_any s at_ wk hs w)
  generalize VP.rd s at_ wk = R at *
  obtain ⟨a, t, c⟩ := R
  simp only at C ⊢
  go_enter Tryd.func64, Tryd.ntmps64
  go_wp2_with fail
  refine C.out.mono ?_
  rintro e w1 ⟨rfl, rfl⟩
  go_wp2
  go_ret3
  exact ⟨rfl, rfl⟩

def RetP (w : World) (x : Pr × Int × Int) (e : Ending) (w' : World) : Prop :=
  e = .returned (.tuple #[.agg #[.int .i64 x.1.id, .int .i64 x.1.n, .string x.1.s, .string x.1.t], .int .i64 x.2.1, .int .u8 x.2.2]) ∧ Below w.heap.size w w'
theorem RetP.mk {w w' : World} {x : Pr × Int × Int} {a b c d : Int} {s t : ByteArray} (h : x = (⟨a, b, s, t⟩, c, d)) (hb : Below w.heap.size w w') : RetP w x (.returned (.tuple #[.agg #[.int .i64 a, .int .i64 b, .string s, .string t], .int .i64 c, .int .u8 d])) w' := by
  subst h; exact ⟨rfl, hb⟩
theorem val1_bad {T : ByteArray} {p id : Int} {q : Pr} {t c : Int} (h : PR.rdv T p id = (q, t, c)) (hc : c ≠ 0) : PR.val1 T p id = (PR.zp, 0, c) := by unfold PR.val1; rw [h, if_pos hc]
theorem val1_ok {T : ByteArray} {p id : Int} {q : Pr} {t : Int} (h : PR.rdv T p id = (q, t, 0)) : PR.val1 T p id = (q, t, 0) := by unfold PR.val1; rw [h, if_neg (by simp)]

set_option maxRecDepth 100000 in
set_option maxHeartbeats 8000000 in
theorem gvalue_any (s : ByteArray) (at_ id : Int) (hs : s.size ≤ 140737488351232) (w : World) (hT : Tabs w) :
    Calls Tryd.prog 40 #[.int .i64 id, .string s, .int .i64 at_] w (RetP w (PR.val1 s at_ id)) := by
  have hsm : s.size ≤ maxLen := by unfold maxLen; omega
  have CK := Lib.hid (kind_any id)
  have hk := kd_parts _ (PR.kd_le id)
  have C4 := Lib.hid (fun W => get_any s at_ hsm W)
  have C5 := Lib.hid (fun W => getdata_any s at_ hsm W)
  have C6 : Hid (∀ W', Below w.heap.size w W' → _) := fun W' hW => tget_any s at_ hs W' (hT.below hW)
  have C7 : Hid (∀ W', Below w.heap.size w W' → _) := fun W' hW => gpair_any s at_ hs W' (hT.below hW)
  have C8 := Lib.hid (fun wk b W hc => rclo_any s at_ wk b hsm W hc)
  have C9 := Lib.hid reader4
  have C10 := Lib.hid readerk
  have hv : PR.rdv s at_ id = PR.rdv s at_ id := rfl
  conv at hv => rhs; unfold PR.rdv
  have H0 : Hid (Below w.heap.size w ((w.alloc (.cells #[.int .i64 0, .int .i64 0, .string ⟨#[]⟩, .string ⟨#[]⟩] 39)).alloc (.cells #[.int .i64 id, .int .i64 0, .string ⟨#[]⟩, .string ⟨#[]⟩] 39))) := ((Below.refl w.heap.size w).alloc (Nat.le_refl _) _).alloc (by simp) _
  have h6 : Hid (((w.alloc (.cells #[.int .i64 0, .int .i64 0, .string ⟨#[]⟩, .string ⟨#[]⟩] 39)).alloc (.cells #[.int .i64 id, .int .i64 0, .string ⟨#[]⟩, .string ⟨#[]⟩] 39)).heap[w.heap.size]? = some (.cells #[.int .i64 0, .int .i64 0, .string ⟨#[]⟩, .string ⟨#[]⟩] 39 (0, 0))) := (Below.heap_alloc _ _ _ (by simp)).trans (heap_alloc_new w _)
  have h9 : Hid (((w.alloc (.cells #[.int .i64 0, .int .i64 0, .string ⟨#[]⟩, .string ⟨#[]⟩] 39)).alloc (.cells #[.int .i64 id, .int .i64 0, .string ⟨#[]⟩, .string ⟨#[]⟩] 39)).heap[w.heap.size + 1]? = some (.cells #[.int .i64 id, .int .i64 0, .string ⟨#[]⟩, .string ⟨#[]⟩] 39 (0, 0))) := by
    have := heap_alloc_new (w.alloc (.cells #[.int .i64 0, .int .i64 0, .string ⟨#[]⟩, .string ⟨#[]⟩] 39)) (.cells #[.int .i64 id, .int .i64 0, .string ⟨#[]⟩, .string ⟨#[]⟩] 39)
    rwa [show (w.alloc (.cells #[.int .i64 0, .int .i64 0, .string ⟨#[]⟩, .string ⟨#[]⟩] 39)).heap.size = w.heap.size + 1 by simp] at this
  have hsz : w.heap.size + 2 ≤ ((w.alloc (.cells #[.int .i64 0, .int .i64 0, .string ⟨#[]⟩, .string ⟨#[]⟩] 39)).alloc (.cells #[.int .i64 id, .int .i64 0, .string ⟨#[]⟩, .string ⟨#[]⟩] 39)).heap.size := by simp
  clear hT hsm
  generalize PR.kd id = k at *
  rcases hk with rfl | rfl | rfl | rfl | hk
  · simp only [if_true] at hv
    generalize VP.get s at_ = R at *
    obtain ⟨a, t, c⟩ := R
    simp only at C4 hv
    go_enter Tryd.func40, Tryd.ntmps40
    go_wp2_with fail
    refine (CK.out _).mono ?_
    rintro e w1 ⟨rfl, rfl⟩
    go_wp2_with fail
    refine (C9.out _).mono ?_
    rintro e w1 ⟨rfl, rfl⟩
    go_wp2_with fail
    refine (C4.out _).mono ?_
    rintro e w1 ⟨rfl, rfl⟩
    generalize ((w.alloc (.cells #[.int .i64 0, .int .i64 0, .string ⟨#[]⟩, .string ⟨#[]⟩] 39)).alloc (.cells #[.int .i64 id, .int .i64 0, .string ⟨#[]⟩, .string ⟨#[]⟩] 39)) = V at *
    have B1 : Hid (Below V.heap.size V V) := Below.refl _ _
    have b6 : V.heap[w.heap.size]? = some (.cells #[.int .i64 0, .int .i64 0, .string ⟨#[]⟩, .string ⟨#[]⟩] 39 (0, 0)) := (B1.out.block _ (by omega)).trans h6.out
    have b9 : V.heap[w.heap.size + 1]? = some (.cells #[.int .i64 id, .int .i64 0, .string ⟨#[]⟩, .string ⟨#[]⟩] 39 (0, 0)) := (B1.out.block _ (by omega)).trans h9.out
    have z0 : V.cell? ⟨w.heap.size, 0, none⟩ = some (.int .i64 0) := by rw [cell_heap b6]; rfl
    have z1 : V.cell? ⟨w.heap.size, 1, none⟩ = some (.int .i64 0) := by rw [cell_heap b6]; rfl
    have z2 : V.cell? ⟨w.heap.size, 2, none⟩ = some (.string ⟨#[]⟩) := by rw [cell_heap b6]; rfl
    have z3 : V.cell? ⟨w.heap.size, 3, none⟩ = some (.string ⟨#[]⟩) := by rw [cell_heap b6]; rfl
    have f0 : V.frozen? ⟨w.heap.size, 0, none⟩ = false := frozen_heap b6
    have f1 : V.frozen? ⟨w.heap.size, 1, none⟩ = false := frozen_heap b6
    have f2 : V.frozen? ⟨w.heap.size, 2, none⟩ = false := frozen_heap b6
    have f3 : V.frozen? ⟨w.heap.size, 3, none⟩ = false := frozen_heap b6
    have p0 : V.cell? ⟨w.heap.size + 1, 0, none⟩ = some (.int .i64 id) := by rw [cell_heap b9]; rfl
    have p1 : V.cell? ⟨w.heap.size + 1, 1, none⟩ = some (.int .i64 0) := by rw [cell_heap b9]; rfl
    have p2 : V.cell? ⟨w.heap.size + 1, 2, none⟩ = some (.string ⟨#[]⟩) := by rw [cell_heap b9]; rfl
    have p3 : V.cell? ⟨w.heap.size + 1, 3, none⟩ = some (.string ⟨#[]⟩) := by rw [cell_heap b9]; rfl
    have g1 : V.frozen? ⟨w.heap.size + 1, 1, none⟩ = false := frozen_heap b9
    have g2 : V.frozen? ⟨w.heap.size + 1, 2, none⟩ = false := frozen_heap b9
    have g3 : V.frozen? ⟨w.heap.size + 1, 3, none⟩ = false := frozen_heap b9
    have hB : Hid (Below w.heap.size w V) := H0.out.trans (B1.out.mono (by omega))
    clear b6 b9
    by_cases hc : c = 0
    · subst hc
      have HV := Lib.hid (val1_ok hv)
      clear hv
      go_wp2
      refine bodyPost_ret (v := .tuple #[.agg #[.int .i64 id, .int .i64 a, .string ⟨#[]⟩, .string ⟨#[]⟩], .int .i64 t, .int .u8 0]) (by simp [results, Tryd.results40, go_sem, z0, z1, z2, z3]) rfl (RetP.mk HV.out ?_)
      (repeat (refine Below.setCell ?_ (by first | (simp; done) | (simp; omega) | omega) _)); exact hB.out
    · have hne : (c != 0) = true := by rw [bne_iff_ne]; exact hc
      have HV := Lib.hid (val1_bad hv hc)
      clear hv hc
      go_wp2
      refine bodyPost_ret (v := .tuple #[.agg #[.int .i64 0, .int .i64 0, .string ⟨#[]⟩, .string ⟨#[]⟩], .int .i64 0, .int .u8 c]) (by simp [results, Tryd.results40, go_sem, z0, z1, z2, z3]) rfl (RetP.mk HV.out ?_)
      (repeat (refine Below.setCell ?_ (by first | (simp; done) | (simp; omega) | omega) _)); exact hB.out
  · simp only [show ((5 : Int) = 4) = False by decide, if_true, if_false] at hv
    generalize VP.dat s at_ = R at *
    obtain ⟨a, t, c⟩ := R
    simp only at C5 hv
    go_enter Tryd.func40, Tryd.ntmps40
    go_wp2_with fail
    refine (CK.out _).mono ?_
    rintro e w1 ⟨rfl, rfl⟩
    go_wp2_with fail
    refine (C5.out _).mono ?_
    rintro e w2 ⟨rfl, b2⟩
    have B2 := Lib.hid b2
    clear b2
    generalize ((w.alloc (.cells #[.int .i64 0, .int .i64 0, .string ⟨#[]⟩, .string ⟨#[]⟩] 39)).alloc (.cells #[.int .i64 id, .int .i64 0, .string ⟨#[]⟩, .string ⟨#[]⟩] 39)) = V at *
    have b6 : w2.heap[w.heap.size]? = some (.cells #[.int .i64 0, .int .i64 0, .string ⟨#[]⟩, .string ⟨#[]⟩] 39 (0, 0)) := (B2.out.block _ (by omega)).trans h6.out
    have b9 : w2.heap[w.heap.size + 1]? = some (.cells #[.int .i64 id, .int .i64 0, .string ⟨#[]⟩, .string ⟨#[]⟩] 39 (0, 0)) := (B2.out.block _ (by omega)).trans h9.out
    have z0 : w2.cell? ⟨w.heap.size, 0, none⟩ = some (.int .i64 0) := by rw [cell_heap b6]; rfl
    have z1 : w2.cell? ⟨w.heap.size, 1, none⟩ = some (.int .i64 0) := by rw [cell_heap b6]; rfl
    have z2 : w2.cell? ⟨w.heap.size, 2, none⟩ = some (.string ⟨#[]⟩) := by rw [cell_heap b6]; rfl
    have z3 : w2.cell? ⟨w.heap.size, 3, none⟩ = some (.string ⟨#[]⟩) := by rw [cell_heap b6]; rfl
    have f0 : w2.frozen? ⟨w.heap.size, 0, none⟩ = false := frozen_heap b6
    have f1 : w2.frozen? ⟨w.heap.size, 1, none⟩ = false := frozen_heap b6
    have f2 : w2.frozen? ⟨w.heap.size, 2, none⟩ = false := frozen_heap b6
    have f3 : w2.frozen? ⟨w.heap.size, 3, none⟩ = false := frozen_heap b6
    have p0 : w2.cell? ⟨w.heap.size + 1, 0, none⟩ = some (.int .i64 id) := by rw [cell_heap b9]; rfl
    have p1 : w2.cell? ⟨w.heap.size + 1, 1, none⟩ = some (.int .i64 0) := by rw [cell_heap b9]; rfl
    have p2 : w2.cell? ⟨w.heap.size + 1, 2, none⟩ = some (.string ⟨#[]⟩) := by rw [cell_heap b9]; rfl
    have p3 : w2.cell? ⟨w.heap.size + 1, 3, none⟩ = some (.string ⟨#[]⟩) := by rw [cell_heap b9]; rfl
    have g1 : w2.frozen? ⟨w.heap.size + 1, 1, none⟩ = false := frozen_heap b9
    have g2 : w2.frozen? ⟨w.heap.size + 1, 2, none⟩ = false := frozen_heap b9
    have g3 : w2.frozen? ⟨w.heap.size + 1, 3, none⟩ = false := frozen_heap b9
    have hB : Hid (Below w.heap.size w w2) := H0.out.trans (B2.out.mono (by omega))
    clear b6 b9
    by_cases hc : c = 0
    · subst hc
      have HV := Lib.hid (val1_ok hv)
      clear hv
      go_wp2
      refine bodyPost_ret (v := .tuple #[.agg #[.int .i64 id, .int .i64 0, .string a, .string ⟨#[]⟩], .int .i64 t, .int .u8 0]) (by simp [results, Tryd.results40, go_sem, z0, z1, z2, z3]) rfl (RetP.mk HV.out ?_)
      (repeat (refine Below.setCell ?_ (by first | (simp; done) | (simp; omega) | omega) _)); exact hB.out
    · have hne : (c != 0) = true := by rw [bne_iff_ne]; exact hc
      have HV := Lib.hid (val1_bad hv hc)
      clear hv hc
      go_wp2
      refine bodyPost_ret (v := .tuple #[.agg #[.int .i64 0, .int .i64 0, .string ⟨#[]⟩, .string ⟨#[]⟩], .int .i64 0, .int .u8 c]) (by simp [results, Tryd.results40, go_sem, z0, z1, z2, z3]) rfl (RetP.mk HV.out ?_)
      (repeat (refine Below.setCell ?_ (by first | (simp; done) | (simp; omega) | omega) _)); exact hB.out
  · simp only [show ((6 : Int) = 4) = False by decide, show ((6 : Int) = 5) = False by decide, if_true, if_false] at hv
    generalize TX.getT s at_ = R at *
    obtain ⟨a, t, c⟩ := R
    simp only at C6 hv
    go_enter Tryd.func40, Tryd.ntmps40
    go_wp2_with fail
    refine (CK.out _).mono ?_
    rintro e w1 ⟨rfl, rfl⟩
    go_wp2_with fail
    refine (C6.out _ H0.out).mono ?_
    rintro e w2 ⟨rfl, b2⟩
    have B2 := Lib.hid b2
    clear b2
    generalize ((w.alloc (.cells #[.int .i64 0, .int .i64 0, .string ⟨#[]⟩, .string ⟨#[]⟩] 39)).alloc (.cells #[.int .i64 id, .int .i64 0, .string ⟨#[]⟩, .string ⟨#[]⟩] 39)) = V at *
    have b6 : w2.heap[w.heap.size]? = some (.cells #[.int .i64 0, .int .i64 0, .string ⟨#[]⟩, .string ⟨#[]⟩] 39 (0, 0)) := (B2.out.block _ (by omega)).trans h6.out
    have b9 : w2.heap[w.heap.size + 1]? = some (.cells #[.int .i64 id, .int .i64 0, .string ⟨#[]⟩, .string ⟨#[]⟩] 39 (0, 0)) := (B2.out.block _ (by omega)).trans h9.out
    have z0 : w2.cell? ⟨w.heap.size, 0, none⟩ = some (.int .i64 0) := by rw [cell_heap b6]; rfl
    have z1 : w2.cell? ⟨w.heap.size, 1, none⟩ = some (.int .i64 0) := by rw [cell_heap b6]; rfl
    have z2 : w2.cell? ⟨w.heap.size, 2, none⟩ = some (.string ⟨#[]⟩) := by rw [cell_heap b6]; rfl
    have z3 : w2.cell? ⟨w.heap.size, 3, none⟩ = some (.string ⟨#[]⟩) := by rw [cell_heap b6]; rfl
    have f0 : w2.frozen? ⟨w.heap.size, 0, none⟩ = false := frozen_heap b6
    have f1 : w2.frozen? ⟨w.heap.size, 1, none⟩ = false := frozen_heap b6
    have f2 : w2.frozen? ⟨w.heap.size, 2, none⟩ = false := frozen_heap b6
    have f3 : w2.frozen? ⟨w.heap.size, 3, none⟩ = false := frozen_heap b6
    have p0 : w2.cell? ⟨w.heap.size + 1, 0, none⟩ = some (.int .i64 id) := by rw [cell_heap b9]; rfl
    have p1 : w2.cell? ⟨w.heap.size + 1, 1, none⟩ = some (.int .i64 0) := by rw [cell_heap b9]; rfl
    have p2 : w2.cell? ⟨w.heap.size + 1, 2, none⟩ = some (.string ⟨#[]⟩) := by rw [cell_heap b9]; rfl
    have p3 : w2.cell? ⟨w.heap.size + 1, 3, none⟩ = some (.string ⟨#[]⟩) := by rw [cell_heap b9]; rfl
    have g1 : w2.frozen? ⟨w.heap.size + 1, 1, none⟩ = false := frozen_heap b9
    have g2 : w2.frozen? ⟨w.heap.size + 1, 2, none⟩ = false := frozen_heap b9
    have g3 : w2.frozen? ⟨w.heap.size + 1, 3, none⟩ = false := frozen_heap b9
    have hB : Hid (Below w.heap.size w w2) := H0.out.trans (B2.out.mono (by omega))
    clear b6 b9
    by_cases hc : c = 0
    · subst hc
      have HV := Lib.hid (val1_ok hv)
      clear hv
      go_wp2
      refine bodyPost_ret (v := .tuple #[.agg #[.int .i64 id, .int .i64 0, .string a, .string ⟨#[]⟩], .int .i64 t, .int .u8 0]) (by simp [results, Tryd.results40, go_sem, z0, z1, z2, z3]) rfl (RetP.mk HV.out ?_)
      (repeat (refine Below.setCell ?_ (by first | (simp; done) | (simp; omega) | omega) _)); exact hB.out
    · have hne : (c != 0) = true := by rw [bne_iff_ne]; exact hc
      have HV := Lib.hid (val1_bad hv hc)
      clear hv hc
      go_wp2
      refine bodyPost_ret (v := .tuple #[.agg #[.int .i64 0, .int .i64 0, .string ⟨#[]⟩, .string ⟨#[]⟩], .int .i64 0, .int .u8 c]) (by simp [results, Tryd.results40, go_sem, z0, z1, z2, z3]) rfl (RetP.mk HV.out ?_)
      (repeat (refine Below.setCell ?_ (by first | (simp; done) | (simp; omega) | omega) _)); exact hB.out
  · simp only [show ((7 : Int) = 4) = False by decide, show ((7 : Int) = 5) = False by decide, show ((7 : Int) = 6) = False by decide, if_true, if_false] at hv
    have hpg : PR.pairG s at_ = if (TX.getT s at_).2.2 ≠ 0 then (⟨#[]⟩, ⟨#[]⟩, 0, (TX.getT s at_).2.2) else if (TX.getT s (TX.getT s at_).2.1).2.2 ≠ 0 then (⟨#[]⟩, ⟨#[]⟩, 0, (TX.getT s (TX.getT s at_).2.1).2.2) else ((TX.getT s at_).1, (TX.getT s (TX.getT s at_).2.1).1, (TX.getT s (TX.getT s at_).2.1).2.1, 0) := rfl
    have hpv : ((PR.pairG s at_).2.2.2 = 0 → PR.rdv s at_ id = (⟨id, 0, (PR.pairG s at_).1, (PR.pairG s at_).2.1⟩, (PR.pairG s at_).2.2.1, 0)) ∧ ((PR.pairG s at_).2.2.2 ≠ 0 → ∃ q t, PR.rdv s at_ id = (q, t, (PR.pairG s at_).2.2.2)) := by
      rw [hv, hpg]
      generalize TX.getT s (TX.getT s at_).2.1 = d2
      generalize TX.getT s at_ = d1
      obtain ⟨x1, t1, c1⟩ := d1
      obtain ⟨x2, t2, c2⟩ := d2
      by_cases h1 : c1 = 0
      · by_cases h2 : c2 = 0 <;> simp [h1, h2]
      · simp [h1]
    clear hv hpg
    generalize PR.pairG s at_ = R at *
    obtain ⟨a, b, t, c⟩ := R
    simp only at C7 hpv
    have HPV := Lib.hid hpv
    clear hpv
    go_enter Tryd.func40, Tryd.ntmps40
    go_wp2_with fail
    refine (CK.out _).mono ?_
    rintro e w1 ⟨rfl, rfl⟩
    go_wp2_with fail
    refine (C7.out _ H0.out).mono ?_
    rintro e w2 ⟨rfl, b2⟩
    have B2 := Lib.hid b2
    clear b2
    generalize ((w.alloc (.cells #[.int .i64 0, .int .i64 0, .string ⟨#[]⟩, .string ⟨#[]⟩] 39)).alloc (.cells #[.int .i64 id, .int .i64 0, .string ⟨#[]⟩, .string ⟨#[]⟩] 39)) = V at *
    have b6 : w2.heap[w.heap.size]? = some (.cells #[.int .i64 0, .int .i64 0, .string ⟨#[]⟩, .string ⟨#[]⟩] 39 (0, 0)) := (B2.out.block _ (by omega)).trans h6.out
    have b9 : w2.heap[w.heap.size + 1]? = some (.cells #[.int .i64 id, .int .i64 0, .string ⟨#[]⟩, .string ⟨#[]⟩] 39 (0, 0)) := (B2.out.block _ (by omega)).trans h9.out
    have z0 : w2.cell? ⟨w.heap.size, 0, none⟩ = some (.int .i64 0) := by rw [cell_heap b6]; rfl
    have z1 : w2.cell? ⟨w.heap.size, 1, none⟩ = some (.int .i64 0) := by rw [cell_heap b6]; rfl
    have z2 : w2.cell? ⟨w.heap.size, 2, none⟩ = some (.string ⟨#[]⟩) := by rw [cell_heap b6]; rfl
    have z3 : w2.cell? ⟨w.heap.size, 3, none⟩ = some (.string ⟨#[]⟩) := by rw [cell_heap b6]; rfl
    have f0 : w2.frozen? ⟨w.heap.size, 0, none⟩ = false := frozen_heap b6
    have f1 : w2.frozen? ⟨w.heap.size, 1, none⟩ = false := frozen_heap b6
    have f2 : w2.frozen? ⟨w.heap.size, 2, none⟩ = false := frozen_heap b6
    have f3 : w2.frozen? ⟨w.heap.size, 3, none⟩ = false := frozen_heap b6
    have p0 : w2.cell? ⟨w.heap.size + 1, 0, none⟩ = some (.int .i64 id) := by rw [cell_heap b9]; rfl
    have p1 : w2.cell? ⟨w.heap.size + 1, 1, none⟩ = some (.int .i64 0) := by rw [cell_heap b9]; rfl
    have p2 : w2.cell? ⟨w.heap.size + 1, 2, none⟩ = some (.string ⟨#[]⟩) := by rw [cell_heap b9]; rfl
    have p3 : w2.cell? ⟨w.heap.size + 1, 3, none⟩ = some (.string ⟨#[]⟩) := by rw [cell_heap b9]; rfl
    have g1 : w2.frozen? ⟨w.heap.size + 1, 1, none⟩ = false := frozen_heap b9
    have g2 : w2.frozen? ⟨w.heap.size + 1, 2, none⟩ = false := frozen_heap b9
    have g3 : w2.frozen? ⟨w.heap.size + 1, 3, none⟩ = false := frozen_heap b9
    have hB : Hid (Below w.heap.size w w2) := H0.out.trans (B2.out.mono (by omega))
    clear b6 b9
    by_cases hc : c = 0
    · subst hc
      have HV := Lib.hid (val1_ok (HPV.out.1 rfl))
      go_wp2
      refine bodyPost_ret (v := .tuple #[.agg #[.int .i64 id, .int .i64 0, .string a, .string b], .int .i64 t, .int .u8 0]) (by simp [results, Tryd.results40, go_sem, z0, z1, z2, z3]) rfl (RetP.mk HV.out ?_)
      (repeat (refine Below.setCell ?_ (by first | (simp; done) | (simp; omega) | omega) _)); exact hB.out
    · have hne : (c != 0) = true := by rw [bne_iff_ne]; exact hc
      have HV : Hid (PR.val1 s at_ id = (PR.zp, 0, c)) := Lib.hid (by obtain ⟨q, t', hq⟩ := HPV.out.2 hc; exact val1_bad hq hc)
      clear hc
      go_wp2
      refine bodyPost_ret (v := .tuple #[.agg #[.int .i64 0, .int .i64 0, .string ⟨#[]⟩, .string ⟨#[]⟩], .int .i64 0, .int .u8 c]) (by simp [results, Tryd.results40, go_sem, z0, z1, z2, z3]) rfl (RetP.mk HV.out ?_)
      (repeat (refine Below.setCell ?_ (by first | (simp; done) | (simp; omega) | omega) _)); exact hB.out
  · rw [if_neg (by omega), if_neg (by omega), if_neg (by omega), if_neg (by omega)] at hv
    have e4 : (k == 4) = false := by rw [beq_eq_false_iff_ne]; omega
    have e5 : (k == 5) = false := by rw [beq_eq_false_iff_ne]; omega
    have e6 : (k == 6) = false := by rw [beq_eq_false_iff_ne]; omega
    have e7 : (k == 7) = false := by rw [beq_eq_false_iff_ne]; omega
    have C8k := Lib.hid (C8.out (PR.wd k))
    have C10k := Lib.hid (C10.out k e4)
    clear hk C4 C5 C6 C7 C8 C9 C10
    generalize PR.wd k = wk at *
    generalize VP.rd s at_ wk = R at *
    obtain ⟨a, t, c⟩ := R
    simp only at C8k hv
    go_enter Tryd.func40, Tryd.ntmps40
    go_wp2_with fail
    refine (CK.out _).mono ?_
    rintro e w1 ⟨rfl, rfl⟩
    go_wp2_with fail
    refine (C10k.out _).mono ?_
    rintro e w1 ⟨rfl, rfl⟩
    have hal : Hid (Below ((w.alloc (.cells #[.int .i64 0, .int .i64 0, .string ⟨#[]⟩, .string ⟨#[]⟩] 39)).alloc (.cells #[.int .i64 id, .int .i64 0, .string ⟨#[]⟩, .string ⟨#[]⟩] 39)).heap.size ((w.alloc (.cells #[.int .i64 0, .int .i64 0, .string ⟨#[]⟩, .string ⟨#[]⟩] 39)).alloc (.cells #[.int .i64 id, .int .i64 0, .string ⟨#[]⟩, .string ⟨#[]⟩] 39)) (((w.alloc (.cells #[.int .i64 0, .int .i64 0, .string ⟨#[]⟩, .string ⟨#[]⟩] 39)).alloc (.cells #[.int .i64 id, .int .i64 0, .string ⟨#[]⟩, .string ⟨#[]⟩] 39)).alloc (.cells #[.int .i64 wk] 3))) := (Below.refl _ _).alloc (Nat.le_refl _) _
    have hcw : (((w.alloc (.cells #[.int .i64 0, .int .i64 0, .string ⟨#[]⟩, .string ⟨#[]⟩] 39)).alloc (.cells #[.int .i64 id, .int .i64 0, .string ⟨#[]⟩, .string ⟨#[]⟩] 39)).alloc (.cells #[.int .i64 wk] 3)).cell? ⟨((w.alloc (.cells #[.int .i64 0, .int .i64 0, .string ⟨#[]⟩, .string ⟨#[]⟩] 39)).alloc (.cells #[.int .i64 id, .int .i64 0, .string ⟨#[]⟩, .string ⟨#[]⟩] 39)).heap.size, 0, none⟩ = some (.int .i64 wk) := by rw [World.cell?_alloc_at _ _ _ _ rfl]; rfl
    have C8w := Lib.hid (C8k.out _ _ hcw)
    rw [show ((w.alloc (.cells #[.int .i64 0, .int .i64 0, .string ⟨#[]⟩, .string ⟨#[]⟩] 39)).alloc (.cells #[.int .i64 id, .int .i64 0, .string ⟨#[]⟩, .string ⟨#[]⟩] 39)).heap.size = w.heap.size + 2 by simp] at C8w
    clear hcw C8k C10k
    go_wp2_with fail
    refine C8w.out.mono ?_
    rintro e w2 ⟨rfl, rfl⟩
    clear C8w
    generalize ((w.alloc (.cells #[.int .i64 0, .int .i64 0, .string ⟨#[]⟩, .string ⟨#[]⟩] 39)).alloc (.cells #[.int .i64 id, .int .i64 0, .string ⟨#[]⟩, .string ⟨#[]⟩] 39)) = V at *
    generalize V.alloc (.cells #[.int .i64 wk] 3) = w2 at *
    have b6 : w2.heap[w.heap.size]? = some (.cells #[.int .i64 0, .int .i64 0, .string ⟨#[]⟩, .string ⟨#[]⟩] 39 (0, 0)) := (hal.out.block _ (by omega)).trans h6.out
    have b9 : w2.heap[w.heap.size + 1]? = some (.cells #[.int .i64 id, .int .i64 0, .string ⟨#[]⟩, .string ⟨#[]⟩] 39 (0, 0)) := (hal.out.block _ (by omega)).trans h9.out
    have z0 : w2.cell? ⟨w.heap.size, 0, none⟩ = some (.int .i64 0) := by rw [cell_heap b6]; rfl
    have z1 : w2.cell? ⟨w.heap.size, 1, none⟩ = some (.int .i64 0) := by rw [cell_heap b6]; rfl
    have z2 : w2.cell? ⟨w.heap.size, 2, none⟩ = some (.string ⟨#[]⟩) := by rw [cell_heap b6]; rfl
    have z3 : w2.cell? ⟨w.heap.size, 3, none⟩ = some (.string ⟨#[]⟩) := by rw [cell_heap b6]; rfl
    have f0 : w2.frozen? ⟨w.heap.size, 0, none⟩ = false := frozen_heap b6
    have f1 : w2.frozen? ⟨w.heap.size, 1, none⟩ = false := frozen_heap b6
    have f2 : w2.frozen? ⟨w.heap.size, 2, none⟩ = false := frozen_heap b6
    have f3 : w2.frozen? ⟨w.heap.size, 3, none⟩ = false := frozen_heap b6
    have p0 : w2.cell? ⟨w.heap.size + 1, 0, none⟩ = some (.int .i64 id) := by rw [cell_heap b9]; rfl
    have p1 : w2.cell? ⟨w.heap.size + 1, 1, none⟩ = some (.int .i64 0) := by rw [cell_heap b9]; rfl
    have p2 : w2.cell? ⟨w.heap.size + 1, 2, none⟩ = some (.string ⟨#[]⟩) := by rw [cell_heap b9]; rfl
    have p3 : w2.cell? ⟨w.heap.size + 1, 3, none⟩ = some (.string ⟨#[]⟩) := by rw [cell_heap b9]; rfl
    have g1 : w2.frozen? ⟨w.heap.size + 1, 1, none⟩ = false := frozen_heap b9
    have g2 : w2.frozen? ⟨w.heap.size + 1, 2, none⟩ = false := frozen_heap b9
    have g3 : w2.frozen? ⟨w.heap.size + 1, 3, none⟩ = false := frozen_heap b9
    have hB : Hid (Below w.heap.size w w2) := H0.out.trans (hal.out.mono (by omega))
    clear b6 b9
    by_cases hc : c = 0
    · subst hc
      have HV := Lib.hid (val1_ok hv)
      clear hv
      go_wp2
      refine bodyPost_ret (v := .tuple #[.agg #[.int .i64 id, .int .i64 a, .string ⟨#[]⟩, .string ⟨#[]⟩], .int .i64 t, .int .u8 0]) (by simp [results, Tryd.results40, go_sem, z0, z1, z2, z3]) rfl (RetP.mk HV.out ?_)
      (repeat (refine Below.setCell ?_ (by first | (simp; done) | (simp; omega) | omega) _)); exact hB.out
    · have hne : (c != 0) = true := by rw [bne_iff_ne]; exact hc
      have HV := Lib.hid (val1_bad hv hc)
      clear hv hc
      go_wp2
      refine bodyPost_ret (v := .tuple #[.agg #[.int .i64 0, .int .i64 0, .string ⟨#[]⟩, .string ⟨#[]⟩], .int .i64 0, .int .u8 c]) (by simp [results, Tryd.results40, go_sem, z0, z1, z2, z3]) rfl (RetP.mk HV.out ?_)
      (repeat (refine Below.setCell ?_ (by first | (simp; done) | (simp; omega) | omega) _)); exact hB.out
end Go.Proofs.YtmommbhhffhdgaaDoor
