/- A property's value, read: the document's. -/
import Derived.Test.YtpkbakmiofbojaaDoorPrGetAll
import Derived.Test.YtpkbakmiofbojaaDoorPrRefPut
namespace Go.Proofs.YtpkbakmiofbojaaDoor
open Go.RowKit

def RetR (w : World) (x : Pr × Int × Int) (e : Ending) (w' : World) : Prop :=
  e = .returned (.tuple #[.agg #[.int .i64 x.1.id, .int .i64 x.1.n, .string x.1.s, .string x.1.t], .int .i64 x.2.1, .bool (x.2.2 == 0)]) ∧ Below w.heap.size w w'
theorem RetR.mk {w w' : World} {x : Pr × Int × Int} {a b c d : Int} {s t : ByteArray} (h : x = (⟨a, b, s, t⟩, c, d)) (hb : Below w.heap.size w w') : RetR w x (.returned (.tuple #[.agg #[.int .i64 a, .int .i64 b, .string s, .string t], .int .i64 c, .bool (d == 0)])) w' := by
  subst h; exact ⟨rfl, hb⟩

set_option maxRecDepth 100000 in
set_option maxHeartbeats 8000000 in
theorem rread_any (s : ByteArray) (at_ id : Int) (hs : s.size ≤ 140737488351232) (h0 : PR.kd id ≠ 0) (w : World) :
    Calls Tryd.prog 27 #[.string s, .int .i64 at_, .agg #[.int .i64 id, .int .i64 0, .string ⟨#[]⟩, .string ⟨#[]⟩]] w (RetR w (PR.rdv s at_ id)) := by
  have hsm : s.size ≤ maxLen := by unfold maxLen; omega
  have CK := Lib.hid (rkind_any id)
  have hk := kd_parts _ (PR.kd_le id)
  have C4 := Lib.hid (fun W => refget_any s at_ hsm W)
  have C5 := Lib.hid (fun W => refgetdata_any s at_ hsm W)
  have C6 := Lib.hid (fun a W => reftget_any s a hs W)
  have C8 := Lib.hid (fun wk W => refread_any s at_ wk hsm W)
  have hv : PR.rdv s at_ id = PR.rdv s at_ id := rfl
  conv at hv => rhs; unfold PR.rdv
  have H0 : Hid (Below w.heap.size w ((w.alloc (.cells #[.int .i64 id, .int .i64 0, .string ⟨#[]⟩, .string ⟨#[]⟩] 47)).alloc (.cells #[.int .i64 0, .int .i64 0, .string ⟨#[]⟩, .string ⟨#[]⟩] 47))) := ((Below.refl w.heap.size w).alloc (Nat.le_refl _) _).alloc (by simp) _
  have h9 : Hid (((w.alloc (.cells #[.int .i64 id, .int .i64 0, .string ⟨#[]⟩, .string ⟨#[]⟩] 47)).alloc (.cells #[.int .i64 0, .int .i64 0, .string ⟨#[]⟩, .string ⟨#[]⟩] 47)).heap[w.heap.size]? = some (.cells #[.int .i64 id, .int .i64 0, .string ⟨#[]⟩, .string ⟨#[]⟩] 47 (0, 0))) := (Below.heap_alloc _ _ _ (by simp)).trans (heap_alloc_new w _)
  have h6 : Hid (((w.alloc (.cells #[.int .i64 id, .int .i64 0, .string ⟨#[]⟩, .string ⟨#[]⟩] 47)).alloc (.cells #[.int .i64 0, .int .i64 0, .string ⟨#[]⟩, .string ⟨#[]⟩] 47)).heap[w.heap.size + 1]? = some (.cells #[.int .i64 0, .int .i64 0, .string ⟨#[]⟩, .string ⟨#[]⟩] 47 (0, 0))) := by
    have := heap_alloc_new (w.alloc (.cells #[.int .i64 id, .int .i64 0, .string ⟨#[]⟩, .string ⟨#[]⟩] 47)) (.cells #[.int .i64 0, .int .i64 0, .string ⟨#[]⟩, .string ⟨#[]⟩] 47)
    rwa [show (w.alloc (.cells #[.int .i64 id, .int .i64 0, .string ⟨#[]⟩, .string ⟨#[]⟩] 47)).heap.size = w.heap.size + 1 by simp] at this
  have hsz : w.heap.size + 2 ≤ ((w.alloc (.cells #[.int .i64 id, .int .i64 0, .string ⟨#[]⟩, .string ⟨#[]⟩] 47)).alloc (.cells #[.int .i64 0, .int .i64 0, .string ⟨#[]⟩, .string ⟨#[]⟩] 47)).heap.size := by simp
  clear hsm
  generalize PR.kd id = k at *
  rcases hk with rfl | rfl | rfl | rfl | hk
  · simp only [if_true] at hv
    generalize VP.get s at_ = R at *
    obtain ⟨a, t, c⟩ := R
    simp only at C4 hv
    have HV := Lib.hid hv
    clear hv
    go_enter Tryd.func27, Tryd.ntmps27
    go_wp2_with fail
    refine (CK.out _).mono ?_
    rintro e w1 ⟨rfl, b1⟩
    have B1 : Hid (Below w.heap.size w w1) := H0.out.trans (b1.mono (by omega))
    have hs1 : w.heap.size + 2 ≤ w1.heap.size := by have := b1.size; omega
    have b6 : w1.heap[w.heap.size + 1]? = some (.cells #[.int .i64 0, .int .i64 0, .string ⟨#[]⟩, .string ⟨#[]⟩] 47 (0, 0)) := (b1.block _ (by omega)).trans h6.out
    have b9 : w1.heap[w.heap.size]? = some (.cells #[.int .i64 id, .int .i64 0, .string ⟨#[]⟩, .string ⟨#[]⟩] 47 (0, 0)) := (b1.block _ (by omega)).trans h9.out
    have H6 := Lib.hid b6
    have H9 := Lib.hid b9
    have z0 : w1.cell? ⟨w.heap.size + 1, 0, none⟩ = some (.int .i64 0) := by rw [cell_heap b6]; rfl
    have z1 : w1.cell? ⟨w.heap.size + 1, 1, none⟩ = some (.int .i64 0) := by rw [cell_heap b6]; rfl
    have z2 : w1.cell? ⟨w.heap.size + 1, 2, none⟩ = some (.string ⟨#[]⟩) := by rw [cell_heap b6]; rfl
    have z3 : w1.cell? ⟨w.heap.size + 1, 3, none⟩ = some (.string ⟨#[]⟩) := by rw [cell_heap b6]; rfl
    have f0 : w1.frozen? ⟨w.heap.size + 1, 0, none⟩ = false := frozen_heap b6
    have f1 : w1.frozen? ⟨w.heap.size + 1, 1, none⟩ = false := frozen_heap b6
    have f2 : w1.frozen? ⟨w.heap.size + 1, 2, none⟩ = false := frozen_heap b6
    have f3 : w1.frozen? ⟨w.heap.size + 1, 3, none⟩ = false := frozen_heap b6
    have p0 : w1.cell? ⟨w.heap.size, 0, none⟩ = some (.int .i64 id) := by rw [cell_heap b9]; rfl
    have p1 : w1.cell? ⟨w.heap.size, 1, none⟩ = some (.int .i64 0) := by rw [cell_heap b9]; rfl
    have p2 : w1.cell? ⟨w.heap.size, 2, none⟩ = some (.string ⟨#[]⟩) := by rw [cell_heap b9]; rfl
    have p3 : w1.cell? ⟨w.heap.size, 3, none⟩ = some (.string ⟨#[]⟩) := by rw [cell_heap b9]; rfl
    have g1 : w1.frozen? ⟨w.heap.size, 1, none⟩ = false := frozen_heap b9
    have g2 : w1.frozen? ⟨w.heap.size, 2, none⟩ = false := frozen_heap b9
    have g3 : w1.frozen? ⟨w.heap.size, 3, none⟩ = false := frozen_heap b9
    clear b1 b6 b9
    go_wp2_with fail
    refine (C4.out _).mono ?_
    rintro e w2 ⟨rfl, rfl⟩
    have hB := B1
    go_wp2
    refine bodyPost_ret (v := .tuple #[.agg #[.int .i64 id, .int .i64 a, .string ⟨#[]⟩, .string ⟨#[]⟩], .int .i64 t, .bool (c == 0)]) (by simp [results, Tryd.results27, go_sem, z0, z1, z2, z3]) rfl (RetR.mk HV.out ?_)
    (repeat (refine Below.setCell ?_ (by first | (simp; done) | (simp; omega) | omega) _)); exact hB.out
  · simp only [show ((5 : Int) = 4) = False by decide, if_true, if_false] at hv
    generalize VP.dat s at_ = R at *
    obtain ⟨a, t, c⟩ := R
    simp only at C5 hv
    have HV := Lib.hid hv
    clear hv
    go_enter Tryd.func27, Tryd.ntmps27
    go_wp2_with fail
    refine (CK.out _).mono ?_
    rintro e w1 ⟨rfl, b1⟩
    have B1 : Hid (Below w.heap.size w w1) := H0.out.trans (b1.mono (by omega))
    have hs1 : w.heap.size + 2 ≤ w1.heap.size := by have := b1.size; omega
    have b6 : w1.heap[w.heap.size + 1]? = some (.cells #[.int .i64 0, .int .i64 0, .string ⟨#[]⟩, .string ⟨#[]⟩] 47 (0, 0)) := (b1.block _ (by omega)).trans h6.out
    have b9 : w1.heap[w.heap.size]? = some (.cells #[.int .i64 id, .int .i64 0, .string ⟨#[]⟩, .string ⟨#[]⟩] 47 (0, 0)) := (b1.block _ (by omega)).trans h9.out
    have H6 := Lib.hid b6
    have H9 := Lib.hid b9
    have z0 : w1.cell? ⟨w.heap.size + 1, 0, none⟩ = some (.int .i64 0) := by rw [cell_heap b6]; rfl
    have z1 : w1.cell? ⟨w.heap.size + 1, 1, none⟩ = some (.int .i64 0) := by rw [cell_heap b6]; rfl
    have z2 : w1.cell? ⟨w.heap.size + 1, 2, none⟩ = some (.string ⟨#[]⟩) := by rw [cell_heap b6]; rfl
    have z3 : w1.cell? ⟨w.heap.size + 1, 3, none⟩ = some (.string ⟨#[]⟩) := by rw [cell_heap b6]; rfl
    have f0 : w1.frozen? ⟨w.heap.size + 1, 0, none⟩ = false := frozen_heap b6
    have f1 : w1.frozen? ⟨w.heap.size + 1, 1, none⟩ = false := frozen_heap b6
    have f2 : w1.frozen? ⟨w.heap.size + 1, 2, none⟩ = false := frozen_heap b6
    have f3 : w1.frozen? ⟨w.heap.size + 1, 3, none⟩ = false := frozen_heap b6
    have p0 : w1.cell? ⟨w.heap.size, 0, none⟩ = some (.int .i64 id) := by rw [cell_heap b9]; rfl
    have p1 : w1.cell? ⟨w.heap.size, 1, none⟩ = some (.int .i64 0) := by rw [cell_heap b9]; rfl
    have p2 : w1.cell? ⟨w.heap.size, 2, none⟩ = some (.string ⟨#[]⟩) := by rw [cell_heap b9]; rfl
    have p3 : w1.cell? ⟨w.heap.size, 3, none⟩ = some (.string ⟨#[]⟩) := by rw [cell_heap b9]; rfl
    have g1 : w1.frozen? ⟨w.heap.size, 1, none⟩ = false := frozen_heap b9
    have g2 : w1.frozen? ⟨w.heap.size, 2, none⟩ = false := frozen_heap b9
    have g3 : w1.frozen? ⟨w.heap.size, 3, none⟩ = false := frozen_heap b9
    clear b1 b6 b9
    go_wp2_with fail
    refine (C5.out _).mono ?_
    rintro e w2 ⟨rfl, b2⟩
    have hB : Hid (Below w.heap.size w w2) := B1.out.trans (b2.mono B1.out.size)
    have b6 : w2.heap[w.heap.size + 1]? = some (.cells #[.int .i64 0, .int .i64 0, .string ⟨#[]⟩, .string ⟨#[]⟩] 47 (0, 0)) := (b2.block _ (by omega)).trans H6.out
    have b9 : w2.heap[w.heap.size]? = some (.cells #[.int .i64 id, .int .i64 0, .string ⟨#[]⟩, .string ⟨#[]⟩] 47 (0, 0)) := (b2.block _ (by omega)).trans H9.out
    have z0 : w2.cell? ⟨w.heap.size + 1, 0, none⟩ = some (.int .i64 0) := by rw [cell_heap b6]; rfl
    have z1 : w2.cell? ⟨w.heap.size + 1, 1, none⟩ = some (.int .i64 0) := by rw [cell_heap b6]; rfl
    have z2 : w2.cell? ⟨w.heap.size + 1, 2, none⟩ = some (.string ⟨#[]⟩) := by rw [cell_heap b6]; rfl
    have z3 : w2.cell? ⟨w.heap.size + 1, 3, none⟩ = some (.string ⟨#[]⟩) := by rw [cell_heap b6]; rfl
    have f0 : w2.frozen? ⟨w.heap.size + 1, 0, none⟩ = false := frozen_heap b6
    have f1 : w2.frozen? ⟨w.heap.size + 1, 1, none⟩ = false := frozen_heap b6
    have f2 : w2.frozen? ⟨w.heap.size + 1, 2, none⟩ = false := frozen_heap b6
    have f3 : w2.frozen? ⟨w.heap.size + 1, 3, none⟩ = false := frozen_heap b6
    have p0 : w2.cell? ⟨w.heap.size, 0, none⟩ = some (.int .i64 id) := by rw [cell_heap b9]; rfl
    have p1 : w2.cell? ⟨w.heap.size, 1, none⟩ = some (.int .i64 0) := by rw [cell_heap b9]; rfl
    have p2 : w2.cell? ⟨w.heap.size, 2, none⟩ = some (.string ⟨#[]⟩) := by rw [cell_heap b9]; rfl
    have p3 : w2.cell? ⟨w.heap.size, 3, none⟩ = some (.string ⟨#[]⟩) := by rw [cell_heap b9]; rfl
    have g1 : w2.frozen? ⟨w.heap.size, 1, none⟩ = false := frozen_heap b9
    have g2 : w2.frozen? ⟨w.heap.size, 2, none⟩ = false := frozen_heap b9
    have g3 : w2.frozen? ⟨w.heap.size, 3, none⟩ = false := frozen_heap b9
    clear b2 b6 b9
    go_wp2
    refine bodyPost_ret (v := .tuple #[.agg #[.int .i64 id, .int .i64 0, .string a, .string ⟨#[]⟩], .int .i64 t, .bool (c == 0)]) (by simp [results, Tryd.results27, go_sem, z0, z1, z2, z3]) rfl (RetR.mk HV.out ?_)
    (repeat (refine Below.setCell ?_ (by first | (simp; done) | (simp; omega) | omega) _)); exact hB.out
  · simp only [show ((6 : Int) = 4) = False by decide, show ((6 : Int) = 5) = False by decide, if_true, if_false] at hv
    have C6i := Lib.hid (C6.out at_)
    generalize TX.getT s at_ = R at *
    obtain ⟨a, t, c⟩ := R
    simp only at C6i hv
    have HV := Lib.hid hv
    clear hv
    go_enter Tryd.func27, Tryd.ntmps27
    go_wp2_with fail
    refine (CK.out _).mono ?_
    rintro e w1 ⟨rfl, b1⟩
    have B1 : Hid (Below w.heap.size w w1) := H0.out.trans (b1.mono (by omega))
    have hs1 : w.heap.size + 2 ≤ w1.heap.size := by have := b1.size; omega
    have b6 : w1.heap[w.heap.size + 1]? = some (.cells #[.int .i64 0, .int .i64 0, .string ⟨#[]⟩, .string ⟨#[]⟩] 47 (0, 0)) := (b1.block _ (by omega)).trans h6.out
    have b9 : w1.heap[w.heap.size]? = some (.cells #[.int .i64 id, .int .i64 0, .string ⟨#[]⟩, .string ⟨#[]⟩] 47 (0, 0)) := (b1.block _ (by omega)).trans h9.out
    have H6 := Lib.hid b6
    have H9 := Lib.hid b9
    have z0 : w1.cell? ⟨w.heap.size + 1, 0, none⟩ = some (.int .i64 0) := by rw [cell_heap b6]; rfl
    have z1 : w1.cell? ⟨w.heap.size + 1, 1, none⟩ = some (.int .i64 0) := by rw [cell_heap b6]; rfl
    have z2 : w1.cell? ⟨w.heap.size + 1, 2, none⟩ = some (.string ⟨#[]⟩) := by rw [cell_heap b6]; rfl
    have z3 : w1.cell? ⟨w.heap.size + 1, 3, none⟩ = some (.string ⟨#[]⟩) := by rw [cell_heap b6]; rfl
    have f0 : w1.frozen? ⟨w.heap.size + 1, 0, none⟩ = false := frozen_heap b6
    have f1 : w1.frozen? ⟨w.heap.size + 1, 1, none⟩ = false := frozen_heap b6
    have f2 : w1.frozen? ⟨w.heap.size + 1, 2, none⟩ = false := frozen_heap b6
    have f3 : w1.frozen? ⟨w.heap.size + 1, 3, none⟩ = false := frozen_heap b6
    have p0 : w1.cell? ⟨w.heap.size, 0, none⟩ = some (.int .i64 id) := by rw [cell_heap b9]; rfl
    have p1 : w1.cell? ⟨w.heap.size, 1, none⟩ = some (.int .i64 0) := by rw [cell_heap b9]; rfl
    have p2 : w1.cell? ⟨w.heap.size, 2, none⟩ = some (.string ⟨#[]⟩) := by rw [cell_heap b9]; rfl
    have p3 : w1.cell? ⟨w.heap.size, 3, none⟩ = some (.string ⟨#[]⟩) := by rw [cell_heap b9]; rfl
    have g1 : w1.frozen? ⟨w.heap.size, 1, none⟩ = false := frozen_heap b9
    have g2 : w1.frozen? ⟨w.heap.size, 2, none⟩ = false := frozen_heap b9
    have g3 : w1.frozen? ⟨w.heap.size, 3, none⟩ = false := frozen_heap b9
    clear b1 b6 b9
    go_wp2_with fail
    refine (C6i.out _).mono ?_
    rintro e w2 ⟨rfl, b2⟩
    have hB : Hid (Below w.heap.size w w2) := B1.out.trans (b2.mono B1.out.size)
    have b6 : w2.heap[w.heap.size + 1]? = some (.cells #[.int .i64 0, .int .i64 0, .string ⟨#[]⟩, .string ⟨#[]⟩] 47 (0, 0)) := (b2.block _ (by omega)).trans H6.out
    have b9 : w2.heap[w.heap.size]? = some (.cells #[.int .i64 id, .int .i64 0, .string ⟨#[]⟩, .string ⟨#[]⟩] 47 (0, 0)) := (b2.block _ (by omega)).trans H9.out
    have z0 : w2.cell? ⟨w.heap.size + 1, 0, none⟩ = some (.int .i64 0) := by rw [cell_heap b6]; rfl
    have z1 : w2.cell? ⟨w.heap.size + 1, 1, none⟩ = some (.int .i64 0) := by rw [cell_heap b6]; rfl
    have z2 : w2.cell? ⟨w.heap.size + 1, 2, none⟩ = some (.string ⟨#[]⟩) := by rw [cell_heap b6]; rfl
    have z3 : w2.cell? ⟨w.heap.size + 1, 3, none⟩ = some (.string ⟨#[]⟩) := by rw [cell_heap b6]; rfl
    have f0 : w2.frozen? ⟨w.heap.size + 1, 0, none⟩ = false := frozen_heap b6
    have f1 : w2.frozen? ⟨w.heap.size + 1, 1, none⟩ = false := frozen_heap b6
    have f2 : w2.frozen? ⟨w.heap.size + 1, 2, none⟩ = false := frozen_heap b6
    have f3 : w2.frozen? ⟨w.heap.size + 1, 3, none⟩ = false := frozen_heap b6
    have p0 : w2.cell? ⟨w.heap.size, 0, none⟩ = some (.int .i64 id) := by rw [cell_heap b9]; rfl
    have p1 : w2.cell? ⟨w.heap.size, 1, none⟩ = some (.int .i64 0) := by rw [cell_heap b9]; rfl
    have p2 : w2.cell? ⟨w.heap.size, 2, none⟩ = some (.string ⟨#[]⟩) := by rw [cell_heap b9]; rfl
    have p3 : w2.cell? ⟨w.heap.size, 3, none⟩ = some (.string ⟨#[]⟩) := by rw [cell_heap b9]; rfl
    have g1 : w2.frozen? ⟨w.heap.size, 1, none⟩ = false := frozen_heap b9
    have g2 : w2.frozen? ⟨w.heap.size, 2, none⟩ = false := frozen_heap b9
    have g3 : w2.frozen? ⟨w.heap.size, 3, none⟩ = false := frozen_heap b9
    clear b2 b6 b9
    go_wp2
    refine bodyPost_ret (v := .tuple #[.agg #[.int .i64 id, .int .i64 0, .string a, .string ⟨#[]⟩], .int .i64 t, .bool (c == 0)]) (by simp [results, Tryd.results27, go_sem, z0, z1, z2, z3]) rfl (RetR.mk HV.out ?_)
    (repeat (refine Below.setCell ?_ (by first | (simp; done) | (simp; omega) | omega) _)); exact hB.out
  · simp only [show ((7 : Int) = 4) = False by decide, show ((7 : Int) = 5) = False by decide, show ((7 : Int) = 6) = False by decide, if_true, if_false] at hv
    have C6i := Lib.hid (C6.out at_)
    have C6j := Lib.hid (C6.out (TX.getT s at_).2.1)
    generalize TX.getT s (TX.getT s at_).2.1 = R2 at *
    generalize TX.getT s at_ = R at *
    obtain ⟨a, t, c⟩ := R
    obtain ⟨a2, t2, c2⟩ := R2
    simp only at C6i C6j hv
    by_cases hc : c = 0
    · subst hc
      simp only [ne_eq, not_true_eq_false, if_false] at hv
      have HV := Lib.hid hv
      clear hv
      go_enter Tryd.func27, Tryd.ntmps27
      go_wp2_with fail
      refine (CK.out _).mono ?_
      rintro e w1 ⟨rfl, b1⟩
      have B1 : Hid (Below w.heap.size w w1) := H0.out.trans (b1.mono (by omega))
      have hs1 : w.heap.size + 2 ≤ w1.heap.size := by have := b1.size; omega
      have b6 : w1.heap[w.heap.size + 1]? = some (.cells #[.int .i64 0, .int .i64 0, .string ⟨#[]⟩, .string ⟨#[]⟩] 47 (0, 0)) := (b1.block _ (by omega)).trans h6.out
      have b9 : w1.heap[w.heap.size]? = some (.cells #[.int .i64 id, .int .i64 0, .string ⟨#[]⟩, .string ⟨#[]⟩] 47 (0, 0)) := (b1.block _ (by omega)).trans h9.out
      have H6 := Lib.hid b6
      have H9 := Lib.hid b9
      have z0 : w1.cell? ⟨w.heap.size + 1, 0, none⟩ = some (.int .i64 0) := by rw [cell_heap b6]; rfl
      have z1 : w1.cell? ⟨w.heap.size + 1, 1, none⟩ = some (.int .i64 0) := by rw [cell_heap b6]; rfl
      have z2 : w1.cell? ⟨w.heap.size + 1, 2, none⟩ = some (.string ⟨#[]⟩) := by rw [cell_heap b6]; rfl
      have z3 : w1.cell? ⟨w.heap.size + 1, 3, none⟩ = some (.string ⟨#[]⟩) := by rw [cell_heap b6]; rfl
      have f0 : w1.frozen? ⟨w.heap.size + 1, 0, none⟩ = false := frozen_heap b6
      have f1 : w1.frozen? ⟨w.heap.size + 1, 1, none⟩ = false := frozen_heap b6
      have f2 : w1.frozen? ⟨w.heap.size + 1, 2, none⟩ = false := frozen_heap b6
      have f3 : w1.frozen? ⟨w.heap.size + 1, 3, none⟩ = false := frozen_heap b6
      have p0 : w1.cell? ⟨w.heap.size, 0, none⟩ = some (.int .i64 id) := by rw [cell_heap b9]; rfl
      have p1 : w1.cell? ⟨w.heap.size, 1, none⟩ = some (.int .i64 0) := by rw [cell_heap b9]; rfl
      have p2 : w1.cell? ⟨w.heap.size, 2, none⟩ = some (.string ⟨#[]⟩) := by rw [cell_heap b9]; rfl
      have p3 : w1.cell? ⟨w.heap.size, 3, none⟩ = some (.string ⟨#[]⟩) := by rw [cell_heap b9]; rfl
      have g1 : w1.frozen? ⟨w.heap.size, 1, none⟩ = false := frozen_heap b9
      have g2 : w1.frozen? ⟨w.heap.size, 2, none⟩ = false := frozen_heap b9
      have g3 : w1.frozen? ⟨w.heap.size, 3, none⟩ = false := frozen_heap b9
      clear b1 b6 b9
      go_wp2_with fail
      refine (C6i.out _).mono ?_
      rintro e w2 ⟨rfl, b2⟩
      have hB2 : Hid (Below w.heap.size w w2) := B1.out.trans (b2.mono B1.out.size)
      have hs2 : w.heap.size + 2 ≤ w2.heap.size := by have := b2.size; omega
      have K6 : Hid (w2.heap[w.heap.size + 1]? = some (.cells #[.int .i64 0, .int .i64 0, .string ⟨#[]⟩, .string ⟨#[]⟩] 47 (0, 0))) := (b2.block _ (by omega)).trans H6.out
      have K9 : Hid (w2.heap[w.heap.size]? = some (.cells #[.int .i64 id, .int .i64 0, .string ⟨#[]⟩, .string ⟨#[]⟩] 47 (0, 0))) := (b2.block _ (by omega)).trans H9.out
      have b6 : w2.heap[w.heap.size + 1]? = some (.cells #[.int .i64 0, .int .i64 0, .string ⟨#[]⟩, .string ⟨#[]⟩] 47 (0, 0)) := (b2.block _ (by omega)).trans H6.out
      have b9 : w2.heap[w.heap.size]? = some (.cells #[.int .i64 id, .int .i64 0, .string ⟨#[]⟩, .string ⟨#[]⟩] 47 (0, 0)) := (b2.block _ (by omega)).trans H9.out
      have z0 : w2.cell? ⟨w.heap.size + 1, 0, none⟩ = some (.int .i64 0) := by rw [cell_heap b6]; rfl
      have z1 : w2.cell? ⟨w.heap.size + 1, 1, none⟩ = some (.int .i64 0) := by rw [cell_heap b6]; rfl
      have z2 : w2.cell? ⟨w.heap.size + 1, 2, none⟩ = some (.string ⟨#[]⟩) := by rw [cell_heap b6]; rfl
      have z3 : w2.cell? ⟨w.heap.size + 1, 3, none⟩ = some (.string ⟨#[]⟩) := by rw [cell_heap b6]; rfl
      have f0 : w2.frozen? ⟨w.heap.size + 1, 0, none⟩ = false := frozen_heap b6
      have f1 : w2.frozen? ⟨w.heap.size + 1, 1, none⟩ = false := frozen_heap b6
      have f2 : w2.frozen? ⟨w.heap.size + 1, 2, none⟩ = false := frozen_heap b6
      have f3 : w2.frozen? ⟨w.heap.size + 1, 3, none⟩ = false := frozen_heap b6
      have p0 : w2.cell? ⟨w.heap.size, 0, none⟩ = some (.int .i64 id) := by rw [cell_heap b9]; rfl
      have p1 : w2.cell? ⟨w.heap.size, 1, none⟩ = some (.int .i64 0) := by rw [cell_heap b9]; rfl
      have p2 : w2.cell? ⟨w.heap.size, 2, none⟩ = some (.string ⟨#[]⟩) := by rw [cell_heap b9]; rfl
      have p3 : w2.cell? ⟨w.heap.size, 3, none⟩ = some (.string ⟨#[]⟩) := by rw [cell_heap b9]; rfl
      have g1 : w2.frozen? ⟨w.heap.size, 1, none⟩ = false := frozen_heap b9
      have g2 : w2.frozen? ⟨w.heap.size, 2, none⟩ = false := frozen_heap b9
      have g3 : w2.frozen? ⟨w.heap.size, 3, none⟩ = false := frozen_heap b9
      clear b2 b6 b9
      go_wp2_with fail
      refine (C6j.out _).mono ?_
      rintro e w3 ⟨rfl, b3⟩
      have hB : Hid (Below w.heap.size w w3) := hB2.out.trans (b3.mono hB2.out.size)
      have b6 : w3.heap[w.heap.size + 1]? = some (.cells #[.int .i64 0, .int .i64 0, .string ⟨#[]⟩, .string ⟨#[]⟩] 47 (0, 0)) := (b3.block _ (by omega)).trans K6.out
      have b9 : w3.heap[w.heap.size]? = some (.cells #[.int .i64 id, .int .i64 0, .string ⟨#[]⟩, .string ⟨#[]⟩] 47 (0, 0)) := (b3.block _ (by omega)).trans K9.out
      have z0 : w3.cell? ⟨w.heap.size + 1, 0, none⟩ = some (.int .i64 0) := by rw [cell_heap b6]; rfl
      have z1 : w3.cell? ⟨w.heap.size + 1, 1, none⟩ = some (.int .i64 0) := by rw [cell_heap b6]; rfl
      have z2 : w3.cell? ⟨w.heap.size + 1, 2, none⟩ = some (.string ⟨#[]⟩) := by rw [cell_heap b6]; rfl
      have z3 : w3.cell? ⟨w.heap.size + 1, 3, none⟩ = some (.string ⟨#[]⟩) := by rw [cell_heap b6]; rfl
      have f0 : w3.frozen? ⟨w.heap.size + 1, 0, none⟩ = false := frozen_heap b6
      have f1 : w3.frozen? ⟨w.heap.size + 1, 1, none⟩ = false := frozen_heap b6
      have f2 : w3.frozen? ⟨w.heap.size + 1, 2, none⟩ = false := frozen_heap b6
      have f3 : w3.frozen? ⟨w.heap.size + 1, 3, none⟩ = false := frozen_heap b6
      have p0 : w3.cell? ⟨w.heap.size, 0, none⟩ = some (.int .i64 id) := by rw [cell_heap b9]; rfl
      have p1 : w3.cell? ⟨w.heap.size, 1, none⟩ = some (.int .i64 0) := by rw [cell_heap b9]; rfl
      have p2 : w3.cell? ⟨w.heap.size, 2, none⟩ = some (.string ⟨#[]⟩) := by rw [cell_heap b9]; rfl
      have p3 : w3.cell? ⟨w.heap.size, 3, none⟩ = some (.string ⟨#[]⟩) := by rw [cell_heap b9]; rfl
      have g1 : w3.frozen? ⟨w.heap.size, 1, none⟩ = false := frozen_heap b9
      have g2 : w3.frozen? ⟨w.heap.size, 2, none⟩ = false := frozen_heap b9
      have g3 : w3.frozen? ⟨w.heap.size, 3, none⟩ = false := frozen_heap b9
      clear b3 b6 b9
      go_wp2
      refine bodyPost_ret (v := .tuple #[.agg #[.int .i64 id, .int .i64 0, .string a, .string a2], .int .i64 t2, .bool (c2 == 0)]) (by simp [results, Tryd.results27, go_sem, z0, z1, z2, z3]) rfl (RetR.mk HV.out ?_)
      (repeat (refine Below.setCell ?_ (by first | (simp; done) | (simp; omega) | omega) _)); exact hB.out
    · have hne : (c != 0) = true := by rw [bne_iff_ne]; exact hc
      have hfl : (c == 0) = false := by rw [beq_eq_false_iff_ne]; exact hc
      simp only [ne_eq, hc, not_false_eq_true, if_true] at hv
      have HV := Lib.hid hv
      have HF := Lib.hid hfl
      clear hv hc hfl
      go_enter Tryd.func27, Tryd.ntmps27
      go_wp2_with fail
      refine (CK.out _).mono ?_
      rintro e w1 ⟨rfl, b1⟩
      have B1 : Hid (Below w.heap.size w w1) := H0.out.trans (b1.mono (by omega))
      have hs1 : w.heap.size + 2 ≤ w1.heap.size := by have := b1.size; omega
      have b6 : w1.heap[w.heap.size + 1]? = some (.cells #[.int .i64 0, .int .i64 0, .string ⟨#[]⟩, .string ⟨#[]⟩] 47 (0, 0)) := (b1.block _ (by omega)).trans h6.out
      have b9 : w1.heap[w.heap.size]? = some (.cells #[.int .i64 id, .int .i64 0, .string ⟨#[]⟩, .string ⟨#[]⟩] 47 (0, 0)) := (b1.block _ (by omega)).trans h9.out
      have H6 := Lib.hid b6
      have H9 := Lib.hid b9
      have z0 : w1.cell? ⟨w.heap.size + 1, 0, none⟩ = some (.int .i64 0) := by rw [cell_heap b6]; rfl
      have z1 : w1.cell? ⟨w.heap.size + 1, 1, none⟩ = some (.int .i64 0) := by rw [cell_heap b6]; rfl
      have z2 : w1.cell? ⟨w.heap.size + 1, 2, none⟩ = some (.string ⟨#[]⟩) := by rw [cell_heap b6]; rfl
      have z3 : w1.cell? ⟨w.heap.size + 1, 3, none⟩ = some (.string ⟨#[]⟩) := by rw [cell_heap b6]; rfl
      have f0 : w1.frozen? ⟨w.heap.size + 1, 0, none⟩ = false := frozen_heap b6
      have f1 : w1.frozen? ⟨w.heap.size + 1, 1, none⟩ = false := frozen_heap b6
      have f2 : w1.frozen? ⟨w.heap.size + 1, 2, none⟩ = false := frozen_heap b6
      have f3 : w1.frozen? ⟨w.heap.size + 1, 3, none⟩ = false := frozen_heap b6
      have p0 : w1.cell? ⟨w.heap.size, 0, none⟩ = some (.int .i64 id) := by rw [cell_heap b9]; rfl
      have p1 : w1.cell? ⟨w.heap.size, 1, none⟩ = some (.int .i64 0) := by rw [cell_heap b9]; rfl
      have p2 : w1.cell? ⟨w.heap.size, 2, none⟩ = some (.string ⟨#[]⟩) := by rw [cell_heap b9]; rfl
      have p3 : w1.cell? ⟨w.heap.size, 3, none⟩ = some (.string ⟨#[]⟩) := by rw [cell_heap b9]; rfl
      have g1 : w1.frozen? ⟨w.heap.size, 1, none⟩ = false := frozen_heap b9
      have g2 : w1.frozen? ⟨w.heap.size, 2, none⟩ = false := frozen_heap b9
      have g3 : w1.frozen? ⟨w.heap.size, 3, none⟩ = false := frozen_heap b9
      clear b1 b6 b9
      go_wp2_with fail
      refine (C6i.out _).mono ?_
      rintro e w2 ⟨rfl, b2⟩
      have hB : Hid (Below w.heap.size w w2) := B1.out.trans (b2.mono B1.out.size)
      have b6 : w2.heap[w.heap.size + 1]? = some (.cells #[.int .i64 0, .int .i64 0, .string ⟨#[]⟩, .string ⟨#[]⟩] 47 (0, 0)) := (b2.block _ (by omega)).trans H6.out
      have b9 : w2.heap[w.heap.size]? = some (.cells #[.int .i64 id, .int .i64 0, .string ⟨#[]⟩, .string ⟨#[]⟩] 47 (0, 0)) := (b2.block _ (by omega)).trans H9.out
      have z0 : w2.cell? ⟨w.heap.size + 1, 0, none⟩ = some (.int .i64 0) := by rw [cell_heap b6]; rfl
      have z1 : w2.cell? ⟨w.heap.size + 1, 1, none⟩ = some (.int .i64 0) := by rw [cell_heap b6]; rfl
      have z2 : w2.cell? ⟨w.heap.size + 1, 2, none⟩ = some (.string ⟨#[]⟩) := by rw [cell_heap b6]; rfl
      have z3 : w2.cell? ⟨w.heap.size + 1, 3, none⟩ = some (.string ⟨#[]⟩) := by rw [cell_heap b6]; rfl
      have f0 : w2.frozen? ⟨w.heap.size + 1, 0, none⟩ = false := frozen_heap b6
      have f1 : w2.frozen? ⟨w.heap.size + 1, 1, none⟩ = false := frozen_heap b6
      have f2 : w2.frozen? ⟨w.heap.size + 1, 2, none⟩ = false := frozen_heap b6
      have f3 : w2.frozen? ⟨w.heap.size + 1, 3, none⟩ = false := frozen_heap b6
      have p0 : w2.cell? ⟨w.heap.size, 0, none⟩ = some (.int .i64 id) := by rw [cell_heap b9]; rfl
      have p1 : w2.cell? ⟨w.heap.size, 1, none⟩ = some (.int .i64 0) := by rw [cell_heap b9]; rfl
      have p2 : w2.cell? ⟨w.heap.size, 2, none⟩ = some (.string ⟨#[]⟩) := by rw [cell_heap b9]; rfl
      have p3 : w2.cell? ⟨w.heap.size, 3, none⟩ = some (.string ⟨#[]⟩) := by rw [cell_heap b9]; rfl
      have g1 : w2.frozen? ⟨w.heap.size, 1, none⟩ = false := frozen_heap b9
      have g2 : w2.frozen? ⟨w.heap.size, 2, none⟩ = false := frozen_heap b9
      have g3 : w2.frozen? ⟨w.heap.size, 3, none⟩ = false := frozen_heap b9
      clear b2 b6 b9
      go_wp2
      refine bodyPost_ret (v := .tuple #[.agg #[.int .i64 id, .int .i64 0, .string ⟨#[]⟩, .string ⟨#[]⟩], .int .i64 0, .bool false]) (by simp [results, Tryd.results27, go_sem, z0, z1, z2, z3]) rfl ?_
      rw [← HF.out]
      refine RetR.mk HV.out ?_
      (repeat (refine Below.setCell ?_ (by first | (simp; done) | (simp; omega) | omega) _)); exact hB.out
  · have hk3 : k = 1 ∨ k = 2 ∨ k = 3 := by omega
    have C9 := Lib.hid (rwidth_any k hk3)
    rw [if_neg (by omega), if_neg (by omega), if_neg (by omega), if_neg (by omega)] at hv
    have e4 : (k == 4) = false := by rw [beq_eq_false_iff_ne]; omega
    have e5 : (k == 5) = false := by rw [beq_eq_false_iff_ne]; omega
    have e6 : (k == 6) = false := by rw [beq_eq_false_iff_ne]; omega
    have e7 : (k == 7) = false := by rw [beq_eq_false_iff_ne]; omega
    have C8k := Lib.hid (C8.out (PR.wd k))
    clear hk hk3 h0 C4 C5 C6 C8
    generalize PR.wd k = wk at *
    generalize VP.rd s at_ wk = R at *
    obtain ⟨a, t, c⟩ := R
    simp only at C8k hv
    have HV := Lib.hid hv
    clear hv
    go_enter Tryd.func27, Tryd.ntmps27
    go_wp2_with fail
    refine (CK.out _).mono ?_
    rintro e w1 ⟨rfl, b1⟩
    have B1 : Hid (Below w.heap.size w w1) := H0.out.trans (b1.mono (by omega))
    have hs1 : w.heap.size + 2 ≤ w1.heap.size := by have := b1.size; omega
    have b6 : w1.heap[w.heap.size + 1]? = some (.cells #[.int .i64 0, .int .i64 0, .string ⟨#[]⟩, .string ⟨#[]⟩] 47 (0, 0)) := (b1.block _ (by omega)).trans h6.out
    have b9 : w1.heap[w.heap.size]? = some (.cells #[.int .i64 id, .int .i64 0, .string ⟨#[]⟩, .string ⟨#[]⟩] 47 (0, 0)) := (b1.block _ (by omega)).trans h9.out
    have H6 := Lib.hid b6
    have H9 := Lib.hid b9
    have z0 : w1.cell? ⟨w.heap.size + 1, 0, none⟩ = some (.int .i64 0) := by rw [cell_heap b6]; rfl
    have z1 : w1.cell? ⟨w.heap.size + 1, 1, none⟩ = some (.int .i64 0) := by rw [cell_heap b6]; rfl
    have z2 : w1.cell? ⟨w.heap.size + 1, 2, none⟩ = some (.string ⟨#[]⟩) := by rw [cell_heap b6]; rfl
    have z3 : w1.cell? ⟨w.heap.size + 1, 3, none⟩ = some (.string ⟨#[]⟩) := by rw [cell_heap b6]; rfl
    have f0 : w1.frozen? ⟨w.heap.size + 1, 0, none⟩ = false := frozen_heap b6
    have f1 : w1.frozen? ⟨w.heap.size + 1, 1, none⟩ = false := frozen_heap b6
    have f2 : w1.frozen? ⟨w.heap.size + 1, 2, none⟩ = false := frozen_heap b6
    have f3 : w1.frozen? ⟨w.heap.size + 1, 3, none⟩ = false := frozen_heap b6
    have p0 : w1.cell? ⟨w.heap.size, 0, none⟩ = some (.int .i64 id) := by rw [cell_heap b9]; rfl
    have p1 : w1.cell? ⟨w.heap.size, 1, none⟩ = some (.int .i64 0) := by rw [cell_heap b9]; rfl
    have p2 : w1.cell? ⟨w.heap.size, 2, none⟩ = some (.string ⟨#[]⟩) := by rw [cell_heap b9]; rfl
    have p3 : w1.cell? ⟨w.heap.size, 3, none⟩ = some (.string ⟨#[]⟩) := by rw [cell_heap b9]; rfl
    have g1 : w1.frozen? ⟨w.heap.size, 1, none⟩ = false := frozen_heap b9
    have g2 : w1.frozen? ⟨w.heap.size, 2, none⟩ = false := frozen_heap b9
    have g3 : w1.frozen? ⟨w.heap.size, 3, none⟩ = false := frozen_heap b9
    clear b1 b6 b9
    go_wp2_with fail
    refine (C9.out _).mono ?_
    rintro e w2 ⟨rfl, rfl⟩
    go_wp2_with fail
    refine (C8k.out _).mono ?_
    rintro e w2 ⟨rfl, rfl⟩
    have hB := B1
    go_wp2
    refine bodyPost_ret (v := .tuple #[.agg #[.int .i64 id, .int .i64 a, .string ⟨#[]⟩, .string ⟨#[]⟩], .int .i64 t, .bool (c == 0)]) (by simp [results, Tryd.results27, go_sem, z0, z1, z2, z3]) rfl (RetR.mk HV.out ?_)
    (repeat (refine Below.setCell ?_ (by first | (simp; done) | (simp; omega) | omega) _)); exact hB.out
end Go.Proofs.YtpkbakmiofbojaaDoor
