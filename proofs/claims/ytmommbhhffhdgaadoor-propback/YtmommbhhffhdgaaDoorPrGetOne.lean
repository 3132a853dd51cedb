/- One property, read: the program's. -/
import Derived.Test.YtmommbhhffhdgaaDoorPrGetFn
namespace Go.Proofs.YtmommbhhffhdgaaDoor
open Go.RowKit

set_option maxRecDepth 100000 in
set_option maxHeartbeats 4000000 in
theorem gone_any (A : Option Addr) (cap : Nat) (l : List Pr) (s : ByteArray) (at_ : Int) (hs : s.size ≤ 140737488351232) (w : World) (hl : l.length ≤ 1000) (h : Props w A l) (hT : Tabs w) :
    Calls Tryd.prog 25 #[.slice A l.length cap, .string s, .int .i64 at_] w (RetP w (PR.g1 s at_ l)) := by
  have hsm : s.size ≤ maxLen := by unfold maxLen; omega
  have hbl := (Below.refl w.heap.size w).alloc (Nat.le_refl _) (.cells #[.int .i64 0, .int .i64 0, .string ⟨#[]⟩, .string ⟨#[]⟩] 39)
  have C1 := Lib.hid (fun W => get_any s at_ hsm W)
  have C2 : Hid (∀ id, Calls Tryd.prog 28 #[.slice A l.length cap, .int .i64 id] (w.alloc (.cells #[.int .i64 0, .int .i64 0, .string ⟨#[]⟩, .string ⟨#[]⟩] 39)) fun e w' => e = .returned (.int .u8 (PR.idC l id)) ∧ Below (w.alloc (.cells #[.int .i64 0, .int .i64 0, .string ⟨#[]⟩, .string ⟨#[]⟩] 39)).heap.size (w.alloc (.cells #[.int .i64 0, .int .i64 0, .string ⟨#[]⟩, .string ⟨#[]⟩] 39)) w') := fun id => idc_any A cap l id _ hl (h.below hbl)
  have C3 : Hid (∀ at_ id W', Below w.heap.size w W' → Calls Tryd.prog 40 #[.int .i64 id, .string s, .int .i64 at_] W' (RetP W' (PR.val1 s at_ id))) := fun at_ id W' hW => gvalue_any s at_ id hs W' (hT.below hW)
  have hv : PR.g1 s at_ l = PR.g1 s at_ l := rfl
  conv at hv => rhs; unfold PR.g1
  have hV1 : ∀ p id, PR.val1 s p id = if (PR.rdv s p id).2.2 ≠ 0 then (PR.zp, 0, (PR.rdv s p id).2.2) else PR.rdv s p id := fun _ _ => rfl
  have H0 := Lib.hid hbl
  have h6 : Hid ((w.alloc (.cells #[.int .i64 0, .int .i64 0, .string ⟨#[]⟩, .string ⟨#[]⟩] 39)).heap[w.heap.size]? = some (.cells #[.int .i64 0, .int .i64 0, .string ⟨#[]⟩, .string ⟨#[]⟩] 39 (0, 0))) := heap_alloc_new w _
  have hsz : w.heap.size + 1 ≤ (w.alloc (.cells #[.int .i64 0, .int .i64 0, .string ⟨#[]⟩, .string ⟨#[]⟩] 39)).heap.size := by simp
  clear h hT hbl hsm
  by_cases h64 : 64 ≤ l.length
  · rw [if_pos h64] at hv
    have HV := Lib.hid hv
    have i1 : (64 : Int) ≤ (l.length : Int) := by omega
    clear hv hV1
    go_enter Tryd.func25, Tryd.ntmps25
    go_wp2
    have hB := H0
    refine bodyPost_ret (v := .tuple #[.agg #[.int .i64 0, .int .i64 0, .string ⟨#[]⟩, .string ⟨#[]⟩], .int .i64 0, .int .u8 149]) (by simp [results, Tryd.results25, go_sem]) rfl (RetP.mk HV.out ?_)
    (repeat (refine Below.setCell ?_ (by first | (simp; done) | (simp; omega) | omega) _)); exact hB.out
  · rw [if_neg h64] at hv
    have i1 : (l.length : Int) < 64 := by omega
    clear h64
    generalize VP.get s at_ = R at *
    obtain ⟨id, t, c⟩ := R
    simp only at C1 hv
    by_cases hc : c = 0
    · subst hc
      rw [if_neg (by simp)] at hv
      have C2i := Lib.hid (C2.out id)
      have C3i := Lib.hid (C3.out t id)
      have hV := hV1 t id
      generalize PR.idC l id = ic at *
      clear C2 C3 hV1
      by_cases hic : ic = 0
      · subst hic
        rw [if_neg (by simp)] at hv
        generalize PR.val1 s t id = VV at *
        generalize PR.rdv s t id = D at *
        obtain ⟨⟨a, b, x, y⟩, t2, c2⟩ := D
        by_cases hc2 : c2 = 0
        · subst hc2
          simp only [ne_eq, not_true_eq_false, if_false] at hv hV
          subst hV
          have HV := Lib.hid hv
          clear hv
          unfold RetP at C3i
          simp only at C3i
          go_enter Tryd.func25, Tryd.ntmps25
          go_wp2_with fail
          refine (C1.out _).mono ?_
          rintro e w1 ⟨rfl, rfl⟩
          go_wp2_with fail
          refine C2i.out.mono ?_
          rintro e w1 ⟨rfl, b1⟩
          have B1 : Hid (Below w.heap.size w w1) := H0.out.trans (b1.mono (by omega))
          have h61 : Hid (w1.heap[w.heap.size]? = some (.cells #[.int .i64 0, .int .i64 0, .string ⟨#[]⟩, .string ⟨#[]⟩] 39 (0, 0))) := (b1.block _ (by omega)).trans h6.out
          have hs1 : w.heap.size + 1 ≤ w1.heap.size := by have := b1.size; omega
          clear b1
          go_wp2_with fail
          refine (C3i.out _ B1.out).mono ?_
          rintro e w2 ⟨rfl, b2⟩
          have hs2 : w.heap.size + 1 ≤ w2.heap.size := by have := b2.size; omega
          have hB : Hid (Below w.heap.size w (w2.alloc (.cells #[.int .i64 a, .int .i64 b, .string x, .string y] 39))) := (B1.out.trans (b2.mono B1.out.size)).alloc (by omega) _
          have b6 : (w2.alloc (.cells #[.int .i64 a, .int .i64 b, .string x, .string y] 39)).heap[w.heap.size]? = some (.cells #[.int .i64 0, .int .i64 0, .string ⟨#[]⟩, .string ⟨#[]⟩] 39 (0, 0)) := (Below.heap_alloc _ _ _ (by omega)).trans ((b2.block _ (by omega)).trans h61.out)
          have z0 : (w2.alloc (.cells #[.int .i64 a, .int .i64 b, .string x, .string y] 39)).cell? ⟨w.heap.size, 0, none⟩ = some (.int .i64 0) := by rw [cell_heap b6]; rfl
          have z1 : (w2.alloc (.cells #[.int .i64 a, .int .i64 b, .string x, .string y] 39)).cell? ⟨w.heap.size, 1, none⟩ = some (.int .i64 0) := by rw [cell_heap b6]; rfl
          have z2 : (w2.alloc (.cells #[.int .i64 a, .int .i64 b, .string x, .string y] 39)).cell? ⟨w.heap.size, 2, none⟩ = some (.string ⟨#[]⟩) := by rw [cell_heap b6]; rfl
          have z3 : (w2.alloc (.cells #[.int .i64 a, .int .i64 b, .string x, .string y] 39)).cell? ⟨w.heap.size, 3, none⟩ = some (.string ⟨#[]⟩) := by rw [cell_heap b6]; rfl
          have f0 : (w2.alloc (.cells #[.int .i64 a, .int .i64 b, .string x, .string y] 39)).frozen? ⟨w.heap.size, 0, none⟩ = false := frozen_heap b6
          have f1 : (w2.alloc (.cells #[.int .i64 a, .int .i64 b, .string x, .string y] 39)).frozen? ⟨w.heap.size, 1, none⟩ = false := frozen_heap b6
          have f2 : (w2.alloc (.cells #[.int .i64 a, .int .i64 b, .string x, .string y] 39)).frozen? ⟨w.heap.size, 2, none⟩ = false := frozen_heap b6
          have f3 : (w2.alloc (.cells #[.int .i64 a, .int .i64 b, .string x, .string y] 39)).frozen? ⟨w.heap.size, 3, none⟩ = false := frozen_heap b6
          clear b6
          have hne : w2.heap.size ≠ w.heap.size := by omega
          have hp : (w2.alloc (.cells #[.int .i64 a, .int .i64 b, .string x, .string y] 39)).heap[w2.heap.size]? = some (.cells #[.int .i64 a, .int .i64 b, .string x, .string y] 39 (0, 0)) := heap_alloc_new w2 _
          clear b2 C1 C2i C3i
          go_wp2_with fail
          generalize w2.alloc (.cells #[.int .i64 a, .int .i64 b, .string x, .string y] 39) = V3 at *
          have p0 : V3.cell? ⟨w2.heap.size, 0, none⟩ = some (.int .i64 a) := by rw [cell_heap hp]; rfl
          have p1 : V3.cell? ⟨w2.heap.size, 1, none⟩ = some (.int .i64 b) := by rw [cell_heap hp]; rfl
          have p2 : V3.cell? ⟨w2.heap.size, 2, none⟩ = some (.string x) := by rw [cell_heap hp]; rfl
          have p3 : V3.cell? ⟨w2.heap.size, 3, none⟩ = some (.string y) := by rw [cell_heap hp]; rfl
          clear hp
          go_wp2
          refine bodyPost_ret (v := .tuple #[.agg #[.int .i64 a, .int .i64 b, .string x, .string y], .int .i64 t2, .int .u8 0]) (by simp [results, Tryd.results25, go_sem, z0, z1, z2, z3]) rfl (RetP.mk HV.out ?_)
          (repeat (refine Below.setCell ?_ (by first | (simp; done) | (simp; omega) | omega) _)); exact hB.out
        · have hne : (c2 != 0) = true := by rw [bne_iff_ne]; exact hc2
          rw [if_pos hc2] at hv hV
          subst hV
          have HV := Lib.hid hv
          clear hv hc2
          unfold RetP at C3i
          simp only [PR.zp] at C3i
          go_enter Tryd.func25, Tryd.ntmps25
          go_wp2_with fail
          refine (C1.out _).mono ?_
          rintro e w1 ⟨rfl, rfl⟩
          go_wp2_with fail
          refine C2i.out.mono ?_
          rintro e w1 ⟨rfl, b1⟩
          have B1 : Hid (Below w.heap.size w w1) := H0.out.trans (b1.mono (by omega))
          have h61 : Hid (w1.heap[w.heap.size]? = some (.cells #[.int .i64 0, .int .i64 0, .string ⟨#[]⟩, .string ⟨#[]⟩] 39 (0, 0))) := (b1.block _ (by omega)).trans h6.out
          have hs1 : w.heap.size + 1 ≤ w1.heap.size := by have := b1.size; omega
          clear b1
          go_wp2_with fail
          refine (C3i.out _ B1.out).mono ?_
          rintro e w2 ⟨rfl, b2⟩
          have hs2 : w.heap.size + 1 ≤ w2.heap.size := by have := b2.size; omega
          have hB : Hid (Below w.heap.size w (w2.alloc (.cells #[.int .i64 0, .int .i64 0, .string ⟨#[]⟩, .string ⟨#[]⟩] 39))) := (B1.out.trans (b2.mono B1.out.size)).alloc (by omega) _
          have b6 : (w2.alloc (.cells #[.int .i64 0, .int .i64 0, .string ⟨#[]⟩, .string ⟨#[]⟩] 39)).heap[w.heap.size]? = some (.cells #[.int .i64 0, .int .i64 0, .string ⟨#[]⟩, .string ⟨#[]⟩] 39 (0, 0)) := (Below.heap_alloc _ _ _ (by omega)).trans ((b2.block _ (by omega)).trans h61.out)
          have z0 : (w2.alloc (.cells #[.int .i64 0, .int .i64 0, .string ⟨#[]⟩, .string ⟨#[]⟩] 39)).cell? ⟨w.heap.size, 0, none⟩ = some (.int .i64 0) := by rw [cell_heap b6]; rfl
          have z1 : (w2.alloc (.cells #[.int .i64 0, .int .i64 0, .string ⟨#[]⟩, .string ⟨#[]⟩] 39)).cell? ⟨w.heap.size, 1, none⟩ = some (.int .i64 0) := by rw [cell_heap b6]; rfl
          have z2 : (w2.alloc (.cells #[.int .i64 0, .int .i64 0, .string ⟨#[]⟩, .string ⟨#[]⟩] 39)).cell? ⟨w.heap.size, 2, none⟩ = some (.string ⟨#[]⟩) := by rw [cell_heap b6]; rfl
          have z3 : (w2.alloc (.cells #[.int .i64 0, .int .i64 0, .string ⟨#[]⟩, .string ⟨#[]⟩] 39)).cell? ⟨w.heap.size, 3, none⟩ = some (.string ⟨#[]⟩) := by rw [cell_heap b6]; rfl
          have f0 : (w2.alloc (.cells #[.int .i64 0, .int .i64 0, .string ⟨#[]⟩, .string ⟨#[]⟩] 39)).frozen? ⟨w.heap.size, 0, none⟩ = false := frozen_heap b6
          have f1 : (w2.alloc (.cells #[.int .i64 0, .int .i64 0, .string ⟨#[]⟩, .string ⟨#[]⟩] 39)).frozen? ⟨w.heap.size, 1, none⟩ = false := frozen_heap b6
          have f2 : (w2.alloc (.cells #[.int .i64 0, .int .i64 0, .string ⟨#[]⟩, .string ⟨#[]⟩] 39)).frozen? ⟨w.heap.size, 2, none⟩ = false := frozen_heap b6
          have f3 : (w2.alloc (.cells #[.int .i64 0, .int .i64 0, .string ⟨#[]⟩, .string ⟨#[]⟩] 39)).frozen? ⟨w.heap.size, 3, none⟩ = false := frozen_heap b6
          clear b6
          clear b2 C1 C2i C3i
          go_wp2
          refine bodyPost_ret (v := .tuple #[.agg #[.int .i64 0, .int .i64 0, .string ⟨#[]⟩, .string ⟨#[]⟩], .int .i64 0, .int .u8 129]) (by simp [results, Tryd.results25, go_sem, z0, z1, z2, z3]) rfl (RetP.mk HV.out ?_)
          (repeat (refine Below.setCell ?_ (by first | (simp; done) | (simp; omega) | omega) _)); exact hB.out
      · have hne : (ic != 0) = true := by rw [bne_iff_ne]; exact hic
        rw [if_pos hic] at hv
        have HV := Lib.hid hv
        clear hv hic hV
        go_enter Tryd.func25, Tryd.ntmps25
        go_wp2_with fail
        refine (C1.out _).mono ?_
        rintro e w1 ⟨rfl, rfl⟩
        go_wp2_with fail
        refine C2i.out.mono ?_
        rintro e w1 ⟨rfl, b1⟩
        have hB : Hid (Below w.heap.size w w1) := H0.out.trans (b1.mono (by omega))
        have b6 : w1.heap[w.heap.size]? = some (.cells #[.int .i64 0, .int .i64 0, .string ⟨#[]⟩, .string ⟨#[]⟩] 39 (0, 0)) := (b1.block _ (by omega)).trans h6.out
        have z0 : w1.cell? ⟨w.heap.size, 0, none⟩ = some (.int .i64 0) := by rw [cell_heap b6]; rfl
        have z1 : w1.cell? ⟨w.heap.size, 1, none⟩ = some (.int .i64 0) := by rw [cell_heap b6]; rfl
        have z2 : w1.cell? ⟨w.heap.size, 2, none⟩ = some (.string ⟨#[]⟩) := by rw [cell_heap b6]; rfl
        have z3 : w1.cell? ⟨w.heap.size, 3, none⟩ = some (.string ⟨#[]⟩) := by rw [cell_heap b6]; rfl
        have f0 : w1.frozen? ⟨w.heap.size, 0, none⟩ = false := frozen_heap b6
        have f1 : w1.frozen? ⟨w.heap.size, 1, none⟩ = false := frozen_heap b6
        have f2 : w1.frozen? ⟨w.heap.size, 2, none⟩ = false := frozen_heap b6
        have f3 : w1.frozen? ⟨w.heap.size, 3, none⟩ = false := frozen_heap b6
        clear b6
        clear b1 C1 C2i C3i
        go_wp2
        refine bodyPost_ret (v := .tuple #[.agg #[.int .i64 0, .int .i64 0, .string ⟨#[]⟩, .string ⟨#[]⟩], .int .i64 0, .int .u8 ic]) (by simp [results, Tryd.results25, go_sem, z0, z1, z2, z3]) rfl (RetP.mk HV.out ?_)
        (repeat (refine Below.setCell ?_ (by first | (simp; done) | (simp; omega) | omega) _)); exact hB.out
    · have hne : (c != 0) = true := by rw [bne_iff_ne]; exact hc
      rw [if_pos hc] at hv
      have HV := Lib.hid hv
      clear hv hc hV1
      go_enter Tryd.func25, Tryd.ntmps25
      go_wp2_with fail
      refine (C1.out _).mono ?_
      rintro e w1 ⟨rfl, rfl⟩
      have hB := H0
      have b6 : (w.alloc (.cells #[.int .i64 0, .int .i64 0, .string ⟨#[]⟩, .string ⟨#[]⟩] 39)).heap[w.heap.size]? = some (.cells #[.int .i64 0, .int .i64 0, .string ⟨#[]⟩, .string ⟨#[]⟩] 39 (0, 0)) := h6.out
      have z0 : (w.alloc (.cells #[.int .i64 0, .int .i64 0, .string ⟨#[]⟩, .string ⟨#[]⟩] 39)).cell? ⟨w.heap.size, 0, none⟩ = some (.int .i64 0) := by rw [cell_heap b6]; rfl
      have z1 : (w.alloc (.cells #[.int .i64 0, .int .i64 0, .string ⟨#[]⟩, .string ⟨#[]⟩] 39)).cell? ⟨w.heap.size, 1, none⟩ = some (.int .i64 0) := by rw [cell_heap b6]; rfl
      have z2 : (w.alloc (.cells #[.int .i64 0, .int .i64 0, .string ⟨#[]⟩, .string ⟨#[]⟩] 39)).cell? ⟨w.heap.size, 2, none⟩ = some (.string ⟨#[]⟩) := by rw [cell_heap b6]; rfl
      have z3 : (w.alloc (.cells #[.int .i64 0, .int .i64 0, .string ⟨#[]⟩, .string ⟨#[]⟩] 39)).cell? ⟨w.heap.size, 3, none⟩ = some (.string ⟨#[]⟩) := by rw [cell_heap b6]; rfl
      have f0 : (w.alloc (.cells #[.int .i64 0, .int .i64 0, .string ⟨#[]⟩, .string ⟨#[]⟩] 39)).frozen? ⟨w.heap.size, 0, none⟩ = false := frozen_heap b6
      have f1 : (w.alloc (.cells #[.int .i64 0, .int .i64 0, .string ⟨#[]⟩, .string ⟨#[]⟩] 39)).frozen? ⟨w.heap.size, 1, none⟩ = false := frozen_heap b6
      have f2 : (w.alloc (.cells #[.int .i64 0, .int .i64 0, .string ⟨#[]⟩, .string ⟨#[]⟩] 39)).frozen? ⟨w.heap.size, 2, none⟩ = false := frozen_heap b6
      have f3 : (w.alloc (.cells #[.int .i64 0, .int .i64 0, .string ⟨#[]⟩, .string ⟨#[]⟩] 39)).frozen? ⟨w.heap.size, 3, none⟩ = false := frozen_heap b6
      clear b6
      clear C1
      go_wp2
      refine bodyPost_ret (v := .tuple #[.agg #[.int .i64 0, .int .i64 0, .string ⟨#[]⟩, .string ⟨#[]⟩], .int .i64 0, .int .u8 129]) (by simp [results, Tryd.results25, go_sem, z0, z1, z2, z3]) rfl (RetP.mk HV.out ?_)
      (repeat (refine Below.setCell ?_ (by first | (simp; done) | (simp; omega) | omega) _)); exact hB.out
end Go.Proofs.YtmommbhhffhdgaaDoor
