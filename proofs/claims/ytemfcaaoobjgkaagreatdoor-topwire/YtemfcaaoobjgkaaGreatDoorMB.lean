/- A property's value, read: the program's.; One property, read: the program's.; Properties read one behind the other: the program's Get.; The codes of Get, and how many properties it tells at most.; The reader's numbers with a meaning: identifiers, reasons, a session's bit; properties.; The reader's properties.; The reader's filters with their options.; The reader's lists. (Written by wip/tools/gen_rlist.py.); The reader at a packet: what stands ahead of a list.; The reader at a packet: endings that may be left out. -/
import Derived.Test.YtemfcaaoobjgkaaGreatDoorMA
import Derived.Test.YtemfcaaoobjgkaaGreatDoorPrPutOne
namespace Go.Proofs.YtemfcaaoobjgkaaGreatDoor
open Go.RowKit

namespace PR
def pairG (T : ByteArray) (p : Int) : ByteArray × ByteArray × Int × Int :=
  if (TX.getT T p).2.2 ≠ 0 then (⟨#[]⟩, ⟨#[]⟩, 0, (TX.getT T p).2.2) else if (TX.getT T (TX.getT T p).2.1).2.2 ≠ 0 then (⟨#[]⟩, ⟨#[]⟩, 0, (TX.getT T (TX.getT T p).2.1).2.2) else ((TX.getT T p).1, (TX.getT T (TX.getT T p).2.1).1, (TX.getT T (TX.getT T p).2.1).2.1, 0)
/-- What getValue answers: nothing beside a code. -/
def val1 (T : ByteArray) (p id : Int) : Pr × Int × Int := if (rdv T p id).2.2 ≠ 0 then (zp, 0, (rdv T p id).2.2) else rdv T p id
end PR

theorem ret4 {a b : ByteArray} {c d : Int} {x : ByteArray × ByteArray × Int × Int} (h : x = (a, b, c, d)) : Ending.returned (.tuple #[.string a, .string b, .int .i64 c, .int .u8 d]) = .returned (.tuple #[.string x.1, .string x.2.1, .int .i64 x.2.2.1, .int .u8 x.2.2.2]) := by rw [h]

set_option maxHeartbeats 1000000 in
theorem gpair_any (s : ByteArray) (at_ : Int) (hs : s.size ≤ 140737488351232) (w : World) (hT : Tabs w) :
    Calls Tryz.prog 148 #[.string s, .int .i64 at_] w fun e w' => e = .returned (.tuple #[.string (PR.pairG s at_).1, .string (PR.pairG s at_).2.1, .int .i64 (PR.pairG s at_).2.2.1, .int .u8 (PR.pairG s at_).2.2.2]) ∧ Below w.heap.size w w' := by
  have C1 := Lib.hid (tget_any s at_ hs w hT)
  have C2 : Hid (∀ W', Below w.heap.size w W' → Calls Tryz.prog 117 #[.string s, .int .i64 (TX.getT s at_).2.1] W' fun e w' => e = .returned (.tuple #[.string (TX.getT s (TX.getT s at_).2.1).1, .int .i64 (TX.getT s (TX.getT s at_).2.1).2.1, .int .u8 (TX.getT s (TX.getT s at_).2.1).2.2]) ∧ Below W'.heap.size W' w') := fun W' hW => tget_any s _ hs W' (hT.below hW)
  have hp : PR.pairG s at_ = if (TX.getT s at_).2.2 ≠ 0 then (⟨#[]⟩, ⟨#[]⟩, 0, (TX.getT s at_).2.2) else if (TX.getT s (TX.getT s at_).2.1).2.2 ≠ 0 then (⟨#[]⟩, ⟨#[]⟩, 0, (TX.getT s (TX.getT s at_).2.1).2.2) else ((TX.getT s at_).1, (TX.getT s (TX.getT s at_).2.1).1, (TX.getT s (TX.getT s at_).2.1).2.1, 0) := rfl
  generalize PR.pairG s at_ = PG at *
  generalize TX.getT s (TX.getT s at_).2.1 = d2 at *
  generalize TX.getT s at_ = d1 at *
  obtain ⟨x1, t1, c1⟩ := d1
  obtain ⟨x2, t2, c2⟩ := d2
  simp only at C1 C2 hp
  clear hT
  by_cases h1 : c1 = 0
  · subst h1
    by_cases h2 : c2 = 0
    · subst h2
      simp only [ne_eq, not_true_eq_false, if_false] at hp
      have HP := Lib.hid hp
      clear hp
      go_enter Tryz.func148, Tryz.ntmps148
      go_wp2_with fail
      refine C1.out.mono ?_
      rintro e w1 ⟨rfl, b1⟩
      have B1 := Lib.hid b1
      clear b1
      go_wp2_with fail
      refine (C2.out _ B1.out).mono ?_
      rintro e w2 ⟨rfl, b2⟩
      have B2 := Lib.hid b2
      clear b2
      go_wp2
      refine bodyPost_ret (v := .tuple #[.string x1, .string x2, .int .i64 t2, .int .u8 0]) (by simp [results, Tryz.results148, go_sem]) rfl ⟨?_, B1.out.trans (B2.out.mono B1.out.size)⟩
      exact ret4 HP.out
    · have hne : (c2 != 0) = true := by rw [bne_iff_ne]; exact h2
      simp only [ne_eq, not_true_eq_false, if_false, h2, not_false_eq_true, if_true] at hp
      have HP := Lib.hid hp
      clear hp h2
      go_enter Tryz.func148, Tryz.ntmps148
      go_wp2_with fail
      refine C1.out.mono ?_
      rintro e w1 ⟨rfl, b1⟩
      have B1 := Lib.hid b1
      clear b1
      go_wp2_with fail
      refine (C2.out _ B1.out).mono ?_
      rintro e w2 ⟨rfl, b2⟩
      have B2 := Lib.hid b2
      clear b2
      go_wp2
      refine bodyPost_ret (v := .tuple #[.string ⟨#[]⟩, .string ⟨#[]⟩, .int .i64 0, .int .u8 c2]) (by simp [results, Tryz.results148, go_sem]) rfl ⟨?_, B1.out.trans (B2.out.mono B1.out.size)⟩
      exact ret4 HP.out
  · have hne : (c1 != 0) = true := by rw [bne_iff_ne]; exact h1
    simp only [ne_eq, h1, not_false_eq_true, if_true] at hp
    have HP := Lib.hid hp
    clear hp h1
    go_enter Tryz.func148, Tryz.ntmps148
    go_wp2_with fail
    refine C1.out.mono ?_
    rintro e w1 ⟨rfl, b1⟩
    have B1 := Lib.hid b1
    clear b1
    go_wp2
    refine bodyPost_ret (v := .tuple #[.string ⟨#[]⟩, .string ⟨#[]⟩, .int .i64 0, .int .u8 c1]) (by simp [results, Tryz.results148, go_sem]) rfl ⟨?_, B1.out⟩
    exact ret4 HP.out

theorem reader4 (w : World) : Calls Tryz.prog 149 #[.int .i64 4] w fun e w' => e = .returned (.func (.func 33) #[] #[]) ∧ w = w' := by
  go_enter Tryz.func149, Tryz.ntmps149
  go_wp2
  go_ret
  exact ⟨rfl, rfl⟩
theorem readerk (k : Int) (hk : (k == 4) = false) (w : World) : Calls Tryz.prog 149 #[.int .i64 k] w fun e w' => e = .returned (.func (.func 151) #[] #[.pointer (some ⟨w.heap.size, 0, none⟩)]) ∧ w' = w.alloc (.cells #[.int .i64 (PR.wd k)] 3) := by
  have hmf : ∀ (fn : Fn) (first cap : Array Value) (w : World), (Instr.makeFunc fn first cap).run Tryz.prog w = .ok (.func fn first cap) w := fun _ _ _ _ => rfl
  have C := Lib.hid (width_any k w)
  go_enter Tryz.func149, Tryz.ntmps149
  go_wp2_with fail
  refine C.out.mono ?_
  rintro e w1 ⟨rfl, rfl⟩
  go_wp2
  go_ret
  exact ⟨rfl, rfl⟩
theorem rclo_any (s : ByteArray) (at_ wk : Int) (b : Nat) (hs : s.size ≤ maxLen) (w : World) (hc : w.cell? ⟨b, 0, none⟩ = some (.int .i64 wk)) :
    Calls Tryz.prog 151 #[.string s, .int .i64 at_, .pointer (some ⟨b, 0, none⟩)] w fun e w' => e = .returned (.tuple #[.int .i64 (VP.rd s at_ wk).1, .int .i64 (VP.rd s at_ wk).2.1, .int .u8 (VP.rd s at_ wk).2.2]) ∧ w = w' := by
  have C := Lib.hid (read_any s at_ wk hs w)
  generalize VP.rd s at_ wk = R at *
  obtain ⟨a, t, c⟩ := R
  simp only at C ⊢
  go_enter Tryz.func151, Tryz.ntmps151
  go_wp2_with fail
  refine C.out.mono ?_
  rintro e w1 ⟨rfl, rfl⟩
  go_wp2
  go_ret3
  exact ⟨rfl, rfl⟩

def RetP (w : World) (x : Pr × Int × Int) (e : Ending) (w' : World) : Prop :=
  e = .returned (.tuple #[.agg #[.int .i64 x.1.id, .int .i64 x.1.n, .string x.1.s, .string x.1.t], .int .i64 x.2.1, .int .u8 x.2.2]) ∧ Below w.heap.size w w'
theorem RetP.mk {w w' : World} {x : Pr × Int × Int} {a b c d : Int} {s t : ByteArray} (h : x = (⟨a, b, s, t⟩, c, d)) (hb : Below w.heap.size w w') : RetP w x (.returned (.tuple #[.agg #[.int .i64 a, .int .i64 b, .string s, .string t], .int .i64 c, .int .u8 d])) w' := by
  subst h; exact ⟨rfl, hb⟩
theorem val1_bad {T : ByteArray} {p id : Int} {q : Pr} {t c : Int} (h : PR.rdv T p id = (q, t, c)) (hc : c ≠ 0) : PR.val1 T p id = (PR.zp, 0, c) := by unfold PR.val1; rw [h, if_pos hc]
theorem val1_ok {T : ByteArray} {p id : Int} {q : Pr} {t : Int} (h : PR.rdv T p id = (q, t, 0)) : PR.val1 T p id = (q, t, 0) := by unfold PR.val1; rw [h, if_neg (by simp)]

set_option maxRecDepth 100000 in
set_option maxHeartbeats 8000000 in
theorem gvalue_any (s : ByteArray) (at_ id : Int) (hs : s.size ≤ 140737488351232) (w : World) (hT : Tabs w) :
    Calls Tryz.prog 144 #[.int .i64 id, .string s, .int .i64 at_] w (RetP w (PR.val1 s at_ id)) := by
  have hsm : s.size ≤ maxLen := by unfold maxLen; omega
  have CK := Lib.hid (kind_any id)
  have hk := kd_parts _ (PR.kd_le id)
  have C4 := Lib.hid (fun W => get_any s at_ hsm W)
  have C5 := Lib.hid (fun W => getdata_any s at_ hsm W)
  have C6 : Hid (∀ W', Below w.heap.size w W' → _) := fun W' hW => tget_any s at_ hs W' (hT.below hW)
  have C7 : Hid (∀ W', Below w.heap.size w W' → _) := fun W' hW => gpair_any s at_ hs W' (hT.below hW)
  have C8 := Lib.hid (fun wk b W hc => rclo_any s at_ wk b hsm W hc)
  have C9 := Lib.hid reader4
  have C10 := Lib.hid readerk
  have hv : PR.rdv s at_ id = PR.rdv s at_ id := rfl
  conv at hv => rhs; unfold PR.rdv
  have H0 : Hid (Below w.heap.size w ((w.alloc (.cells #[.int .i64 0, .int .i64 0, .string ⟨#[]⟩, .string ⟨#[]⟩] 116)).alloc (.cells #[.int .i64 id, .int .i64 0, .string ⟨#[]⟩, .string ⟨#[]⟩] 116))) := ((Below.refl w.heap.size w).alloc (Nat.le_refl _) _).alloc (by simp) _
  have h6 : Hid (((w.alloc (.cells #[.int .i64 0, .int .i64 0, .string ⟨#[]⟩, .string ⟨#[]⟩] 116)).alloc (.cells #[.int .i64 id, .int .i64 0, .string ⟨#[]⟩, .string ⟨#[]⟩] 116)).heap[w.heap.size]? = some (.cells #[.int .i64 0, .int .i64 0, .string ⟨#[]⟩, .string ⟨#[]⟩] 116 (0, 0))) := (Below.heap_alloc _ _ _ (by simp)).trans (heap_alloc_new w _)
  have h9 : Hid (((w.alloc (.cells #[.int .i64 0, .int .i64 0, .string ⟨#[]⟩, .string ⟨#[]⟩] 116)).alloc (.cells #[.int .i64 id, .int .i64 0, .string ⟨#[]⟩, .string ⟨#[]⟩] 116)).heap[w.heap.size + 1]? = some (.cells #[.int .i64 id, .int .i64 0, .string ⟨#[]⟩, .string ⟨#[]⟩] 116 (0, 0))) := by
    have := heap_alloc_new (w.alloc (.cells #[.int .i64 0, .int .i64 0, .string ⟨#[]⟩, .string ⟨#[]⟩] 116)) (.cells #[.int .i64 id, .int .i64 0, .string ⟨#[]⟩, .string ⟨#[]⟩] 116)
    rwa [show (w.alloc (.cells #[.int .i64 0, .int .i64 0, .string ⟨#[]⟩, .string ⟨#[]⟩] 116)).heap.size = w.heap.size + 1 by simp] at this
  have hsz : w.heap.size + 2 ≤ ((w.alloc (.cells #[.int .i64 0, .int .i64 0, .string ⟨#[]⟩, .string ⟨#[]⟩] 116)).alloc (.cells #[.int .i64 id, .int .i64 0, .string ⟨#[]⟩, .string ⟨#[]⟩] 116)).heap.size := by simp
  clear hT hsm
  generalize PR.kd id = k at *
  rcases hk with rfl | rfl | rfl | rfl | hk
  · simp only [if_true] at hv
    generalize VP.get s at_ = R at *
    obtain ⟨a, t, c⟩ := R
    simp only at C4 hv
    go_enter Tryz.func144, Tryz.ntmps144
    go_wp2_with fail
    refine (CK.out _).mono ?_
    rintro e w1 ⟨rfl, rfl⟩
    go_wp2_with fail
    refine (C9.out _).mono ?_
    rintro e w1 ⟨rfl, rfl⟩
    go_wp2_with fail
    refine (C4.out _).mono ?_
    rintro e w1 ⟨rfl, rfl⟩
    generalize ((w.alloc (.cells #[.int .i64 0, .int .i64 0, .string ⟨#[]⟩, .string ⟨#[]⟩] 116)).alloc (.cells #[.int .i64 id, .int .i64 0, .string ⟨#[]⟩, .string ⟨#[]⟩] 116)) = V at *
    have B1 : Hid (Below V.heap.size V V) := Below.refl _ _
    have b6 : V.heap[w.heap.size]? = some (.cells #[.int .i64 0, .int .i64 0, .string ⟨#[]⟩, .string ⟨#[]⟩] 116 (0, 0)) := (B1.out.block _ (by omega)).trans h6.out
    have b9 : V.heap[w.heap.size + 1]? = some (.cells #[.int .i64 id, .int .i64 0, .string ⟨#[]⟩, .string ⟨#[]⟩] 116 (0, 0)) := (B1.out.block _ (by omega)).trans h9.out
    have z0 : V.cell? ⟨w.heap.size, 0, none⟩ = some (.int .i64 0) := by rw [cell_heap b6]; rfl
    have z1 : V.cell? ⟨w.heap.size, 1, none⟩ = some (.int .i64 0) := by rw [cell_heap b6]; rfl
    have z2 : V.cell? ⟨w.heap.size, 2, none⟩ = some (.string ⟨#[]⟩) := by rw [cell_heap b6]; rfl
    have z3 : V.cell? ⟨w.heap.size, 3, none⟩ = some (.string ⟨#[]⟩) := by rw [cell_heap b6]; rfl
    have f0 : V.frozen? ⟨w.heap.size, 0, none⟩ = false := frozen_heap b6
    have f1 : V.frozen? ⟨w.heap.size, 1, none⟩ = false := frozen_heap b6
    have f2 : V.frozen? ⟨w.heap.size, 2, none⟩ = false := frozen_heap b6
    have f3 : V.frozen? ⟨w.heap.size, 3, none⟩ = false := frozen_heap b6
    have p0 : V.cell? ⟨w.heap.size + 1, 0, none⟩ = some (.int .i64 id) := by rw [cell_heap b9]; rfl
    have p1 : V.cell? ⟨w.heap.size + 1, 1, none⟩ = some (.int .i64 0) := by rw [cell_heap b9]; rfl
    have p2 : V.cell? ⟨w.heap.size + 1, 2, none⟩ = some (.string ⟨#[]⟩) := by rw [cell_heap b9]; rfl
    have p3 : V.cell? ⟨w.heap.size + 1, 3, none⟩ = some (.string ⟨#[]⟩) := by rw [cell_heap b9]; rfl
    have g1 : V.frozen? ⟨w.heap.size + 1, 1, none⟩ = false := frozen_heap b9
    have g2 : V.frozen? ⟨w.heap.size + 1, 2, none⟩ = false := frozen_heap b9
    have g3 : V.frozen? ⟨w.heap.size + 1, 3, none⟩ = false := frozen_heap b9
    have hB : Hid (Below w.heap.size w V) := H0.out.trans (B1.out.mono (by omega))
    clear b6 b9
    by_cases hc : c = 0
    · subst hc
      have HV := Lib.hid (val1_ok hv)
      clear hv
      go_wp2
      refine bodyPost_ret (v := .tuple #[.agg #[.int .i64 id, .int .i64 a, .string ⟨#[]⟩, .string ⟨#[]⟩], .int .i64 t, .int .u8 0]) (by simp [results, Tryz.results144, go_sem, z0, z1, z2, z3]) rfl (RetP.mk HV.out ?_)
      (repeat (refine Below.setCell ?_ (by first | (simp; done) | (simp; omega) | omega) _)); exact hB.out
    · have hne : (c != 0) = true := by rw [bne_iff_ne]; exact hc
      have HV := Lib.hid (val1_bad hv hc)
      clear hv hc
      go_wp2
      refine bodyPost_ret (v := .tuple #[.agg #[.int .i64 0, .int .i64 0, .string ⟨#[]⟩, .string ⟨#[]⟩], .int .i64 0, .int .u8 c]) (by simp [results, Tryz.results144, go_sem, z0, z1, z2, z3]) rfl (RetP.mk HV.out ?_)
      (repeat (refine Below.setCell ?_ (by first | (simp; done) | (simp; omega) | omega) _)); exact hB.out
  · simp only [show ((5 : Int) = 4) = False by decide, if_true, if_false] at hv
    generalize VP.dat s at_ = R at *
    obtain ⟨a, t, c⟩ := R
    simp only at C5 hv
    go_enter Tryz.func144, Tryz.ntmps144
    go_wp2_with fail
    refine (CK.out _).mono ?_
    rintro e w1 ⟨rfl, rfl⟩
    go_wp2_with fail
    refine (C5.out _).mono ?_
    rintro e w2 ⟨rfl, b2⟩
    have B2 := Lib.hid b2
    clear b2
    generalize ((w.alloc (.cells #[.int .i64 0, .int .i64 0, .string ⟨#[]⟩, .string ⟨#[]⟩] 116)).alloc (.cells #[.int .i64 id, .int .i64 0, .string ⟨#[]⟩, .string ⟨#[]⟩] 116)) = V at *
    have b6 : w2.heap[w.heap.size]? = some (.cells #[.int .i64 0, .int .i64 0, .string ⟨#[]⟩, .string ⟨#[]⟩] 116 (0, 0)) := (B2.out.block _ (by omega)).trans h6.out
    have b9 : w2.heap[w.heap.size + 1]? = some (.cells #[.int .i64 id, .int .i64 0, .string ⟨#[]⟩, .string ⟨#[]⟩] 116 (0, 0)) := (B2.out.block _ (by omega)).trans h9.out
    have z0 : w2.cell? ⟨w.heap.size, 0, none⟩ = some (.int .i64 0) := by rw [cell_heap b6]; rfl
    have z1 : w2.cell? ⟨w.heap.size, 1, none⟩ = some (.int .i64 0) := by rw [cell_heap b6]; rfl
    have z2 : w2.cell? ⟨w.heap.size, 2, none⟩ = some (.string ⟨#[]⟩) := by rw [cell_heap b6]; rfl
    have z3 : w2.cell? ⟨w.heap.size, 3, none⟩ = some (.string ⟨#[]⟩) := by rw [cell_heap b6]; rfl
    have f0 : w2.frozen? ⟨w.heap.size, 0, none⟩ = false := frozen_heap b6
    have f1 : w2.frozen? ⟨w.heap.size, 1, none⟩ = false := frozen_heap b6
    have f2 : w2.frozen? ⟨w.heap.size, 2, none⟩ = false := frozen_heap b6
    have f3 : w2.frozen? ⟨w.heap.size, 3, none⟩ = false := frozen_heap b6
    have p0 : w2.cell? ⟨w.heap.size + 1, 0, none⟩ = some (.int .i64 id) := by rw [cell_heap b9]; rfl
    have p1 : w2.cell? ⟨w.heap.size + 1, 1, none⟩ = some (.int .i64 0) := by rw [cell_heap b9]; rfl
    have p2 : w2.cell? ⟨w.heap.size + 1, 2, none⟩ = some (.string ⟨#[]⟩) := by rw [cell_heap b9]; rfl
    have p3 : w2.cell? ⟨w.heap.size + 1, 3, none⟩ = some (.string ⟨#[]⟩) := by rw [cell_heap b9]; rfl
    have g1 : w2.frozen? ⟨w.heap.size + 1, 1, none⟩ = false := frozen_heap b9
    have g2 : w2.frozen? ⟨w.heap.size + 1, 2, none⟩ = false := frozen_heap b9
    have g3 : w2.frozen? ⟨w.heap.size + 1, 3, none⟩ = false := frozen_heap b9
    have hB : Hid (Below w.heap.size w w2) := H0.out.trans (B2.out.mono (by omega))
    clear b6 b9
    by_cases hc : c = 0
    · subst hc
      have HV := Lib.hid (val1_ok hv)
      clear hv
      go_wp2
      refine bodyPost_ret (v := .tuple #[.agg #[.int .i64 id, .int .i64 0, .string a, .string ⟨#[]⟩], .int .i64 t, .int .u8 0]) (by simp [results, Tryz.results144, go_sem, z0, z1, z2, z3]) rfl (RetP.mk HV.out ?_)
      (repeat (refine Below.setCell ?_ (by first | (simp; done) | (simp; omega) | omega) _)); exact hB.out
    · have hne : (c != 0) = true := by rw [bne_iff_ne]; exact hc
      have HV := Lib.hid (val1_bad hv hc)
      clear hv hc
      go_wp2
      refine bodyPost_ret (v := .tuple #[.agg #[.int .i64 0, .int .i64 0, .string ⟨#[]⟩, .string ⟨#[]⟩], .int .i64 0, .int .u8 c]) (by simp [results, Tryz.results144, go_sem, z0, z1, z2, z3]) rfl (RetP.mk HV.out ?_)
      (repeat (refine Below.setCell ?_ (by first | (simp; done) | (simp; omega) | omega) _)); exact hB.out
  · simp only [show ((6 : Int) = 4) = False by decide, show ((6 : Int) = 5) = False by decide, if_true, if_false] at hv
    generalize TX.getT s at_ = R at *
    obtain ⟨a, t, c⟩ := R
    simp only at C6 hv
    go_enter Tryz.func144, Tryz.ntmps144
    go_wp2_with fail
    refine (CK.out _).mono ?_
    rintro e w1 ⟨rfl, rfl⟩
    go_wp2_with fail
    refine (C6.out _ H0.out).mono ?_
    rintro e w2 ⟨rfl, b2⟩
    have B2 := Lib.hid b2
    clear b2
    generalize ((w.alloc (.cells #[.int .i64 0, .int .i64 0, .string ⟨#[]⟩, .string ⟨#[]⟩] 116)).alloc (.cells #[.int .i64 id, .int .i64 0, .string ⟨#[]⟩, .string ⟨#[]⟩] 116)) = V at *
    have b6 : w2.heap[w.heap.size]? = some (.cells #[.int .i64 0, .int .i64 0, .string ⟨#[]⟩, .string ⟨#[]⟩] 116 (0, 0)) := (B2.out.block _ (by omega)).trans h6.out
    have b9 : w2.heap[w.heap.size + 1]? = some (.cells #[.int .i64 id, .int .i64 0, .string ⟨#[]⟩, .string ⟨#[]⟩] 116 (0, 0)) := (B2.out.block _ (by omega)).trans h9.out
    have z0 : w2.cell? ⟨w.heap.size, 0, none⟩ = some (.int .i64 0) := by rw [cell_heap b6]; rfl
    have z1 : w2.cell? ⟨w.heap.size, 1, none⟩ = some (.int .i64 0) := by rw [cell_heap b6]; rfl
    have z2 : w2.cell? ⟨w.heap.size, 2, none⟩ = some (.string ⟨#[]⟩) := by rw [cell_heap b6]; rfl
    have z3 : w2.cell? ⟨w.heap.size, 3, none⟩ = some (.string ⟨#[]⟩) := by rw [cell_heap b6]; rfl
    have f0 : w2.frozen? ⟨w.heap.size, 0, none⟩ = false := frozen_heap b6
    have f1 : w2.frozen? ⟨w.heap.size, 1, none⟩ = false := frozen_heap b6
    have f2 : w2.frozen? ⟨w.heap.size, 2, none⟩ = false := frozen_heap b6
    have f3 : w2.frozen? ⟨w.heap.size, 3, none⟩ = false := frozen_heap b6
    have p0 : w2.cell? ⟨w.heap.size + 1, 0, none⟩ = some (.int .i64 id) := by rw [cell_heap b9]; rfl
    have p1 : w2.cell? ⟨w.heap.size + 1, 1, none⟩ = some (.int .i64 0) := by rw [cell_heap b9]; rfl
    have p2 : w2.cell? ⟨w.heap.size + 1, 2, none⟩ = some (.string ⟨#[]⟩) := by rw [cell_heap b9]; rfl
    have p3 : w2.cell? ⟨w.heap.size + 1, 3, none⟩ = some (.string ⟨#[]⟩) := by rw [cell_heap b9]; rfl
    have g1 : w2.frozen? ⟨w.heap.size + 1, 1, none⟩ = false := frozen_heap b9
    have g2 : w2.frozen? ⟨w.heap.size + 1, 2, none⟩ = false := frozen_heap b9
    have g3 : w2.frozen? ⟨w.heap.size + 1, 3, none⟩ = false := frozen_heap b9
    have hB : Hid (Below w.heap.size w w2) := H0.out.trans (B2.out.mono (by omega))
    clear b6 b9
    by_cases hc : c = 0
    · subst hc
      have HV := Lib.hid (val1_ok hv)
      clear hv
      go_wp2
      refine bodyPost_ret (v := .tuple #[.agg #[.int .i64 id, .int .i64 0, .string a, .string ⟨#[]⟩], .int .i64 t, .int .u8 0]) (by simp [results, Tryz.results144, go_sem, z0, z1, z2, z3]) rfl (RetP.mk HV.out ?_)
      (repeat (refine Below.setCell ?_ (by first | (simp; done) | (simp; omega) | omega) _)); exact hB.out
    · have hne : (c != 0) = true := by rw [bne_iff_ne]; exact hc
      have HV := Lib.hid (val1_bad hv hc)
      clear hv hc
      go_wp2
      refine bodyPost_ret (v := .tuple #[.agg #[.int .i64 0, .int .i64 0, .string ⟨#[]⟩, .string ⟨#[]⟩], .int .i64 0, .int .u8 c]) (by simp [results, Tryz.results144, go_sem, z0, z1, z2, z3]) rfl (RetP.mk HV.out ?_)
      (repeat (refine Below.setCell ?_ (by first | (simp; done) | (simp; omega) | omega) _)); exact hB.out
  · simp only [show ((7 : Int) = 4) = False by decide, show ((7 : Int) = 5) = False by decide, show ((7 : Int) = 6) = False by decide, if_true, if_false] at hv
    have hpg : PR.pairG s at_ = if (TX.getT s at_).2.2 ≠ 0 then (⟨#[]⟩, ⟨#[]⟩, 0, (TX.getT s at_).2.2) else if (TX.getT s (TX.getT s at_).2.1).2.2 ≠ 0 then (⟨#[]⟩, ⟨#[]⟩, 0, (TX.getT s (TX.getT s at_).2.1).2.2) else ((TX.getT s at_).1, (TX.getT s (TX.getT s at_).2.1).1, (TX.getT s (TX.getT s at_).2.1).2.1, 0) := rfl
    have hpv : ((PR.pairG s at_).2.2.2 = 0 → PR.rdv s at_ id = (⟨id, 0, (PR.pairG s at_).1, (PR.pairG s at_).2.1⟩, (PR.pairG s at_).2.2.1, 0)) ∧ ((PR.pairG s at_).2.2.2 ≠ 0 → ∃ q t, PR.rdv s at_ id = (q, t, (PR.pairG s at_).2.2.2)) := by
      rw [hv, hpg]
      generalize TX.getT s (TX.getT s at_).2.1 = d2
      generalize TX.getT s at_ = d1
      obtain ⟨x1, t1, c1⟩ := d1
      obtain ⟨x2, t2, c2⟩ := d2
      by_cases h1 : c1 = 0
      · by_cases h2 : c2 = 0 <;> simp [h1, h2]
      · simp [h1]
    clear hv hpg
    generalize PR.pairG s at_ = R at *
    obtain ⟨a, b, t, c⟩ := R
    simp only at C7 hpv
    have HPV := Lib.hid hpv
    clear hpv
    go_enter Tryz.func144, Tryz.ntmps144
    go_wp2_with fail
    refine (CK.out _).mono ?_
    rintro e w1 ⟨rfl, rfl⟩
    go_wp2_with fail
    refine (C7.out _ H0.out).mono ?_
    rintro e w2 ⟨rfl, b2⟩
    have B2 := Lib.hid b2
    clear b2
    generalize ((w.alloc (.cells #[.int .i64 0, .int .i64 0, .string ⟨#[]⟩, .string ⟨#[]⟩] 116)).alloc (.cells #[.int .i64 id, .int .i64 0, .string ⟨#[]⟩, .string ⟨#[]⟩] 116)) = V at *
    have b6 : w2.heap[w.heap.size]? = some (.cells #[.int .i64 0, .int .i64 0, .string ⟨#[]⟩, .string ⟨#[]⟩] 116 (0, 0)) := (B2.out.block _ (by omega)).trans h6.out
    have b9 : w2.heap[w.heap.size + 1]? = some (.cells #[.int .i64 id, .int .i64 0, .string ⟨#[]⟩, .string ⟨#[]⟩] 116 (0, 0)) := (B2.out.block _ (by omega)).trans h9.out
    have z0 : w2.cell? ⟨w.heap.size, 0, none⟩ = some (.int .i64 0) := by rw [cell_heap b6]; rfl
    have z1 : w2.cell? ⟨w.heap.size, 1, none⟩ = some (.int .i64 0) := by rw [cell_heap b6]; rfl
    have z2 : w2.cell? ⟨w.heap.size, 2, none⟩ = some (.string ⟨#[]⟩) := by rw [cell_heap b6]; rfl
    have z3 : w2.cell? ⟨w.heap.size, 3, none⟩ = some (.string ⟨#[]⟩) := by rw [cell_heap b6]; rfl
    have f0 : w2.frozen? ⟨w.heap.size, 0, none⟩ = false := frozen_heap b6
    have f1 : w2.frozen? ⟨w.heap.size, 1, none⟩ = false := frozen_heap b6
    have f2 : w2.frozen? ⟨w.heap.size, 2, none⟩ = false := frozen_heap b6
    have f3 : w2.frozen? ⟨w.heap.size, 3, none⟩ = false := frozen_heap b6
    have p0 : w2.cell? ⟨w.heap.size + 1, 0, none⟩ = some (.int .i64 id) := by rw [cell_heap b9]; rfl
    have p1 : w2.cell? ⟨w.heap.size + 1, 1, none⟩ = some (.int .i64 0) := by rw [cell_heap b9]; rfl
    have p2 : w2.cell? ⟨w.heap.size + 1, 2, none⟩ = some (.string ⟨#[]⟩) := by rw [cell_heap b9]; rfl
    have p3 : w2.cell? ⟨w.heap.size + 1, 3, none⟩ = some (.string ⟨#[]⟩) := by rw [cell_heap b9]; rfl
    have g1 : w2.frozen? ⟨w.heap.size + 1, 1, none⟩ = false := frozen_heap b9
    have g2 : w2.frozen? ⟨w.heap.size + 1, 2, none⟩ = false := frozen_heap b9
    have g3 : w2.frozen? ⟨w.heap.size + 1, 3, none⟩ = false := frozen_heap b9
    have hB : Hid (Below w.heap.size w w2) := H0.out.trans (B2.out.mono (by omega))
    clear b6 b9
    by_cases hc : c = 0
    · subst hc
      have HV := Lib.hid (val1_ok (HPV.out.1 rfl))
      go_wp2
      refine bodyPost_ret (v := .tuple #[.agg #[.int .i64 id, .int .i64 0, .string a, .string b], .int .i64 t, .int .u8 0]) (by simp [results, Tryz.results144, go_sem, z0, z1, z2, z3]) rfl (RetP.mk HV.out ?_)
      (repeat (refine Below.setCell ?_ (by first | (simp; done) | (simp; omega) | omega) _)); exact hB.out
    · have hne : (c != 0) = true := by rw [bne_iff_ne]; exact hc
      have HV : Hid (PR.val1 s at_ id = (PR.zp, 0, c)) := Lib.hid (by obtain ⟨q, t', hq⟩ := HPV.out.2 hc; exact val1_bad hq hc)
      clear hc
      go_wp2
      refine bodyPost_ret (v := .tuple #[.agg #[.int .i64 0, .int .i64 0, .string ⟨#[]⟩, .string ⟨#[]⟩], .int .i64 0, .int .u8 c]) (by simp [results, Tryz.results144, go_sem, z0, z1, z2, z3]) rfl (RetP.mk HV.out ?_)
      (repeat (refine Below.setCell ?_ (by first | (simp; done) | (simp; omega) | omega) _)); exact hB.out
  · rw [if_neg (by omega), if_neg (by omega), if_neg (by omega), if_neg (by omega)] at hv
    have e4 : (k == 4) = false := by rw [beq_eq_false_iff_ne]; omega
    have e5 : (k == 5) = false := by rw [beq_eq_false_iff_ne]; omega
    have e6 : (k == 6) = false := by rw [beq_eq_false_iff_ne]; omega
    have e7 : (k == 7) = false := by rw [beq_eq_false_iff_ne]; omega
    have C8k := Lib.hid (C8.out (PR.wd k))
    have C10k := Lib.hid (C10.out k e4)
    clear hk C4 C5 C6 C7 C8 C9 C10
    generalize PR.wd k = wk at *
    generalize VP.rd s at_ wk = R at *
    obtain ⟨a, t, c⟩ := R
    simp only at C8k hv
    go_enter Tryz.func144, Tryz.ntmps144
    go_wp2_with fail
    refine (CK.out _).mono ?_
    rintro e w1 ⟨rfl, rfl⟩
    go_wp2_with fail
    refine (C10k.out _).mono ?_
    rintro e w1 ⟨rfl, rfl⟩
    have hal : Hid (Below ((w.alloc (.cells #[.int .i64 0, .int .i64 0, .string ⟨#[]⟩, .string ⟨#[]⟩] 116)).alloc (.cells #[.int .i64 id, .int .i64 0, .string ⟨#[]⟩, .string ⟨#[]⟩] 116)).heap.size ((w.alloc (.cells #[.int .i64 0, .int .i64 0, .string ⟨#[]⟩, .string ⟨#[]⟩] 116)).alloc (.cells #[.int .i64 id, .int .i64 0, .string ⟨#[]⟩, .string ⟨#[]⟩] 116)) (((w.alloc (.cells #[.int .i64 0, .int .i64 0, .string ⟨#[]⟩, .string ⟨#[]⟩] 116)).alloc (.cells #[.int .i64 id, .int .i64 0, .string ⟨#[]⟩, .string ⟨#[]⟩] 116)).alloc (.cells #[.int .i64 wk] 3))) := (Below.refl _ _).alloc (Nat.le_refl _) _
    have hcw : (((w.alloc (.cells #[.int .i64 0, .int .i64 0, .string ⟨#[]⟩, .string ⟨#[]⟩] 116)).alloc (.cells #[.int .i64 id, .int .i64 0, .string ⟨#[]⟩, .string ⟨#[]⟩] 116)).alloc (.cells #[.int .i64 wk] 3)).cell? ⟨((w.alloc (.cells #[.int .i64 0, .int .i64 0, .string ⟨#[]⟩, .string ⟨#[]⟩] 116)).alloc (.cells #[.int .i64 id, .int .i64 0, .string ⟨#[]⟩, .string ⟨#[]⟩] 116)).heap.size, 0, none⟩ = some (.int .i64 wk) := by rw [World.cell?_alloc_at _ _ _ _ rfl]; rfl
    have C8w := Lib.hid (C8k.out _ _ hcw)
    rw [show ((w.alloc (.cells #[.int .i64 0, .int .i64 0, .string ⟨#[]⟩, .string ⟨#[]⟩] 116)).alloc (.cells #[.int .i64 id, .int .i64 0, .string ⟨#[]⟩, .string ⟨#[]⟩] 116)).heap.size = w.heap.size + 2 by simp] at C8w
    clear hcw C8k C10k
    go_wp2_with fail
    refine C8w.out.mono ?_
    rintro e w2 ⟨rfl, rfl⟩
    clear C8w
    generalize ((w.alloc (.cells #[.int .i64 0, .int .i64 0, .string ⟨#[]⟩, .string ⟨#[]⟩] 116)).alloc (.cells #[.int .i64 id, .int .i64 0, .string ⟨#[]⟩, .string ⟨#[]⟩] 116)) = V at *
    generalize V.alloc (.cells #[.int .i64 wk] 3) = w2 at *
    have b6 : w2.heap[w.heap.size]? = some (.cells #[.int .i64 0, .int .i64 0, .string ⟨#[]⟩, .string ⟨#[]⟩] 116 (0, 0)) := (hal.out.block _ (by omega)).trans h6.out
    have b9 : w2.heap[w.heap.size + 1]? = some (.cells #[.int .i64 id, .int .i64 0, .string ⟨#[]⟩, .string ⟨#[]⟩] 116 (0, 0)) := (hal.out.block _ (by omega)).trans h9.out
    have z0 : w2.cell? ⟨w.heap.size, 0, none⟩ = some (.int .i64 0) := by rw [cell_heap b6]; rfl
    have z1 : w2.cell? ⟨w.heap.size, 1, none⟩ = some (.int .i64 0) := by rw [cell_heap b6]; rfl
    have z2 : w2.cell? ⟨w.heap.size, 2, none⟩ = some (.string ⟨#[]⟩) := by rw [cell_heap b6]; rfl
    have z3 : w2.cell? ⟨w.heap.size, 3, none⟩ = some (.string ⟨#[]⟩) := by rw [cell_heap b6]; rfl
    have f0 : w2.frozen? ⟨w.heap.size, 0, none⟩ = false := frozen_heap b6
    have f1 : w2.frozen? ⟨w.heap.size, 1, none⟩ = false := frozen_heap b6
    have f2 : w2.frozen? ⟨w.heap.size, 2, none⟩ = false := frozen_heap b6
    have f3 : w2.frozen? ⟨w.heap.size, 3, none⟩ = false := frozen_heap b6
    have p0 : w2.cell? ⟨w.heap.size + 1, 0, none⟩ = some (.int .i64 id) := by rw [cell_heap b9]; rfl
    have p1 : w2.cell? ⟨w.heap.size + 1, 1, none⟩ = some (.int .i64 0) := by rw [cell_heap b9]; rfl
    have p2 : w2.cell? ⟨w.heap.size + 1, 2, none⟩ = some (.string ⟨#[]⟩) := by rw [cell_heap b9]; rfl
    have p3 : w2.cell? ⟨w.heap.size + 1, 3, none⟩ = some (.string ⟨#[]⟩) := by rw [cell_heap b9]; rfl
    have g1 : w2.frozen? ⟨w.heap.size + 1, 1, none⟩ = false := frozen_heap b9
    have g2 : w2.frozen? ⟨w.heap.size + 1, 2, none⟩ = false := frozen_heap b9
    have g3 : w2.frozen? ⟨w.heap.size + 1, 3, none⟩ = false := frozen_heap b9
    have hB : Hid (Below w.heap.size w w2) := H0.out.trans (hal.out.mono (by omega))
    clear b6 b9
    by_cases hc : c = 0
    · subst hc
      have HV := Lib.hid (val1_ok hv)
      clear hv
      go_wp2
      refine bodyPost_ret (v := .tuple #[.agg #[.int .i64 id, .int .i64 a, .string ⟨#[]⟩, .string ⟨#[]⟩], .int .i64 t, .int .u8 0]) (by simp [results, Tryz.results144, go_sem, z0, z1, z2, z3]) rfl (RetP.mk HV.out ?_)
      (repeat (refine Below.setCell ?_ (by first | (simp; done) | (simp; omega) | omega) _)); exact hB.out
    · have hne : (c != 0) = true := by rw [bne_iff_ne]; exact hc
      have HV := Lib.hid (val1_bad hv hc)
      clear hv hc
      go_wp2
      refine bodyPost_ret (v := .tuple #[.agg #[.int .i64 0, .int .i64 0, .string ⟨#[]⟩, .string ⟨#[]⟩], .int .i64 0, .int .u8 c]) (by simp [results, Tryz.results144, go_sem, z0, z1, z2, z3]) rfl (RetP.mk HV.out ?_)
      (repeat (refine Below.setCell ?_ (by first | (simp; done) | (simp; omega) | omega) _)); exact hB.out
end Go.Proofs.YtemfcaaoobjgkaaGreatDoor
namespace Go.Proofs.YtemfcaaoobjgkaaGreatDoor
open Go.RowKit

set_option maxRecDepth 100000 in
set_option maxHeartbeats 4000000 in
theorem gone_any (A : Option Addr) (cap : Nat) (l : List Pr) (s : ByteArray) (at_ : Int) (hs : s.size ≤ 140737488351232) (w : World) (hl : l.length ≤ 1000) (h : Props w A l) (hT : Tabs w) :
    Calls Tryz.prog 133 #[.slice A l.length cap, .string s, .int .i64 at_] w (RetP w (PR.g1 s at_ l)) := by
  have hsm : s.size ≤ maxLen := by unfold maxLen; omega
  have hbl := (Below.refl w.heap.size w).alloc (Nat.le_refl _) (.cells #[.int .i64 0, .int .i64 0, .string ⟨#[]⟩, .string ⟨#[]⟩] 116)
  have C1 := Lib.hid (fun W => get_any s at_ hsm W)
  have C2 : Hid (∀ id, Calls Tryz.prog 125 #[.slice A l.length cap, .int .i64 id] (w.alloc (.cells #[.int .i64 0, .int .i64 0, .string ⟨#[]⟩, .string ⟨#[]⟩] 116)) fun e w' => e = .returned (.int .u8 (PR.idC l id)) ∧ Below (w.alloc (.cells #[.int .i64 0, .int .i64 0, .string ⟨#[]⟩, .string ⟨#[]⟩] 116)).heap.size (w.alloc (.cells #[.int .i64 0, .int .i64 0, .string ⟨#[]⟩, .string ⟨#[]⟩] 116)) w') := fun id => idc_any A cap l id _ hl (h.below hbl)
  have C3 : Hid (∀ at_ id W', Below w.heap.size w W' → Calls Tryz.prog 144 #[.int .i64 id, .string s, .int .i64 at_] W' (RetP W' (PR.val1 s at_ id))) := fun at_ id W' hW => gvalue_any s at_ id hs W' (hT.below hW)
  have hv : PR.g1 s at_ l = PR.g1 s at_ l := rfl
  conv at hv => rhs; unfold PR.g1
  have hV1 : ∀ p id, PR.val1 s p id = if (PR.rdv s p id).2.2 ≠ 0 then (PR.zp, 0, (PR.rdv s p id).2.2) else PR.rdv s p id := fun _ _ => rfl
  have H0 := Lib.hid hbl
  have h6 : Hid ((w.alloc (.cells #[.int .i64 0, .int .i64 0, .string ⟨#[]⟩, .string ⟨#[]⟩] 116)).heap[w.heap.size]? = some (.cells #[.int .i64 0, .int .i64 0, .string ⟨#[]⟩, .string ⟨#[]⟩] 116 (0, 0))) := heap_alloc_new w _
  have hsz : w.heap.size + 1 ≤ (w.alloc (.cells #[.int .i64 0, .int .i64 0, .string ⟨#[]⟩, .string ⟨#[]⟩] 116)).heap.size := by simp
  clear h hT hbl hsm
  by_cases h64 : 64 ≤ l.length
  · rw [if_pos h64] at hv
    have HV := Lib.hid hv
    have i1 : (64 : Int) ≤ (l.length : Int) := by omega
    clear hv hV1
    go_enter Tryz.func133, Tryz.ntmps133
    go_wp2
    have hB := H0
    refine bodyPost_ret (v := .tuple #[.agg #[.int .i64 0, .int .i64 0, .string ⟨#[]⟩, .string ⟨#[]⟩], .int .i64 0, .int .u8 149]) (by simp [results, Tryz.results133, go_sem]) rfl (RetP.mk HV.out ?_)
    (repeat (refine Below.setCell ?_ (by first | (simp; done) | (simp; omega) | omega) _)); exact hB.out
  · rw [if_neg h64] at hv
    have i1 : (l.length : Int) < 64 := by omega
    clear h64
    generalize VP.get s at_ = R at *
    obtain ⟨id, t, c⟩ := R
    simp only at C1 hv
    by_cases hc : c = 0
    · subst hc
      rw [if_neg (by simp)] at hv
      have C2i := Lib.hid (C2.out id)
      have C3i := Lib.hid (C3.out t id)
      have hV := hV1 t id
      generalize PR.idC l id = ic at *
      clear C2 C3 hV1
      by_cases hic : ic = 0
      · subst hic
        rw [if_neg (by simp)] at hv
        generalize PR.val1 s t id = VV at *
        generalize PR.rdv s t id = D at *
        obtain ⟨⟨a, b, x, y⟩, t2, c2⟩ := D
        by_cases hc2 : c2 = 0
        · subst hc2
          simp only [ne_eq, not_true_eq_false, if_false] at hv hV
          subst hV
          have HV := Lib.hid hv
          clear hv
          unfold RetP at C3i
          simp only at C3i
          go_enter Tryz.func133, Tryz.ntmps133
          go_wp2_with fail
          refine (C1.out _).mono ?_
          rintro e w1 ⟨rfl, rfl⟩
          go_wp2_with fail
          refine C2i.out.mono ?_
          rintro e w1 ⟨rfl, b1⟩
          have B1 : Hid (Below w.heap.size w w1) := H0.out.trans (b1.mono (by omega))
          have h61 : Hid (w1.heap[w.heap.size]? = some (.cells #[.int .i64 0, .int .i64 0, .string ⟨#[]⟩, .string ⟨#[]⟩] 116 (0, 0))) := (b1.block _ (by omega)).trans h6.out
          have hs1 : w.heap.size + 1 ≤ w1.heap.size := by have := b1.size; omega
          clear b1
          go_wp2_with fail
          refine (C3i.out _ B1.out).mono ?_
          rintro e w2 ⟨rfl, b2⟩
          have hs2 : w.heap.size + 1 ≤ w2.heap.size := by have := b2.size; omega
          have hB : Hid (Below w.heap.size w (w2.alloc (.cells #[.int .i64 a, .int .i64 b, .string x, .string y] 116))) := (B1.out.trans (b2.mono B1.out.size)).alloc (by omega) _
          have b6 : (w2.alloc (.cells #[.int .i64 a, .int .i64 b, .string x, .string y] 116)).heap[w.heap.size]? = some (.cells #[.int .i64 0, .int .i64 0, .string ⟨#[]⟩, .string ⟨#[]⟩] 116 (0, 0)) := (Below.heap_alloc _ _ _ (by omega)).trans ((b2.block _ (by omega)).trans h61.out)
          have z0 : (w2.alloc (.cells #[.int .i64 a, .int .i64 b, .string x, .string y] 116)).cell? ⟨w.heap.size, 0, none⟩ = some (.int .i64 0) := by rw [cell_heap b6]; rfl
          have z1 : (w2.alloc (.cells #[.int .i64 a, .int .i64 b, .string x, .string y] 116)).cell? ⟨w.heap.size, 1, none⟩ = some (.int .i64 0) := by rw [cell_heap b6]; rfl
          have z2 : (w2.alloc (.cells #[.int .i64 a, .int .i64 b, .string x, .string y] 116)).cell? ⟨w.heap.size, 2, none⟩ = some (.string ⟨#[]⟩) := by rw [cell_heap b6]; rfl
          have z3 : (w2.alloc (.cells #[.int .i64 a, .int .i64 b, .string x, .string y] 116)).cell? ⟨w.heap.size, 3, none⟩ = some (.string ⟨#[]⟩) := by rw [cell_heap b6]; rfl
          have f0 : (w2.alloc (.cells #[.int .i64 a, .int .i64 b, .string x, .string y] 116)).frozen? ⟨w.heap.size, 0, none⟩ = false := frozen_heap b6
          have f1 : (w2.alloc (.cells #[.int .i64 a, .int .i64 b, .string x, .string y] 116)).frozen? ⟨w.heap.size, 1, none⟩ = false := frozen_heap b6
          have f2 : (w2.alloc (.cells #[.int .i64 a, .int .i64 b, .string x, .string y] 116)).frozen? ⟨w.heap.size, 2, none⟩ = false := frozen_heap b6
          have f3 : (w2.alloc (.cells #[.int .i64 a, .int .i64 b, .string x, .string y] 116)).frozen? ⟨w.heap.size, 3, none⟩ = false := frozen_heap b6
          clear b6
          have hne : w2.heap.size ≠ w.heap.size := by omega
          have hp : (w2.alloc (.cells #[.int .i64 a, .int .i64 b, .string x, .string y] 116)).heap[w2.heap.size]? = some (.cells #[.int .i64 a, .int .i64 b, .string x, .string y] 116 (0, 0)) := heap_alloc_new w2 _
          clear b2 C1 C2i C3i
          go_wp2_with fail
          generalize w2.alloc (.cells #[.int .i64 a, .int .i64 b, .string x, .string y] 116) = V3 at *
          have p0 : V3.cell? ⟨w2.heap.size, 0, none⟩ = some (.int .i64 a) := by rw [cell_heap hp]; rfl
          have p1 : V3.cell? ⟨w2.heap.size, 1, none⟩ = some (.int .i64 b) := by rw [cell_heap hp]; rfl
          have p2 : V3.cell? ⟨w2.heap.size, 2, none⟩ = some (.string x) := by rw [cell_heap hp]; rfl
          have p3 : V3.cell? ⟨w2.heap.size, 3, none⟩ = some (.string y) := by rw [cell_heap hp]; rfl
          clear hp
          go_wp2
          refine bodyPost_ret (v := .tuple #[.agg #[.int .i64 a, .int .i64 b, .string x, .string y], .int .i64 t2, .int .u8 0]) (by simp [results, Tryz.results133, go_sem, z0, z1, z2, z3]) rfl (RetP.mk HV.out ?_)
          (repeat (refine Below.setCell ?_ (by first | (simp; done) | (simp; omega) | omega) _)); exact hB.out
        · have hne : (c2 != 0) = true := by rw [bne_iff_ne]; exact hc2
          rw [if_pos hc2] at hv hV
          subst hV
          have HV := Lib.hid hv
          clear hv hc2
          unfold RetP at C3i
          simp only [PR.zp] at C3i
          go_enter Tryz.func133, Tryz.ntmps133
          go_wp2_with fail
          refine (C1.out _).mono ?_
          rintro e w1 ⟨rfl, rfl⟩
          go_wp2_with fail
          refine C2i.out.mono ?_
          rintro e w1 ⟨rfl, b1⟩
          have B1 : Hid (Below w.heap.size w w1) := H0.out.trans (b1.mono (by omega))
          have h61 : Hid (w1.heap[w.heap.size]? = some (.cells #[.int .i64 0, .int .i64 0, .string ⟨#[]⟩, .string ⟨#[]⟩] 116 (0, 0))) := (b1.block _ (by omega)).trans h6.out
          have hs1 : w.heap.size + 1 ≤ w1.heap.size := by have := b1.size; omega
          clear b1
          go_wp2_with fail
          refine (C3i.out _ B1.out).mono ?_
          rintro e w2 ⟨rfl, b2⟩
          have hs2 : w.heap.size + 1 ≤ w2.heap.size := by have := b2.size; omega
          have hB : Hid (Below w.heap.size w (w2.alloc (.cells #[.int .i64 0, .int .i64 0, .string ⟨#[]⟩, .string ⟨#[]⟩] 116))) := (B1.out.trans (b2.mono B1.out.size)).alloc (by omega) _
          have b6 : (w2.alloc (.cells #[.int .i64 0, .int .i64 0, .string ⟨#[]⟩, .string ⟨#[]⟩] 116)).heap[w.heap.size]? = some (.cells #[.int .i64 0, .int .i64 0, .string ⟨#[]⟩, .string ⟨#[]⟩] 116 (0, 0)) := (Below.heap_alloc _ _ _ (by omega)).trans ((b2.block _ (by omega)).trans h61.out)
          have z0 : (w2.alloc (.cells #[.int .i64 0, .int .i64 0, .string ⟨#[]⟩, .string ⟨#[]⟩] 116)).cell? ⟨w.heap.size, 0, none⟩ = some (.int .i64 0) := by rw [cell_heap b6]; rfl
          have z1 : (w2.alloc (.cells #[.int .i64 0, .int .i64 0, .string ⟨#[]⟩, .string ⟨#[]⟩] 116)).cell? ⟨w.heap.size, 1, none⟩ = some (.int .i64 0) := by rw [cell_heap b6]; rfl
          have z2 : (w2.alloc (.cells #[.int .i64 0, .int .i64 0, .string ⟨#[]⟩, .string ⟨#[]⟩] 116)).cell? ⟨w.heap.size, 2, none⟩ = some (.string ⟨#[]⟩) := by rw [cell_heap b6]; rfl
          have z3 : (w2.alloc (.cells #[.int .i64 0, .int .i64 0, .string ⟨#[]⟩, .string ⟨#[]⟩] 116)).cell? ⟨w.heap.size, 3, none⟩ = some (.string ⟨#[]⟩) := by rw [cell_heap b6]; rfl
          have f0 : (w2.alloc (.cells #[.int .i64 0, .int .i64 0, .string ⟨#[]⟩, .string ⟨#[]⟩] 116)).frozen? ⟨w.heap.size, 0, none⟩ = false := frozen_heap b6
          have f1 : (w2.alloc (.cells #[.int .i64 0, .int .i64 0, .string ⟨#[]⟩, .string ⟨#[]⟩] 116)).frozen? ⟨w.heap.size, 1, none⟩ = false := frozen_heap b6
          have f2 : (w2.alloc (.cells #[.int .i64 0, .int .i64 0, .string ⟨#[]⟩, .string ⟨#[]⟩] 116)).frozen? ⟨w.heap.size, 2, none⟩ = false := frozen_heap b6
          have f3 : (w2.alloc (.cells #[.int .i64 0, .int .i64 0, .string ⟨#[]⟩, .string ⟨#[]⟩] 116)).frozen? ⟨w.heap.size, 3, none⟩ = false := frozen_heap b6
          clear b6
          clear b2 C1 C2i C3i
          go_wp2
          refine bodyPost_ret (v := .tuple #[.agg #[.int .i64 0, .int .i64 0, .string ⟨#[]⟩, .string ⟨#[]⟩], .int .i64 0, .int .u8 129]) (by simp [results, Tryz.results133, go_sem, z0, z1, z2, z3]) rfl (RetP.mk HV.out ?_)
          (repeat (refine Below.setCell ?_ (by first | (simp; done) | (simp; omega) | omega) _)); exact hB.out
      · have hne : (ic != 0) = true := by rw [bne_iff_ne]; exact hic
        rw [if_pos hic] at hv
        have HV := Lib.hid hv
        clear hv hic hV
        go_enter Tryz.func133, Tryz.ntmps133
        go_wp2_with fail
        refine (C1.out _).mono ?_
        rintro e w1 ⟨rfl, rfl⟩
        go_wp2_with fail
        refine C2i.out.mono ?_
        rintro e w1 ⟨rfl, b1⟩
        have hB : Hid (Below w.heap.size w w1) := H0.out.trans (b1.mono (by omega))
        have b6 : w1.heap[w.heap.size]? = some (.cells #[.int .i64 0, .int .i64 0, .string ⟨#[]⟩, .string ⟨#[]⟩] 116 (0, 0)) := (b1.block _ (by omega)).trans h6.out
        have z0 : w1.cell? ⟨w.heap.size, 0, none⟩ = some (.int .i64 0) := by rw [cell_heap b6]; rfl
        have z1 : w1.cell? ⟨w.heap.size, 1, none⟩ = some (.int .i64 0) := by rw [cell_heap b6]; rfl
        have z2 : w1.cell? ⟨w.heap.size, 2, none⟩ = some (.string ⟨#[]⟩) := by rw [cell_heap b6]; rfl
        have z3 : w1.cell? ⟨w.heap.size, 3, none⟩ = some (.string ⟨#[]⟩) := by rw [cell_heap b6]; rfl
        have f0 : w1.frozen? ⟨w.heap.size, 0, none⟩ = false := frozen_heap b6
        have f1 : w1.frozen? ⟨w.heap.size, 1, none⟩ = false := frozen_heap b6
        have f2 : w1.frozen? ⟨w.heap.size, 2, none⟩ = false := frozen_heap b6
        have f3 : w1.frozen? ⟨w.heap.size, 3, none⟩ = false := frozen_heap b6
        clear b6
        clear b1 C1 C2i C3i
        go_wp2
        refine bodyPost_ret (v := .tuple #[.agg #[.int .i64 0, .int .i64 0, .string ⟨#[]⟩, .string ⟨#[]⟩], .int .i64 0, .int .u8 ic]) (by simp [results, Tryz.results133, go_sem, z0, z1, z2, z3]) rfl (RetP.mk HV.out ?_)
        (repeat (refine Below.setCell ?_ (by first | (simp; done) | (simp; omega) | omega) _)); exact hB.out
    · have hne : (c != 0) = true := by rw [bne_iff_ne]; exact hc
      rw [if_pos hc] at hv
      have HV := Lib.hid hv
      clear hv hc hV1
      go_enter Tryz.func133, Tryz.ntmps133
      go_wp2_with fail
      refine (C1.out _).mono ?_
      rintro e w1 ⟨rfl, rfl⟩
      have hB := H0
      have b6 : (w.alloc (.cells #[.int .i64 0, .int .i64 0, .string ⟨#[]⟩, .string ⟨#[]⟩] 116)).heap[w.heap.size]? = some (.cells #[.int .i64 0, .int .i64 0, .string ⟨#[]⟩, .string ⟨#[]⟩] 116 (0, 0)) := h6.out
      have z0 : (w.alloc (.cells #[.int .i64 0, .int .i64 0, .string ⟨#[]⟩, .string ⟨#[]⟩] 116)).cell? ⟨w.heap.size, 0, none⟩ = some (.int .i64 0) := by rw [cell_heap b6]; rfl
      have z1 : (w.alloc (.cells #[.int .i64 0, .int .i64 0, .string ⟨#[]⟩, .string ⟨#[]⟩] 116)).cell? ⟨w.heap.size, 1, none⟩ = some (.int .i64 0) := by rw [cell_heap b6]; rfl
      have z2 : (w.alloc (.cells #[.int .i64 0, .int .i64 0, .string ⟨#[]⟩, .string ⟨#[]⟩] 116)).cell? ⟨w.heap.size, 2, none⟩ = some (.string ⟨#[]⟩) := by rw [cell_heap b6]; rfl
      have z3 : (w.alloc (.cells #[.int .i64 0, .int .i64 0, .string ⟨#[]⟩, .string ⟨#[]⟩] 116)).cell? ⟨w.heap.size, 3, none⟩ = some (.string ⟨#[]⟩) := by rw [cell_heap b6]; rfl
      have f0 : (w.alloc (.cells #[.int .i64 0, .int .i64 0, .string ⟨#[]⟩, .string ⟨#[]⟩] 116)).frozen? ⟨w.heap.size, 0, none⟩ = false := frozen_heap b6
      have f1 : (w.alloc (.cells #[.int .i64 0, .int .i64 0, .string ⟨#[]⟩, .string ⟨#[]⟩] 116)).frozen? ⟨w.heap.size, 1, none⟩ = false := frozen_heap b6
      have f2 : (w.alloc (.cells #[.int .i64 0, .int .i64 0, .string ⟨#[]⟩, .string ⟨#[]⟩] 116)).frozen? ⟨w.heap.size, 2, none⟩ = false := frozen_heap b6
      have f3 : (w.alloc (.cells #[.int .i64 0, .int .i64 0, .string ⟨#[]⟩, .string ⟨#[]⟩] 116)).frozen? ⟨w.heap.size, 3, none⟩ = false := frozen_heap b6
      clear b6
      clear C1
      go_wp2
      refine bodyPost_ret (v := .tuple #[.agg #[.int .i64 0, .int .i64 0, .string ⟨#[]⟩, .string ⟨#[]⟩], .int .i64 0, .int .u8 129]) (by simp [results, Tryz.results133, go_sem, z0, z1, z2, z3]) rfl (RetP.mk HV.out ?_)
      (repeat (refine Below.setCell ?_ (by first | (simp; done) | (simp; omega) | omega) _)); exact hB.out
end Go.Proofs.YtemfcaaoobjgkaaGreatDoor
namespace Go.Proofs.YtemfcaaoobjgkaaGreatDoor
open Go.RowKit

namespace PR
theorem getG_nn (s : ByteArray) (k : Nat) : ∀ (u i : Nat) (n : Int), 0 ≤ n → 0 ≤ (VP.getG s k u i n).1
  | 0, i, n, _ => by rw [VP.getG_0]; exact Int.le_refl 0
  | u + 1, i, n, h => by
    unfold VP.getG
    have hp : ∀ a : Int, 0 ≤ a → 0 ≤ a * 128 ^ i := fun a ha => Int.mul_nonneg ha (Int.pow_nonneg (by decide))
    by_cases hs : k + i < s.size
    · rw [dif_pos hs]
      by_cases hlt : ((s[k + i]'hs).toNat : Int) < 128
      · rw [if_pos hlt]
        split
        · have := hp (s[k + i]'hs).toNat (by omega); simp only; omega
        · exact Int.le_refl 0
      · rw [if_neg hlt]
        have := hp (((s[k + i]'hs).toNat : Int) - 128) (by omega)
        exact getG_nn s k u (i + 1) _ (by omega)
    · rw [dif_neg hs]; exact Int.le_refl 0
theorem get_nn (s : ByteArray) (at_ : Int) : 0 ≤ (VP.get s at_).1 := by
  unfold VP.get
  split
  · exact Int.le_refl 0
  · exact getG_nn s _ 4 0 0 (Int.le_refl 0)
theorem get_at (s : ByteArray) (at_ : Int) (h : (VP.get s at_).2.2 = 0) : ∃ m f : Nat, VP.get s at_ = ((m : Int), (f : Int), 0) ∧ f ≤ s.size := by
  by_cases ho : at_ < 0 ∨ (s.size : Int) < at_
  · rw [VP.get_out s at_ ho] at h; exact absurd h (by decide)
  · obtain ⟨k, rfl⟩ := Int.eq_ofNat_of_zero_le (show 0 ≤ at_ by omega)
    obtain ⟨q, h1, _, h3⟩ := get_ok s k h
    have h0 := get_nn s k
    exact ⟨(VP.get s k).1.toNat, q, Prod.ext (by simp only; omega) (Prod.ext h1 h), h3⟩
theorem gl_end (U : ByteArray) (u : Nat) (p : Int) (out : List Pr) (h : ¬ p < (U.size : Int)) : gl U (u + 1) p out = (out, 0) := by rw [gl, if_pos h]
theorem gl_bad (U : ByteArray) (u : Nat) (p : Int) (out : List Pr) (h : p < (U.size : Int)) {P : Pr} {t c : Int} (hg : g1 U p out = (P, t, c)) (hc : c ≠ 0) : gl U (u + 1) p out = ([], c) := by rw [gl, if_neg (by simpa using h), hg, if_pos hc]
theorem gl_go (U : ByteArray) (u : Nat) (p : Int) (out : List Pr) (h : p < (U.size : Int)) {P : Pr} {t : Int} (hg : g1 U p out = (P, t, 0)) : gl U (u + 1) p out = gl U u t (out ++ [P]) := by rw [gl, if_neg (by simpa using h), hg, if_neg (by simp)]
theorem getL_bad (s : ByteArray) (at_ : Int) (h : (VP.get s at_).2.2 ≠ 0) : getL s at_ = ([], 0, (VP.get s at_).2.2) := by unfold getL; rw [if_pos h]
theorem getL_few (s : ByteArray) (at_ : Int) (m f : Nat) (h : VP.get s at_ = ((m : Int), (f : Int), 0)) (hl : (s.size : Int) - f < m) : getL s at_ = ([], 0, 242) := by unfold getL; rw [h, if_neg (by simp), if_pos hl]
theorem getL_in (s : ByteArray) (at_ : Int) (m f : Nat) (h : VP.get s at_ = ((m : Int), (f : Int), 0)) (hl : ¬ (s.size : Int) - f < m) {x : List Pr × Int} (hx : gl (s.extract f (f + m)) 66 0 [] = x) : getL s at_ = if x.2 ≠ 0 then ([], 0, x.2) else (x.1, (f : Int) + m, 0) := by
  unfold getL
  rw [h, if_neg (by simp), if_neg hl]
  have e1 : ((f : Int)).toNat = f := by omega
  have e2 : ((f : Int) + (m : Int)).toNat = f + m := by omega
  simp only [e1, e2, hx]
end PR

/-- What Get answers. -/
def GetP (k : IntKind) (t : TypeId) (w : World) (x : List Pr × Int × Int) (e : Ending) (w' : World) : Prop :=
  ∃ v, e = .returned (.tuple #[v, .int .i64 x.2.1, .int k x.2.2]) ∧ w'.ownsRow w.heap.size t 4 v x.1.length (flatP x.1) ∧ Below w.heap.size w w'
theorem GetP.mk {k : IntKind} {t : TypeId} {w w' : World} {x : List Pr × Int × Int} {l : List Pr} {v : Value} {a c : Int} (h : x = (l, a, c)) (ho : w'.ownsRow w.heap.size t 4 v l.length (flatP l)) (hb : Below w.heap.size w w') : GetP k t w x (.returned (.tuple #[v, .int .i64 a, .int k c])) w' := by
  subst h; exact ⟨v, rfl, ho, hb⟩
def slLen : Value → Nat | .slice _ n _ => n | _ => 0
theorem prInfo : (Tryz.prog.info? 116).map (fun i => (i.zero, i.size, i.bytes)) = some (some (.agg #[.int .i64 0, .int .i64 0, .string ⟨#[]⟩, .string ⟨#[]⟩]), 4, 48) := by kernel_rfl
theorem str_upto (s : ByteArray) (f m : Nat) (h : f + m ≤ s.size) (w : World) :
    (Instr.slice 9 (.string s) none (some (.int .i64 ((f : Int) + (m : Int)))) none).run Tryz.prog w = .ok (.string (s.extract 0 (f + m))) w := by
  rw [run_slice_string_to_if w 9 s .i64 _ Tryz.underlying9, if_pos (by omega)]
  rw [show ((f : Int) + (m : Int)).toNat = f + m by omega]

/-- The relation of Get's loop. -/
def GetRel (w : World) (U : ByteArray) (f : Nat) (out : List Pr) (p : Nat) (lv : Value) (t : TypeId) (wr : World) : Prop :=
  PR.gl U (66 - out.length) p out = PR.gl U 66 0 [] ∧ wr.ownsRow w.heap.size t 4 lv out.length (flatP out) ∧ Below w.heap.size w wr ∧ f = f

set_option maxRecDepth 100000 in
set_option maxHeartbeats 4000000 in
theorem getall_any (s : ByteArray) (at_ : Int) (hs : s.size ≤ 140737488351232) (w : World) (hT : Tabs w) :
    Calls Tryz.prog 115 #[.string s, .int .i64 at_] w (GetP .u8 116 w (PR.getL s at_)) := by
  have hsm : s.size ≤ maxLen := by unfold maxLen; omega
  have C1 := Lib.hid (fun W => get_any s at_ hsm W)
  by_cases hc : (VP.get s at_).2.2 = 0
  · obtain ⟨m, f, hg, hf⟩ := PR.get_at s at_ hc
    clear hc
    by_cases hl : (s.size : Int) - f < m
    · have HV := Lib.hid (PR.getL_few s at_ m f hg hl)
      rw [hg] at C1
      simp only at C1
      clear hg hT
      go_enter Tryz.func115, Tryz.ntmps115
      go_wp2_with fail
      refine (C1.out _).mono ?_
      rintro e w1 ⟨rfl, rfl⟩
      go_wp2
      go_ret3
      exact GetP.mk HV.out (own_nil _ _ _ _) (Below.refl _ _)
    · have hfm : f + m ≤ s.size := by omega
      have HL : Hid (∀ x, PR.gl (s.extract f (f + m)) 66 0 [] = x → PR.getL s at_ = if x.2 ≠ 0 then ([], 0, x.2) else (x.1, (f : Int) + m, 0)) := fun x hx => PR.getL_in s at_ m f hg hl hx
      have hPart : Hid (∀ (p : Nat) out, p ≤ m → PR.g1 (s.extract 0 (f + m)) ((f : Int) + (p : Int)) out = PR.shP f (PR.g1 (s.extract f (f + m)) (p : Int) out)) := fun p out hp => by
        have := PR.g1_part (f := f) (e := f + m) (by omega) hfm p (by omega) out
        rwa [show ((f + p : Nat) : Int) = (f : Int) + (p : Int) by omega] at this
      have hok : Hid (∀ (p : Nat) out, (PR.g1 (s.extract f (f + m)) (p : Int) out).2.2 = 0 → ∃ q : Nat, (PR.g1 (s.extract f (f + m)) (p : Int) out).2.1 = q ∧ p < q ∧ q ≤ m ∧ out.length < 64) := fun p out h => by
        have := PR.g1_ok _ p out h
        rwa [show (s.extract f (f + m)).size = m by rw [ByteArray.size_extract]; omega] at this
      have hUs : Hid ((s.extract f (f + m)).size = m) := Lib.hid (by rw [ByteArray.size_extract]; omega)
      have hTs : (s.extract 0 (f + m)).size ≤ 140737488351232 := by rw [ByteArray.size_extract]; omega
      have C2 : Hid (∀ (A : Option Addr) (cap : Nat) (l : List Pr) (p : Nat) W', Below w.heap.size w W' → l.length ≤ 64 → Props W' A l → Calls Tryz.prog 133 #[.slice A l.length cap, .string (s.extract 0 (f + m)), .int .i64 ((f : Int) + (p : Int))] W' (RetP W' (PR.g1 (s.extract 0 (f + m)) ((f : Int) + (p : Int)) l))) := fun A cap l p W' hW hl' hP => gone_any A cap l _ _ hTs W' (by omega) hP (hT.below hW)
      have hsl := str_upto s f m hfm
      rw [hg] at C1
      simp only at C1
      obtain ⟨i0, hi0, hz0, hz1, hz2⟩ := info_parts prInfo
      have Hi := Lib.hid hi0; have Hz0 := Lib.hid hz0; have Hz1 := Lib.hid hz1; have Hz2 := Lib.hid hz2
      clear hg hl hT hi0 hz0 hz1 hz2 hTs
      generalize s.extract f (f + m) = U at *
      generalize s.extract 0 (f + m) = T at *
      generalize PR.getL s at_ = GL at *
      go_enter Tryz.func115, Tryz.ntmps115
      go_wp2_with fail
      refine (C1.out _).mono ?_
      rintro e w1 ⟨rfl, rfl⟩
      clear C1
      go_wp2
      go_loopw [1, 10] (fun a lv wr => ∃ (p : Nat) (out : List Pr), a = .int .i64 ((f : Int) + (p : Int)) ∧ p ≤ m ∧ out.length ≤ 64 ∧ (∃ A cap, lv = .slice A out.length cap) ∧ Hid (GetRel w U f out p lv 116 wr)) (fun _ lv _ => 66 - slLen lv)
      case atStart => exact ⟨0, [], by simp, by omega, by simp, ⟨none, 0, rfl⟩, Lib.hid ⟨rfl, own_nil _ _ _ _, Below.refl _ _, rfl⟩⟩
      case round =>
        obtain ⟨p, out, rfl, hp, hol, ⟨A, cap, rfl⟩, hrl⟩ := hrel
        obtain ⟨hgl, hown, hb, _⟩ := hrl.out
        have Hgl := Lib.hid hgl
        have Hown := Lib.hid hown
        have Hb := Lib.hid hb
        have hsr := hb.size
        by_cases hlt : p < m
        · have hal := (Below.refl wr.heap.size wr).alloc (Nat.le_refl _) (.cells #[.int .i64 0, .int .i64 0, .string ⟨#[]⟩, .string ⟨#[]⟩] 116)
          have C := C2.out A cap out p (wr.alloc (.cells #[.int .i64 0, .int .i64 0, .string ⟨#[]⟩, .string ⟨#[]⟩] 116)) (hb.trans (hal.mono hsr)) hol ((own_props hown).below hal)
          rw [hPart.out p out (by omega)] at C
          have h11 : (wr.alloc (.cells #[.int .i64 0, .int .i64 0, .string ⟨#[]⟩, .string ⟨#[]⟩] 116)).heap[wr.heap.size]? = some (.cells #[.int .i64 0, .int .i64 0, .string ⟨#[]⟩, .string ⟨#[]⟩] 116 (0, 0)) := heap_alloc_new wr _
          have hkq := hok.out p out
          have hpU : (p : Int) < (U.size : Int) := by rw [hUs.out]; omega
          obtain ⟨u, hu⟩ : ∃ u, 66 - out.length = u + 1 := ⟨65 - out.length, by omega⟩
          obtain ⟨⟨⟨a, b, x, y⟩, t, c⟩, hG⟩ : ∃ D, PR.g1 U (p : Int) out = D := ⟨_, rfl⟩
          rw [hG] at C hkq
          unfold RetP PR.shP at C
          simp only at C hkq
          have j1 : (f : Int) + (p : Int) < (f : Int) + (m : Int) := by omega
          have hv1 : wr.heap.size + 1 ≤ (wr.alloc (.cells #[.int .i64 0, .int .i64 0, .string ⟨#[]⟩, .string ⟨#[]⟩] 116)).heap.size := by simp
          have H11 := Lib.hid h11
          have Hal := Lib.hid hal
          by_cases hc0 : c = 0
          · subst hc0
            obtain ⟨q, rfl, hq1, hq2, hq3⟩ := hkq rfl
            simp only [if_true] at C
            have HC := Lib.hid C
            have HG : Hid (PR.gl U (66 - (out ++ [(⟨a, b, x, y⟩ : Pr)]).length) q (out ++ [(⟨a, b, x, y⟩ : Pr)]) = PR.gl U 66 0 []) := Lib.hid (by
              have h1 := PR.gl_go U u p out hpU hG
              rw [← hu, hgl] at h1
              rw [h1, List.length_append, List.length_singleton, Nat.sub_add_eq, hu, Nat.add_sub_cancel])
            clear hgl hown hb hrl C h11 hal hkq hG hu hpU
            go_wp2_with fail
            refine HC.out.mono ?_
            rintro e w2 ⟨rfl, b2⟩
            have b11 : w2.heap[wr.heap.size]? = some (.cells #[.int .i64 0, .int .i64 0, .string ⟨#[]⟩, .string ⟨#[]⟩] 116 (0, 0)) := (b2.block _ (by omega)).trans H11.out
            have z0 : w2.cell? ⟨wr.heap.size, 0, none⟩ = some (.int .i64 0) := by rw [cell_heap b11]; rfl
            have z1 : w2.cell? ⟨wr.heap.size, 1, none⟩ = some (.int .i64 0) := by rw [cell_heap b11]; rfl
            have z2 : w2.cell? ⟨wr.heap.size, 2, none⟩ = some (.string ⟨#[]⟩) := by rw [cell_heap b11]; rfl
            have z3 : w2.cell? ⟨wr.heap.size, 3, none⟩ = some (.string ⟨#[]⟩) := by rw [cell_heap b11]; rfl
            have f0 : w2.frozen? ⟨wr.heap.size, 0, none⟩ = false := frozen_heap b11
            have f1 : w2.frozen? ⟨wr.heap.size, 1, none⟩ = false := frozen_heap b11
            have f2 : w2.frozen? ⟨wr.heap.size, 2, none⟩ = false := frozen_heap b11
            have f3 : w2.frozen? ⟨wr.heap.size, 3, none⟩ = false := frozen_heap b11
            have hs2 : wr.heap.size + 1 ≤ w2.heap.size := by have := b2.size; omega
            have hB2 : Below wr.heap.size wr w2 := Hal.out.trans (b2.mono (by omega))
            have hB3 := (((hB2.setCell (p := ⟨wr.heap.size, 0, none⟩) (Nat.le_refl _) (.int .i64 a)).setCell (p := ⟨wr.heap.size, 1, none⟩) (Nat.le_refl _) (.int .i64 b)).setCell (p := ⟨wr.heap.size, 2, none⟩) (Nat.le_refl _) (.string x)).setCell (p := ⟨wr.heap.size, 3, none⟩) (Nat.le_refl _) (.string y)
            obtain ⟨v5, w5, hr5, hown5, _, hb5⟩ := app1 Tryz.underlying40 Hi.out Hz0.out Hz1.out Hz2.out rfl (by omega) (by omega) w.heap.size (.slice A out.length cap) out.length _ _ (own_below Hown.out hB3) (by simp [World.setCell]; omega) #[.int .i64 a, .int .i64 b, .string x, .string y] rfl (by simp [Value.oneCell']) (by omega)
            rw [show ((((w2.setCell ⟨wr.heap.size, 0, none⟩ (.int .i64 a)).setCell ⟨wr.heap.size, 1, none⟩ (.int .i64 b)).setCell ⟨wr.heap.size, 2, none⟩ (.string x)).setCell ⟨wr.heap.size, 3, none⟩ (.string y)).heap.size = w2.heap.size by simp [World.setCell]] at hr5
            have HN : Hid (GetRel w U f (out ++ [(⟨a, b, x, y⟩ : Pr)]) q v5 116 w5) := ⟨HG.out, by rw [flatP_snoc]; simpa using hown5, (Hb.out.trans (hB3.mono hsr)).trans hb5, rfl⟩
            obtain ⟨A5, c5, hv5⟩ := own_form hown5
            subst hv5
            clear b2 b11 hB2 hB3 hown5 hb5 HC
            go_wp2_with (at_builtin; refine wpList_run (by rfl) (.tmp 47) (.tmp 49) _ _ (by rfl) (by rfl) (by rfl) hr5 ?_; clear hr5)
            go_roundw
            case rel => exact ⟨q, out ++ [(⟨a, b, x, y⟩ : Pr)], rfl, by omega, by simp; omega, ⟨A5, c5, by simp⟩, HN⟩
            case measure => simp [slLen]; omega
          · have hne : (c != 0) = true := by rw [bne_iff_ne]; exact hc0
            simp only [if_neg hc0] at C
            have HC := Lib.hid C
            have HV : Hid (GL = ([], 0, c)) := Lib.hid (by
              have h1 := PR.gl_bad U u p out hpU hG hc0
              rw [← hu, hgl] at h1
              have h2 := HL.out _ h1
              rw [if_pos hc0] at h2
              exact h2)
            clear hgl hown hb hrl C h11 hal hkq hG hu hpU hc0
            go_wp2_with fail
            refine HC.out.mono ?_
            rintro e w2 ⟨rfl, b2⟩
            have b11 : w2.heap[wr.heap.size]? = some (.cells #[.int .i64 0, .int .i64 0, .string ⟨#[]⟩, .string ⟨#[]⟩] 116 (0, 0)) := (b2.block _ (by omega)).trans H11.out
            have z0 : w2.cell? ⟨wr.heap.size, 0, none⟩ = some (.int .i64 0) := by rw [cell_heap b11]; rfl
            have z1 : w2.cell? ⟨wr.heap.size, 1, none⟩ = some (.int .i64 0) := by rw [cell_heap b11]; rfl
            have z2 : w2.cell? ⟨wr.heap.size, 2, none⟩ = some (.string ⟨#[]⟩) := by rw [cell_heap b11]; rfl
            have z3 : w2.cell? ⟨wr.heap.size, 3, none⟩ = some (.string ⟨#[]⟩) := by rw [cell_heap b11]; rfl
            have f0 : w2.frozen? ⟨wr.heap.size, 0, none⟩ = false := frozen_heap b11
            have f1 : w2.frozen? ⟨wr.heap.size, 1, none⟩ = false := frozen_heap b11
            have f2 : w2.frozen? ⟨wr.heap.size, 2, none⟩ = false := frozen_heap b11
            have f3 : w2.frozen? ⟨wr.heap.size, 3, none⟩ = false := frozen_heap b11
            have hB2 : Hid (Below wr.heap.size wr w2) := Hal.out.trans (b2.mono (by omega))
            clear b2 b11 HC
            go_wp2
            go_ret3
            refine GetP.mk HV.out (own_nil _ _ _ _) (Hb.out.trans (Below.mono (B := wr.heap.size) ?_ hsr))
            (repeat (refine Below.setCell ?_ (by first | (simp; done) | (simp; omega) | omega) _)); exact hB2.out
        · have hpm : p = m := by omega
          subst hpm
          obtain ⟨u, hu⟩ : ∃ u, 66 - out.length = u + 1 := ⟨65 - out.length, by omega⟩
          have HV : Hid (GL = (out, (f : Int) + (p : Int), 0)) := Lib.hid (by
            have h1 := PR.gl_end U u p out (by rw [hUs.out]; omega)
            rw [← hu, hgl] at h1
            have h2 := HL.out _ h1
            simpa using h2)
          clear hgl hown hb hrl hu hlt
          go_wp2
          go_ret3
          exact GetP.mk HV.out Hown.out Hb.out
  · have HV := Lib.hid (PR.getL_bad s at_ hc)
    generalize VP.get s at_ = R at *
    obtain ⟨a, t, c⟩ := R
    simp only at C1 hc HV
    have hne : (c != 0) = true := by rw [bne_iff_ne]; exact hc
    clear hc hT
    go_enter Tryz.func115, Tryz.ntmps115
    go_wp2_with fail
    refine (C1.out _).mono ?_
    rintro e w1 ⟨rfl, rfl⟩
    go_wp2
    go_ret3
    exact GetP.mk HV.out (own_nil _ _ _ _) (Below.refl _ _)
end Go.Proofs.YtemfcaaoobjgkaaGreatDoor
namespace Go.Proofs.YtemfcaaoobjgkaaGreatDoor
open Go.RowKit

namespace PR
theorem vgetG_code (s : ByteArray) (k : Nat) : ∀ (f i : Nat) (n : Int), 0 ≤ (VP.getG s k f i n).2.2 ∧ (VP.getG s k f i n).2.2 ≤ 242
  | 0, _, _ => by rw [VP.getG_0]; exact ⟨by decide, by decide⟩
  | f + 1, i, n => by
    unfold VP.getG
    split
    · split
      · split
        · exact ⟨Int.le_refl 0, (by decide : (0 : Int) ≤ 242)⟩
        · exact ⟨by decide, by decide⟩
      · exact vgetG_code s k f (i + 1) _
    · exact ⟨by decide, by decide⟩
theorem vget_code (s : ByteArray) (at_ : Int) : 0 ≤ (VP.get s at_).2.2 ∧ (VP.get s at_).2.2 ≤ 242 := by
  unfold VP.get
  split
  · exact ⟨by decide, by decide⟩
  · exact vgetG_code _ _ _ _ _
theorem g1_code (T : ByteArray) (p : Int) (out : List Pr) : 0 ≤ (g1 T p out).2.2 ∧ (g1 T p out).2.2 ≤ 149 := by
  unfold g1
  have := idC_le out (VP.get T p).1
  split
  · simp
  · split
    · simp
    · split
      · simpa using this
      · split
        · simp
        · rename_i h
          have h0 : (rdv T (VP.get T p).2.1 (VP.get T p).1).2.2 = 0 := by simpa using h
          omega
theorem gl_facts (U : ByteArray) : ∀ (u : Nat) (p : Int) (out : List Pr), 0 ≤ (gl U u p out).2 ∧ (gl U u p out).2 ≤ 149 ∧ (gl U u p out).1.length ≤ out.length + u
  | 0, p, out => by unfold gl; simp
  | u + 1, p, out => by
    unfold gl
    split
    · simp
    · split
      · have := g1_code U p out
        simp; omega
      · have := gl_facts U u (g1 U p out).2.1 (out ++ [(g1 U p out).1])
        rw [List.length_append, List.length_singleton] at this
        omega
theorem getL_facts (s : ByteArray) (at_ : Int) : 0 ≤ (getL s at_).2.2 ∧ (getL s at_).2.2 ≤ 255 ∧ (getL s at_).1.length ≤ 66 := by
  unfold getL
  have hc := vget_code s at_
  have hg := gl_facts (s.extract (VP.get s at_).2.1.toNat ((VP.get s at_).2.1 + (VP.get s at_).1).toNat) 66 0 []
  split
  · simp; omega
  · split
    · simp
    · split
      · simp; omega
      · simp at hg ⊢; omega
theorem get_one : getL ⟨#[3, 33, 0, 20]⟩ 0 = ([⟨33, 20, ⟨#[]⟩, ⟨#[]⟩⟩], 4, 0) := by kernel_rfl
end PR
end Go.Proofs.YtemfcaaoobjgkaaGreatDoor
namespace Go.Proofs.YtemfcaaoobjgkaaGreatDoor
open Go.RowKit
attribute [local go_sem ↓] Go.wp_at_zero Go.wp_at_succ

namespace PK
/-- A code behind another one, if there was none. -/
def thn (c d : Int) : Int := if c ≠ 0 then c else d
def rdId (s : ByteArray) (a : Int) : Int × Int × Int := ((VP.rd s a 2).1, (VP.rd s a 2).2.1, thn (cm (VP.rd s a 2).2.2) (if (VP.rd s a 2).1 = 0 then 130 else 0))
def rdSes (s : ByteArray) (a : Int) : Bool × Int × Int := (((VP.rd s a 1).1 == 1), (VP.rd s a 1).2.1, thn (cm (VP.rd s a 1).2.2) (if 1 < (VP.rd s a 1).1 then 129 else 0))
def rdPr (s : ByteArray) (a : Int) (k : Int) : List Pr × Int × Int := ((PR.getL s a).1, (PR.getL s a).2.1, thn (cm (PR.getL s a).2.2) (if alAll k (PR.getL s a).1 = true then 0 else 130))
theorem thn_bad {c : Int} (h : c ≠ 0) (d : Int) : thn c d = c := by unfold thn; rw [if_pos h]
theorem thn_ok {c : Int} (h : c = 0) (d : Int) : thn c d = d := by unfold thn; rw [if_neg (by simp [h])]
theorem rd_nn (s : ByteArray) (a : Int) (wd : Int) : 0 ≤ (VP.rd s a wd).1 ∧ (VP.rd s a wd).1 ≤ 4294967295 := by
  unfold VP.rd
  split
  · simp
  · split
    · split
      · have := (s[a.toNat]'(by assumption)).toNat_lt; simp only; omega
      · simp
    · split
      · split
        · rename_i h
          have := (s[a.toNat]'(by omega)).toNat_lt; have := (s[a.toNat + 1]'h).toNat_lt; simp only; omega
        · simp
      · split
        · split
          · rename_i h
            have := (s[a.toNat]'(by omega)).toNat_lt; have := (s[a.toNat + 1]'(by omega)).toNat_lt; have := (s[a.toNat + 2]'(by omega)).toNat_lt; have := (s[a.toNat + 3]'h).toNat_lt; simp only; omega
          · simp
        · simp
theorem rd_1le (s : ByteArray) (a : Int) : (VP.rd s a 1).1 ≤ 255 := by
  unfold VP.rd
  split
  · simp
  · rw [if_pos rfl]
    split
    · have := (s[a.toNat]'(by assumption)).toNat_lt; simp only; omega
    · simp
end PK

set_option maxRecDepth 100000 in
theorem rreason_any (r : Nat) (s : ByteArray) (a : Int) (w : World) (h : RdAt r s a w) (hs : s.size ≤ 140737488351232) :
    Calls Tryz.prog 88 #[.pointer (some ⟨r, 0, none⟩)] w (RdP r s w (.int .u8 (VP.rd s a 1).1) (VP.rd s a 1).2.1 (cm (VP.rd s a 1).2.2)) := by
  have C1 := Lib.hid (rnumber_any r s a 1 w h hs)
  have hn := (PK.rd_nn s a 1).1
  have hn2 := PK.rd_1le s a
  generalize VP.rd s a 1 = X at *
  obtain ⟨x, a2, c⟩ := X
  simp only at C1 hn hn2 ⊢
  clear h
  by_cases hc : cm c = 0
  · have HC := Lib.hid hc
    clear hc
    go_enter Tryz.func88, Tryz.ntmps88
    go_wp2_with fail
    refine C1.out.mono ?_
    rintro e w1 hR
    obtain ⟨rfl, h1, g1⟩ := hR.1 HC.out
    have H1 := Lib.hid h1
    have G1 := Lib.hid g1
    clear hR h1 g1 C1
    go_wp2
    go_ret
    exact ⟨fun _ => ⟨rfl, H1.out, G1.out⟩, fun h => absurd HC.out h⟩
  · have HC := Lib.hid hc
    clear hc
    go_enter Tryz.func88, Tryz.ntmps88
    go_wp2_with fail
    refine C1.out.mono ?_
    rintro e w1 hR
    obtain ⟨rfl, g1⟩ := hR.2 HC.out
    exact ⟨rfl, fun h => absurd h HC.out, fun _ => ⟨rfl, g1⟩⟩

set_option maxRecDepth 100000 in
set_option maxHeartbeats 1000000 in
theorem rid_any (r : Nat) (s : ByteArray) (a : Int) (w : World) (h : RdAt r s a w) (hs : s.size ≤ 140737488351232) :
    Calls Tryz.prog 97 #[.pointer (some ⟨r, 0, none⟩)] w (RdP r s w (.int .i64 (PK.rdId s a).1) (PK.rdId s a).2.1 (PK.rdId s a).2.2) := by
  have C1 := Lib.hid (rnumber_any r s a 2 w h hs)
  have CL := Lib.hid leave_any
  unfold PK.rdId
  have hn := (PK.rd_nn s a 2).1
  have hn2 := (PK.rd_nn s a 2).2
  generalize VP.rd s a 2 = X at *
  obtain ⟨x, a2, c⟩ := X
  simp only at C1 hn hn2 ⊢
  clear h
  by_cases hc : cm c = 0
  · have HC := Lib.hid hc
    clear hc
    by_cases hx : x = 0
    · have e0 : (x == 0) = true := by simp [hx]
      have E : Hid (PK.thn (cm c) (if x = 0 then 130 else 0) = 130) := Lib.hid (by rw [PK.thn_ok HC.out, if_pos hx])
      generalize PK.thn (cm c) (if x = 0 then 130 else 0) = tc at *
      go_enter Tryz.func97, Tryz.ntmps97
      go_wp2_with fail
      refine C1.out.mono ?_
      rintro e w1 hR
      obtain ⟨rfl, h1, g1⟩ := hR.1 HC.out
      have G1 := Lib.hid g1
      clear hR h1 g1 C1
      go_wp2_with fail
      refine (CL.out _ _).mono ?_
      rintro e w' ⟨rfl, rfl⟩
      exact ⟨rfl, fun h => absurd (E.out.symm.trans h) (by decide), fun _ => ⟨by rw [E.out]; rfl, G1.out⟩⟩
    · have e0 : (x == 0) = false := by simp [hx]
      have E : Hid (PK.thn (cm c) (if x = 0 then 130 else 0) = 0) := Lib.hid (by rw [PK.thn_ok HC.out, if_neg hx])
      generalize PK.thn (cm c) (if x = 0 then 130 else 0) = tc at *
      go_enter Tryz.func97, Tryz.ntmps97
      go_wp2_with fail
      refine C1.out.mono ?_
      rintro e w1 hR
      obtain ⟨rfl, h1, g1⟩ := hR.1 HC.out
      have H1 := Lib.hid h1
      have G1 := Lib.hid g1
      clear hR h1 g1 C1
      go_wp2
      go_ret
      exact ⟨fun _ => ⟨rfl, H1.out, G1.out⟩, fun h => absurd E.out h⟩
  · have HC := Lib.hid hc
    have E : Hid (PK.thn (cm c) (if x = 0 then 130 else 0) = cm c) := Lib.hid (PK.thn_bad hc _)
    generalize PK.thn (cm c) (if x = 0 then 130 else 0) = tc at *
    clear hc
    go_enter Tryz.func97, Tryz.ntmps97
    go_wp2_with fail
    refine C1.out.mono ?_
    rintro e w1 hR
    obtain ⟨rfl, g1⟩ := hR.2 HC.out
    exact ⟨rfl, fun h => absurd (E.out.symm.trans h) HC.out, fun _ => ⟨by rw [E.out]; rfl, g1⟩⟩

set_option maxRecDepth 100000 in
set_option maxHeartbeats 1000000 in
theorem rsession_any (r : Nat) (s : ByteArray) (a : Int) (w : World) (h : RdAt r s a w) (hs : s.size ≤ 140737488351232) :
    Calls Tryz.prog 87 #[.pointer (some ⟨r, 0, none⟩)] w (RdP r s w (.bool (PK.rdSes s a).1) (PK.rdSes s a).2.1 (PK.rdSes s a).2.2) := by
  have C1 := Lib.hid (rnumber_any r s a 1 w h hs)
  have CL := Lib.hid leave_any
  unfold PK.rdSes
  have hn := (PK.rd_nn s a 1).1
  have hn2 := (PK.rd_nn s a 1).2
  generalize VP.rd s a 1 = X at *
  obtain ⟨x, a2, c⟩ := X
  simp only at C1 hn hn2 ⊢
  clear h
  by_cases hc : cm c = 0
  · have HC := Lib.hid hc
    clear hc
    by_cases hx : 1 < x
    · have e0 : (1 : Int) < x := hx
      have E : Hid (PK.thn (cm c) (if 1 < x then 129 else 0) = 129) := Lib.hid (by rw [PK.thn_ok HC.out, if_pos hx])
      generalize PK.thn (cm c) (if 1 < x then 129 else 0) = tc at *
      go_enter Tryz.func87, Tryz.ntmps87
      go_wp2_with fail
      refine C1.out.mono ?_
      rintro e w1 hR
      obtain ⟨rfl, h1, g1⟩ := hR.1 HC.out
      have G1 := Lib.hid g1
      clear hR h1 g1 C1
      go_wp2_with fail
      refine (CL.out _ _).mono ?_
      rintro e w' ⟨rfl, rfl⟩
      exact ⟨rfl, fun h => absurd (E.out.symm.trans h) (by decide), fun _ => ⟨by rw [E.out]; rfl, G1.out⟩⟩
    · have e0 : ¬ (1 : Int) < x := hx
      have E : Hid (PK.thn (cm c) (if 1 < x then 129 else 0) = 0) := Lib.hid (by rw [PK.thn_ok HC.out, if_neg hx])
      generalize PK.thn (cm c) (if 1 < x then 129 else 0) = tc at *
      go_enter Tryz.func87, Tryz.ntmps87
      go_wp2_with fail
      refine C1.out.mono ?_
      rintro e w1 hR
      obtain ⟨rfl, h1, g1⟩ := hR.1 HC.out
      have H1 := Lib.hid h1
      have G1 := Lib.hid g1
      clear hR h1 g1 C1
      go_wp2
      go_ret
      exact ⟨fun _ => ⟨rfl, H1.out, G1.out⟩, fun h => absurd E.out h⟩
  · have HC := Lib.hid hc
    have E : Hid (PK.thn (cm c) (if 1 < x then 129 else 0) = cm c) := Lib.hid (PK.thn_bad hc _)
    generalize PK.thn (cm c) (if 1 < x then 129 else 0) = tc at *
    clear hc
    go_enter Tryz.func87, Tryz.ntmps87
    go_wp2_with fail
    refine C1.out.mono ?_
    rintro e w1 hR
    obtain ⟨rfl, g1⟩ := hR.2 HC.out
    exact ⟨rfl, fun h => absurd (E.out.symm.trans h) HC.out, fun _ => ⟨by rw [E.out]; rfl, g1⟩⟩
end Go.Proofs.YtemfcaaoobjgkaaGreatDoor
namespace Go.Proofs.YtemfcaaoobjgkaaGreatDoor
open Go.RowKit
attribute [local go_sem ↓] Go.wp_at_zero Go.wp_at_succ

/-- What the reader's properties answers: a new row of them. -/
def RdPP (r : Nat) (s : ByteArray) (w : World) (l : List Pr) (a c : Int) (e : Ending) (w' : World) : Prop :=
  (c = 0 → ∃ v, e = .returned v ∧ w'.ownsRow w.heap.size 116 4 v l.length (flatP l) ∧ RdAt r s a w' ∧ Gr r w w') ∧ (c ≠ 0 → e = leftBy c ∧ Gr r w w')
theorem own_gr {r B : Nat} {e : TypeId} {k : Nat} {v : Value} {n : Nat} {xs : List Value} {w w' : World} (h : w.ownsRow B e k v n xs) (hg : Gr r w w') (hne : v.ownBlock ≠ some r) : w'.ownsRow B e k v n xs := h.kept hg (.inr hne)
theorem row_ne {r B : Nat} {e : TypeId} {k : Nat} {v : Value} {n : Nat} {xs : List Value} {w : World} (h : w.ownsRow B e k v n xs) (hr : r < B) : v.ownBlock ≠ some r := fun hv => by
  have := (h.lt r hv).1; omega
theorem own_base' {w : World} {B C : Nat} {e : TypeId} {k : Nat} {v : Value} {n : Nat} {xs : List Value} (h : w.ownsRow B e k v n xs) (hC : C ≤ B) : w.ownsRow C e k v n xs := by
  refine ⟨h.1, ?_⟩
  rcases h.2 with hn | ⟨g, cap, cur, hv, hb, rest⟩
  · exact .inl hn
  · exact .inr ⟨g, cap, cur, hv, by omega, rest⟩

set_option maxRecDepth 100000 in
set_option maxHeartbeats 4000000 in
theorem rprops_any (r : Nat) (s : ByteArray) (a k : Int) (w : World) (h : RdAt r s a w) (hs : s.size ≤ 140737488351232) (hT : Tabs w) :
    Calls Tryz.prog 89 #[.pointer (some ⟨r, 0, none⟩), .int .i64 k] w (RdPP r s w (PK.rdPr s a k).1 (PK.rdPr s a k).2.1 (PK.rdPr s a k).2.2) := by
  have q0 : w.cell? ⟨r, 0, none⟩ = some (.string s) := by rw [cell_heap h]; rfl
  have q1 : w.cell? ⟨r, 1, none⟩ = some (.int .i64 a) := by rw [cell_heap h]; rfl
  have C1 : Hid (∀ W, Tabs W → Calls Tryz.prog 115 #[.string s, .int .i64 a] W (GetP .u8 116 W (PR.getL s a))) := fun W hW => getall_any s a hs W hW
  have CM : Hid (∀ W a' c, RdAt r s a W → Calls Tryz.prog 116 #[.pointer (some ⟨r, 0, none⟩), .int .i64 a', .int .u8 c] W (RdP r s W (.tuple #[]) a' (cm c))) := fun W a' c hW => move_any r s a a' c W hW
  have CA : Hid (∀ A cap W, Props W A (PR.getL s a).1 → Calls Tryz.prog 83 #[.int .i64 k, .slice A (PR.getL s a).1.length cap] W fun e w' => e = .returned (.bool (PK.alAll k (PR.getL s a).1)) ∧ Below W.heap.size W w') := fun A cap W hP => alall_any A cap _ k W (by have := (PR.getL_facts s a).2.2; omega) hP
  have CL := Lib.hid leave_any
  have HR := Lib.hid h
  have HT := Lib.hid hT
  have hlt := lt_heap h
  unfold PK.rdPr
  unfold GetP at C1
  generalize PR.getL s a = X at *
  obtain ⟨l, a2, c⟩ := X
  simp only at C1 CA ⊢
  generalize PK.alAll k l = al at *
  clear h hT
  obtain ⟨TC, hTC⟩ : ∃ t, t = PK.thn (cm c) (if al = true then 0 else 130) := ⟨_, rfl⟩
  rw [← hTC]
  have HTC := Lib.hid hTC
  clear hTC
  go_enter Tryz.func89, Tryz.ntmps89
  go_wp2_with fail
  go_region_held3 (fun w' => w'.cell? ⟨r, 0, none⟩ = some (.string s) ∧ w'.cell? ⟨r, 1, none⟩ = some (.int .i64 a))
    (first | exact ⟨q0, q1⟩ | exact ⟨p0, p1⟩)
    (first
      | (go_at_call 115
         refine (C1.out _ (show Tabs w.drew from HT.out)).mono ?_
         rintro e w1 ⟨v, rfl, o1, b1⟩
         obtain ⟨A, cap, rfl⟩ := own_form o1
         have hr1 : RdAt r s a w1 := (show RdAt r s a w.drew from HR.out).below b1
         have p0 : w1.cell? ⟨r, 0, none⟩ = some (.string s) := by rw [cell_heap hr1]; rfl
         have p1 : w1.cell? ⟨r, 1, none⟩ = some (.int .i64 a) := by rw [cell_heap hr1]; rfl))
  all_goals
    have D := Lib.hid (CM.out w1 a2 c hr1)
    have G1 : Hid (Gr r w w1) := Lib.hid (Gr.of_drew (Gr.of_below b1))
    have O1 : Hid (w1.ownsRow w.heap.size 116 4 (.slice A l.length cap) l.length (flatP l)) := Lib.hid o1
    clear b1 hr1 p0 p1 CM C1 o1
    go_wp2_with fail
    refine D.out.mono ?_
    rintro e w2 hR
    by_cases hc : cm c = 0
    · obtain ⟨rfl, h2, g2⟩ := hR.1 hc
      have H2 := Lib.hid h2
      have G2 : Hid (Gr r w w2) := Lib.hid (G1.out.trans g2)
      have o2 := own_gr O1.out g2 (row_ne O1.out hlt)
      have O2 := Lib.hid o2
      have D2 := Lib.hid (CA.out A cap w2 (own_props o2))
      have HC := Lib.hid hc
      clear hR h2 g2 D hc o2 CA
      go_wp2_with fail
      refine D2.out.mono ?_
      rintro e w3 ⟨rfl, b3⟩
      have H3 := Lib.hid (H2.out.below b3)
      have G3 : Hid (Gr r w w3) := Lib.hid (G2.out.trans (Gr.of_below b3))
      have O3 := Lib.hid (own_below O2.out b3)
      clear b3 D2
      cases al
      · have E : Hid (TC = 130) := Lib.hid (by rw [HTC.out, PK.thn_ok HC.out]; rfl)
        clear HTC
        go_wp2_with fail
        refine (CL.out _ _).mono ?_
        rintro e w' ⟨rfl, rfl⟩
        exact ⟨rfl, fun h => absurd (E.out.symm.trans h) (by decide), fun _ => ⟨by rw [E.out]; rfl, G3.out⟩⟩
      · have E : Hid (TC = 0) := Lib.hid (by rw [HTC.out, PK.thn_ok HC.out]; rfl)
        clear HTC
        go_wp2
        go_ret
        exact ⟨fun _ => ⟨_, rfl, O3.out, H3.out, G3.out⟩, fun h => absurd E.out h⟩
    · obtain ⟨rfl, g2⟩ := hR.2 hc
      have E : TC = cm c := by rw [HTC.out, PK.thn_bad hc]
      exact ⟨rfl, fun h => absurd (E.symm.trans h) hc, fun _ => ⟨by rw [E]; rfl, G1.out.trans g2⟩⟩
end Go.Proofs.YtemfcaaoobjgkaaGreatDoor
namespace Go.Proofs.YtemfcaaoobjgkaaGreatDoor
open Go.RowKit
attribute [local go_sem ↓] Go.wp_at_zero Go.wp_at_succ

namespace PK
/-- The options that a byte tells. -/
def subOf (f : ByteArray) (n : Int) : Sb := ⟨f, bits .and .i64 n 3, bits .and .i64 n 4 != 0, bits .and .i64 n 8 != 0, bits .and .i64 (n / 16) 3⟩
def subC (n : Int) : Int := if isQ (bits .and .i64 n 3) = false then 129 else if (bits .and .i64 n 192 != 0) = true then 129 else if isQ (bits .and .i64 (n / 16) 3) = false then 130 else 0
def rdSub (s : ByteArray) (a : Int) : Sb × Int × Int :=
  (subOf (TX.getT s a).1 (VP.rd s (TX.getT s a).2.1 1).1, (VP.rd s (TX.getT s a).2.1 1).2.1, thn (cm (TX.getT s a).2.2) (thn (cm (VP.rd s (TX.getT s a).2.1 1).2.2) (subC (VP.rd s (TX.getT s a).2.1 1).1)))
end PK
theorem Gr.setNew {r n : Nat} {w w' : World} (h : Gr r w w') (hn : w.heap.size ≤ n) (j : Nat) (u : Value) : Gr r w (w'.setCell ⟨n, j, none⟩ u) :=
  ⟨h.os, h.tape, h.output, by simp [World.setCell]; exact h.size, fun i hi hne => (Below.heap_setCell _ _ _ _ (fun e => by simp at e; omega)).trans (h.block i hi hne)⟩
theorem Gr.alloc {r : Nat} {w w' : World} (h : Gr r w w') (o : Obj) : Gr r w (w'.alloc o) := h.trans (Gr.of_below ((Below.refl _ _).alloc (Nat.le_refl _) o))
theorem RdAt.setOther {r n : Nat} {s : ByteArray} {a : Int} {w : World} (h : RdAt r s a w) (hn : r ≠ n) (j : Nat) (u : Value) : RdAt r s a (w.setCell ⟨n, j, none⟩ u) := (Below.heap_setCell _ _ _ _ (fun e => hn (by simpa using e))).trans h
theorem RdAt.alloc {r : Nat} {s : ByteArray} {a : Int} {w : World} (h : RdAt r s a w) (o : Obj) : RdAt r s a (w.alloc o) := h.below ((Below.refl _ _).alloc (Nat.le_refl _) o)
theorem Gr.kept {r n : Nat} {w w' : World} {o : Obj} (h : Gr r w w') (hn : n ≠ r) (hb : w.heap[n]? = some o) : w'.heap[n]? = some o := (h.block n (lt_heap hb) (fun e => hn (by injection e))).trans hb

set_option maxRecDepth 100000 in
set_option maxHeartbeats 4000000 in
theorem rsub_any (r : Nat) (s : ByteArray) (a : Int) (w : World) (h : RdAt r s a w) (hs : s.size ≤ 140737488351232) (hT : Tabs w) :
    Calls Tryz.prog 93 #[.pointer (some ⟨r, 0, none⟩)] w (RdP r s w (.agg #[.string (PK.rdSub s a).1.f, .int .i64 (PK.rdSub s a).1.q, .bool (PK.rdSub s a).1.nl, .bool (PK.rdSub s a).1.ap, .int .i64 (PK.rdSub s a).1.h]) (PK.rdSub s a).2.1 (PK.rdSub s a).2.2) := by
  have hal := (Below.refl w.heap.size w).alloc (Nat.le_refl _) (.cells #[.string ⟨#[]⟩, .int .i64 0, .bool false, .bool false, .int .i64 0] 61)
  have hb0 : (w.alloc (.cells #[.string ⟨#[]⟩, .int .i64 0, .bool false, .bool false, .int .i64 0] 61)).heap[w.heap.size]? = some (.cells #[.string ⟨#[]⟩, .int .i64 0, .bool false, .bool false, .int .i64 0] 61 (0, 0)) := heap_alloc_new w _
  have C1 := Lib.hid (rtext_any r s a _ (h.below hal) hs (hT.below hal))
  have C2 : Hid (∀ a W, RdAt r s a W → Calls Tryz.prog 112 #[.pointer (some ⟨r, 0, none⟩), .int .i64 1] W (RdP r s W (.int .i64 (VP.rd s a 1).1) (VP.rd s a 1).2.1 (cm (VP.rd s a 1).2.2))) := fun a W hW => rnumber_any r s a 1 W hW hs
  have CQ := Lib.hid isqos_any
  have CH := Lib.hid ishand_any
  have CL := Lib.hid leave_any
  have hlt := lt_heap h
  have hne : w.heap.size ≠ r := by omega
  have G0 : Hid (Gr r w (w.alloc (.cells #[.string ⟨#[]⟩, .int .i64 0, .bool false, .bool false, .int .i64 0] 61))) := Lib.hid (Gr.of_below hal)
  have B0 := Lib.hid hb0
  have hn1 := PK.rd_nn s (TX.getT s a).2.1 1
  have hn2 := PK.rd_1le s (TX.getT s a).2.1
  unfold PK.rdSub
  generalize TX.getT s a = X at *
  obtain ⟨f, a1, c1⟩ := X
  simp only at C1 hn1 hn2 ⊢
  have D2 := C2.out a1
  generalize VP.rd s a1 1 = Y at *
  obtain ⟨n, a2, c2⟩ := Y
  simp only at D2 hn1 hn2 ⊢
  have HD2 := Lib.hid D2
  obtain ⟨TC, hTC⟩ : ∃ t, t = PK.thn (cm c1) (PK.thn (cm c2) (PK.subC n)) := ⟨_, rfl⟩
  rw [← hTC]
  have HTC := Lib.hid hTC
  have hnn := hn1.1
  clear hTC D2 C2 h hT hal hb0 hn1
  by_cases h1 : cm c1 = 0
  · by_cases h2 : cm c2 = 0
    · have ET : Hid (TC = PK.subC n) := Lib.hid (by rw [HTC.out, PK.thn_ok h1, PK.thn_ok h2])
      have H1 := Lib.hid h1
      have H2 := Lib.hid h2
      clear h1 h2 HTC
      unfold PK.subOf
      simp only
      go_enter Tryz.func93, Tryz.ntmps93
      go_wp2_with fail
      refine C1.out.mono ?_
      rintro e w1 hR
      obtain ⟨rfl, r1, g1⟩ := hR.1 H1.out
      have E2 := Lib.hid (HD2.out w1 r1)
      have G1 : Hid (Gr r w w1) := Lib.hid (G0.out.trans g1)
      have B1 := Lib.hid (g1.kept hne B0.out)
      clear hR r1 g1 C1 HD2
      go_wp2_with fail
      refine E2.out.mono ?_
      rintro e w2 hR
      obtain ⟨rfl, r2, g2⟩ := hR.1 H2.out
      have R2 := Lib.hid r2
      have G2 : Hid (Gr r w w2) := Lib.hid (G1.out.trans g2)
      have b2 := g2.kept hne B1.out
      have z0 : w2.cell? ⟨w.heap.size, 0, none⟩ = some (.string ⟨#[]⟩) := by rw [cell_heap b2]; rfl
      have z1 : w2.cell? ⟨w.heap.size, 1, none⟩ = some (.int .i64 0) := by rw [cell_heap b2]; rfl
      have z2 : w2.cell? ⟨w.heap.size, 2, none⟩ = some (.bool false) := by rw [cell_heap b2]; rfl
      have z3 : w2.cell? ⟨w.heap.size, 3, none⟩ = some (.bool false) := by rw [cell_heap b2]; rfl
      have z4 : w2.cell? ⟨w.heap.size, 4, none⟩ = some (.int .i64 0) := by rw [cell_heap b2]; rfl
      have f0 : w2.frozen? ⟨w.heap.size, 0, none⟩ = false := frozen_heap b2
      have f1 : w2.frozen? ⟨w.heap.size, 1, none⟩ = false := frozen_heap b2
      have f2 : w2.frozen? ⟨w.heap.size, 2, none⟩ = false := frozen_heap b2
      have f3 : w2.frozen? ⟨w.heap.size, 3, none⟩ = false := frozen_heap b2
      have f4 : w2.frozen? ⟨w.heap.size, 4, none⟩ = false := frozen_heap b2
      have hlt2 : w.heap.size < w2.heap.size := lt_heap b2
      have hne2 : w.heap.size ≠ w2.heap.size := by omega
      have hrne : r ≠ w.heap.size := by omega
      clear hR r2 g2 E2 b2
      cases hq : PK.isQ (bits .and .i64 n 3)
      · have E : Hid (TC = 129) := Lib.hid (by rw [ET.out]; unfold PK.subC; rw [if_pos hq])
        have HQ := Lib.hid hq
        clear hq ET
        go_wp2_with fail
        refine (CQ.out _ _).mono ?_
        rintro e w' ⟨rfl, rfl⟩
        rw [HQ.out]
        go_wp2_with fail
        refine (CL.out _ _).mono ?_
        rintro e w' ⟨rfl, rfl⟩
        exact ⟨rfl, fun h => absurd (E.out.symm.trans h) (by decide), fun _ => ⟨by rw [E.out]; rfl, G2.out.alloc _⟩⟩
      · have HQ := Lib.hid hq
        cases hb : (bits .and .i64 n 192 != 0)
        · have HBB := Lib.hid hb
          cases hh : PK.isQ (bits .and .i64 (n / 16) 3)
          · have E : Hid (TC = 130) := Lib.hid (by rw [ET.out]; unfold PK.subC; rw [if_neg (by rw [hq]; decide), if_neg (by rw [hb]; decide), if_pos hh])
            have HH := Lib.hid hh
            clear hq hh ET
            go_wp2_with fail
            refine (CQ.out _ _).mono ?_
            rintro e w' ⟨rfl, rfl⟩
            rw [HQ.out]
            go_wp2_with fail
            refine (CH.out _ _).mono ?_
            rintro e w' ⟨rfl, rfl⟩
            rw [HH.out]
            go_wp2_with fail
            refine (CL.out _ _).mono ?_
            rintro e w' ⟨rfl, rfl⟩
            exact ⟨rfl, fun h => absurd (E.out.symm.trans h) (by decide), fun _ => ⟨by rw [E.out]; rfl, G2.out.alloc _⟩⟩
          · have E : Hid (TC = 0) := Lib.hid (by rw [ET.out]; unfold PK.subC; rw [if_neg (by rw [hq]; decide), if_neg (by rw [hb]; decide), if_neg (by rw [hh]; decide)])
            have HH := Lib.hid hh
            clear hq hh ET
            go_wp2_with fail
            refine (CQ.out _ _).mono ?_
            rintro e w' ⟨rfl, rfl⟩
            rw [HQ.out]
            go_wp2_with fail
            refine (CH.out _ _).mono ?_
            rintro e w' ⟨rfl, rfl⟩
            rw [HH.out]
            go_wp2
            refine bodyPost_ret (v := .agg #[.string f, .int .i64 (bits .and .i64 n 3), .bool (bits .and .i64 n 4 != 0), .bool (bits .and .i64 n 8 != 0), .int .i64 (bits .and .i64 (n / 16) 3)]) (by simp [results, Tryz.results93, go_sem, z0, z1, z2, z3, z4, hlt2]) rfl ⟨fun _ => ⟨rfl, ?_, ?_⟩, fun h => absurd E.out h⟩
            · exact (((((R2.out.setOther hrne _ _).setOther hrne _ _).setOther hrne _ _).setOther hrne _ _).setOther hrne _ _).alloc _
            · exact (((((G2.out.setNew (Nat.le_refl _) _ _).setNew (Nat.le_refl _) _ _).setNew (Nat.le_refl _) _ _).setNew (Nat.le_refl _) _ _).setNew (Nat.le_refl _) _ _).alloc _
        · have E : Hid (TC = 129) := Lib.hid (by rw [ET.out]; unfold PK.subC; rw [if_neg (by rw [hq]; decide), if_pos hb])
          have HBB := Lib.hid hb
          clear hq ET
          go_wp2_with fail
          refine (CQ.out _ _).mono ?_
          rintro e w' ⟨rfl, rfl⟩
          rw [HQ.out]
          go_wp2_with fail
          refine (CL.out _ _).mono ?_
          rintro e w' ⟨rfl, rfl⟩
          exact ⟨rfl, fun h => absurd (E.out.symm.trans h) (by decide), fun _ => ⟨by rw [E.out]; rfl, G2.out.alloc _⟩⟩
    · have E : Hid (TC = cm c2) := Lib.hid (by rw [HTC.out, PK.thn_ok h1, PK.thn_bad h2])
      have H1 := Lib.hid h1
      have H2 := Lib.hid h2
      clear h1 h2 HTC
      go_enter Tryz.func93, Tryz.ntmps93
      go_wp2_with fail
      refine C1.out.mono ?_
      rintro e w1 hR
      obtain ⟨rfl, r1, g1⟩ := hR.1 H1.out
      have E2 := Lib.hid (HD2.out w1 r1)
      have G1 : Hid (Gr r w w1) := Lib.hid (G0.out.trans g1)
      clear hR r1 g1 C1 HD2
      go_wp2_with fail
      refine E2.out.mono ?_
      rintro e w2 hR
      obtain ⟨rfl, g2⟩ := hR.2 H2.out
      exact ⟨rfl, fun h => absurd (E.out.symm.trans h) H2.out, fun _ => ⟨by rw [E.out]; rfl, G1.out.trans g2⟩⟩
  · have E : Hid (TC = cm c1) := Lib.hid (by rw [HTC.out, PK.thn_bad h1])
    have H1 := Lib.hid h1
    clear h1 HTC
    go_enter Tryz.func93, Tryz.ntmps93
    go_wp2_with fail
    refine C1.out.mono ?_
    rintro e w1 hR
    obtain ⟨rfl, g1⟩ := hR.2 H1.out
    exact ⟨rfl, fun h => absurd (E.out.symm.trans h) H1.out, fun _ => ⟨by rw [E.out]; rfl, G0.out.trans g1⟩⟩
end Go.Proofs.YtemfcaaoobjgkaaGreatDoor
namespace Go.Proofs.YtemfcaaoobjgkaaGreatDoor
open Go.RowKit

namespace PK
/-- All that is left, one by one: at least one and at most 64. -/
def lst {α : Type} (rd : Int → α × Int × Int) (sz : Nat) : Nat → Int → List α → List α × Int × Int
  | 0, _, _ => ([], 0, 149)
  | u + 1, a, out => if a = (sz : Int) then (if out = [] then ([], 0, 130) else (out, a, 0)) else if out.length = 64 then ([], 0, 149) else if (rd a).2.2 ≠ 0 then ([], 0, (rd a).2.2) else lst rd sz u (rd a).2.1 (out ++ [(rd a).1])
def rdT (s : ByteArray) (a : Int) : ByteArray × Int × Int := ((TX.getT s a).1, (TX.getT s a).2.1, cm (TX.getT s a).2.2)
def rdC (s : ByteArray) (a : Int) : Int × Int × Int := ((VP.rd s a 1).1, (VP.rd s a 1).2.1, cm (VP.rd s a 1).2.2)
end PK
def flatT (l : List ByteArray) : List Value := l.map Value.string
def flatC (l : List Int) : List Value := l.map (Value.int .u8)
theorem flatT_snoc (l : List ByteArray) (x : ByteArray) : flatT (l ++ [x]) = flatT l ++ [.string x] := by simp [flatT]
theorem flatC_snoc (l : List Int) (x : Int) : flatC (l ++ [x]) = flatC l ++ [.int .u8 x] := by simp [flatC]
def Sb.cells (s : Sb) : List Value := [.string s.f, .int .i64 s.q, .bool s.nl, .bool s.ap, .int .i64 s.h]
def flatB (l : List Sb) : List Value := l.flatMap Sb.cells
theorem flatB_snoc (l : List Sb) (x : Sb) : flatB (l ++ [x]) = flatB l ++ [.string x.f, .int .i64 x.q, .bool x.nl, .bool x.ap, .int .i64 x.h] := by simp [flatB, Sb.cells]
/-- What the reader's list answers: a new row. -/
def LsP {α : Type} (t : TypeId) (size : Nat) (flat : List α → List Value) (r : Nat) (s : ByteArray) (w : World) (X : List α × Int × Int) (e : Ending) (w' : World) : Prop :=
  (X.2.2 = 0 → ∃ v, e = .returned v ∧ w'.ownsRow w.heap.size t size v X.1.length (flat X.1) ∧ RdAt r s X.2.1 w' ∧ Gr r w w') ∧ (X.2.2 ≠ 0 → e = leftBy X.2.2 ∧ Gr r w w')
theorem cInfo : (Tryz.prog.info? 30).map (fun i => (i.zero, i.size, i.bytes)) = some (some (.int .u8 0), 1, 1) := by kernel_rfl
theorem sbInfo : (Tryz.prog.info? 61).map (fun i => (i.zero, i.size, i.bytes)) = some (some (.agg #[.string ⟨#[]⟩, .int .i64 0, .bool false, .bool false, .int .i64 0]), 5, 40) := by kernel_rfl
theorem tInfo : (Tryz.prog.info? 9).map (fun i => (i.zero, i.size, i.bytes)) = some (some (.string ⟨#[]⟩), 1, 16) := by kernel_rfl

set_option maxRecDepth 100000 in
set_option maxHeartbeats 4000000 in
theorem rlistt_any (r : Nat) (s : ByteArray) (a : Int) (w : World) (h : RdAt r s a w) (hs : s.size ≤ 140737488351232) (hT : ∀ W, Gr r w W → Tabs W) :
    Calls Tryz.prog 94 #[.pointer (some ⟨r, 0, none⟩), .func (.func 95) #[.pointer (some ⟨r, 0, none⟩)] #[]] w (LsP 9 1 flatT r s w (PK.lst (PK.rdT s) s.size 66 a [])) := by
  have C1 : Hid (∀ a W, Gr r w W → RdAt r s a W → Calls Tryz.prog 95 #[.pointer (some ⟨r, 0, none⟩)] W (RdP r s W (.string (PK.rdT s a).1) (PK.rdT s a).2.1 (PK.rdT s a).2.2)) := fun a W hg hW => rtext_any r s a W hW hs (hT W hg)
  have CE : Hid (∀ a W, RdAt r s a W → Calls Tryz.prog 66 #[.pointer (some ⟨r, 0, none⟩)] W fun e w' => e = .returned (.bool (a == (s.size : Int))) ∧ Below W.heap.size W w') := fun a W hW => ended_any r s a W hW
  have CL := Lib.hid leave_any
  have H0 := Lib.hid h
  have hlt := lt_heap h
  obtain ⟨i0, hi0, hz0, hz1, hz2⟩ := info_parts tInfo
  have Hi := Lib.hid hi0; have Hz0 := Lib.hid hz0; have Hz1 := Lib.hid hz1; have Hz2 := Lib.hid hz2
  obtain ⟨X, hX⟩ : ∃ X, X = PK.lst (PK.rdT s) s.size 66 a [] := ⟨_, rfl⟩
  rw [← hX]
  have HX := Lib.hid hX
  clear h hT hX hi0 hz0 hz1 hz2
  go_enter Tryz.func94, Tryz.ntmps94
  go_wp2_with fail
  go_loopw [5] (fun lv wr => ∃ (a' : Int) (out : List ByteArray), out.length ≤ 64 ∧ (∃ A cap, lv = .slice A out.length cap) ∧ Hid (RdAt r s a' wr) ∧ Hid (Gr r w wr) ∧ Hid (wr.ownsRow w.heap.size 9 1 lv out.length (flatT out)) ∧ Hid (PK.lst (PK.rdT s) s.size (66 - out.length) a' out = PK.lst (PK.rdT s) s.size 66 a [])) (fun lv _ => 66 - slLen lv)
  case atStart => exact ⟨a, [], by simp, ⟨none, 0, rfl⟩, H0, Lib.hid (Gr.refl _ _), Lib.hid (own_nil _ _ _ _), Lib.hid rfl⟩
  case round =>
    obtain ⟨a', out, hol, ⟨A, cap, rfl⟩, hrd, hgr, hown, heq⟩ := hrel
    obtain ⟨u, hu⟩ : ∃ u, 66 - out.length = u + 1 := ⟨65 - out.length, by omega⟩
    rw [hu] at heq
    have D1 := Lib.hid (CE.out a' wr hrd.out)
    by_cases he : a' = (s.size : Int)
    · have e1 : (a' == (s.size : Int)) = true := by simp [he]
      rw [e1] at D1
      by_cases ho : out = []
      · have E : Hid (X = ([], 0, 130)) := Lib.hid (by rw [HX.out, ← heq.out, PK.lst, if_pos he, if_pos ho])
        have i0 : ((out.length : Int) == 0) = true := by rw [ho]; rfl
        clear he e1 ho heq hu
        go_wp2_with fail
        refine D1.out.mono ?_
        rintro e w1 ⟨rfl, b1⟩
        have G1 : Hid (Gr r w w1) := Lib.hid (hgr.out.trans (Gr.of_below b1))
        clear b1 D1
        go_wp2_with fail
        refine (CL.out _ _).mono ?_
        rintro e w' ⟨rfl, rfl⟩
        exact ⟨rfl, by rw [E.out]; exact ⟨fun h => absurd h (by decide), fun _ => ⟨rfl, G1.out⟩⟩⟩
      · have hlp : 0 < out.length := List.length_pos_iff.2 ho
        have E : Hid (X = (out, a', 0)) := Lib.hid (by rw [HX.out, ← heq.out, PK.lst, if_pos he, if_neg ho])
        have i0 : ((out.length : Int) == 0) = false := by rw [beq_eq_false_iff_ne]; omega
        clear he e1 ho heq hu
        go_wp2_with fail
        refine D1.out.mono ?_
        rintro e w1 ⟨rfl, b1⟩
        have G1 : Hid (Gr r w w1) := Lib.hid (hgr.out.trans (Gr.of_below b1))
        have R1 := Lib.hid (hrd.out.below b1)
        have O1 := Lib.hid (own_below hown.out b1)
        clear b1 D1
        go_wp2
        go_ret
        rw [E.out]
        exact ⟨fun _ => ⟨_, rfl, O1.out, R1.out, G1.out⟩, fun h => absurd rfl h⟩
    · have e1 : (a' == (s.size : Int)) = false := by rw [beq_eq_false_iff_ne]; exact he
      rw [e1] at D1
      by_cases h64 : out.length = 64
      · have E : Hid (X = ([], 0, 149)) := Lib.hid (by rw [HX.out, ← heq.out, PK.lst, if_neg he, if_pos h64])
        have i0 : ((out.length : Int) == 64) = true := by rw [h64]; rfl
        clear he e1 h64 heq hu
        go_wp2_with fail
        refine D1.out.mono ?_
        rintro e w1 ⟨rfl, b1⟩
        have G1 : Hid (Gr r w w1) := Lib.hid (hgr.out.trans (Gr.of_below b1))
        clear b1 D1
        go_wp2_with fail
        refine (CL.out _ _).mono ?_
        rintro e w' ⟨rfl, rfl⟩
        exact ⟨rfl, by rw [E.out]; exact ⟨fun h => absurd h (by decide), fun _ => ⟨rfl, G1.out⟩⟩⟩
      · have i0 : ((out.length : Int) == 64) = false := by rw [beq_eq_false_iff_ne]; omega
        by_cases hc : (PK.rdT s a').2.2 = 0
        · have E : Hid (PK.lst (PK.rdT s) s.size u (PK.rdT s a').2.1 (out ++ [(PK.rdT s a').1]) = PK.lst (PK.rdT s) s.size 66 a []) := Lib.hid (by rw [← heq.out, PK.lst, if_neg he, if_neg h64, if_neg (by simp [hc])])
          have HC := Lib.hid hc
          have hu2 : 66 - (out ++ [(PK.rdT s a').1]).length = u := by rw [List.length_append, List.length_singleton]; omega
          have Hu2 := Lib.hid hu2
          clear he e1 heq hu hc hu2
          go_wp2_with fail
          refine D1.out.mono ?_
          rintro e w1 ⟨rfl, b1⟩
          have G1 : Hid (Gr r w w1) := Lib.hid (hgr.out.trans (Gr.of_below b1))
          have D2 := Lib.hid (C1.out a' w1 G1.out (hrd.out.below b1))
          have O1 := Lib.hid (own_below hown.out b1)
          clear b1 D1 hgr hrd hown
          go_wp2_with fail
          refine D2.out.mono ?_
          rintro e w2 hR
          obtain ⟨rfl, r2, g2⟩ := hR.1 HC.out
          have G2 : Hid (Gr r w w2) := Lib.hid (G1.out.trans g2)
          have o2 := own_gr O1.out g2 (row_ne O1.out hlt)
          obtain ⟨v5, w5, hr5, hown5, hgr5, hb5⟩ := app1 Tryz.underlying22 Hi.out Hz0.out Hz1.out Hz2.out rfl (by omega) (by omega) w.heap.size (.slice A out.length cap) out.length _ w2 o2 (by have := G2.out.size; omega) #[.string (PK.rdT s a').1] rfl (by simp [Value.oneCell']) (by omega)
          have R5 : Hid (RdAt r s (PK.rdT s a').2.1 w5) := Lib.hid ((hb5.block r hlt).trans r2)
          have G5 : Hid (Gr r w w5) := Lib.hid ⟨hb5.os.trans G2.out.os, hb5.tape.trans G2.out.tape, hb5.output.trans G2.out.output, Nat.le_trans G2.out.size hb5.size, fun i hi hne => (hb5.block i hi).trans (G2.out.block i hi hne)⟩
          have hl5 : (out ++ [(PK.rdT s a').1]).length = out.length + 1 := by rw [List.length_append, List.length_singleton]
          have O5 : Hid (w5.ownsRow w.heap.size 9 1 v5 (out ++ [(PK.rdT s a').1]).length (flatT (out ++ [(PK.rdT s a').1]))) := Lib.hid (by rw [hl5, flatT_snoc]; simpa using hown5)
          obtain ⟨A5, c5, hv5⟩ := own_form hown5
          subst hv5
          have Hl5 := Lib.hid hl5
          clear hR r2 g2 o2 D2 O1 hown5 hgr5 hb5 hl5 C1 CE
          go_wp2_with (at_builtin; refine wpList_run (by rfl) (.tmp 13) (.tmp 16) _ _ (by rfl) (by rfl) (by rfl) hr5 ?_; clear hr5)
          go_roundw
          case rel => exact ⟨_, out ++ [(PK.rdT s a').1], by rw [Hl5.out]; omega, ⟨A5, c5, by rw [Hl5.out]⟩, R5, G5, O5, Lib.hid (by rw [Hu2.out]; exact E.out)⟩
          case measure => simp [slLen]; omega
        · have E : Hid (X = ([], 0, (PK.rdT s a').2.2)) := Lib.hid (by rw [HX.out, ← heq.out, PK.lst, if_neg he, if_neg h64, if_pos hc])
          have HC := Lib.hid hc
          clear he e1 heq hu hc
          go_wp2_with fail
          refine D1.out.mono ?_
          rintro e w1 ⟨rfl, b1⟩
          have G1 : Hid (Gr r w w1) := Lib.hid (hgr.out.trans (Gr.of_below b1))
          have D2 := Lib.hid (C1.out a' w1 G1.out (hrd.out.below b1))
          clear b1 D1
          go_wp2_with fail
          refine D2.out.mono ?_
          rintro e w2 hR
          obtain ⟨rfl, g2⟩ := hR.2 HC.out
          exact ⟨rfl, by rw [E.out]; exact ⟨fun h => absurd h HC.out, fun _ => ⟨rfl, G1.out.trans g2⟩⟩⟩

set_option maxRecDepth 100000 in
set_option maxHeartbeats 4000000 in
theorem rlistc_any (r : Nat) (s : ByteArray) (a : Int) (w : World) (h : RdAt r s a w) (hs : s.size ≤ 140737488351232) :
    Calls Tryz.prog 96 #[.pointer (some ⟨r, 0, none⟩), .func (.func 88) #[.pointer (some ⟨r, 0, none⟩)] #[]] w (LsP 30 1 flatC r s w (PK.lst (PK.rdC s) s.size 66 a [])) := by
  have C1 : Hid (∀ a W, Gr r w W → RdAt r s a W → Calls Tryz.prog 88 #[.pointer (some ⟨r, 0, none⟩)] W (RdP r s W (.int .u8 (PK.rdC s a).1) (PK.rdC s a).2.1 (PK.rdC s a).2.2)) := fun a W _ hW => rreason_any r s a W hW hs
  have CE : Hid (∀ a W, RdAt r s a W → Calls Tryz.prog 66 #[.pointer (some ⟨r, 0, none⟩)] W fun e w' => e = .returned (.bool (a == (s.size : Int))) ∧ Below W.heap.size W w') := fun a W hW => ended_any r s a W hW
  have CL := Lib.hid leave_any
  have H0 := Lib.hid h
  have hlt := lt_heap h
  obtain ⟨i0, hi0, hz0, hz1, hz2⟩ := info_parts cInfo
  have Hi := Lib.hid hi0; have Hz0 := Lib.hid hz0; have Hz1 := Lib.hid hz1; have Hz2 := Lib.hid hz2
  obtain ⟨X, hX⟩ : ∃ X, X = PK.lst (PK.rdC s) s.size 66 a [] := ⟨_, rfl⟩
  rw [← hX]
  have HX := Lib.hid hX
  clear h hX hi0 hz0 hz1 hz2
  go_enter Tryz.func96, Tryz.ntmps96
  go_wp2_with fail
  go_loopw [5] (fun lv wr => ∃ (a' : Int) (out : List Int), out.length ≤ 64 ∧ (∃ A cap, lv = .slice A out.length cap) ∧ Hid (RdAt r s a' wr) ∧ Hid (Gr r w wr) ∧ Hid (wr.ownsRow w.heap.size 30 1 lv out.length (flatC out)) ∧ Hid (PK.lst (PK.rdC s) s.size (66 - out.length) a' out = PK.lst (PK.rdC s) s.size 66 a [])) (fun lv _ => 66 - slLen lv)
  case atStart => exact ⟨a, [], by simp, ⟨none, 0, rfl⟩, H0, Lib.hid (Gr.refl _ _), Lib.hid (own_nil _ _ _ _), Lib.hid rfl⟩
  case round =>
    obtain ⟨a', out, hol, ⟨A, cap, rfl⟩, hrd, hgr, hown, heq⟩ := hrel
    obtain ⟨u, hu⟩ : ∃ u, 66 - out.length = u + 1 := ⟨65 - out.length, by omega⟩
    rw [hu] at heq
    have D1 := Lib.hid (CE.out a' wr hrd.out)
    by_cases he : a' = (s.size : Int)
    · have e1 : (a' == (s.size : Int)) = true := by simp [he]
      rw [e1] at D1
      by_cases ho : out = []
      · have E : Hid (X = ([], 0, 130)) := Lib.hid (by rw [HX.out, ← heq.out, PK.lst, if_pos he, if_pos ho])
        have i0 : ((out.length : Int) == 0) = true := by rw [ho]; rfl
        clear he e1 ho heq hu
        go_wp2_with fail
        refine D1.out.mono ?_
        rintro e w1 ⟨rfl, b1⟩
        have G1 : Hid (Gr r w w1) := Lib.hid (hgr.out.trans (Gr.of_below b1))
        clear b1 D1
        go_wp2_with fail
        refine (CL.out _ _).mono ?_
        rintro e w' ⟨rfl, rfl⟩
        exact ⟨rfl, by rw [E.out]; exact ⟨fun h => absurd h (by decide), fun _ => ⟨rfl, G1.out⟩⟩⟩
      · have hlp : 0 < out.length := List.length_pos_iff.2 ho
        have E : Hid (X = (out, a', 0)) := Lib.hid (by rw [HX.out, ← heq.out, PK.lst, if_pos he, if_neg ho])
        have i0 : ((out.length : Int) == 0) = false := by rw [beq_eq_false_iff_ne]; omega
        clear he e1 ho heq hu
        go_wp2_with fail
        refine D1.out.mono ?_
        rintro e w1 ⟨rfl, b1⟩
        have G1 : Hid (Gr r w w1) := Lib.hid (hgr.out.trans (Gr.of_below b1))
        have R1 := Lib.hid (hrd.out.below b1)
        have O1 := Lib.hid (own_below hown.out b1)
        clear b1 D1
        go_wp2
        go_ret
        rw [E.out]
        exact ⟨fun _ => ⟨_, rfl, O1.out, R1.out, G1.out⟩, fun h => absurd rfl h⟩
    · have e1 : (a' == (s.size : Int)) = false := by rw [beq_eq_false_iff_ne]; exact he
      rw [e1] at D1
      by_cases h64 : out.length = 64
      · have E : Hid (X = ([], 0, 149)) := Lib.hid (by rw [HX.out, ← heq.out, PK.lst, if_neg he, if_pos h64])
        have i0 : ((out.length : Int) == 64) = true := by rw [h64]; rfl
        clear he e1 h64 heq hu
        go_wp2_with fail
        refine D1.out.mono ?_
        rintro e w1 ⟨rfl, b1⟩
        have G1 : Hid (Gr r w w1) := Lib.hid (hgr.out.trans (Gr.of_below b1))
        clear b1 D1
        go_wp2_with fail
        refine (CL.out _ _).mono ?_
        rintro e w' ⟨rfl, rfl⟩
        exact ⟨rfl, by rw [E.out]; exact ⟨fun h => absurd h (by decide), fun _ => ⟨rfl, G1.out⟩⟩⟩
      · have i0 : ((out.length : Int) == 64) = false := by rw [beq_eq_false_iff_ne]; omega
        by_cases hc : (PK.rdC s a').2.2 = 0
        · have E : Hid (PK.lst (PK.rdC s) s.size u (PK.rdC s a').2.1 (out ++ [(PK.rdC s a').1]) = PK.lst (PK.rdC s) s.size 66 a []) := Lib.hid (by rw [← heq.out, PK.lst, if_neg he, if_neg h64, if_neg (by simp [hc])])
          have HC := Lib.hid hc
          have hu2 : 66 - (out ++ [(PK.rdC s a').1]).length = u := by rw [List.length_append, List.length_singleton]; omega
          have Hu2 := Lib.hid hu2
          clear he e1 heq hu hc hu2
          go_wp2_with fail
          refine D1.out.mono ?_
          rintro e w1 ⟨rfl, b1⟩
          have G1 : Hid (Gr r w w1) := Lib.hid (hgr.out.trans (Gr.of_below b1))
          have D2 := Lib.hid (C1.out a' w1 G1.out (hrd.out.below b1))
          have O1 := Lib.hid (own_below hown.out b1)
          clear b1 D1 hgr hrd hown
          go_wp2_with fail
          refine D2.out.mono ?_
          rintro e w2 hR
          obtain ⟨rfl, r2, g2⟩ := hR.1 HC.out
          have G2 : Hid (Gr r w w2) := Lib.hid (G1.out.trans g2)
          have o2 := own_gr O1.out g2 (row_ne O1.out hlt)
          obtain ⟨v5, w5, hr5, hown5, hgr5, hb5⟩ := app1 Tryz.underlying39 Hi.out Hz0.out Hz1.out Hz2.out rfl (by omega) (by omega) w.heap.size (.slice A out.length cap) out.length _ w2 o2 (by have := G2.out.size; omega) #[.int .u8 (PK.rdC s a').1] rfl (by simp [Value.oneCell']) (by omega)
          have R5 : Hid (RdAt r s (PK.rdC s a').2.1 w5) := Lib.hid ((hb5.block r hlt).trans r2)
          have G5 : Hid (Gr r w w5) := Lib.hid ⟨hb5.os.trans G2.out.os, hb5.tape.trans G2.out.tape, hb5.output.trans G2.out.output, Nat.le_trans G2.out.size hb5.size, fun i hi hne => (hb5.block i hi).trans (G2.out.block i hi hne)⟩
          have hl5 : (out ++ [(PK.rdC s a').1]).length = out.length + 1 := by rw [List.length_append, List.length_singleton]
          have O5 : Hid (w5.ownsRow w.heap.size 30 1 v5 (out ++ [(PK.rdC s a').1]).length (flatC (out ++ [(PK.rdC s a').1]))) := Lib.hid (by rw [hl5, flatC_snoc]; simpa using hown5)
          obtain ⟨A5, c5, hv5⟩ := own_form hown5
          subst hv5
          have Hl5 := Lib.hid hl5
          clear hR r2 g2 o2 D2 O1 hown5 hgr5 hb5 hl5 C1 CE
          go_wp2_with (at_builtin; refine wpList_run (by rfl) (.tmp 13) (.tmp 16) _ _ (by rfl) (by rfl) (by rfl) hr5 ?_; clear hr5)
          go_roundw
          case rel => exact ⟨_, out ++ [(PK.rdC s a').1], by rw [Hl5.out]; omega, ⟨A5, c5, by rw [Hl5.out]⟩, R5, G5, O5, Lib.hid (by rw [Hu2.out]; exact E.out)⟩
          case measure => simp [slLen]; omega
        · have E : Hid (X = ([], 0, (PK.rdC s a').2.2)) := Lib.hid (by rw [HX.out, ← heq.out, PK.lst, if_neg he, if_neg h64, if_pos hc])
          have HC := Lib.hid hc
          clear he e1 heq hu hc
          go_wp2_with fail
          refine D1.out.mono ?_
          rintro e w1 ⟨rfl, b1⟩
          have G1 : Hid (Gr r w w1) := Lib.hid (hgr.out.trans (Gr.of_below b1))
          have D2 := Lib.hid (C1.out a' w1 G1.out (hrd.out.below b1))
          clear b1 D1
          go_wp2_with fail
          refine D2.out.mono ?_
          rintro e w2 hR
          obtain ⟨rfl, g2⟩ := hR.2 HC.out
          exact ⟨rfl, by rw [E.out]; exact ⟨fun h => absurd h HC.out, fun _ => ⟨rfl, G1.out.trans g2⟩⟩⟩

set_option maxRecDepth 100000 in
set_option maxHeartbeats 4000000 in
theorem rlists_any (r : Nat) (s : ByteArray) (a : Int) (w : World) (h : RdAt r s a w) (hs : s.size ≤ 140737488351232) (hT : ∀ W, Gr r w W → Tabs W) :
    Calls Tryz.prog 92 #[.pointer (some ⟨r, 0, none⟩), .func (.func 93) #[.pointer (some ⟨r, 0, none⟩)] #[]] w (LsP 61 5 flatB r s w (PK.lst (PK.rdSub s) s.size 66 a [])) := by
  have C1 : Hid (∀ a W, Gr r w W → RdAt r s a W → Calls Tryz.prog 93 #[.pointer (some ⟨r, 0, none⟩)] W (RdP r s W (.agg #[.string (PK.rdSub s a).1.f, .int .i64 (PK.rdSub s a).1.q, .bool (PK.rdSub s a).1.nl, .bool (PK.rdSub s a).1.ap, .int .i64 (PK.rdSub s a).1.h]) (PK.rdSub s a).2.1 (PK.rdSub s a).2.2)) := fun a W hg hW => rsub_any r s a W hW hs (hT W hg)
  have CE : Hid (∀ a W, RdAt r s a W → Calls Tryz.prog 66 #[.pointer (some ⟨r, 0, none⟩)] W fun e w' => e = .returned (.bool (a == (s.size : Int))) ∧ Below W.heap.size W w') := fun a W hW => ended_any r s a W hW
  have CL := Lib.hid leave_any
  have H0 := Lib.hid h
  have hlt := lt_heap h
  obtain ⟨i0, hi0, hz0, hz1, hz2⟩ := info_parts sbInfo
  have Hi := Lib.hid hi0; have Hz0 := Lib.hid hz0; have Hz1 := Lib.hid hz1; have Hz2 := Lib.hid hz2
  obtain ⟨X, hX⟩ : ∃ X, X = PK.lst (PK.rdSub s) s.size 66 a [] := ⟨_, rfl⟩
  rw [← hX]
  have HX := Lib.hid hX
  clear h hT hX hi0 hz0 hz1 hz2
  go_enter Tryz.func92, Tryz.ntmps92
  go_wp2_with fail
  go_loopw [5] (fun lv wr => ∃ (a' : Int) (out : List Sb), out.length ≤ 64 ∧ (∃ A cap, lv = .slice A out.length cap) ∧ Hid (RdAt r s a' wr) ∧ Hid (Gr r w wr) ∧ Hid (wr.ownsRow w.heap.size 61 5 lv out.length (flatB out)) ∧ Hid (PK.lst (PK.rdSub s) s.size (66 - out.length) a' out = PK.lst (PK.rdSub s) s.size 66 a [])) (fun lv _ => 66 - slLen lv)
  case atStart => exact ⟨a, [], by simp, ⟨none, 0, rfl⟩, H0, Lib.hid (Gr.refl _ _), Lib.hid (own_nil _ _ _ _), Lib.hid rfl⟩
  case round =>
    obtain ⟨a', out, hol, ⟨A, cap, rfl⟩, hrd, hgr, hown, heq⟩ := hrel
    obtain ⟨u, hu⟩ : ∃ u, 66 - out.length = u + 1 := ⟨65 - out.length, by omega⟩
    rw [hu] at heq
    have D1 := Lib.hid (CE.out a' wr hrd.out)
    by_cases he : a' = (s.size : Int)
    · have e1 : (a' == (s.size : Int)) = true := by simp [he]
      rw [e1] at D1
      by_cases ho : out = []
      · have E : Hid (X = ([], 0, 130)) := Lib.hid (by rw [HX.out, ← heq.out, PK.lst, if_pos he, if_pos ho])
        have i0 : ((out.length : Int) == 0) = true := by rw [ho]; rfl
        clear he e1 ho heq hu
        go_wp2_with fail
        refine D1.out.mono ?_
        rintro e w1 ⟨rfl, b1⟩
        have G1 : Hid (Gr r w w1) := Lib.hid (hgr.out.trans (Gr.of_below b1))
        clear b1 D1
        go_wp2_with fail
        refine (CL.out _ _).mono ?_
        rintro e w' ⟨rfl, rfl⟩
        exact ⟨rfl, by rw [E.out]; exact ⟨fun h => absurd h (by decide), fun _ => ⟨rfl, G1.out⟩⟩⟩
      · have hlp : 0 < out.length := List.length_pos_iff.2 ho
        have E : Hid (X = (out, a', 0)) := Lib.hid (by rw [HX.out, ← heq.out, PK.lst, if_pos he, if_neg ho])
        have i0 : ((out.length : Int) == 0) = false := by rw [beq_eq_false_iff_ne]; omega
        clear he e1 ho heq hu
        go_wp2_with fail
        refine D1.out.mono ?_
        rintro e w1 ⟨rfl, b1⟩
        have G1 : Hid (Gr r w w1) := Lib.hid (hgr.out.trans (Gr.of_below b1))
        have R1 := Lib.hid (hrd.out.below b1)
        have O1 := Lib.hid (own_below hown.out b1)
        clear b1 D1
        go_wp2
        go_ret
        rw [E.out]
        exact ⟨fun _ => ⟨_, rfl, O1.out, R1.out, G1.out⟩, fun h => absurd rfl h⟩
    · have e1 : (a' == (s.size : Int)) = false := by rw [beq_eq_false_iff_ne]; exact he
      rw [e1] at D1
      by_cases h64 : out.length = 64
      · have E : Hid (X = ([], 0, 149)) := Lib.hid (by rw [HX.out, ← heq.out, PK.lst, if_neg he, if_pos h64])
        have i0 : ((out.length : Int) == 64) = true := by rw [h64]; rfl
        clear he e1 h64 heq hu
        go_wp2_with fail
        refine D1.out.mono ?_
        rintro e w1 ⟨rfl, b1⟩
        have G1 : Hid (Gr r w w1) := Lib.hid (hgr.out.trans (Gr.of_below b1))
        clear b1 D1
        go_wp2_with fail
        refine (CL.out _ _).mono ?_
        rintro e w' ⟨rfl, rfl⟩
        exact ⟨rfl, by rw [E.out]; exact ⟨fun h => absurd h (by decide), fun _ => ⟨rfl, G1.out⟩⟩⟩
      · have i0 : ((out.length : Int) == 64) = false := by rw [beq_eq_false_iff_ne]; omega
        by_cases hc : (PK.rdSub s a').2.2 = 0
        · have E : Hid (PK.lst (PK.rdSub s) s.size u (PK.rdSub s a').2.1 (out ++ [(PK.rdSub s a').1]) = PK.lst (PK.rdSub s) s.size 66 a []) := Lib.hid (by rw [← heq.out, PK.lst, if_neg he, if_neg h64, if_neg (by simp [hc])])
          have HC := Lib.hid hc
          have hu2 : 66 - (out ++ [(PK.rdSub s a').1]).length = u := by rw [List.length_append, List.length_singleton]; omega
          have Hu2 := Lib.hid hu2
          clear he e1 heq hu hc hu2
          go_wp2_with fail
          refine D1.out.mono ?_
          rintro e w1 ⟨rfl, b1⟩
          have G1 : Hid (Gr r w w1) := Lib.hid (hgr.out.trans (Gr.of_below b1))
          have D2 := Lib.hid (C1.out a' w1 G1.out (hrd.out.below b1))
          have O1 := Lib.hid (own_below hown.out b1)
          clear b1 D1 hgr hrd hown
          go_wp2_with fail
          refine D2.out.mono ?_
          rintro e w2 hR
          obtain ⟨rfl, r2, g2⟩ := hR.1 HC.out
          have G2 : Hid (Gr r w w2) := Lib.hid (G1.out.trans g2)
          have o2 := own_gr O1.out g2 (row_ne O1.out hlt)
          obtain ⟨v5, w5, hr5, hown5, hgr5, hb5⟩ := app1 Tryz.underlying43 Hi.out Hz0.out Hz1.out Hz2.out rfl (by omega) (by omega) w.heap.size (.slice A out.length cap) out.length _ w2 o2 (by have := G2.out.size; omega) #[.string (PK.rdSub s a').1.f, .int .i64 (PK.rdSub s a').1.q, .bool (PK.rdSub s a').1.nl, .bool (PK.rdSub s a').1.ap, .int .i64 (PK.rdSub s a').1.h] rfl (by simp [Value.oneCell']) (by omega)
          have R5 : Hid (RdAt r s (PK.rdSub s a').2.1 w5) := Lib.hid ((hb5.block r hlt).trans r2)
          have G5 : Hid (Gr r w w5) := Lib.hid ⟨hb5.os.trans G2.out.os, hb5.tape.trans G2.out.tape, hb5.output.trans G2.out.output, Nat.le_trans G2.out.size hb5.size, fun i hi hne => (hb5.block i hi).trans (G2.out.block i hi hne)⟩
          have hl5 : (out ++ [(PK.rdSub s a').1]).length = out.length + 1 := by rw [List.length_append, List.length_singleton]
          have O5 : Hid (w5.ownsRow w.heap.size 61 5 v5 (out ++ [(PK.rdSub s a').1]).length (flatB (out ++ [(PK.rdSub s a').1]))) := Lib.hid (by rw [hl5, flatB_snoc]; simpa using hown5)
          obtain ⟨A5, c5, hv5⟩ := own_form hown5
          subst hv5
          have Hl5 := Lib.hid hl5
          clear hR r2 g2 o2 D2 O1 hown5 hgr5 hb5 hl5 C1 CE
          go_wp2_with (at_builtin; refine wpList_run (by rfl) (.tmp 13) (.tmp 16) _ _ (by rfl) (by rfl) (by rfl) hr5 ?_; clear hr5)
          go_roundw
          case rel => exact ⟨_, out ++ [(PK.rdSub s a').1], by rw [Hl5.out]; omega, ⟨A5, c5, by rw [Hl5.out]⟩, R5, G5, O5, Lib.hid (by rw [Hu2.out]; exact E.out)⟩
          case measure => simp [slLen]; omega
        · have E : Hid (X = ([], 0, (PK.rdSub s a').2.2)) := Lib.hid (by rw [HX.out, ← heq.out, PK.lst, if_neg he, if_neg h64, if_pos hc])
          have HC := Lib.hid hc
          clear he e1 heq hu hc
          go_wp2_with fail
          refine D1.out.mono ?_
          rintro e w1 ⟨rfl, b1⟩
          have G1 : Hid (Gr r w w1) := Lib.hid (hgr.out.trans (Gr.of_below b1))
          have D2 := Lib.hid (C1.out a' w1 G1.out (hrd.out.below b1))
          clear b1 D1
          go_wp2_with fail
          refine D2.out.mono ?_
          rintro e w2 hR
          obtain ⟨rfl, g2⟩ := hR.2 HC.out
          exact ⟨rfl, by rw [E.out]; exact ⟨fun h => absurd h HC.out, fun _ => ⟨rfl, G1.out.trans g2⟩⟩⟩
end Go.Proofs.YtemfcaaoobjgkaaGreatDoor
namespace Go.Proofs.YtemfcaaoobjgkaaGreatDoor
open Go.RowKit

/-- All but the reader's block and the packet's stands. -/
structure G2 (r p : Nat) (w w' : World) : Prop where
  os : w'.os = w.os
  tape : w'.tape = w.tape
  output : w'.output = w.output
  size : w.heap.size ≤ w'.heap.size
  block : ∀ i, i < w.heap.size → i ≠ r → i ≠ p → w'.heap[i]? = w.heap[i]?
theorem G2.refl (r p : Nat) (w : World) : G2 r p w w := ⟨rfl, rfl, rfl, Nat.le_refl _, fun _ _ _ _ => rfl⟩
theorem G2.trans {r p : Nat} {w1 w2 w3 : World} (h : G2 r p w1 w2) (k : G2 r p w2 w3) : G2 r p w1 w3 :=
  ⟨k.os.trans h.os, k.tape.trans h.tape, k.output.trans h.output, Nat.le_trans h.size k.size, fun i hi h1 h2 => (k.block i (Nat.lt_of_lt_of_le hi h.size) h1 h2).trans (h.block i hi h1 h2)⟩
theorem G2.of_gr {r p : Nat} {w w' : World} (h : Gr r w w') : G2 r p w w' := ⟨h.os, h.tape, h.output, h.size, fun i hi h1 _ => h.block i hi (fun e => h1 (by injection e))⟩
theorem G2.setCell {r p : Nat} {w w' : World} (h : G2 r p w w') (j : Nat) (u : Value) : G2 r p w (w'.setCell ⟨p, j, none⟩ u) :=
  ⟨h.os, h.tape, h.output, by simp [World.setCell]; exact h.size, fun i hi h1 h2 => (Below.heap_setCell _ _ _ _ (fun e => h2 (by simpa using e))).trans (h.block i hi h1 h2)⟩
/-- The packet that is read, in block p. -/
def PbAt (p : Nat) (P : Pk) (vc vp vw vs vf : Value) (w : World) : Prop := w.heap[p]? = some (.cells (pkCells P vc vp vw vs vf) 45 (0, 0))
theorem PbAt.gr {r p : Nat} {P : Pk} {vc vp vw vs vf : Value} {w w' : World} (h : PbAt p P vc vp vw vs vf w) (hg : Gr r w w') (hne : p ≠ r) : PbAt p P vc vp vw vs vf w' := hg.kept hne h
namespace PK
/-- An identifier and properties. -/
def rdHd (s : ByteArray) (a k : Int) : (Int × List Pr) × Int × Int := (((rdId s a).1, (rdPr s (rdId s a).2.1 k).1), (rdPr s (rdId s a).2.1 k).2.1, thn (rdId s a).2.2 (rdPr s (rdId s a).2.1 k).2.2)
end PK
/-- What the reader's head answers. -/
def HdP (r p : Nat) (s : ByteArray) (P : Pk) (vc vw vs vf : Value) (w : World) (X : (Int × List Pr) × Int × Int) (e : Ending) (w' : World) : Prop :=
  (X.2.2 = 0 → ∃ v, e = .returned (.tuple #[]) ∧ w'.ownsRow w.heap.size 116 4 v X.1.2.length (flatP X.1.2) ∧ RdAt r s X.2.1 w' ∧ PbAt p { P with id := X.1.1, props := X.1.2 } vc v vw vs vf w' ∧ G2 r p w w') ∧ (X.2.2 ≠ 0 → e = leftBy X.2.2 ∧ G2 r p w w')

set_option maxRecDepth 100000 in
set_option maxHeartbeats 4000000 in
theorem rhead_any (r p : Nat) (s : ByteArray) (a : Int) (P : Pk) (vc vp vw vs vf : Value) (w : World) (h : RdAt r s a w) (hp : PbAt p P vc vp vw vs vf w) (hs : s.size ≤ 140737488351232) (hT : ∀ W, G2 r p w W → Tabs W) (hrp : r ≠ p) :
    Calls Tryz.prog 91 #[.pointer (some ⟨r, 0, none⟩), .pointer (some ⟨p, 0, none⟩)] w (HdP r p s P vc vw vs vf w (PK.rdHd s a P.kind)) := by
  have C1 := Lib.hid (rid_any r s a w h hs)
  have C2 : Hid (∀ a W, G2 r p w W → RdAt r s a W → Calls Tryz.prog 89 #[.pointer (some ⟨r, 0, none⟩), .int .i64 P.kind] W (RdPP r s W (PK.rdPr s a P.kind).1 (PK.rdPr s a P.kind).2.1 (PK.rdPr s a P.kind).2.2)) := fun a W hg hW => rprops_any r s a P.kind W hW hs (hT W hg)
  have HP := Lib.hid hp
  have hlr := lt_heap h
  have hlp := lt_heap hp
  have hpr : p ≠ r := fun e => hrp e.symm
  unfold PK.rdHd
  generalize PK.rdId s a = X at *
  obtain ⟨n, a1, c1⟩ := X
  simp only at C1 ⊢
  have D2 := C2.out a1
  generalize PK.rdPr s a1 P.kind = Y at *
  obtain ⟨l, a2, c2⟩ := Y
  simp only at D2 ⊢
  have HD2 := Lib.hid D2
  obtain ⟨TC, hTC⟩ : ∃ t, t = PK.thn c1 c2 := ⟨_, rfl⟩
  rw [← hTC]
  have HTC := Lib.hid hTC
  clear hTC D2 C2 h hp hT
  by_cases h1 : c1 = 0
  · have H1 := Lib.hid h1
    go_enter Tryz.func91, Tryz.ntmps91
    clear h1
    go_wp2_with fail
    refine C1.out.mono ?_
    rintro e w1 hR
    obtain ⟨rfl, r1, g1⟩ := hR.1 H1.out
    have p1 := HP.out.gr g1 hpr
    have z4 : w1.cell? ⟨p, 4, none⟩ = some (.int .i64 P.id) := by rw [cell_heap p1]; rfl
    have f4 : w1.frozen? ⟨p, 4, none⟩ = false := frozen_heap p1
    have z0 : w1.cell? ⟨p, 0, none⟩ = some (.int .i64 P.kind) := by rw [cell_heap p1]; rfl
    have P2 : Hid (PbAt p { P with id := n } vc vp vw vs vf (w1.setCell ⟨p, 4, none⟩ (.int .i64 n))) := Lib.hid (set_block p1 rfl)
    have R2 : RdAt r s a1 (w1.setCell ⟨p, 4, none⟩ (.int .i64 n)) := r1.setOther hrp _ _
    have G2' : G2 r p w (w1.setCell ⟨p, 4, none⟩ (.int .i64 n)) := (G2.of_gr g1).setCell 4 _
    have E2 := Lib.hid (HD2.out _ G2' R2)
    have HG2 := Lib.hid G2'
    clear hR r1 g1 C1 HD2 p1 R2 G2'
    go_wp2_with fail
    refine E2.out.mono ?_
    rintro e w2 hR
    by_cases h2 : c2 = 0
    · obtain ⟨v, rfl, o2, r2, g2⟩ := hR.1 h2
      have E : Hid (TC = 0) := Lib.hid (by rw [HTC.out, PK.thn_ok H1.out, h2])
      have p2 := P2.out.gr g2 hpr
      have z9 : w2.cell? ⟨p, 9, none⟩ = some vp := by rw [cell_heap p2]; rfl
      have f9 : w2.frozen? ⟨p, 9, none⟩ = false := frozen_heap p2
      obtain ⟨A, cap, rfl⟩ := own_form o2
      have hsz : w.heap.size ≤ (w1.setCell ⟨p, 4, none⟩ (.int .i64 n)).heap.size := HG2.out.size
      have o3 : w2.ownsRow w.heap.size 116 4 (.slice A l.length cap) l.length (flatP l) := own_base' o2 hsz
      have O4 : Hid ((w2.setCell ⟨p, 9, none⟩ (.slice A l.length cap)).ownsRow w.heap.size 116 4 (.slice A l.length cap) l.length (flatP l)) := Lib.hid (own_set o3 (row_ne o3 hlp))
      have P4 : Hid (PbAt p { P with id := n, props := l } vc (.slice A l.length cap) vw vs vf (w2.setCell ⟨p, 9, none⟩ (.slice A l.length cap))) := Lib.hid (set_block p2 rfl)
      have R4 : Hid (RdAt r s a2 (w2.setCell ⟨p, 9, none⟩ (.slice A l.length cap))) := Lib.hid (r2.setOther hrp _ _)
      have G4 : Hid (G2 r p w (w2.setCell ⟨p, 9, none⟩ (.slice A l.length cap))) := Lib.hid ((HG2.out.trans (G2.of_gr g2)).setCell 9 _)
      clear hR o2 r2 g2 p2 o3 E2 h2 HTC
      go_wp2
      go_end0
      exact ⟨fun _ => ⟨_, rfl, O4.out, R4.out, P4.out, G4.out⟩, fun h => absurd E.out h⟩
    · obtain ⟨rfl, g2⟩ := hR.2 h2
      have E : TC = c2 := by rw [HTC.out, PK.thn_ok H1.out]
      exact ⟨rfl, fun h => absurd (E.symm.trans h) h2, fun _ => ⟨by rw [E]; rfl, HG2.out.trans (G2.of_gr g2)⟩⟩
  · have E : Hid (TC = c1) := Lib.hid (by rw [HTC.out, PK.thn_bad h1])
    have H1 := Lib.hid h1
    clear h1 HTC
    go_enter Tryz.func91, Tryz.ntmps91
    go_wp2_with fail
    refine C1.out.mono ?_
    rintro e w1 hR
    obtain ⟨rfl, g1⟩ := hR.2 H1.out
    exact ⟨rfl, fun h => absurd (E.out.symm.trans h) H1.out, fun _ => ⟨by rw [E.out]; rfl, G2.of_gr g1⟩⟩
end Go.Proofs.YtemfcaaoobjgkaaGreatDoor
namespace Go.Proofs.YtemfcaaoobjgkaaGreatDoor
open Go.RowKit

namespace PK
/-- A code and properties, as far as they stand there. -/
def rdEnd (s : ByteArray) (a k : Int) : (Int × List Pr) × Int × Int :=
  if a = (s.size : Int) then ((0, []), a, 0)
  else if (rdC s a).2.2 ≠ 0 then ((0, []), 0, (rdC s a).2.2)
  else if (rdC s a).2.1 = (s.size : Int) then (((rdC s a).1, []), (rdC s a).2.1, 0)
  else (((rdC s a).1, (rdPr s (rdC s a).2.1 k).1), (rdPr s (rdC s a).2.1 k).2.1, (rdPr s (rdC s a).2.1 k).2.2)
end PK
/-- What the reader's ending answers. -/
def EdP (r p : Nat) (s : ByteArray) (P : Pk) (vc vw vs vf : Value) (w : World) (X : (Int × List Pr) × Int × Int) (e : Ending) (w' : World) : Prop :=
  (X.2.2 = 0 → ∃ v, e = .returned (.tuple #[]) ∧ w'.ownsRow w.heap.size 116 4 v X.1.2.length (flatP X.1.2) ∧ RdAt r s X.2.1 w' ∧ PbAt p { P with code := X.1.1, props := X.1.2 } vc v vw vs vf w' ∧ G2 r p w w') ∧ (X.2.2 ≠ 0 → e = leftBy X.2.2 ∧ G2 r p w w')

set_option maxRecDepth 100000 in
set_option maxHeartbeats 4000000 in
theorem rending_any (r p : Nat) (s : ByteArray) (a : Int) (P : Pk) (vc vw vs vf : Value) (w : World) (h : RdAt r s a w) (hp : PbAt p P vc (.slice none 0 0) vw vs vf w) (hc0 : P.code = 0) (hl0 : P.props = []) (hs : s.size ≤ 140737488351232) (hT : ∀ W, G2 r p w W → Tabs W) (hrp : r ≠ p) :
    Calls Tryz.prog 98 #[.pointer (some ⟨r, 0, none⟩), .pointer (some ⟨p, 0, none⟩)] w (EdP r p s P vc vw vs vf w (PK.rdEnd s a P.kind)) := by
  have CE : Hid (∀ a W, RdAt r s a W → Calls Tryz.prog 66 #[.pointer (some ⟨r, 0, none⟩)] W fun e w' => e = .returned (.bool (a == (s.size : Int))) ∧ Below W.heap.size W w') := fun a W hW => ended_any r s a W hW
  have C1 : Hid (∀ W, RdAt r s a W → Calls Tryz.prog 88 #[.pointer (some ⟨r, 0, none⟩)] W (RdP r s W (.int .u8 (PK.rdC s a).1) (PK.rdC s a).2.1 (PK.rdC s a).2.2)) := fun W hW => rreason_any r s a W hW hs
  have C2 : Hid (∀ a W, G2 r p w W → RdAt r s a W → Calls Tryz.prog 89 #[.pointer (some ⟨r, 0, none⟩), .int .i64 P.kind] W (RdPP r s W (PK.rdPr s a P.kind).1 (PK.rdPr s a P.kind).2.1 (PK.rdPr s a P.kind).2.2)) := fun a W hg hW => rprops_any r s a P.kind W hW hs (hT W hg)
  have HP := Lib.hid hp
  have HRd := Lib.hid h
  have hlr := lt_heap h
  have hlp := lt_heap hp
  have hpr : p ≠ r := fun e => hrp e.symm
  have D0 := Lib.hid (CE.out a w h)
  obtain ⟨X, hX⟩ : ∃ X, X = PK.rdEnd s a P.kind := ⟨_, rfl⟩
  rw [← hX]
  have HX := Lib.hid hX
  have EP0 : Hid ({ P with code := 0, props := [] } = P) := Lib.hid (by cases P; simp only at hc0 hl0; subst hc0 hl0; rfl)
  have EP1 : Hid (∀ n, { P with code := n, props := [] } = { P with code := n }) := Lib.hid (by intro n; cases P; simp only at hl0; subst hl0; rfl)
  clear h hp hT hX hc0 hl0
  by_cases he : a = (s.size : Int)
  · have e1 : (a == (s.size : Int)) = true := by simp [he]
    have E : Hid (X = ((0, []), a, 0)) := Lib.hid (by rw [HX.out]; unfold PK.rdEnd; rw [if_pos he])
    rw [e1] at D0
    have HE := Lib.hid e1
    clear he e1 C1 C2 HX
    go_enter Tryz.func98, Tryz.ntmps98
    go_wp2_with fail
    refine D0.out.mono ?_
    rintro e w1 ⟨rfl, b1⟩
    have R1 := Lib.hid (HRd.out.below b1)
    have P1 : Hid (PbAt p P vc (.slice none 0 0) vw vs vf w1) := Lib.hid (HP.out.gr (Gr.of_below (r := r) b1) hpr)
    have G1 : Hid (G2 r p w w1) := Lib.hid (G2.of_gr (Gr.of_below b1))
    have D1 := CE.out a w1 R1.out
    rw [HE.out] at D1
    have HD1 := Lib.hid D1
    clear b1 D0 D1 CE
    go_wp2_with fail
    refine HD1.out.mono ?_
    rintro e w2 ⟨rfl, b2⟩
    have R2 := Lib.hid (R1.out.below b2)
    have P2 : Hid (PbAt p P vc (.slice none 0 0) vw vs vf w2) := Lib.hid (P1.out.gr (Gr.of_below (r := r) b2) hpr)
    have G2' : Hid (G2 r p w w2) := Lib.hid (G1.out.trans (G2.of_gr (Gr.of_below b2)))
    clear b2 HD1
    go_wp2
    go_end0
    rw [E.out]
    exact ⟨fun _ => ⟨_, rfl, own_nil _ _ _ _, R2.out, by simp only; rw [EP0.out]; exact P2.out, G2'.out⟩, fun h => absurd rfl h⟩
  · have e1 : (a == (s.size : Int)) = false := by rw [beq_eq_false_iff_ne]; exact he
    rw [e1] at D0
    have HX2 : Hid (X = if (PK.rdC s a).2.2 ≠ 0 then ((0, []), 0, (PK.rdC s a).2.2) else if (PK.rdC s a).2.1 = (s.size : Int) then (((PK.rdC s a).1, []), (PK.rdC s a).2.1, 0) else (((PK.rdC s a).1, (PK.rdPr s (PK.rdC s a).2.1 P.kind).1), (PK.rdPr s (PK.rdC s a).2.1 P.kind).2.1, (PK.rdPr s (PK.rdC s a).2.1 P.kind).2.2)) := Lib.hid (by rw [HX.out]; unfold PK.rdEnd; rw [if_neg he])
    clear he e1 HX
    generalize PK.rdC s a = Y at *
    obtain ⟨n, a1, c1⟩ := Y
    simp only at C1 HX2
    go_enter Tryz.func98, Tryz.ntmps98
    go_wp2_with fail
    refine D0.out.mono ?_
    rintro e w1 ⟨rfl, b1⟩
    have r1 := HRd.out.below b1
    have P1 : Hid (PbAt p P vc (.slice none 0 0) vw vs vf w1) := Lib.hid (HP.out.gr (Gr.of_below (r := r) b1) hpr)
    have G1 : Hid (G2 r p w w1) := Lib.hid (G2.of_gr (Gr.of_below b1))
    have D1 := Lib.hid (C1.out w1 r1)
    clear b1 D0 C1 r1
    go_wp2_with fail
    refine D1.out.mono ?_
    rintro e w2 hR
    by_cases h1 : c1 = 0
    · obtain ⟨rfl, r2, g2⟩ := hR.1 h1
      have p2 := P1.out.gr g2 hpr
      have z7 : w2.cell? ⟨p, 7, none⟩ = some (.int .u8 P.code) := by rw [cell_heap p2]; rfl
      have f7 : w2.frozen? ⟨p, 7, none⟩ = false := frozen_heap p2
      have z0 : w2.cell? ⟨p, 0, none⟩ = some (.int .i64 P.kind) := by rw [cell_heap p2]; rfl
      have P3 : Hid (PbAt p { P with code := n } vc (.slice none 0 0) vw vs vf (w2.setCell ⟨p, 7, none⟩ (.int .u8 n))) := Lib.hid (set_block p2 rfl)
      have r3 : RdAt r s a1 (w2.setCell ⟨p, 7, none⟩ (.int .u8 n)) := r2.setOther hrp _ _
      have G3 : Hid (G2 r p w (w2.setCell ⟨p, 7, none⟩ (.int .u8 n))) := Lib.hid ((G1.out.trans (G2.of_gr g2)).setCell 7 _)
      have D3 := CE.out a1 _ r3
      have R3 := Lib.hid r3
      have H1 := Lib.hid h1
      clear hR r2 g2 p2 D1 r3 CE h1
      by_cases h2 : a1 = (s.size : Int)
      · have e2 : (a1 == (s.size : Int)) = true := by simp [h2]
        have E : Hid (X = ((n, []), a1, 0)) := Lib.hid (by rw [HX2.out, if_neg (by simp [H1.out]), if_pos h2])
        rw [e2] at D3
        have HD3 := Lib.hid D3
        clear D3 e2 h2 HX2 C2
        go_wp2_with fail
        refine HD3.out.mono ?_
        rintro e w4 ⟨rfl, b4⟩
        have R4 := Lib.hid (R3.out.below b4)
        have P4 : Hid (PbAt p { P with code := n } vc (.slice none 0 0) vw vs vf w4) := Lib.hid (P3.out.gr (Gr.of_below (r := r) b4) hpr)
        have G4 : Hid (G2 r p w w4) := Lib.hid (G3.out.trans (G2.of_gr (Gr.of_below b4)))
        clear b4 HD3
        go_wp2
        go_end0
        rw [E.out]
        exact ⟨fun _ => ⟨_, rfl, own_nil _ _ _ _, R4.out, by simp only; rw [EP1.out]; exact P4.out, G4.out⟩, fun h => absurd rfl h⟩
      · have e2 : (a1 == (s.size : Int)) = false := by rw [beq_eq_false_iff_ne]; exact h2
        rw [e2] at D3
        have HD3 := Lib.hid D3
        have E0 : Hid (X = ((n, (PK.rdPr s a1 P.kind).1), (PK.rdPr s a1 P.kind).2.1, (PK.rdPr s a1 P.kind).2.2)) := Lib.hid (by rw [HX2.out, if_neg (by simp [H1.out]), if_neg h2])
        have E2 := C2.out a1
        generalize PK.rdPr s a1 P.kind = Z at *
        obtain ⟨l, a2, c2⟩ := Z
        simp only at E2 E0
        have HE2 := Lib.hid E2
        clear D3 e2 h2 HX2 C2 E2
        go_wp2_with fail
        refine HD3.out.mono ?_
        rintro e w4 ⟨rfl, b4⟩
        have r4 := R3.out.below b4
        have p4 := P3.out.gr (Gr.of_below (r := r) b4) hpr
        have G4 : Hid (G2 r p w w4) := Lib.hid (G3.out.trans (G2.of_gr (Gr.of_below b4)))
        have z0' : w4.cell? ⟨p, 0, none⟩ = some (.int .i64 P.kind) := by rw [cell_heap p4]; rfl
        have D5 := Lib.hid (HE2.out w4 G4.out r4)
        have P4 := Lib.hid p4
        clear b4 HD3 HE2 r4 p4
        go_wp2_with fail
        refine D5.out.mono ?_
        rintro e w5 hR
        by_cases h3 : c2 = 0
        · obtain ⟨v, rfl, o5, r5, g5⟩ := hR.1 h3
          have p5 := P4.out.gr g5 hpr
          have z9 : w5.cell? ⟨p, 9, none⟩ = some (.slice none 0 0) := by rw [cell_heap p5]; rfl
          have f9 : w5.frozen? ⟨p, 9, none⟩ = false := frozen_heap p5
          obtain ⟨A, cap, rfl⟩ := own_form o5
          have o6 : w5.ownsRow w.heap.size 116 4 (.slice A l.length cap) l.length (flatP l) := own_base' o5 G4.out.size
          have O6 : Hid ((w5.setCell ⟨p, 9, none⟩ (.slice A l.length cap)).ownsRow w.heap.size 116 4 (.slice A l.length cap) l.length (flatP l)) := Lib.hid (own_set o6 (row_ne o6 hlp))
          have P6 : Hid (PbAt p { P with code := n, props := l } vc (.slice A l.length cap) vw vs vf (w5.setCell ⟨p, 9, none⟩ (.slice A l.length cap))) := Lib.hid (set_block p5 rfl)
          have R6 : Hid (RdAt r s a2 (w5.setCell ⟨p, 9, none⟩ (.slice A l.length cap))) := Lib.hid (r5.setOther hrp _ _)
          have G6 : Hid (G2 r p w (w5.setCell ⟨p, 9, none⟩ (.slice A l.length cap))) := Lib.hid ((G4.out.trans (G2.of_gr g5)).setCell 9 _)
          have E : Hid (X = ((n, l), a2, 0)) := Lib.hid (by rw [E0.out, h3])
          clear hR o5 r5 g5 p5 o6 D5 h3 E0
          go_wp2
          go_end0
          rw [E.out]
          exact ⟨fun _ => ⟨_, rfl, O6.out, R6.out, P6.out, G6.out⟩, fun h => absurd rfl h⟩
        · obtain ⟨rfl, g5⟩ := hR.2 h3
          exact ⟨rfl, by rw [E0.out]; exact ⟨fun h => absurd h h3, fun _ => ⟨rfl, G4.out.trans (G2.of_gr g5)⟩⟩⟩
    · obtain ⟨rfl, g2⟩ := hR.2 h1
      have E : X = ((0, []), 0, c1) := by rw [HX2.out, if_pos h1]
      exact ⟨rfl, by rw [E]; exact ⟨fun h => absurd h h1, fun _ => ⟨rfl, G1.out.trans (G2.of_gr g2)⟩⟩⟩
end Go.Proofs.YtemfcaaoobjgkaaGreatDoor
