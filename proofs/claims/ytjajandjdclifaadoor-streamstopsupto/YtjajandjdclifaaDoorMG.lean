/- A stream's reader: a strings.Builder in a struct, that is written on behind its own String.; A stream's reader: what its builder holds, as a string.; The function that Feed hands a packet's bytes to.; A reader's Feed.; stream.New, a reader's Left; the laws' wakes.; Pieces of bytes, and what is left of them: the plain side.; StreamStops: behind a code nothing is told any more but that; of a nil reader nothing is.; The laws' arguments, opened: rows of texts; what the bound on the bulk gives. -/
import Derived.Test.YtjajandjdclifaaDoorMA
import Derived.Lib.FrozenHead
import Derived.Test.YtjajandjdclifaaDoorMF
import Derived.Test.YtjajandjdclifaaDoorRows
import Derived.Deep.Strs
import Derived.Deep.Slices
import Derived.ChangeOld
import Derived.OpenShut
import Derived.Lib.Strings
namespace Go.Proofs.YtjajandjdclifaaDoor
open Go.RowKit

/-- The reader in block r: the most, the bytes l that are left, the code c; 'p': whether its builder was used. -/
def FdAt (r : Nat) (m : Int) (p : Value) (l : List UInt8) (c : Int) (w : World) : Prop :=
  ∃ v, w.heap[r]? = some (.cells #[.int .i64 m, p, v, .int .u8 c] 86 (0, 0)) ∧ w.ownsRowF r 5 1 v l.length (Lib.byteCells l) ∧ v.ownBlock ≠ some r
def Fd (r : Nat) (m : Int) (l : List UInt8) (c : Int) (w : World) : Prop := FdAt r m (.pointer none) l c w ∨ FdAt r m (.pointer (some ⟨r, 1, none⟩)) l c w
theorem FdAt.lt {r : Nat} {m : Int} {p : Value} {l : List UInt8} {c : Int} {w : World} (h : FdAt r m p l c w) : r < w.heap.size := by
  obtain ⟨v, h1, _⟩ := h; exact lt_heap h1
theorem Fd.lt {r : Nat} {m : Int} {l : List UInt8} {c : Int} {w : World} (h : Fd r m l c w) : r < w.heap.size := by
  rcases h with h | h <;> exact h.lt
theorem ownF_below {B : Nat} {e : TypeId} {k : Nat} {v : Value} {n : Nat} {xs : List Value} {w w' : World} (h : w.ownsRowF B e k v n xs) (hb : Below w.heap.size w w') : w'.ownsRowF B e k v n xs :=
  h.kept (row := none) ⟨hb.os, hb.tape, hb.output, hb.size, fun i hi _ => hb.block i hi⟩ (by cases hv : v.ownBlock <;> simp)
theorem FdAt.below {r : Nat} {m : Int} {p : Value} {l : List UInt8} {c : Int} {w w' : World} (h : FdAt r m p l c w) (hb : Below w.heap.size w w') : FdAt r m p l c w' := by
  obtain ⟨v, h1, h2, h3⟩ := h
  exact ⟨v, (hb.block r (lt_heap h1)).trans h1, ownF_below h2 hb, h3⟩
theorem Fd.below {r : Nat} {m : Int} {l : List UInt8} {c : Int} {w w' : World} (h : Fd r m l c w) (hb : Below w.heap.size w w') : Fd r m l c w' := by
  rcases h with h | h
  · exact .inl (h.below hb)
  · exact .inr (h.below hb)
theorem ownF_set {w : World} {b j : Nat} {B : Nat} {e : TypeId} {k : Nat} {v u : Value} {n : Nat} {xs : List Value} (h : w.ownsRowF B e k v n xs) (hne : v.ownBlock ≠ some b) : (w.setCell ⟨b, j, none⟩ u).ownsRowF B e k v n xs :=
  h.kept (row := some b) ⟨rfl, rfl, rfl, by simp [World.setCell], fun i _ hi => Below.heap_setCell _ _ _ _ (fun e => hi (by simp [e]))⟩ (.inr hne)
theorem ownF_row {w : World} {B : Nat} {e : TypeId} {k : Nat} {v : Value} {n : Nat} {xs : List Value} (h : w.ownsRowF B e k v n xs) : ∀ g, v.ownBlock = some g → ∃ c fz, w.heap[g]? = some (.cells c e fz) := by
  intro g hg
  rcases h.2 with ⟨rfl, _⟩ | ⟨g', c, u, fz, rfl, _, hh, _⟩
  · cases hg
  · simp only [Value.ownBlock, Option.some.injEq] at hg
    subst hg
    exact ⟨_, _, hh⟩
theorem ownF_form {B : Nat} {e : TypeId} {k : Nat} {v : Value} {n : Nat} {xs : List Value} {w : World} (h : w.ownsRowF B e k v n xs) : ∃ A cap, v = .slice A n cap := by
  rcases h.2 with ⟨rfl, rfl⟩ | ⟨g, cap, cur, fz, rfl, _⟩
  · exact ⟨_, _, rfl⟩
  · exact ⟨_, _, rfl⟩
theorem fbldLies : liesAt Tryd.prog Tryd.prog.depth 86 (4 / Tryd.prog.cellsOf 86) 1 70 1 = true := by kernel_rfl

set_option maxHeartbeats 1000000 in
set_option maxRecDepth 100000 in
theorem fcopy_used (r : Nat) (w : World) (h0 : w.cell? ⟨r, 1, none⟩ = some (.pointer (some ⟨r, 1, none⟩))) :
    Calls Tryd.prog 62 #[.pointer (some ⟨r, 1, none⟩)] w fun e w' => e = .returned (.tuple #[]) ∧ w = w' := by
  obtain ⟨j, hj, _⟩ := bldInfo
  have hn := Lib.run_neq_ptr_same (P := Tryd.prog) w ⟨r, 1, none⟩ Tryd.underlying68 hj
  clear hj
  go_enter Tryd.func62, Tryd.ntmps62
  go_wp2
  go_end0
  exact ⟨rfl, rfl⟩
set_option maxHeartbeats 1000000 in
set_option maxRecDepth 100000 in
theorem fcopy_fresh (r : Nat) (w : World) (h0 : w.cell? ⟨r, 1, none⟩ = some (.pointer none)) (hsh : w.shape? r = some (86, 4)) (hfz : w.frozen? ⟨r, 1, none⟩ = false) :
    Calls Tryd.prog 62 #[.pointer (some ⟨r, 1, none⟩)] w fun e w' => e = .returned (.tuple #[]) ∧ w.setCell ⟨r, 1, none⟩ (.pointer (some ⟨r, 1, none⟩)) = w' := by
  obtain ⟨j, hj, hjs⟩ := bldInfo
  have r1 := Lib.run_to_unsafe (P := Tryd.prog) w ⟨r, 1, none⟩ Tryd.underlying68 Tryd.underlying140 hj (by rw [hjs]; decide) hsh (show (1 : Nat) < 4 by decide)
  have r2 := Lib.run_from_unsafe (P := Tryd.prog) w ⟨r, 1, none⟩ Tryd.underlying140 Tryd.underlying68 hj hsh fbldLies
  clear hj hjs hsh
  go_enter Tryd.func62, Tryd.ntmps62
  go_wp2
  rw [run_callFunc_extern Tryd.func85 (by kernel_rfl) (by kernel_rfl) (by kernel_rfl) (e := Extern.AbiNoEscape.same) (by kernel_rfl)]
  rw [Lib.run_noEscape]
  simp only [Result.andThen]
  rw [Oper.upon_value]
  go_wp2
  go_end0
  exact ⟨rfl, rfl⟩
theorem fcopy_any (r : Nat) (m : Int) (l : List UInt8) (c : Int) (w : World) (h : Fd r m l c w) :
    Calls Tryd.prog 62 #[.pointer (some ⟨r, 1, none⟩)] w fun e w' => e = .returned (.tuple #[]) ∧ FdAt r m (.pointer (some ⟨r, 1, none⟩)) l c w' ∧ Kp r w w' := by
  rcases h with ⟨v, h1, h2, h3⟩ | ⟨v, h1, h2, h3⟩
  · refine (fcopy_fresh r w (by rw [cell_heap h1]; rfl) (by simp [World.shape?, h1]) (frozen_heap h1)).mono ?_
    rintro e w' ⟨rfl, rfl⟩
    exact ⟨rfl, ⟨v, set_block h1 rfl, ownF_set h2 h3, h3⟩, (Kp.refl r w).setCell 1 _⟩
  · refine (fcopy_used r w (by rw [cell_heap h1]; rfl)).mono ?_
    rintro e w' ⟨rfl, rfl⟩
    exact ⟨rfl, ⟨v, h1, h2, h3⟩, Kp.refl r w⟩

set_option maxHeartbeats 2000000 in
set_option maxRecDepth 100000 in
theorem fwrite_any (r : Nat) (m : Int) (l : List UInt8) (c : Int) (s : ByteArray) (w : World) (h : Fd r m l c w) (hn : l.length + s.size ≤ 140737488355328) :
    Calls Tryd.prog 25 #[.pointer (some ⟨r, 1, none⟩), .string s] w fun e w' => e = .returned (.tuple #[.int .i64 s.size, .nilIface]) ∧ Fd r m (l ++ s.data.toList) c w' ∧ Kp r w w' := by
  have C := Lib.hid (fcopy_any r m l c w h)
  obtain ⟨i0, hi, hz0, hz1, hz2⟩ := info_parts byteInfo
  have Hi := Lib.hid hi; have Hz0 := Lib.hid hz0; have Hz1 := Lib.hid hz1; have Hz2 := Lib.hid hz2
  clear hi hz0 hz1 hz2 h
  go_enter Tryd.func25, Tryd.ntmps25
  go_wp2_with fail
  refine C.out.mono ?_
  rintro e w1 ⟨rfl, ⟨v, h1, h2, h3⟩, k1⟩
  obtain ⟨ao, cap, rfl⟩ := ownF_form h2
  have hlt := lt_heap h1
  obtain ⟨v', w2, hr, ho, hg, _⟩ := Lib.run_append_own_stringF (P := Tryd.prog) w1 r 22 9 22 5 i0 Tryd.underlying22 Tryd.underlying9 Hi.out Hz0.out Hz1.out Hz2.out _ _ _ h2 s (by unfold maxLen; omega) hn (Nat.le_of_lt hlt)
  have hb2 : w2.heap[r]? = some (.cells #[.int .i64 m, .pointer (some ⟨r, 1, none⟩), .slice ao l.length cap, .int .u8 c] 86 (0, 0)) := (hg.block r hlt (fun e => h3 e.symm)).trans h1
  have k2 : Kp r w w2 := k1.trans ⟨(Below.refl r w1).grown hg (Nat.le_of_lt hlt) (fun k hk => (h2.lt k hk).1), (Lib.OthersKept.refl _ _ _).grown hg (ownF_row h2)⟩
  have hne := Lib.ownBlock_neF ho hb2 (by decide)
  have HW : Hid (Fd r m (l ++ s.data.toList) c (w2.setCell ⟨r, 2, none⟩ v')) := .inr ⟨v', set_block hb2 rfl, by
    refine ownF_set ?_ hne
    rw [byteCells_app] at ho
    have e : (l ++ s.data.toList).length = l.length + s.size := by rw [List.length_append]; congr 1
    rw [e]; exact ho, hne⟩
  have HK : Hid (Kp r w (w2.setCell ⟨r, 2, none⟩ v')) := k2.setCell 2 _
  have c0 : w1.cell? ⟨r, 1, none⟩ = some (.pointer (some ⟨r, 1, none⟩)) := by rw [cell_heap h1]; rfl
  have c1 : w1.cell? ⟨r, 2, none⟩ = some (.slice ao l.length cap) := by rw [cell_heap h1]; rfl
  have d1 : w2.cell? ⟨r, 2, none⟩ = some (.slice ao l.length cap) := by rw [cell_heap hb2]; rfl
  have f1 : w2.frozen? ⟨r, 2, none⟩ = false := frozen_heap hb2
  obtain ⟨A2, cap2, rfl⟩ := ownF_form ho
  clear C h1 h2 h3 k1 ho hg hb2 k2 hne Hi Hz0 Hz1 Hz2
  go_wp2_with (at_builtin; refine wpList_run (by rfl) (.tmp 12) (.tmp 13) _ _ (by rfl) (by rfl) (by rfl) hr ?_; clear hr)
  go_ret2
  exact ⟨rfl, HW.out, HK.out⟩

set_option maxHeartbeats 1000000 in
set_option maxRecDepth 100000 in
theorem freset_any (r : Nat) (m : Int) (l : List UInt8) (c : Int) (w : World) (h : Fd r m l c w) :
    Calls Tryd.prog 29 #[.pointer (some ⟨r, 1, none⟩)] w fun e w' => e = .returned (.tuple #[]) ∧ Fd r m [] c w' ∧ Kp r w w' := by
  obtain ⟨p, v, h1, h2, h3⟩ : ∃ p, FdAt r m p l c w := by
    rcases h with h | h
    · exact ⟨_, h⟩
    · exact ⟨_, h⟩
  have HB1 := set_block (j := 1) (u := .pointer none) (cs' := #[.int .i64 m, .pointer none, v, .int .u8 c]) h1 rfl
  have HB2 := set_block (j := 2) (u := .slice none 0 0) (cs' := #[.int .i64 m, .pointer none, .slice none 0 0, .int .u8 c]) HB1 rfl
  have HW : Hid (Fd r m [] c ((w.setCell ⟨r, 1, none⟩ (.pointer none)).setCell ⟨r, 2, none⟩ (.slice none 0 0))) := .inl ⟨_, HB2, World.ownsRowF_nil _ _ _ _, by simp [Value.ownBlock]⟩
  have HK : Hid (Kp r w ((w.setCell ⟨r, 1, none⟩ (.pointer none)).setCell ⟨r, 2, none⟩ (.slice none 0 0))) := ((Kp.refl r w).setCell 1 _).setCell 2 _
  have c1 : w.cell? ⟨r, 1, none⟩ = some p := by rw [cell_heap h1]; rfl
  have c2 : w.cell? ⟨r, 2, none⟩ = some v := by rw [cell_heap h1]; rfl
  have f1 : w.frozen? ⟨r, 1, none⟩ = false := frozen_heap h1
  have f2 : w.frozen? ⟨r, 2, none⟩ = false := frozen_heap h1
  clear h h1 h2 h3 HB1 HB2
  go_enter Tryd.func29, Tryd.ntmps29
  go_wp2
  go_end0
  exact ⟨rfl, HW.out, HK.out⟩
end Go.Proofs.YtjajandjdclifaaDoor
namespace Go.Proofs.YtjajandjdclifaaDoor
open Go.RowKit

theorem freeze_other {w : World} {g k n : Nat} (h : k ≠ g) : (w.freeze ⟨g, 0, none⟩ n).heap[k]? = w.heap[k]? := by
  unfold World.freeze
  split
  · rfl
  · simp [Array.getElem?_modify, Ne.symm h]
theorem freeze_self {w : World} {g n m : Nat} {cur : Array Value} {e : TypeId} {fz : Nat × Nat} (h : w.heap[g]? = some (.cells cur e fz)) (hf : fz.2 ≤ m) (hn : n ≤ m) : ∃ fz', (w.freeze ⟨g, 0, none⟩ n).heap[g]? = some (.cells cur e fz') ∧ fz'.2 ≤ m := by
  obtain ⟨lo, hi⟩ := fz
  unfold World.freeze
  split
  · exact ⟨_, h, hf⟩
  · simp [Array.getElem?_modify, h]
    simp only at hf
    split
    · simp; omega
    · simp; omega
theorem freeze_size {w : World} {g n : Nat} : (w.freeze ⟨g, 0, none⟩ n).heap.size = w.heap.size := by
  unfold World.freeze
  split
  · rfl
  · simp
theorem Kp.freeze {r g n : Nat} {w : World} {cur : Array Value} {fz : Nat × Nat} (hr : r ≤ g) (h : w.heap[g]? = some (.cells cur 5 fz)) : Kp r w (w.freeze ⟨g, 0, none⟩ n) :=
  ⟨Lib.below_freeze (Below.refl r w) (p := ⟨g, 0, none⟩) hr n, fun k o hk hb he => by
    by_cases e : k = g
    · subst e; rw [h] at hk; injection hk with hk; exact absurd hk.symm (he _ _)
    · exact (freeze_other e).trans hk⟩
theorem Kp.drew {b : Nat} {w w' : World} (h : Kp b w.drew w') : Kp b w w' := ⟨⟨h.1.os, h.1.tape, h.1.output, h.1.size, h.1.block⟩, h.2⟩

set_option maxHeartbeats 2000000 in
set_option maxRecDepth 100000 in
theorem fstr_any (r : Nat) (m : Int) (x : UInt8) (t : List UInt8) (c : Int) (w : World) (h : Fd r m (x :: t) c w) :
    Calls Tryd.prog 20 #[.pointer (some ⟨r, 1, none⟩)] w fun e w' => e = .returned (.string ⟨(x :: t).toArray⟩) ∧ Fd r m (x :: t) c w' ∧ Kp r w w' := by
  obtain ⟨p, hp, v, h1, h2, h3⟩ : ∃ p, (p = .pointer none ∨ p = .pointer (some ⟨r, 1, none⟩)) ∧ FdAt r m p (x :: t) c w := by
    rcases h with h | h
    · exact ⟨_, .inl rfl, h⟩
    · exact ⟨_, .inr rfl, h⟩
  obtain ⟨g, cap, cur, fz, rfl, hbg, hg, hfz, hnc, hcm, hcs, htake⟩ : ∃ g cap cur fz, v = .slice (some ⟨g, 0, none⟩) (x :: t).length cap ∧ r ≤ g ∧ w.heap[g]? = some (.cells cur 5 fz) ∧ fz.2 ≤ (x :: t).length * 1 ∧ (x :: t).length ≤ cap ∧ cap ≤ maxLen ∧ cur.size = cap * 1 ∧ cur.toList.take ((x :: t).length * 1) = Lib.byteCells (x :: t) := by
    rcases h2.2 with ⟨_, hz⟩ | ⟨g, cap, cur, fz, hv, rr⟩
    · simp at hz
    · exact ⟨g, cap, cur, fz, hv, rr⟩
  have hl0 : 0 < (x :: t).length := by simp
  have hrg : r ≠ g := fun e => h3 (by simp [Value.ownBlock, e])
  have c1 : w.cell? ⟨r, 2, none⟩ = some (.slice (some ⟨g, 0, none⟩) (x :: t).length cap) := by rw [cell_heap h1]; rfl
  have hSD : (Builtin.unsafeSliceData_ #[22] 116 #[.slice (some ⟨g, 0, none⟩) (x :: t).length cap]).run Tryd.prog w.drew = .ok (.pointer (some ⟨g, 0, none⟩)) w.drew := Lib.run_unsafeSliceData_row _ _ _ _ _ _ (by omega)
  have hUS : (Builtin.unsafeString_ #[116, 3] 9 #[.pointer (some ⟨g, 0, none⟩), .int .i64 (x :: t).length]).run Tryd.prog w.drew = .ok (.string ⟨(x :: t).toArray⟩) (w.drew.freeze ⟨g, 0, none⟩ (x :: t).length) := by
    refine Lib.run_unsafeString_row w.drew 116 3 9 5 Tryd.underlying116 (by kernel_rfl) g cur.size (by have hg' : w.drew.heap[g]? = some (.cells cur 5 fz) := hg; simp [World.shape?, hg']) (x :: t) (by simp) (by omega) (by unfold maxLen at hcm; omega) ?_
    intro j y hy
    exact h2.cells (g := g) rfl j (.int .u8 y.toNat) (by rw [Lib.byteCells, List.getElem?_map, hy]; rfl)
  have HF : Hid (Fd r m (x :: t) c (w.drew.freeze ⟨g, 0, none⟩ (x :: t).length)) := Lib.hid (by
    obtain ⟨fz', e1, e2⟩ := freeze_self (n := (x :: t).length) (m := (x :: t).length * 1) (show w.drew.heap[g]? = some (.cells cur 5 fz) from hg) hfz (by omega)
    have e3 : (w.drew.freeze ⟨g, 0, none⟩ (x :: t).length).heap[r]? = some (.cells #[.int .i64 m, p, .slice (some ⟨g, 0, none⟩) (x :: t).length cap, .int .u8 c] 86 (0, 0)) := (freeze_other hrg).trans h1
    have e4 : FdAt r m p (x :: t) c (w.drew.freeze ⟨g, 0, none⟩ (x :: t).length) := ⟨_, e3, ⟨h2.1, .inr ⟨g, cap, cur, fz', rfl, hbg, e1, e2, hnc, hcm, hcs, htake⟩⟩, h3⟩
    rcases hp with rfl | rfl
    · exact .inl e4
    · exact .inr e4)
  have HK : Hid (Kp r w (w.drew.freeze ⟨g, 0, none⟩ (x :: t).length)) := Lib.hid (Kp.drew (Kp.freeze hbg (show w.drew.heap[g]? = some (.cells cur 5 fz) from hg)))
  generalize x :: t = l at *
  clear h h1 h2 h3 hg hcs htake hnc hcm hl0 hfz hp
  go_enter Tryd.func20, Tryd.ntmps20
  go_wp2
  go_region
  all_goals
    go_wp2
    go_ret
    exact ⟨rfl, HF.out, HK.out⟩

set_option maxHeartbeats 2000000 in
set_option maxRecDepth 100000 in
theorem fstr_empty (r : Nat) (m : Int) (c : Int) (w : World) (h : Fd r m [] c w) :
    Calls Tryd.prog 20 #[.pointer (some ⟨r, 1, none⟩)] w fun e w' => e = .returned (.string ⟨#[]⟩) ∧ Fd r m [] c w' ∧ Kp r w w' := by
  have hlt := h.lt
  have HH := Lib.hid h
  obtain ⟨p, v, h1, h2, h3⟩ : ∃ p, FdAt r m p [] c w := by
    rcases h with h | h
    · exact ⟨_, h⟩
    · exact ⟨_, h⟩
  have hUS := us_none
  have fin : ∀ w', Below w.heap.size w w' → Fd r m [] c w' ∧ Kp r w w' := fun w' hb => ⟨HH.out.below hb, Kp.of_below (Nat.le_of_lt hlt) hb⟩
  have FIN := Lib.hid fin
  clear fin
  rcases h2.2 with ⟨rfl, _⟩ | ⟨g, cap, cur, fz, rfl, hbg, hg, _, _, _, _, _⟩
  · have c1 : w.cell? ⟨r, 2, none⟩ = some (.slice none 0 0) := by rw [cell_heap h1]; rfl
    have hSD : (Builtin.unsafeSliceData_ #[22] 116 #[.slice none 0 0]).run Tryd.prog w.drew = .ok (.pointer none) w.drew := rfl
    clear h h1 h2 h3
    go_enter Tryd.func20, Tryd.ntmps20
    go_wp2
    go_region
    all_goals
      go_wp2
      go_ret
      exact ⟨rfl, FIN.out _ (Below.drew (Below.refl _ w))⟩
  · have c1 : w.cell? ⟨r, 2, none⟩ = some (.slice (some ⟨g, 0, none⟩) 0 cap) := by rw [cell_heap h1]; rfl
    by_cases hc0 : cap = 0
    · subst hc0
      have hSD : (Builtin.unsafeSliceData_ #[22] 116 #[.slice (some ⟨g, 0, none⟩) 0 0]).run Tryd.prog w.drew = .ok (.pointer (some ⟨w.drew.heap.size, 0, none⟩)) (w.drew.alloc (.view ⟨g, 0, none⟩ 5)) :=
        Lib.run_unsafeSliceData_zero w.drew _ _ 5 Tryd.underlying116 ⟨g, 0, none⟩ 0 (5, cur.size) (by have hg' : w.drew.heap[g]? = some (.cells cur 5 fz) := hg; simp [World.shape?, hg'])
      have c3 : (w.alloc (.view ⟨g, 0, none⟩ 5)).drew.cell? ⟨r, 2, none⟩ = some (.slice (some ⟨g, 0, none⟩) 0 0) := by
        have e : (w.alloc (.view ⟨g, 0, none⟩ 5)).drew.heap[r]? = some (.cells #[.int .i64 m, p, .slice (some ⟨g, 0, none⟩) 0 0, .int .u8 c] 86 (0, 0)) := (heap_alloc_old w _ hlt).trans h1
        rw [cell_heap e]; rfl
      clear h h1 h2 h3 hg
      go_enter Tryd.func20, Tryd.ntmps20
      go_wp2
      go_region
      all_goals
        go_wp2
        go_ret
        exact ⟨rfl, FIN.out _ ((Below.drew (Below.refl _ w)).alloc (Nat.le_refl _) _)⟩
    · have hSD : (Builtin.unsafeSliceData_ #[22] 116 #[.slice (some ⟨g, 0, none⟩) 0 cap]).run Tryd.prog w.drew = .ok (.pointer (some ⟨g, 0, none⟩)) w.drew := Lib.run_unsafeSliceData_row _ _ _ _ _ _ hc0
      clear h h1 h2 h3 hg hc0
      go_enter Tryd.func20, Tryd.ntmps20
      go_wp2
      go_region
      all_goals
        go_wp2
        go_ret
        exact ⟨rfl, FIN.out _ (Below.drew (Below.refl _ w))⟩
theorem fstring_any (r : Nat) (m : Int) (l : List UInt8) (c : Int) (w : World) (h : Fd r m l c w) :
    Calls Tryd.prog 20 #[.pointer (some ⟨r, 1, none⟩)] w fun e w' => e = .returned (.string ⟨l.toArray⟩) ∧ Fd r m l c w' ∧ Kp r w w' := by
  cases l with
  | nil => exact fstr_empty r m c w h
  | cons x t => exact fstr_any r m x t c w h
end Go.Proofs.YtjajandjdclifaaDoor
namespace Go.Proofs.YtjajandjdclifaaDoor
open Go.RowKit
attribute [local go_sem ↓] Go.wp_at_zero Go.wp_at_succ

/-- A packet and the values of its five rows. -/
structure Pv where
  p : Pk
  vc : Value
  vp : Value
  vw : Value
  vs : Value
  vf : Value
def Pv.cells (x : Pv) : List Value := (pkCells x.p x.vc x.vp x.vw x.vs x.vf).toList
def Pv.Own (x : Pv) (B : Nat) (w : World) : Prop := Own5 B x.p x.vc x.vp x.vw x.vs x.vf w
/-- A row of packets. -/
structure PkRow (B : Nat) (v : Value) (L : List Pv) (w : World) : Prop where
  row : w.ownsRow B 38 26 v L.length (L.flatMap Pv.cells)
  own : ∀ x ∈ L, x.Own B w
theorem own5_kept {B : Nat} {P : Pk} {vc vp vw vs vf : Value} {w w' : World} {row : Option Nat} (h : Own5 B P vc vp vw vs vf w) (hg : w.grownBy w' row) (hr : ∀ g, row = some g → ∃ c fz, w.heap[g]? = some (.cells c 38 fz)) : Own5 B P vc vp vw vs vf w' := by
  have key : ∀ {e : TypeId} {k : Nat} {v : Value} {n : Nat} {xs : List Value}, e ≠ 38 → w.ownsRow B e k v n xs → w'.ownsRow B e k v n xs := fun {e k v n xs} he ho => by
    refine ho.kept hg ?_
    cases hv : v.ownBlock with
    | none => exact .inl rfl
    | some g =>
      refine .inr (fun e' => ?_)
      obtain ⟨c, fz, h1⟩ := hr g e'.symm
      obtain ⟨c2, fz2, h2⟩ := own_row ho g hv
      rw [h1] at h2
      simp at h2
      exact he h2.2.1.symm
  exact ⟨key (by decide) h.codes, key (by decide) h.props, key (by decide) h.wprops, key (by decide) h.subs, key (by decide) h.filters⟩
theorem own5_base {B C : Nat} {P : Pk} {vc vp vw vs vf : Value} {w : World} (h : Own5 B P vc vp vw vs vf w) (hC : C ≤ B) : Own5 C P vc vp vw vs vf w :=
  ⟨own_base' h.codes hC, own_base' h.props hC, own_base' h.wprops hC, own_base' h.subs hC, own_base' h.filters hC⟩
theorem own5_below {B : Nat} {P : Pk} {vc vp vw vs vf : Value} {w w' : World} (h : Own5 B P vc vp vw vs vf w) (hb : Below w.heap.size w w') : Own5 B P vc vp vw vs vf w' :=
  ⟨own_below h.codes hb, own_below h.props hb, own_below h.wprops hb, own_below h.subs hb, own_below h.filters hb⟩
theorem own5_set {B b j : Nat} {P : Pk} {vc vp vw vs vf u : Value} {w : World} (h : Own5 B P vc vp vw vs vf w) (hb : b < B) : Own5 B P vc vp vw vs vf (w.setCell ⟨b, j, none⟩ u) :=
  ⟨own_set h.codes (row_ne h.codes hb), own_set h.props (row_ne h.props hb), own_set h.wprops (row_ne h.wprops hb), own_set h.subs (row_ne h.subs hb), own_set h.filters (row_ne h.filters hb)⟩
theorem PkRow.below {B : Nat} {v : Value} {L : List Pv} {w w' : World} (h : PkRow B v L w) (hb : Below w.heap.size w w') : PkRow B v L w' := ⟨own_below h.row hb, fun x hx => own5_below (h.own x hx) hb⟩
theorem PkRow.base {B C : Nat} {v : Value} {L : List Pv} {w : World} (h : PkRow B v L w) (hC : C ≤ B) : PkRow C v L w := ⟨own_base' h.row hC, fun x hx => own5_base (h.own x hx) hC⟩
theorem PkRow.set {B b j : Nat} {v u : Value} {L : List Pv} {w : World} (h : PkRow B v L w) (hb : b < B) : PkRow B v L (w.setCell ⟨b, j, none⟩ u) := ⟨own_set h.row (row_ne h.row hb), fun x hx => own5_set (h.own x hx) hb⟩
theorem pkInfo : ∃ z n, (Tryd.prog.info? 38).map (fun i => (i.zero, i.size, i.bytes)) = some (some z, 26, n) ∧ z.cells.size = 26 ∧ n ≤ 1000 := ⟨.agg (pkNil PK.zeroPk), 328, by kernel_rfl, rfl, by decide⟩

theorem fill_pk26 (P : Pk) (vc vp vw vs vf : Value) : Array.foldl (fun (cs : Array Value) (x : Value × Nat) => cs.setIfInBounds x.2 x.1) #[.int .i64 0, .bool false, .bool false, .int .i64 0, .int .i64 0, .string ⟨#[]⟩, .string ⟨#[]⟩, .int .u8 0, .slice none 0 0, .slice none 0 0, .string ⟨#[]⟩, .bool false, .int .i64 0, .bool false, .string ⟨#[]⟩, .string ⟨#[]⟩, .int .i64 0, .bool false, .slice none 0 0, .bool false, .bool false, .string ⟨#[]⟩, .string ⟨#[]⟩, .bool false, .slice none 0 0, .slice none 0 0] (pkCells P vc vp vw vs vf).zipIdx 0 26 = pkCells P vc vp vw vs vf := by
  kernel_rfl

/-- What Feed's function keeps: the packets so far, in a row that the variable in block p holds. -/
def FoI (p : Nat) (w : World) (l : List ByteArray) (W : World) : Prop :=
  ∃ v L, W.heap[p]? = some (.cells #[v] 56 (0, 0)) ∧ PkRow (p + 1) v L W ∧ L.map Pv.p = l.map (fun b => (PK.getPk b).1) ∧ p + 1 ≤ W.heap.size ∧ Below p w W
theorem FoI.below {p : Nat} {w W W' : World} {l : List ByteArray} (h : FoI p w l W) (hb : Below W.heap.size W W') : FoI p w l W' := by
  obtain ⟨v, L, h1, h2, h3, h4, h5⟩ := h
  exact ⟨v, L, (hb.block _ (lt_heap h1)).trans h1, h2.below hb, h3, Nat.le_trans h4 hb.size, h5.trans (hb.mono (by omega))⟩

set_option maxRecDepth 100000 in
set_option maxHeartbeats 1000000 in
theorem feed1_any (p : Nat) (w : World) (l : List ByteArray) (b : ByteArray) (hb : b.size ≤ 140737488351232) (hl : l.length < 1000000) (hT : ∀ W, Below p w W → Tabs W) (W : World) (h : FoI p w l W) :
    Calls Tryd.prog 27 #[.string b, .pointer (some ⟨p, 0, none⟩)] W fun e W' => e = .returned (.int .u8 (PK.getPk b).2) ∧ ((PK.getPk b).2 = 0 → FoI p w (l ++ [b]) W') ∧ ((PK.getPk b).2 ≠ 0 → FoI p w l W') := by
  obtain ⟨v, L, hv, hrow, hLl, hp1, hbe⟩ := id h
  have HF := Lib.hid h
  have CG := Lib.hid (get_pk_any b hb W (fun W' hW => hT W' (hbe.trans (hW.mono (by omega)))))
  obtain ⟨P, hP⟩ : ∃ P, P = (PK.getPk b).1 := ⟨_, rfl⟩
  have HPE := Lib.hid hP
  unfold GtP at CG
  rw [← hP] at CG
  generalize (PK.getPk b).2 = c at *
  clear hP h hT
  have HV := Lib.hid hv
  have HR := Lib.hid hrow
  have HL := Lib.hid hLl
  have HB := Lib.hid hbe
  have hLn : L.length = l.length := by have := congrArg List.length hLl; simpa using this
  clear hv hrow hLl hbe
  by_cases hc : c = 0
  · subst hc
    go_enter Tryd.func27, Tryd.ntmps27
    go_wp2_with fail
    refine CG.out.mono ?_
    rintro e w1 ⟨h1, _, b1⟩
    obtain ⟨vc, vp, vw, vs, vf, rfl, o1⟩ := h1 trivial
    have W1 := Lib.hid (pk_one P o1)
    have Z1 : Hid ((w1.alloc (.cells (pkNil PK.zeroPk) 38)).heap[w1.heap.size]? = some (.cells (pkNil PK.zeroPk) 38 (0, 0))) := Lib.hid (heap_alloc_new w1 _)
    go_upto_region 2 with (refine wpList_store_row (by rfl) 38 (.tmp 4) (.tmp 9) (by rfl) w1.heap.size (pkCells P vc vp vw vs vf) (by rfl) (by rfl) 38 (pkNil PK.zeroPk) Z1.out pk_info rfl W1.out ?_)
    obtain ⟨wA, hwA⟩ : ∃ wA, wA = (w1.alloc (.cells (pkNil PK.zeroPk) 38)).setRow w1.heap.size (pkCells P vc vp vw vs vf) := ⟨_, rfl⟩
    have PA : Hid (wA.heap[w1.heap.size]? = some (.cells (pkCells P vc vp vw vs vf) 38 (0, 0))) := Lib.hid (by rw [hwA]; exact setRow_heap Z1.out)
    have bA : Below w1.heap.size w1 wA := by rw [hwA]; exact below_setRow ((Below.refl _ _).alloc (Nat.le_refl _) _) (Nat.le_refl _) _
    change Code.wp _ _ _ _ ((w1.alloc (.cells (pkNil PK.zeroPk) 38)).setRow w1.heap.size (pkCells P vc vp vw vs vf))
    rw [← hwA]
    have hWA : Below W.heap.size W wA := b1.trans (bA.mono b1.size)
    have vA := (hWA.block _ (lt_heap HV.out)).trans HV.out
    have rA := HR.out.below hWA
    have oA := own5_base (own5_below o1 bA) hp1
    obtain ⟨z, nb, hinf, hzs, hnb⟩ := pkInfo
    obtain ⟨i0, hi0, hz0, hz1, hz2⟩ := info_parts hinf
    have hpA : p + 1 ≤ wA.heap.size := Nat.le_trans hp1 hWA.size
    obtain ⟨v2, w2, hr2, hown2, hg2, hb2⟩ := app1 Tryd.underlying56 hi0 hz0 hz1 hz2 hzs (by decide) hnb (p + 1) v L.length _ wA rA.row hpA (pkCells P vc vp vw vs vf) rfl (fun u hu => by have := W1.out; rw [Array.all_eq_true'] at this; exact this u (by simpa using hu)) (by omega)
    have hp2 := (hg2.block p (by omega) (fun e => by have := (rA.row.lt _ e.symm).1; omega)).trans vA
    obtain ⟨A2, c2, rfl⟩ := own_form hown2
    have q0 : wA.cell? ⟨p, 0, none⟩ = some v := by rw [cell_heap vA]; rfl
    have q2 : w2.cell? ⟨p, 0, none⟩ = some v := by rw [cell_heap hp2]; rfl
    have f2 : w2.frozen? ⟨p, 0, none⟩ = false := frozen_heap hp2
    have HN : Hid (FoI p w (l ++ [b]) (w2.setCell ⟨p, 0, none⟩ (.slice A2 (L.length + 1) c2))) := Lib.hid (by
      have hrr : ∀ g, v.ownBlock = some g → ∃ c fz, wA.heap[g]? = some (.cells c 38 fz) := own_row rA.row
      refine ⟨_, L ++ [⟨P, vc, vp, vw, vs, vf⟩], one_setCell hp2, PkRow.set ⟨by simpa [Pv.cells] using hown2, fun x hx => ?_⟩ (by omega), by rw [List.map_append, List.map_append, HL.out, HPE.out]; rfl, by simp [World.setCell]; have := hg2.size; omega, ?_⟩
      · rcases List.mem_append.1 hx with hx | hx
        · exact own5_kept (rA.own x hx) hg2 hrr
        · simp at hx; subst hx; exact own5_kept oA hg2 hrr
      · have h5 := ((HB.out.trans (hWA.mono (by omega))).trans (hb2.mono (Nat.le_succ p)))
        exact ⟨h5.os, h5.tape, h5.output, by simp [World.setCell]; exact h5.size, fun i hi => (Below.heap_setCell _ _ _ _ (fun e => by simp at e; omega)).trans (h5.block i hi)⟩)
    have hcz : (pkCells P vc vp vw vs vf).size = 26 := rfl
    clear hLn
    clear hwA Z1 b1 bA hWA vA rA oA o1 hinf hzs hnb hi0 hz0 hz1 hz2 hown2 hg2 hb2 hp2 HB HR HL HV CG HF
    go_wp2_with (first
      | refine wpl_load_pk (by rfl) (.tmp 4) (by rfl) w1.heap.size (by rfl) PA.out ?_
      | (at_builtin; simp only [fill_pk26]; refine wpList_run (by rfl) (.tmp 13) (.tmp 15) _ _ (by rfl) (by rfl) (by rfl) hr2 ?_; clear hr2))
    go_ret
    exact ⟨rfl, fun _ => HN.out, fun h => absurd rfl h⟩
  · have e1 : (c == 0) = false := by rw [beq_eq_false_iff_ne]; exact hc
    have HC := Lib.hid hc
    clear hc
    go_enter Tryd.func27, Tryd.ntmps27
    go_wp2_with fail
    refine CG.out.mono ?_
    rintro e w1 ⟨_, h1, b1⟩
    obtain rfl := h1 HC.out
    have O1 := Lib.hid (pkNil_one PK.zeroPk)
    have Z1 : Hid ((w1.alloc (.cells (pkNil PK.zeroPk) 38)).heap[w1.heap.size]? = some (.cells (pkNil PK.zeroPk) 38 (0, 0))) := Lib.hid (heap_alloc_new w1 _)
    have HN : Hid (FoI p w l ((w1.alloc (.cells (pkNil PK.zeroPk) 38)).setRow w1.heap.size (pkNil PK.zeroPk))) := Lib.hid (HF.out.below (b1.trans ((below_setRow ((Below.refl _ _).alloc (Nat.le_refl _) _) (Nat.le_refl _) _ : Below w1.heap.size w1 _).mono b1.size)))
    clear b1 h1 HF CG HV HR HL HB
    go_wp2_with (refine wpList_store_row (by rfl) 38 (.tmp 4) (.tmp 9) (by rfl) w1.heap.size (pkNil PK.zeroPk) (by rfl) (by rfl) 38 (pkNil PK.zeroPk) Z1.out pk_info rfl O1.out ?_)
    go_ret
    exact ⟨rfl, fun h => absurd h HC.out, fun _ => HN.out⟩
end Go.Proofs.YtjajandjdclifaaDoor
namespace Go.Proofs.YtjajandjdclifaaDoor
open Go.RowKit Go.Shelf
attribute [local go_sem ↓] Go.wp_at_zero Go.wp_at_succ

theorem own_kp {r B : Nat} {e : TypeId} {k : Nat} {v : Value} {n : Nat} {xs : List Value} {w w' : World} (h : w.ownsRow B e k v n xs) (hk : Kp r w w') (hr : r < B) (he : e ≠ 5) : w'.ownsRow B e k v n xs := by
  refine ⟨h.1, ?_⟩
  rcases h.2 with hn | ⟨g, cap, cur, hv, hb, hg, rest⟩
  · exact .inl hn
  · exact .inr ⟨g, cap, cur, hv, hb, hk.block hg (by omega) he, rest⟩
theorem PkRow.kp {r B : Nat} {v : Value} {L : List Pv} {w w' : World} (h : PkRow B v L w) (hk : Kp r w w') (hr : r < B) : PkRow B v L w' :=
  ⟨own_kp h.row hk hr (by decide), fun x hx => ⟨own_kp (h.own x hx).codes hk hr (by decide), own_kp (h.own x hx).props hk hr (by decide), own_kp (h.own x hx).wprops hk hr (by decide), own_kp (h.own x hx).subs hk hr (by decide), own_kp (h.own x hx).filters hk hr (by decide)⟩⟩
theorem Fd.code {r : Nat} {m : Int} {l : List UInt8} {c : Int} {w : World} (h : Fd r m l c w) (c' : Int) : Fd r m l c' (w.setCell ⟨r, 3, none⟩ (.int .u8 c')) := by
  rcases h with ⟨v, h1, h2, h3⟩ | ⟨v, h1, h2, h3⟩
  · exact .inl ⟨v, set_block h1 rfl, ownF_set h2 h3, h3⟩
  · exact .inr ⟨v, set_block h1 rfl, ownF_set h2 h3, h3⟩
theorem Fd.most {r : Nat} {m : Int} {l : List UInt8} {c : Int} {w : World} (h : Fd r m l c w) : w.cell? ⟨r, 0, none⟩ = some (.int .i64 m) ∧ w.cell? ⟨r, 3, none⟩ = some (.int .u8 c) ∧ w.frozen? ⟨r, 3, none⟩ = false := by
  rcases h with ⟨v, h1, _, _⟩ | ⟨v, h1, _, _⟩
  · exact ⟨by rw [cell_heap h1]; rfl, by rw [cell_heap h1]; rfl, frozen_heap h1⟩
  · exact ⟨by rw [cell_heap h1]; rfl, by rw [cell_heap h1]; rfl, frozen_heap h1⟩
theorem kp_of_below {r B : Nat} {w w' : World} (hr : r ≤ B) (hB : B ≤ w.heap.size) (h : Below w.heap.size w w') : Kp r w w' := Kp.of_below (by omega) h
theorem feed1_enters (args : Array Value) (W : World) : (callFunc 27 args).run Tryd.prog W = .ok (.enter 27 args) W :=
  enters_of Tryd.func27 (by kernel_rfl) rfl args W

namespace ST
/-- What a reader with the bytes U tells: the packets' bytes, the place behind them, the code. -/
def fed (m : Int) (U : ByteArray) : List ByteArray × Nat × Int := thr U m (fun b => (PK.getPk b).2) (U.size + 1) 0
/-- What is left of them. -/
def left (m : Int) (U : ByteArray) : List UInt8 := if (fed m U).2.2 ≠ 0 then [] else (U.extract (fed m U).2.1 U.size).data.toList
theorem fed_le (m : Int) (U : ByteArray) : (fed m U).2.1 ≤ U.size := by
  have : ∀ (u a : Nat), a ≤ U.size → (thr U m (fun b => (PK.getPk b).2) u a).2.1 ≤ U.size := by
    intro u
    induction u with
    | zero => intro a h; exact h
    | succ u ih =>
      intro a h
      rw [thr]
      split
      · rename_i h1
        obtain ⟨k, hk, hk1, hk2⟩ := first_ok _ _ h1
        rw [ByteArray.size_extract] at hk2
        rw [hk]
        simp only [Int.toNat_natCast]
        split
        · exact ih (a + k) (by omega)
        · exact h
      · exact h
  exact this _ _ (Nat.zero_le _)
end ST
/-- What Feed answers. -/
def FeP (r : Nat) (m : Int) (U : ByteArray) (w : World) (e : Ending) (w' : World) : Prop :=
  ∃ v L, e = .returned (.tuple #[v, .int .u8 (ST.fed m U).2.2]) ∧ PkRow w.heap.size v L w' ∧ L.map Pv.p = (ST.fed m U).1.map (fun b => (PK.getPk b).1) ∧ Fd r m (ST.left m U) (ST.fed m U).2.2 w' ∧ Kp r w w'

set_option maxRecDepth 100000 in
set_option maxHeartbeats 2000000 in
theorem feed_nil (s : ByteArray) (w : World) : Calls Tryd.prog 10 #[.pointer none, .string s] w fun e w' => e = .returned (.tuple #[.slice none 0 0, .int .u8 128]) ∧ w = w' := by
  go_enter Tryd.func10, Tryd.ntmps10
  go_wp2
  go_ret2
  exact ⟨rfl, rfl⟩
set_option maxRecDepth 100000 in
set_option maxHeartbeats 2000000 in
theorem feed_over (r : Nat) (m : Int) (l : List UInt8) (c : Int) (s : ByteArray) (w : World) (hc : c ≠ 0) (h : Fd r m l c w) :
    Calls Tryd.prog 10 #[.pointer (some ⟨r, 0, none⟩), .string s] w fun e w' => e = .returned (.tuple #[.slice none 0 0, .int .u8 c]) ∧ Below w.heap.size w w' := by
  obtain ⟨_, q3, _⟩ := h.most
  have hne : (c != 0) = true := by rw [bne_iff_ne]; exact hc
  clear h hc
  go_enter Tryd.func10, Tryd.ntmps10
  go_wp2_with fail
  go_quiet (fail)
  go_wp2
  go_ret2
  exact ⟨rfl, drewN_below _ _ _⟩

set_option maxRecDepth 100000 in
set_option maxHeartbeats 2000000 in
theorem feed_any (r : Nat) (m : Int) (l : List UInt8) (s : ByteArray) (w : World) (h : Fd r m l 0 w) (hsz : l.length + s.size ≤ 1900000) (hT : ∀ W, Below r w W → Tabs W) :
    Calls Tryd.prog 10 #[.pointer (some ⟨r, 0, none⟩), .string s] w (FeP r m ⟨(l ++ s.data.toList).toArray⟩ w) := by
  have hmf : ∀ (fn : Fn) (first cap : Array Value) (w : World), (Instr.makeFunc fn first cap).run Tryd.prog w = .ok (.func fn first cap) w := fun _ _ _ _ => rfl
  have hlt := h.lt
  obtain ⟨_, q3, _⟩ := h.most
  have C1 := Lib.hid (fwrite_any r m l 0 s w h (by omega))
  have hUs : (⟨(l ++ s.data.toList).toArray⟩ : ByteArray).size ≤ 1900000 := by
    show (l ++ s.data.toList).toArray.size ≤ _
    have : s.data.toList.length = s.size := by rw [Array.length_toList]; rfl
    simp; omega
  have hUl : ∀ L : List UInt8, L = l ++ s.data.toList → L = (⟨L.toArray⟩ : ByteArray).data.toList := fun L _ => by simp
  generalize l ++ s.data.toList = l2 at *
  obtain ⟨U, hU⟩ : ∃ U : ByteArray, U = ⟨l2.toArray⟩ := ⟨_, rfl⟩
  rw [← hU] at hUs ⊢
  have HU := Lib.hid hU
  have HTb := Lib.hid hT
  clear hU hT hUl h
  go_enter Tryd.func10, Tryd.ntmps10
  go_wp2_with fail
  refine C1.out.mono ?_
  rintro e w1 ⟨rfl, h1, k1⟩
  have C2 := Lib.hid (fstring_any r m l2 0 w1 h1)
  have K1 := Lib.hid k1
  clear h1 k1 C1 q3
  rw [← HU.out] at C2
  go_wp2_with fail
  refine C2.out.mono ?_
  rintro e w2 ⟨rfl, h2, k2⟩
  have K2 := Lib.hid (K1.out.trans k2)
  have hlt2 := h2.lt
  have hal := (Below.refl w2.heap.size w2).alloc (Nat.le_refl _) (.cells #[.slice none 0 0] 56)
  have h3 := h2.below hal
  obtain ⟨q0, _, _⟩ := h3.most
  have I0 : FoI w2.heap.size w2 [] (w2.alloc (.cells #[.slice none 0 0] 56)) := ⟨_, [], heap_alloc_new w2 _, ⟨own_nil _ _ _ _, fun x hx => by cases hx⟩, rfl, by simp, hal⟩
  have CT := Lib.hid (through_any 27 #[.pointer (some ⟨w2.heap.size, 0, none⟩)] (fun b => (PK.getPk b).2) (FoI w2.heap.size w2) U m (by omega) feed1_enters
    (fun l a k W hI hl2 hk1 hk2 => feed1_any w2.heap.size w2 l (U.extract a (a + k)) (by rw [ByteArray.size_extract]; omega) (by omega) (fun W' hW' => HTb.out W' (K2.out.1.trans (hW'.mono (by omega)))) W hI) _ I0)
  have hle := ST.fed_le m U
  have HLf : Hid (ST.left m U = if (ST.fed m U).2.2 ≠ 0 then [] else (U.extract (ST.fed m U).2.1 U.size).data.toList) := Lib.hid rfl
  rw [show ST.thr U m (fun b => (PK.getPk b).2) (U.size + 1) 0 = ST.fed m U from rfl] at CT
  obtain ⟨ls, a, c, hX⟩ : ∃ ls a c, ST.fed m U = (ls, a, c) := ⟨_, _, _, rfl⟩
  have FIN : Hid (∀ e w', (∃ v L, e = .returned (.tuple #[v, .int .u8 c]) ∧ PkRow w.heap.size v L w' ∧ L.map Pv.p = ls.map (fun b => (PK.getPk b).1) ∧ Fd r m (ST.left m U) c w' ∧ Kp r w w') → FeP r m U w e w') := Lib.hid (by unfold FeP; rw [hX]; exact fun _ _ h => h)
  rw [hX] at CT hle HLf
  simp only at CT hle HLf
  clear hX
  have H2 := Lib.hid h2
  clear h2 k2 C2 hal h3 I0 K1
  go_wp2_with fail
  refine CT.out.mono ?_
  rintro e w4 ⟨rfl, v, L, hv, hrow, hmap, hp1, hbe⟩
  have h4 := H2.out.below hbe
  obtain ⟨_, q3, f3⟩ := h4.most
  have h5 := h4.code c
  have K5 : Kp r w (w4.setCell ⟨r, 3, none⟩ (.int .u8 c)) := (K2.out.trans (Kp.of_below (Nat.le_of_lt hlt2) hbe)).setCell 3 _
  have v5 : (w4.setCell ⟨r, 3, none⟩ (.int .u8 c)).heap[w2.heap.size]? = some (.cells #[v] 56 (0, 0)) := (Below.heap_setCell _ _ _ _ (fun e => by simp at e; omega)).trans hv
  have r5 : PkRow (w2.heap.size + 1) v L (w4.setCell ⟨r, 3, none⟩ (.int .u8 c)) := hrow.set (by omega)
  have hz := K2.out.1.size
  obtain ⟨ao, co, rfl⟩ := own_form hrow.row
  have H5 := Lib.hid h5; have HK5 := Lib.hid K5; have V5 := Lib.hid v5; have R5 := Lib.hid r5; have HM := Lib.hid hmap
  clear h4 h5 K5 v5 r5 hmap hrow hv hbe CT H2 K2 hp1
  by_cases hc : c = 0
  · subst hc
    have EL : Hid (ST.left m U = (U.extract a U.size).data.toList) := Lib.hid (by rw [HLf.out, if_neg (by decide)])
    clear HLf
    by_cases ha : a = 0
    · subst ha
      have q6 := cell_of_one V5.out
      go_wp2_with fail
      go_ret2
      refine FIN.out _ _ ⟨_, L, rfl, R5.out.base (by omega), HM.out, ?_, HK5.out⟩
      rw [EL.out, HU.out]
      have := H5.out
      simpa using this
    · have hapos : (0 : Int) < (a : Int) := by omega
      have CR := Lib.hid (freset_any r m l2 0 _ H5.out)
      go_wp2_with fail
      refine CR.out.mono ?_
      rintro e w6 ⟨rfl, h6, k6⟩
      have hsl := st_from U a hle
      have CW := Lib.hid (fun W (hW : Below w6.heap.size w6 W) => fwrite_any r m [] 0 (U.extract a U.size) W (h6.below hW) (by rw [ByteArray.size_extract]; simp; omega))
      have K6 := Lib.hid (HK5.out.trans k6)
      have V6 := Lib.hid (k6.block V5.out (by omega) (by decide))
      have R6 := Lib.hid (R5.out.kp k6 (by omega))
      have hl6 := h6.lt
      clear CR h6 k6 H5 HK5 V5 R5
      go_wp2_with fail
      go_region_with
        (go_at_call 25
         refine (CW.out _ (Below.drew (Below.refl _ w6))).mono ?_
         rintro e w7 ⟨rfl, h7, k7⟩)
      all_goals
        have k7' := Kp.drew k7
        have V7 := Lib.hid (k7'.block V6.out (by omega) (by decide))
        have R7 := Lib.hid (R6.out.kp k7' (by omega))
        have K7 := Lib.hid (K6.out.trans k7')
        have H7 := Lib.hid h7
        have q7 := cell_of_one V7.out
        clear h7 k7 k7' V6 R6 K6 CW
        go_wp2_with fail
        go_ret2
        exact FIN.out _ _ ⟨_, L, rfl, R7.out.base (by omega), HM.out, by rw [EL.out]; simpa using H7.out, K7.out⟩
  · have hne : (c != 0) = true := by rw [bne_iff_ne]; exact hc
    have EL : Hid (ST.left m U = []) := Lib.hid (by rw [HLf.out, if_pos hc])
    have CR := Lib.hid (freset_any r m l2 c _ H5.out)
    clear HLf hc
    go_wp2_with fail
    refine CR.out.mono ?_
    rintro e w6 ⟨rfl, h6, k6⟩
    have K6 := Lib.hid (HK5.out.trans k6)
    have V6 := Lib.hid (k6.block V5.out (by omega) (by decide))
    have R6 := Lib.hid (R5.out.kp k6 (by omega))
    have H6 := Lib.hid h6
    have q7 := cell_of_one V6.out
    clear CR h6 k6 H5 HK5 V5 R5
    go_wp2_with fail
    go_ret2
    exact FIN.out _ _ ⟨_, L, rfl, R6.out.base (by omega), HM.out, by rw [EL.out]; exact H6.out, K6.out⟩
end Go.Proofs.YtjajandjdclifaaDoor
namespace Go.Proofs.YtjajandjdclifaaDoor
open Go.RowKit
attribute [local go_sem ↓] Go.wp_at_zero Go.wp_at_succ

set_option maxRecDepth 100000 in
theorem new_any (m : Int) (w : World) : Calls Tryd.prog 9 #[.int .i64 m] w fun e w' => e = .returned (.pointer (some ⟨w.heap.size, 0, none⟩)) ∧ Fd w.heap.size m [] 0 w' ∧ Below w.heap.size w w' := by
  have H1 : Hid (Fd w.heap.size m [] 0 (w.alloc (.cells #[.int .i64 m, .pointer none, .slice none 0 0, .int .u8 0] 86))) := Lib.hid (.inl ⟨_, heap_alloc_new w _, World.ownsRowF_nil _ _ _ _, by simp [Value.ownBlock]⟩)
  have H2 : Hid (Below w.heap.size w (w.alloc (.cells #[.int .i64 m, .pointer none, .slice none 0 0, .int .u8 0] 86))) := Lib.hid ((Below.refl _ _).alloc (Nat.le_refl _) _)
  go_enter Tryd.func9, Tryd.ntmps9
  go_wp2
  go_ret
  exact ⟨rfl, H1.out, H2.out⟩
theorem left_nil (w : World) : Calls Tryd.prog 12 #[.pointer none] w fun e w' => e = .returned (.string ⟨#[]⟩) ∧ w = w' := by
  go_enter Tryd.func12, Tryd.ntmps12
  go_wp2
  go_ret
  exact ⟨rfl, rfl⟩
set_option maxRecDepth 100000 in
theorem left_any (r : Nat) (m : Int) (l : List UInt8) (c : Int) (w : World) (h : Fd r m l c w) (hl : l.length ≤ 281474976710656) :
    Calls Tryd.prog 12 #[.pointer (some ⟨r, 0, none⟩)] w fun e w' => e = .returned (.string ⟨l.toArray⟩) ∧ Fd r m l c w' ∧ Kp r w w' := by
  have C := Lib.hid (fstring_any r m l c w h)
  have CC := Lib.hid (clone_any ⟨l.toArray⟩)
  have hs : (⟨l.toArray⟩ : ByteArray).size ≤ 281474976710656 := by show l.toArray.size ≤ _; simp; exact hl
  clear h
  go_enter Tryd.func12, Tryd.ntmps12
  go_wp2_with fail
  refine C.out.mono ?_
  rintro e w1 ⟨rfl, h1, k1⟩
  have hlt := h1.lt
  have H1 := Lib.hid h1
  have K1 := Lib.hid k1
  clear h1 k1 C
  go_wp2_with fail
  refine (CC.out _ hs).mono ?_
  rintro e w2 ⟨rfl, b2⟩
  have H2 := Lib.hid (H1.out.below b2)
  have K2 := Lib.hid (K1.out.trans (Kp.of_below (Nat.le_of_lt hlt) b2))
  clear b2 H1 K1 CC
  go_wp2_with fail
  go_ret
  exact ⟨rfl, H2.out, K2.out⟩

theorem fed_half : ST.fed 100 ⟨#[192]⟩ = ([], 0, 0) := by kernel_rfl
theorem ping_pk : PK.getPk ⟨#[192, 0]⟩ = (PK.barePk 12 false false 0, 0) := by kernel_rfl
theorem fed_two : ST.fed 100 ⟨#[192, 0, 192, 0]⟩ = ([⟨#[192, 0]⟩, ⟨#[192, 0]⟩], 4, 0) := by kernel_rfl

theorem two_len {L : List Pv} (h : L.length = 2) : ∃ x y, L = [x, y] := by
  cases L with
  | nil => simp at h
  | cons x t => cases t with
    | nil => simp at h
    | cons y u => cases u with
      | nil => exact ⟨x, y, rfl⟩
      | cons z u => simp at h
theorem two_of {L : List Pv} {a b : Pk} (h : L.map Pv.p = [a, b]) : ∃ x y, L = [x, y] :=
  two_len (by have := congrArg List.length h; rw [List.length_map] at this; exact this)
set_option maxRecDepth 100000 in
set_option maxHeartbeats 1000000 in
theorem swakes_any (w : World) (hT : ∀ W, Below w.heap.size w W → Tabs W) : Calls Tryd.prog 11 #[] w fun e w' => e = .returned (.bool true) ∧ Below w.heap.size w w' := by
  have CN := Lib.hid (new_any 100 w)
  have HTb := Lib.hid hT
  clear hT
  go_enter Tryd.func11, Tryd.ntmps11
  go_wp2_with fail
  refine CN.out.mono ?_
  rintro e w1 ⟨rfl, h1, b1⟩
  have C1 : Hid (Calls Tryd.prog 10 #[.pointer (some ⟨w.heap.size, 0, none⟩), .string ⟨#[192]⟩] w1 (FeP w.heap.size 100 ⟨#[192]⟩ w1)) := Lib.hid (feed_any w.heap.size 100 [] ⟨#[192]⟩ w1 h1 (by decide) (fun W hW => HTb.out W (b1.trans hW)))
  have B1 := Lib.hid b1
  clear h1 b1 CN
  go_wp2_with fail
  refine C1.out.mono ?_
  rintro e w2 hF
  obtain ⟨v2, L2, rfl, r2, m2, h2, k2⟩ := hF
  rw [fed_half] at m2 h2 ⊢
  have hL2 : ST.left 100 ⟨#[192]⟩ = [192] := by kernel_rfl
  rw [hL2] at h2
  have hl0 : L2 = [] := by simpa using m2
  subst hl0
  obtain ⟨A2, c2, rfl⟩ := own_form r2.row
  have C2 := Lib.hid (left_any w.heap.size 100 [192] 0 w2 h2 (by decide))
  have K2 := Lib.hid k2
  clear C1 r2 m2 h2 k2 hL2
  go_wp2_with fail
  refine C2.out.mono ?_
  rintro e w3 ⟨rfl, h3, k3⟩
  have C3 : Hid (Calls Tryd.prog 10 #[.pointer (some ⟨w.heap.size, 0, none⟩), .string ⟨#[0, 192, 0]⟩] w3 (FeP w.heap.size 100 ⟨#[192, 0, 192, 0]⟩ w3)) := Lib.hid (feed_any w.heap.size 100 [192] ⟨#[0, 192, 0]⟩ w3 h3 (by decide) (fun W hW => HTb.out W ((B1.out.trans K2.out.1).trans (k3.1.trans hW))))
  have B3 := Lib.hid ((B1.out.trans K2.out.1).trans k3.1)
  clear h3 k3 C2 K2 B1
  go_wp2_with fail
  refine C3.out.mono ?_
  rintro e w4 hF
  obtain ⟨v4, L4, rfl, r4, m4, h4, k4⟩ := hF
  rw [fed_two] at m4 h4 ⊢
  have HB := Lib.hid (B3.out.trans k4.1)
  simp only [List.map_cons, List.map_nil, ping_pk] at m4
  obtain ⟨x, y, rfl⟩ := two_of m4
  simp only [List.map_cons, List.map_nil, List.cons.injEq, and_true] at m4
  obtain ⟨g, p4', hv4, hg4, hg4'⟩ := r4.row.form (by simp)
  subst hv4
  have e4 : w4.cell? ⟨g, 26, none⟩ = some (.int .i64 12) := by
    rw [← add0]
    have := r4.row.cells (g := g) rfl 26 (.int .i64 y.p.kind) (by simp [Pv.cells, pkCells])
    rw [m4.2] at this
    exact this
  clear r4 m4 h4 k4 C3 B3
  go_wp2_with fail
  go_ret
  exact ⟨rfl, HB.out⟩
end Go.Proofs.YtjajandjdclifaaDoor
namespace Go.Proofs.YtjajandjdclifaaDoor
open Go.RowKit

/-- How many bytes pieces have together. -/
def bytesOf (l : List ByteArray) : Nat := (l.map ByteArray.size).sum
theorem bytes_take {l : List ByteArray} {k : Nat} {x : ByteArray} (h : l[k]? = some x) : bytesOf (l.take (k + 1)) = bytesOf (l.take k) + x.size := by
  have e : l.take (k + 1) = l.take k ++ [x] := by rw [List.take_add_one, h]; rfl
  rw [e]; simp [bytesOf]
theorem bytes_le (l : List ByteArray) : ∀ k, bytesOf (l.take k) ≤ bytesOf l := by
  induction l with
  | nil => intro k; simp [bytesOf]
  | cons x l ih => intro k; cases k with
    | zero => simp [bytesOf]
    | succ k => have := ih k; simp [bytesOf] at this ⊢; omega
theorem left_len (m : Int) (U : ByteArray) : (ST.left m U).length ≤ U.size := by
  unfold ST.left
  split
  · simp
  · have h : ∀ X : ByteArray, X.data.toList.length = X.size := fun X => by rw [Array.length_toList]; rfl
    rw [h, ByteArray.size_extract]; omega
theorem left_bad {m : Int} {U : ByteArray} (h : (ST.fed m U).2.2 ≠ 0) : ST.left m U = [] := by unfold ST.left; rw [if_pos h]
theorem join_size (l : List UInt8) (s : ByteArray) : (⟨(l ++ s.data.toList).toArray⟩ : ByteArray).size = l.length + s.size := by
  show (l ++ s.data.toList).toArray.size = _
  simp
end Go.Proofs.YtjajandjdclifaaDoor
namespace Go.Proofs.YtjajandjdclifaaDoor
open Go.RowKit
attribute [local go_sem ↓] Go.wp_at_zero Go.wp_at_succ

/-- The reader of a law's loop. -/
def StI (w : World) (m : Int) (n : Nat) (wr : World) : Prop := ∃ l, Fd w.heap.size m l 0 wr ∧ l.length ≤ n ∧ Below w.heap.size w wr

set_option maxRecDepth 100000 in
set_option maxHeartbeats 4000000 in
theorem streamStops_walk (w : World) (A : Option Addr) (cap : Nat) (ps : List ByteArray) (hl : ps.length ≤ maxLen) (h : Texts w A ps) (hc : ps.length ≤ cap) (more : ByteArray) (m : Int) (hsum0 : bytesOf ps + more.size ≤ 1048576) (hT : ∀ W, Below w.heap.size w W → Tabs W) :
    Calls Tryd.prog 4 #[.slice A ps.length cap, .string more, .int .i64 m] w fun e w' => e = .returned (.bool true) ∧ Below w.heap.size w w' := by
  unfold maxLen at hl
  have hsum : bytesOf ps ≤ 1048576 := by omega
  have H := Lib.hid h
  have HTb := Lib.hid hT
  have HSum := Lib.hid hsum
  obtain ⟨n, hm, hm1, hm2⟩ : ∃ n : Nat, min (ps.length : Int) 40 = (n : Int) ∧ n ≤ 40 ∧ n ≤ ps.length := by
    by_cases h80 : ps.length ≤ 40
    · exact ⟨ps.length, by omega, by omega, by omega⟩
    · exact ⟨40, by omega, by omega, by omega⟩
  have hm3 : ((n : Int)).toNat = n := by omega
  have hm4 : max (n : Int) 0 = n := by omega
  have Hm := Lib.hid hm
  have CN := Lib.hid (new_any m w)
  have CF0 := Lib.hid (feed_nil more)
  have CL0 := Lib.hid left_nil
  clear h hT hsum hm hsum0
  go_enter Tryd.func4, Tryd.ntmps4
  go_wp2_with fail
  refine CN.out.mono ?_
  rintro e w1 ⟨rfl, h1, b1⟩
  have hlt1 := h1.lt
  have H1 := Lib.hid h1
  have B1 := Lib.hid b1
  clear h1 b1 CN
  go_wp2_with fail
  refine (CF0.out _).mono ?_
  rintro e w' ⟨rfl, rfl⟩
  have CW := Lib.hid (swakes_any w1 (fun W hW => HTb.out W (B1.out.trans (hW.mono B1.out.size))))
  clear CF0
  go_wp2_with fail
  refine CW.out.mono ?_
  rintro e w2 ⟨rfl, b2⟩
  have HI : Hid (StI w m 0 w2) := Lib.hid ⟨[], H1.out.below b2, by simp, B1.out.trans (b2.mono B1.out.size)⟩
  clear b2 CW H1 B1
  go_wp2_with fail
  refine (CL0.out _).mono ?_
  rintro e w' ⟨rfl, rfl⟩
  clear CL0
  go_wp2_with fail
  rw [Hm.out, hm3, hm4]
  clear hm3 hm4 Hm
  go_loopw [42] (fun i wr => ∃ k : Nat, i = .int .i64 k ∧ k ≤ n ∧ Hid (StI w m (bytesOf (ps.take k)) wr)) (fun i _ => n - (intOf i).toNat)
  case atStart => exact ⟨0, rfl, by omega, HI⟩
  case round =>
    obtain ⟨k, rfl, hk, hst⟩ := hrel
    obtain ⟨l, hf, hll, hb⟩ := hst.out
    have i0 : (0 : Int) ≤ (k : Int) := by omega
    by_cases hlt : k < n
    · obtain ⟨s, hs⟩ : ∃ s, ps[k]? = some s := ⟨ps[k]'(by omega), List.getElem?_eq_getElem _⟩
      obtain ⟨g, o, rfl, hg, r0⟩ := H.out k s hs
      have q0 : wr.cell? ⟨g, o + k, none⟩ = some (.string s) := by rw [hb.cell (p := ⟨g, o + k, none⟩) hg]; exact r0
      have hbt := bytes_take hs
      have hbl := bytes_le ps (k + 1)
      have hsu := HSum.out
      have CF := Lib.hid (feed_any w.heap.size m l s wr hf (by omega) (fun W hW => HTb.out W (hb.trans hW)))
      have hjs := join_size l s
      have hll2 := left_len m ⟨(l ++ s.data.toList).toArray⟩
      have i1 : (k : Int) < (n : Int) := by omega
      have HB := Lib.hid hb
      have hlen : (ST.left m ⟨(l ++ s.data.toList).toArray⟩).length ≤ bytesOf (ps.take (k + 1)) := by omega
      have HLB := Lib.hid (left_bad (m := m) (U := ⟨(l ++ s.data.toList).toArray⟩))
      generalize (⟨(l ++ s.data.toList).toArray⟩ : ByteArray) = U at *
      have HLe := Lib.hid hlen
      clear r0 hs hst hf hb hbt hbl hsu hjs hll2 hlen hll
      go_wp2_with fail
      refine CF.out.mono ?_
      rintro e w4 hF
      obtain ⟨v, L, rfl, -, -, h4, k4⟩ := hF
      have HB4 := Lib.hid (HB.out.trans k4.1)
      have HF4 := Lib.hid h4
      obtain ⟨c, hcd⟩ : ∃ c, c = (ST.fed m U).2.2 := ⟨_, rfl⟩
      rw [← hcd] at HF4 HLB ⊢
      clear CF h4 k4 hcd HB
      by_cases hc0 : c = 0
      · subst hc0
        have HN : Hid (StI w m (bytesOf (ps.take (k + 1))) w4) := Lib.hid ⟨_, HF4.out, HLe.out, HB4.out⟩
        clear HF4 HLe HB4 HLB
        go_wp2_with fail
        go_roundw
        case rel => exact ⟨k + 1, by go_num, by omega, HN⟩
        case measure => simp [intOf]; omega
      · have hne : (c != 0) = true := by rw [bne_iff_ne]; exact hc0
        have h5 := HF4.out
        rw [HLB.out hc0] at h5
        have CO := Lib.hid (feed_over w.heap.size m [] c more w4 hc0 h5)
        have H5 := Lib.hid h5
        clear HF4 HLe HLB h5 hc0
        go_wp2_with fail
        refine CO.out.mono ?_
        rintro e w5 ⟨rfl, b5⟩
        have CL := Lib.hid (left_any w.heap.size m [] c w5 (H5.out.below b5) (by simp))
        have hsz := HB4.out.size
        have HB5 := Lib.hid (HB4.out.trans (b5.mono hsz))
        clear CO H5 b5 HB4
        go_wp2_with fail
        refine CL.out.mono ?_
        rintro e w6 ⟨rfl, -, k6⟩
        have HB6 := Lib.hid (HB5.out.trans k6.1)
        clear CL k6 HB5
        go_wp2_with fail
        go_ret
        exact ⟨rfl, HB6.out⟩
    · have hkn : k = n := by omega
      subst hkn
      have HB := Lib.hid hb
      clear hf hb hst hll
      go_wp2
      go_ret
      exact ⟨rfl, HB.out⟩
end Go.Proofs.YtjajandjdclifaaDoor
namespace Go.Proofs.YtjajandjdclifaaDoor
open Go.RowKit Go.ChangeShapes Go.WideShapes Go.Deep

theorem bulk_app {H : Type} (l r : List (DataW H)) : Rows.uptoBulkAll (l ++ r) = Rows.uptoBulkAll l + Rows.uptoBulkAll r := by
  induction l with
  | nil => simp [Rows.uptoBulkAll]
  | cons x l ih => simp only [List.cons_append, Rows.uptoBulkAll, ih]; omega
theorem bulk_bound {H : Type} {l : List (DataW H)} (hk : Rows.uptoSmall H l = true) : Rows.uptoBulkAll l ≤ 1048576 := of_decide_eq_true hk
theorem bulk_string {H : Type} (s : ByteArray) : Rows.uptoBulk (DataW.lit (H := H) (.string s.data.toList)) = s.size + 1 := by
  have e : s.data.toList.length = s.size := by rw [Array.length_toList]; rfl
  simp only [Rows.uptoBulk, e]
theorem bulk_texts {H : Type} (l : List ByteArray) : bytesOf l ≤ Rows.uptoBulkAll (l.map fun s => DataW.lit (H := H) (.string s.data.toList)) := by
  induction l with
  | nil => simp [bytesOf, Rows.uptoBulkAll]
  | cons x l ih =>
    simp only [List.map_cons, Rows.uptoBulkAll, bulk_string]
    simp [bytesOf] at ih ⊢
    omega
theorem trod_lt' {H : Type} {enc : TypeId × Value → H} {P : Program} {w : World} {base : Nat} {spare : Nat → Bool} {held : Bool} {t : TypeId} {v : Value} {d : DataW H} {ps : List MemPlace} (h : DataW.Trod enc P w base spare held t v d ps) : ∀ x ∈ ps, x.block < w.heap.size := by
  obtain ⟨n, hn⟩ := h
  exact DataW.trod_lt n t _ _ hn
theorem cell_in {w : World} {a : Addr} {v : Value} (h : w.cell? a = some v) : a.block < w.heap.size := by
  rcases Nat.lt_or_ge a.block w.heap.size with h' | h'
  · exact h'
  · exfalso
    have e : w.heap[a.block]? = none := Array.getElem?_eq_none h'
    simp [World.cell?, e] at h
theorem texts_len : Tryd.prog.cellsOf 9 = 1 := by kernel_rfl
set_option maxRecDepth 100000 in
/-- An argument of texts. -/
theorem open_texts {H : Type} {enc : TypeId × Value → H} {w : World} {v : Value} {d : DataW H} {ps : List MemPlace} {r : Reach} {b0 : Nat} (hv : Value.okWide Tryd.prog w r b0 27 v) (h : DataW.Trod enc Tryd.prog w 0 (fun _ => true) true 27 v d ps) :
    ∃ A cap l, v = .slice A l.length cap ∧ l.length ≤ maxLen ∧ Texts w A l ∧ l.length ≤ cap ∧ bytesOf l ≤ Rows.uptoBulk d := by
  obtain ⟨A0, l0, c0, rfl⟩ := okWide_slice Tryd.underlying27 hv
  obtain ⟨n, hn⟩ := h
  rcases open_strs Tryd.underlying27 Tryd.underlying9 texts_len hn with ⟨hc, hx⟩ | ⟨a, len, cap, m, Sx, hc, _, hl, hm, hmm, hx, hi⟩
  · have e1 : Value.slice A0 l0 c0 = .slice none 0 0 := (List.cons.inj (show [Value.slice A0 l0 c0] = _ from hc)).1
    exact ⟨none, 0, [], e1, by simp [maxLen], fun i x hx => by simp at hx, Nat.le_refl _, by simp [bytesOf]⟩
  · have e1 : Value.slice A0 l0 c0 = .slice (some a) len cap := (List.cons.inj (show [Value.slice A0 l0 c0] = _ from hc)).1
    have hmc : m = cap := by simpa using hmm
    have hd : d = .slice ((List.range len).map fun i => .lit (.string (Sx i).data.toList)) ((List.range (m - len)).map fun j => .lit (.string (Sx (len + j)).data.toList)) := congrArg Prod.fst hx
    refine ⟨some a, cap, (List.range len).map Sx, by simpa using e1, by simp; omega, ?_, by simpa using hl, ?_⟩
    · intro i x hx
      rw [List.getElem?_map] at hx
      have hil : i < len := by
        rcases Nat.lt_or_ge i len with h' | h'
        · exact h'
        · rw [List.getElem?_eq_none (by simpa using h')] at hx; cases hx
      rw [List.getElem?_range hil] at hx
      simp at hx
      subst hx
      have h1 := (hi i (by omega)).1
      obtain ⟨b, o, spot⟩ := a
      have hspot : spot = none := by simpa [Addr.add] using World.cell?_spot (hi 0 (by omega)).1
      subst hspot
      rw [add_plain] at h1
      exact ⟨b, o, rfl, cell_in h1, h1⟩
    · rw [hd]
      simp only [Rows.uptoBulk]
      have := bulk_texts (H := H) ((List.range len).map Sx)
      rw [List.map_map] at this
      have e : ((fun s : ByteArray => DataW.lit (H := H) (.string s.data.toList)) ∘ Sx) = fun i => .lit (.string (Sx i).data.toList) := rfl
      rw [e] at this
      omega
end Go.Proofs.YtjajandjdclifaaDoor
