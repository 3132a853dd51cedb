/- The writer of a packet: a strings.Builder and a code in one struct.; strings.Clone answers the same bytes.; The program's functions on texts: where the characters end and how many there are, Fault, Runes, Cut.; New slices of one to four bytes: made, and turned into strings; bits of bytes.; The document's functions on texts answer the same plain numbers.; Where bytes are no text: the program's function and the document's answer the same.; Plain numbers and lists behind fixed numbers and data. No program is named here.; The function that tells a fixed number's bytes answers the plain bytes and code.; Whether a place lies within a string.; The function that reads fixed numbers answers the plain number, place and code.; The document's function that reads fixed numbers answers the plain number, place and code.; Data: the program's and the document's functions answer the same; the law on them returns true.; Put and Get of texts: the program's functions and the document's answer the same.; Properties' bytes, told plainly. No function of the program is named here. -/
import Derived.Test.YtjajandjdclifaaGreatDoorMA
import Derived.Lib.OthersKept
import Derived.Lib.AppendStr
import Derived.Lib.UnsafeStr
import Derived.Lib.Builder
import Derived.Deep.DeepAppendWide
import Derived.Room.AppendFits
import Derived.Laws.Externs
import Derived.WalkKit
import Derived.KernelRfl
import Derived.Test.YtjajandjdclifaaGreatDoorProg
import Derived.Shelf.Strconv.Clone
import Derived.Laws.Strings3
import Derived.Below
import Derived.Laws.BytesArg
import Derived.Laws.BitsAllLaws
import Derived.Laws.Bits128
import Derived.WalkLawsBesides
import Derived.Lib.Hide
import Derived.Laws.Slices
import Derived.Laws.DeepStrings4
namespace Go.Proofs.YtjajandjdclifaaGreatDoor
open Go.RowKit

/-- A string behind a row of bytes of the call's own, where both together take up to 2 * 10^14 bytes. -/
theorem app_str_wide {P : Program} (w : World) (base : Nat) (t u ty e : TypeId) (i : TypeInfo) (ht : P.underlying t = some (.slice e)) (hu : P.underlying u = some .string) (hi : P.info? e = some i) (hz : i.zero = some (.int .u8 0)) (hsize : i.size = 1) (hby : i.bytes = 1)
    (v : Value) (n : Nat) (xs : List Value) (hown : w.ownsRow base e 1 v n xs) (s : ByteArray) (hs : s.size ≤ 140737488355328) (hn : n + s.size ≤ 200000000000000) (hbase : base ≤ w.heap.size) :
    ∃ v' w', (Builtin.append_ #[t, u] ty #[v, .string s]).run P w = .ok v' w' ∧ w'.ownsRow base e 1 v' (n + s.size) (xs ++ Lib.strCells s) ∧ w.grownBy w' v.ownBlock := by
  by_cases hsm : n + s.size ≤ 140737488355328
  · obtain ⟨v', w', h1, h2, h3, _⟩ := Lib.run_append_own_string (P := P) w base t u ty e i ht hu hi hz hsize hby v n xs hown s (by unfold maxLen; omega) hsm hbase
    exact ⟨v', w', h1, h2, h3⟩
  · rcases hown.2 with ⟨rfl, rfl⟩ | ⟨g, cap, cur, rfl, hbg, hg, hnc, hcm, hcs, htake⟩
    · omega
    · by_cases hroom : n + s.size ≤ cap
      · obtain ⟨w', h1, h2, h3⟩ := Lib.run_append_fits_string (P := P) w base t u ty e i ht hu hi hsize (some ⟨g, 0, none⟩) n cap xs hown s (by omega) hroom
        exact ⟨_, w', h1, h2, h3⟩
      · have hxl : xs.length = n := by simpa using hown.1
        have hr := Lib.run_append_grow_string (P := P) w t u ty e i (.int .u8 0) ht hu hi hz ⟨g, 0, none⟩ n cap xs (by rw [hsize]; omega) (hown.cells (g := g) rfl) s (by omega) (by omega) (by rw [hby]; exact growslice_fits_wide (by omega) (by omega))
        have hge := grownCap_ge w (n + s.size) cap e
        refine ⟨_, _, hr, ⟨by rw [List.length_append, hxl, Lib.strCells_length]; omega, .inr ⟨w.heap.size, grownCap w (n + s.size) cap e, _, rfl, hbase, heap_alloc_new w.drew _, hge, grownCap_le_maxLen w (n + s.size) cap e (by unfold maxLen; omega), ?_, ?_⟩⟩, ⟨rfl, rfl, rfl, by simp, fun k hk _ => heap_alloc_old w.drew _ hk⟩⟩
        · have hz1 : (Value.int IntKind.u8 0).cells.size = 1 := rfl
          simp only [Array.size_append, List.size_toArray, size_zeroCells, hz1, hxl, Lib.strCells_length]
          omega
        · have hl2 : (xs ++ Lib.strCells s).length = (n + s.size) * 1 := by rw [List.length_append, hxl, Lib.strCells_length]; omega
          simp only [Array.toList_append, List.append_assoc]
          rw [← List.append_assoc, ← hl2]
          exact List.take_left

/-- The writer in block b: the bytes l so far, the code c; 'p': whether its builder was used. -/
def WrAt (b : Nat) (p : Value) (l : List UInt8) (c : Int) (w : World) : Prop :=
  ∃ v, w.heap[b]? = some (.cells #[p, v, .int .u8 c] 120 (0, 0)) ∧ w.ownsRow b 5 1 v l.length (Lib.byteCells l) ∧ v.ownBlock ≠ some b
def Wr (b : Nat) (l : List UInt8) (c : Int) (w : World) : Prop := WrAt b (.pointer none) l c w ∨ WrAt b (.pointer (some ⟨b, 0, none⟩)) l c w
/-- All that isn't the writer's stands. -/
def Kp (b : Nat) (w w' : World) : Prop := Below b w w' ∧ Lib.OthersKept 5 (some b) w w'
theorem Kp.refl (b : Nat) (w : World) : Kp b w w := ⟨Below.refl _ _, Lib.OthersKept.refl _ _ _⟩
theorem Kp.trans {b : Nat} {w1 w2 w3 : World} (h : Kp b w1 w2) (k : Kp b w2 w3) : Kp b w1 w3 := ⟨h.1.trans k.1, h.2.trans k.2⟩
theorem Kp.of_below {b : Nat} {w w' : World} (hb : b ≤ w.heap.size) (h : Below w.heap.size w w') : Kp b w w' :=
  ⟨h.mono hb, fun k _ hk _ _ => (h.block k (lt_heap hk)).trans hk⟩
theorem Kp.size {b : Nat} {w w' : World} (h : Kp b w w') : w.heap.size ≤ w'.heap.size := h.1.size
theorem Kp.block {b k : Nat} {w w' : World} (h : Kp b w w') {cs : Array Value} {t : TypeId} {fr : Nat × Nat} (hk : w.heap[k]? = some (.cells cs t fr)) (hne : k ≠ b) (ht : t ≠ 5) : w'.heap[k]? = some (.cells cs t fr) :=
  h.2 k _ hk (fun e => hne (by injection e)) (fun c fz e => ht (by injection e))
theorem WrAt.lt {b : Nat} {p : Value} {l : List UInt8} {c : Int} {w : World} (h : WrAt b p l c w) : b < w.heap.size := by
  obtain ⟨v, h1, _⟩ := h; exact lt_heap h1
theorem Wr.lt {b : Nat} {l : List UInt8} {c : Int} {w : World} (h : Wr b l c w) : b < w.heap.size := by
  rcases h with h | h <;> exact h.lt
theorem WrAt.below {b : Nat} {p : Value} {l : List UInt8} {c : Int} {w w' : World} (h : WrAt b p l c w) (hb : Below w.heap.size w w') : WrAt b p l c w' := by
  obtain ⟨v, h1, h2, h3⟩ := h
  exact ⟨v, (hb.block b (lt_heap h1)).trans h1, own_below h2 hb, h3⟩
theorem Wr.below {b : Nat} {l : List UInt8} {c : Int} {w w' : World} (h : Wr b l c w) (hb : Below w.heap.size w w') : Wr b l c w' := by
  rcases h with h | h
  · exact .inl (h.below hb)
  · exact .inr (h.below hb)
theorem Wr.new (w : World) : Wr w.heap.size [] 0 (w.alloc (.cells #[.pointer none, .slice none 0 0, .int .u8 0] 120)) :=
  .inl ⟨_, heap_alloc_new w _, own_nil _ _ _ _, by simp [Value.ownBlock]⟩
theorem set_block {w : World} {b : Nat} {cs cs' : Array Value} {t : TypeId} {j : Nat} {u : Value} (h : w.heap[b]? = some (.cells cs t (0, 0))) (hc : cs.set! j u = cs') : (w.setCell ⟨b, j, none⟩ u).heap[b]? = some (.cells cs' t (0, 0)) := by
  subst hc
  simp [World.setCell, Array.getElem?_modify, h]
theorem own_set {w : World} {b j : Nat} {B : Nat} {e : TypeId} {k : Nat} {v u : Value} {n : Nat} {xs : List Value} (h : w.ownsRow B e k v n xs) (hne : v.ownBlock ≠ some b) : (w.setCell ⟨b, j, none⟩ u).ownsRow B e k v n xs :=
  h.kept (row := some b) ⟨rfl, rfl, rfl, by simp [World.setCell], fun i _ hi => Below.heap_setCell _ _ _ _ (fun e => hi (by simp [e]))⟩ (.inr hne)
/-- A store into the writer's own block. -/
theorem Kp.setCell {b : Nat} {w w' : World} (h : Kp b w w') (j : Nat) (u : Value) : Kp b w (w'.setCell ⟨b, j, none⟩ u) :=
  ⟨h.1.setCell (p := ⟨b, j, none⟩) (Nat.le_refl _) u, h.2.setCell ⟨b, j, none⟩ rfl u⟩

theorem bldInfo : ∃ j, Tryz.prog.info? 118 = some j ∧ j.size = 2 := by
  have h : (Tryz.prog.info? 118).map (·.size) = some 2 := by kernel_rfl
  exact Option.map_eq_some_iff.1 h
theorem bldLies : liesAt Tryz.prog Tryz.prog.depth 120 (3 / Tryz.prog.cellsOf 120) 0 118 1 = true := by kernel_rfl

set_option maxHeartbeats 1000000 in
set_option maxRecDepth 100000 in
theorem wcopy_used (b : Nat) (w : World) (h0 : w.cell? ⟨b, 0, none⟩ = some (.pointer (some ⟨b, 0, none⟩))) :
    Calls Tryz.prog 89 #[.pointer (some ⟨b, 0, none⟩)] w fun e w' => e = .returned (.tuple #[]) ∧ w = w' := by
  obtain ⟨j, hj, _⟩ := bldInfo
  have hn := Lib.run_neq_ptr_same (P := Tryz.prog) w ⟨b, 0, none⟩ Tryz.underlying116 hj
  clear hj
  go_enter Tryz.func89, Tryz.ntmps89
  go_wp2
  go_end0
  exact ⟨rfl, rfl⟩
set_option maxHeartbeats 1000000 in
set_option maxRecDepth 100000 in
theorem wcopy_fresh (b : Nat) (w : World) (h0 : w.cell? ⟨b, 0, none⟩ = some (.pointer none)) (hsh : w.shape? b = some (120, 3)) (hfz : w.frozen? ⟨b, 0, none⟩ = false) :
    Calls Tryz.prog 89 #[.pointer (some ⟨b, 0, none⟩)] w fun e w' => e = .returned (.tuple #[]) ∧ w.setCell ⟨b, 0, none⟩ (.pointer (some ⟨b, 0, none⟩)) = w' := by
  obtain ⟨j, hj, hjs⟩ := bldInfo
  have r1 := Lib.run_to_unsafe (P := Tryz.prog) w ⟨b, 0, none⟩ Tryz.underlying116 Tryz.underlying196 hj (by rw [hjs]; decide) hsh (Nat.zero_lt_succ 2)
  have r2 := Lib.run_from_unsafe (P := Tryz.prog) w ⟨b, 0, none⟩ Tryz.underlying196 Tryz.underlying116 hj hsh bldLies
  clear hj hjs hsh
  go_enter Tryz.func89, Tryz.ntmps89
  go_wp2
  rw [run_callFunc_extern Tryz.func119 (by kernel_rfl) (by kernel_rfl) (by kernel_rfl) (e := Extern.AbiNoEscape.same) (by kernel_rfl)]
  rw [Lib.run_noEscape]
  simp only [Result.andThen]
  rw [Oper.upon_value]
  go_wp2
  go_end0
  exact ⟨rfl, rfl⟩

theorem wcopy_any (b : Nat) (l : List UInt8) (c : Int) (w : World) (h : Wr b l c w) :
    Calls Tryz.prog 89 #[.pointer (some ⟨b, 0, none⟩)] w fun e w' => e = .returned (.tuple #[]) ∧ WrAt b (.pointer (some ⟨b, 0, none⟩)) l c w' ∧ Kp b w w' := by
  rcases h with ⟨v, h1, h2, h3⟩ | ⟨v, h1, h2, h3⟩
  · refine (wcopy_fresh b w (by rw [cell_heap h1]; rfl) (by simp [World.shape?, h1]) (frozen_heap h1)).mono ?_
    rintro e w' ⟨rfl, rfl⟩
    exact ⟨rfl, ⟨v, set_block h1 rfl, own_set h2 h3, h3⟩, (Kp.refl b w).setCell 0 _⟩
  · refine (wcopy_used b w (by rw [cell_heap h1]; rfl)).mono ?_
    rintro e w' ⟨rfl, rfl⟩
    exact ⟨rfl, ⟨v, h1, h2, h3⟩, Kp.refl b w⟩
theorem byteInfo : (Tryz.prog.info? 5).map (fun i => (i.zero, i.size, i.bytes)) = some (some (.int .u8 0), 1, 1) := by kernel_rfl
theorem own_row {w : World} {B : Nat} {e : TypeId} {k : Nat} {v : Value} {n : Nat} {xs : List Value} (h : w.ownsRow B e k v n xs) : ∀ g, v.ownBlock = some g → ∃ c fz, w.heap[g]? = some (.cells c e fz) := by
  intro g hg
  rcases h.2 with ⟨rfl, _⟩ | ⟨g', c, u, rfl, _, hh, _⟩
  · cases hg
  · simp only [Value.ownBlock, Option.some.injEq] at hg
    subst hg
    exact ⟨_, _, hh⟩

set_option maxHeartbeats 2000000 in
set_option maxRecDepth 100000 in
theorem wwrite_any (b : Nat) (l : List UInt8) (c : Int) (s : ByteArray) (w : World) (h : Wr b l c w) (hs : s.size ≤ 140737488355328) (hn : l.length + s.size ≤ 200000000000000) :
    Calls Tryz.prog 47 #[.pointer (some ⟨b, 0, none⟩), .string s] w fun e w' => e = .returned (.tuple #[.int .i64 s.size, .nilIface]) ∧ Wr b (l ++ s.data.toList) c w' ∧ Kp b w w' := by
  have C := Lib.hid (wcopy_any b l c w h)
  obtain ⟨i0, hi, hz0, hz1, hz2⟩ := info_parts byteInfo
  have Hi := Lib.hid hi; have Hz0 := Lib.hid hz0; have Hz1 := Lib.hid hz1; have Hz2 := Lib.hid hz2
  clear hi hz0 hz1 hz2 h
  go_enter Tryz.func47, Tryz.ntmps47
  go_wp2_with fail
  refine C.out.mono ?_
  rintro e w1 ⟨rfl, ⟨v, h1, h2, h3⟩, k1⟩
  obtain ⟨ao, cap, rfl⟩ := own_form h2
  have hlt := lt_heap h1
  obtain ⟨v', w2, hr, ho, hg⟩ := app_str_wide w1 b 45 9 45 5 i0 Tryz.underlying45 Tryz.underlying9 Hi.out Hz0.out Hz1.out Hz2.out _ _ _ h2 s hs hn (Nat.le_of_lt hlt)
  have hb2 : w2.heap[b]? = some (.cells #[.pointer (some ⟨b, 0, none⟩), .slice ao l.length cap, .int .u8 c] 120 (0, 0)) := (hg.block b hlt (fun e => h3 e.symm)).trans h1
  have k2 : Kp b w w2 := k1.trans ⟨(Below.refl b w1).grown hg (Nat.le_of_lt hlt) (fun k hk => (h2.lt k hk).1), (Lib.OthersKept.refl _ _ _).grown hg (own_row h2)⟩
  have hne := Lib.ownBlock_ne ho hb2 (by decide)
  have HW : Hid (Wr b (l ++ s.data.toList) c (w2.setCell ⟨b, 1, none⟩ v')) := .inr ⟨v', set_block hb2 rfl, by
    refine own_set ?_ hne
    rw [byteCells_app] at ho
    have e : (l ++ s.data.toList).length = l.length + s.size := by rw [List.length_append]; congr 1
    rw [e]; exact ho, hne⟩
  have HK : Hid (Kp b w (w2.setCell ⟨b, 1, none⟩ v')) := k2.setCell 1 _
  have c0 : w1.cell? ⟨b, 0, none⟩ = some (.pointer (some ⟨b, 0, none⟩)) := by rw [cell_heap h1]; rfl
  have c1 : w1.cell? ⟨b, 1, none⟩ = some (.slice ao l.length cap) := by rw [cell_heap h1]; rfl
  have d1 : w2.cell? ⟨b, 1, none⟩ = some (.slice ao l.length cap) := by rw [cell_heap hb2]; rfl
  have f1 : w2.frozen? ⟨b, 1, none⟩ = false := frozen_heap hb2
  obtain ⟨A2, cap2, rfl⟩ := own_form ho
  clear C h1 h2 h3 k1 ho hg hb2 k2 hne Hi Hz0 Hz1 Hz2
  go_wp2_with (at_builtin; refine wpList_run (by rfl) (.tmp 12) (.tmp 13) _ _ (by rfl) (by rfl) (by rfl) hr ?_; clear hr)
  go_ret2
  exact ⟨rfl, HW.out, HK.out⟩
theorem wlen_any (b : Nat) (l : List UInt8) (c : Int) (w : World) (h : Wr b l c w) :
    Calls Tryz.prog 43 #[.pointer (some ⟨b, 0, none⟩)] w fun e w' => e = .returned (.int .i64 l.length) ∧ w = w' := by
  obtain ⟨v, hv, A, cap, rfl⟩ : ∃ v, w.cell? ⟨b, 1, none⟩ = some v ∧ ∃ A cap, v = .slice A l.length cap := by
    rcases h with ⟨v, h2, h3, _⟩ | ⟨v, h2, h3, _⟩
    all_goals
      obtain ⟨A, cap, hv⟩ := own_form h3
      exact ⟨v, by rw [cell_heap h2]; rfl, A, cap, hv⟩
  clear h
  go_enter Tryz.func43, Tryz.ntmps43
  go_wp2
  go_ret
  exact ⟨rfl, rfl⟩
set_option maxHeartbeats 2000000 in
set_option maxRecDepth 100000 in
theorem wstr_any (b : Nat) (x : UInt8) (r : List UInt8) (c : Int) (w : World) (h : Wr b (x :: r) c w) :
    Calls Tryz.prog 46 #[.pointer (some ⟨b, 0, none⟩)] w fun e w' => e = .returned (.string ⟨(x :: r).toArray⟩) ∧ Below b w w' := by
  obtain ⟨p, v, h1, h2, h3⟩ : ∃ p, WrAt b p (x :: r) c w := by
    rcases h with h | h
    · exact ⟨_, h⟩
    · exact ⟨_, h⟩
  obtain ⟨g, cap, cur, rfl, hbg, hg, hnc, hcm, hcs, htake⟩ : ∃ g cap cur, v = .slice (some ⟨g, 0, none⟩) (x :: r).length cap ∧ b ≤ g ∧ w.heap[g]? = some (.cells cur 5 (0, 0)) ∧ (x :: r).length ≤ cap ∧ cap ≤ maxLen ∧ cur.size = cap * 1 ∧ cur.toList.take ((x :: r).length * 1) = Lib.byteCells (x :: r) := by
    rcases h2.2 with ⟨_, hz⟩ | ⟨g, cap, cur, hv, rr⟩
    · simp at hz
    · exact ⟨g, cap, cur, hv, rr⟩
  have hl0 : 0 < (x :: r).length := by simp
  have c1 : w.cell? ⟨b, 1, none⟩ = some (.slice (some ⟨g, 0, none⟩) (x :: r).length cap) := by rw [cell_heap h1]; rfl
  have hSD : (Builtin.unsafeSliceData_ #[45] 175 #[.slice (some ⟨g, 0, none⟩) (x :: r).length cap]).run Tryz.prog w.drew = .ok (.pointer (some ⟨g, 0, none⟩)) w.drew := Lib.run_unsafeSliceData_row _ _ _ _ _ _ (by omega)
  have hUS : (Builtin.unsafeString_ #[175, 3] 9 #[.pointer (some ⟨g, 0, none⟩), .int .i64 (x :: r).length]).run Tryz.prog w.drew = .ok (.string ⟨(x :: r).toArray⟩) (w.drew.freeze ⟨g, 0, none⟩ (x :: r).length) := by
    refine Lib.run_unsafeString_row w.drew 175 3 9 5 Tryz.underlying175 (by kernel_rfl) g cur.size (by have hg' : w.drew.heap[g]? = some (.cells cur 5 (0, 0)) := hg; simp [World.shape?, hg']) (x :: r) (by simp) (by omega) (by unfold maxLen at hcm; omega) ?_
    intro j y hy
    exact h2.cells (g := g) rfl j (.int .u8 y.toNat) (by rw [Lib.byteCells, List.getElem?_map, hy]; rfl)
  generalize x :: r = l at *
  clear h h1 h2 h3 hg hcs htake hnc hcm hl0
  go_enter Tryz.func46, Tryz.ntmps46
  go_wp2
  go_region
  all_goals
    go_wp2
    go_ret
    exact ⟨rfl, Lib.below_freeze (Below.drew (Below.refl b w)) (p := ⟨g, 0, none⟩) hbg _⟩

theorem us_none (W : World) (q : Option Addr) : (Builtin.unsafeString_ #[175, 3] 9 #[.pointer q, .int .i64 0]).run Tryz.prog W = .ok (.string ⟨#[]⟩) W := Lib.run_unsafeString_none W _ _ _ q
set_option maxHeartbeats 2000000 in
set_option maxRecDepth 100000 in
theorem wstr_empty (b : Nat) (c : Int) (w : World) (h : Wr b [] c w) :
    Calls Tryz.prog 46 #[.pointer (some ⟨b, 0, none⟩)] w fun e w' => e = .returned (.string ⟨#[]⟩) ∧ Below b w w' := by
  have hlt := h.lt
  obtain ⟨p, v, h1, h2, h3⟩ : ∃ p, WrAt b p [] c w := by
    rcases h with h | h
    · exact ⟨_, h⟩
    · exact ⟨_, h⟩
  have hUS := us_none
  rcases h2.2 with ⟨rfl, _⟩ | ⟨g, cap, cur, rfl, hbg, hg, _, _, _, _⟩
  · have c1 : w.cell? ⟨b, 1, none⟩ = some (.slice none 0 0) := by rw [cell_heap h1]; rfl
    have hSD : (Builtin.unsafeSliceData_ #[45] 175 #[.slice none 0 0]).run Tryz.prog w.drew = .ok (.pointer none) w.drew := rfl
    clear h h1 h2 h3
    go_enter Tryz.func46, Tryz.ntmps46
    go_wp2
    go_region
    all_goals
      go_wp2
      go_ret
      exact ⟨rfl, Below.drew (Below.refl b w)⟩
  · have c1 : w.cell? ⟨b, 1, none⟩ = some (.slice (some ⟨g, 0, none⟩) 0 cap) := by rw [cell_heap h1]; rfl
    by_cases hc0 : cap = 0
    · subst hc0
      have hSD : (Builtin.unsafeSliceData_ #[45] 175 #[.slice (some ⟨g, 0, none⟩) 0 0]).run Tryz.prog w.drew = .ok (.pointer (some ⟨w.drew.heap.size, 0, none⟩)) (w.drew.alloc (.view ⟨g, 0, none⟩ 5)) :=
        Lib.run_unsafeSliceData_zero w.drew _ _ 5 Tryz.underlying175 ⟨g, 0, none⟩ 0 (5, cur.size) (by have hg' : w.drew.heap[g]? = some (.cells cur 5 (0, 0)) := hg; simp [World.shape?, hg'])
      have c3 : (w.alloc (.view ⟨g, 0, none⟩ 5)).drew.cell? ⟨b, 1, none⟩ = some (.slice (some ⟨g, 0, none⟩) 0 0) := by
        have e : (w.alloc (.view ⟨g, 0, none⟩ 5)).drew.heap[b]? = some (.cells #[p, .slice (some ⟨g, 0, none⟩) 0 0, .int .u8 c] 120 (0, 0)) := (heap_alloc_old w _ hlt).trans h1
        rw [cell_heap e]; rfl
      clear h h1 h2 h3 hg
      go_enter Tryz.func46, Tryz.ntmps46
      go_wp2
      go_region
      all_goals
        go_wp2
        go_ret
        exact ⟨rfl, (Below.drew (Below.refl b w)).alloc (Nat.le_of_lt hlt) _⟩
    · have hSD : (Builtin.unsafeSliceData_ #[45] 175 #[.slice (some ⟨g, 0, none⟩) 0 cap]).run Tryz.prog w.drew = .ok (.pointer (some ⟨g, 0, none⟩)) w.drew := Lib.run_unsafeSliceData_row _ _ _ _ _ _ hc0
      clear h h1 h2 h3 hg hc0
      go_enter Tryz.func46, Tryz.ntmps46
      go_wp2
      go_region
      all_goals
        go_wp2
        go_ret
        exact ⟨rfl, Below.drew (Below.refl b w)⟩
theorem wstring_any (b : Nat) (l : List UInt8) (c : Int) (w : World) (h : Wr b l c w) :
    Calls Tryz.prog 46 #[.pointer (some ⟨b, 0, none⟩)] w fun e w' => e = .returned (.string ⟨l.toArray⟩) ∧ Below b w w' := by
  cases l with
  | nil => exact wstr_empty b c w h
  | cons x r => exact wstr_any b x r c w h
end Go.Proofs.YtjajandjdclifaaGreatDoor
namespace Go.Proofs.YtjajandjdclifaaGreatDoor
open Go.Shelf Go.RowKit

def cloneRen : Ren := ⟨fun _ => 91, fun x => if x = 0 then 0 else if x = 3 then 3 else if x = 4 then 4 else if x = 5 then 5 else if x = 9 then 9 else if x = 37 then 45 else 175, fun x => x⟩

theorem cloneLays : LaysM.n316 Tryz.prog cloneRen where
  mixed := by kernel_rfl
  f316 := by kernel_rfl
  t0 := by kernel_rfl
  a0 := fun _ => by kernel_rfl
  z0 := fun _ => by kernel_rfl
  v0 := fun _ => by kernel_rfl
  t3 := by kernel_rfl
  a3 := fun _ => by kernel_rfl
  z3 := fun _ => by kernel_rfl
  v3 := fun _ => by kernel_rfl
  t4 := by kernel_rfl
  a4 := fun _ => by kernel_rfl
  z4 := fun _ => by kernel_rfl
  v4 := fun _ => by kernel_rfl
  t9 := by kernel_rfl
  a9 := fun _ => by kernel_rfl
  z9 := fun _ => by kernel_rfl
  v9 := fun _ => by kernel_rfl
  t37 := by kernel_rfl
  a37 := fun _ => by kernel_rfl
  z37 := fun _ => by kernel_rfl
  v37 := fun _ => by kernel_rfl
  t127 := by kernel_rfl
  a127 := fun _ => by kernel_rfl
  z127 := fun _ => by kernel_rfl
  v127 := fun _ => by kernel_rfl
  t5 := by kernel_rfl
  a5 := fun _ => by kernel_rfl
  z5 := fun _ => by kernel_rfl
  v5 := fun _ => by kernel_rfl
  i0 := by kernel_rfl
  i3 := by kernel_rfl
  i4 := by kernel_rfl
  i5 := by kernel_rfl
  i9 := by kernel_rfl
  i37 := by kernel_rfl
  i127 := by kernel_rfl

theorem slclone_any (s : ByteArray) (w : World) (hlim : s.size ≤ 281474976710656) :
    Calls Tryz.prog 91 #[.string s] w fun e w' => e = .returned (.string s) ∧ Below w.heap.size w w' :=
  Any.stringslite_Clone cloneLays s w hlim

theorem clone_any (s : ByteArray) (w : World) (hlim : s.size ≤ 281474976710656) :
    Calls Tryz.prog 52 #[.string s] w fun e w' => e = .returned (.string s) ∧ Below w.heap.size w w' := by
  go_enter Tryz.func52, Tryz.ntmps52
  go_wp2_with fail
  refine (slclone_any s _ hlim).mono ?_
  rintro e w1 ⟨rfl, b1⟩
  go_wp2
  go_ret
  exact ⟨rfl, b1⟩

end Go.Proofs.YtjajandjdclifaaGreatDoor
namespace Go.Proofs.YtjajandjdclifaaGreatDoor
open Go.RowKit

theorem slice_from (s : ByteArray) (k : Nat) (h : k ≤ s.size) (w : World) :
    (Instr.slice 9 (.string s) (some (.int .i64 (k : Int))) none none).run Tryz.prog w = .ok (.string (s.extract k s.size)) w := by
  rw [run_slice_string_from_if w 9 s .i64 _ Tryz.underlying9, if_pos (by omega)]
  rfl

theorem slice_upto (s : ByteArray) (k : Nat) (h : k ≤ s.size) (w : World) :
    (Instr.slice 9 (.string s) none (some (.int .i64 (k : Int))) none).run Tryz.prog w = .ok (.string (s.extract 0 k)) w := by
  rw [run_slice_string_to_if w 9 s .i64 _ Tryz.underlying9, if_pos (by omega)]
  rfl

set_option maxHeartbeats 400000 in
theorem begin_any (s : ByteArray) (hs : s.size ≤ maxLen) (w : World) (hT : Tabs w) :
    Calls Tryz.prog 152 #[.string s] w fun e w' => e = .returned (.tuple #[.int .i64 (TX.fin s 0), .int .i64 (TX.cnt s 0)]) ∧ Below w.heap.size w w' := by
  unfold maxLen at hs
  go_enter Tryz.func152, Tryz.ntmps152
  go_wp2
  go_loopw [4, 5] (fun e c wr => ∃ k n : Nat, k ≤ s.size ∧ n ≤ k ∧ e = .int .i64 k ∧ c = .int .i64 n ∧ Hid (TX.fin s k = TX.fin s 0) ∧ Hid (n + TX.cnt s k = TX.cnt s 0) ∧ Below w.heap.size w wr)
    (fun e _ _ => s.size - (intOf e).toNat)
  case atStart => exact ⟨0, 0, by omega, by omega, rfl, rfl, Lib.hid rfl, Lib.hid (Nat.zero_add _), Below.refl _ _⟩
  case round =>
    obtain ⟨k, n, hk, hn, rfl, rfl, hf, hc, hb⟩ := hrel
    have hsl := slice_from s k hk
    have hT' := hT.below hb
    have hd := TX.chr_drop s k hk
    by_cases h : TX.chr s k = 0
    · have H1 := Lib.hid (TX.fin_no h)
      have H2 := Lib.hid (TX.cnt_no h)
      have C := first_no (s.extract k s.size) (hd.trans h) wr hT'
      clear h hd
      go_wp2_with fail
      refine C.mono ?_
      rintro e w1 ⟨rfl, b1⟩
      go_wp2
      go_ret2
      refine ⟨?_, hb.trans (b1.mono hb.size)⟩
      rw [← hf.out, H1.out, ← hc.out, H2.out]
      rfl
    · have H1 := Lib.hid (TX.fin_yes h)
      have H2 := Lib.hid (TX.cnt_yes h)
      have h4 := TX.chr_four s k
      have hl := TX.chr_le s k hk
      have hp : 0 < TX.chr s k := by omega
      have C := first_yes (s.extract k s.size) (by rw [hd]; exact h) wr hT'
      rw [hd] at C
      clear h hd
      generalize (Lib.decodeGo (s.extract k s.size)).1 = r at C
      generalize TX.chr s k = z at *
      have e1 : ((r : Int) == -1) = false := by rw [beq_eq_false_iff_ne]; omega
      go_wp2_with fail
      refine C.mono ?_
      rintro e w1 ⟨rfl, b1⟩
      go_wp2
      go_roundw
      case rel => exact ⟨k + z, n + 1, by omega, by omega, by go_num, by go_num, Lib.hid (H1.out.symm.trans hf.out), Lib.hid (by rw [← hc.out, H2.out]; omega), hb.trans (b1.mono hb.size)⟩
      case measure => simp [intOf]; omega

end Go.Proofs.YtjajandjdclifaaGreatDoor
namespace Go.Proofs.YtjajandjdclifaaGreatDoor
open Go.RowKit

theorem make1 (w : World) : (Instr.makeSlice 45 (.int .i64 1) (.int .i64 1)).run Tryz.prog w = .ok (.slice (some ⟨w.heap.size, 0, none⟩) 1 1) (w.alloc (.cells #[.int .u8 0] 5)) := by kernel_rfl
theorem make2 (w : World) : (Instr.makeSlice 45 (.int .i64 2) (.int .i64 2)).run Tryz.prog w = .ok (.slice (some ⟨w.heap.size, 0, none⟩) 2 2) (w.alloc (.cells #[.int .u8 0, .int .u8 0] 5)) := by kernel_rfl
theorem make3 (w : World) : (Instr.makeSlice 45 (.int .i64 3) (.int .i64 3)).run Tryz.prog w = .ok (.slice (some ⟨w.heap.size, 0, none⟩) 3 3) (w.alloc (.cells #[.int .u8 0, .int .u8 0, .int .u8 0] 5)) := by kernel_rfl
theorem make4 (w : World) : (Instr.makeSlice 45 (.int .i64 4) (.int .i64 4)).run Tryz.prog w = .ok (.slice (some ⟨w.heap.size, 0, none⟩) 4 4) (w.alloc (.cells #[.int .u8 0, .int .u8 0, .int .u8 0, .int .u8 0] 5)) := by kernel_rfl

theorem conv_top (w : World) (xs : List Int) :
    (convert 45 9 (.slice (some ⟨w.heap.size, 0, none⟩) xs.length xs.length)).run Tryz.prog (w.alloc (.cells (xs.map (Value.int .u8)).toArray 5)) = .ok (.string (strOfNums xs)) (w.alloc (.cells (xs.map (Value.int .u8)).toArray 5)) := by
  refine run_convert_bytes_arg _ 45 5 Tryz.underlying45 Tryz.underlying5 w.heap.size 0 xs.length xs.length xs rfl (fun i hi => ?_) 9 Tryz.underlying9
  rw [World.cell?_alloc_at _ _ _ _ rfl]
  simp [List.getD, List.getElem?_eq_getElem hi]

theorem conv1 (w : World) (a : Int) : (convert 45 9 (.slice (some ⟨w.heap.size, 0, none⟩) 1 1)).run Tryz.prog (w.alloc (.cells #[.int .u8 a] 5)) = .ok (.string (strOfNums [a])) (w.alloc (.cells #[.int .u8 a] 5)) := conv_top w [a]
theorem conv1_at (w : World) (b : Nat) (a : Int) (hb : b = w.heap.size) : (convert 45 9 (.slice (some ⟨b, 0, none⟩) 1 1)).run Tryz.prog (w.alloc (.cells #[.int .u8 a] 5)) = .ok (.string (strOfNums [a])) (w.alloc (.cells #[.int .u8 a] 5)) := by
  subst hb; exact conv1 w a
theorem conv2 (w : World) (a b : Int) : (convert 45 9 (.slice (some ⟨w.heap.size, 0, none⟩) 2 2)).run Tryz.prog (w.alloc (.cells #[.int .u8 a, .int .u8 b] 5)) = .ok (.string (strOfNums [a, b])) (w.alloc (.cells #[.int .u8 a, .int .u8 b] 5)) := conv_top w [a, b]
theorem conv3 (w : World) (a b c : Int) : (convert 45 9 (.slice (some ⟨w.heap.size, 0, none⟩) 3 3)).run Tryz.prog (w.alloc (.cells #[.int .u8 a, .int .u8 b, .int .u8 c] 5)) = .ok (.string (strOfNums [a, b, c])) (w.alloc (.cells #[.int .u8 a, .int .u8 b, .int .u8 c] 5)) := conv_top w [a, b, c]
theorem conv4 (w : World) (a b c d : Int) : (convert 45 9 (.slice (some ⟨w.heap.size, 0, none⟩) 4 4)).run Tryz.prog (w.alloc (.cells #[.int .u8 a, .int .u8 b, .int .u8 c, .int .u8 d] 5)) = .ok (.string (strOfNums [a, b, c, d])) (w.alloc (.cells #[.int .u8 a, .int .u8 b, .int .u8 c, .int .u8 d] 5)) := conv_top w [a, b, c, d]

theorem str_app (xs ys : List Int) : strOfNums xs ++ strOfNums ys = strOfNums (xs ++ ys) := by
  apply ByteArray.ext
  simp [strOfNums, ByteArray.data_append]
theorem str_nil : (⟨#[]⟩ : ByteArray) = strOfNums [] := rfl

theorem or128_fin : ∀ a : Fin 256, (a.val ||| 128) = a.val % 128 + 128 := by decide +kernel
theorem and127_fin : ∀ a : Fin 256, (a.val &&& 127) = a.val % 128 := by decide +kernel
theorem u8_or128 (x : Int) (h0 : 0 ≤ x) (h1 : x < 256) : bits .or .u8 x 128 = x % 128 + 128 := by
  rw [u8_or x 128 h0 h1 (by decide) (by decide)]
  have := or128_fin ⟨x.toNat, by omega⟩
  simp only [show (128 : Int).toNat = 128 from rfl] at this ⊢
  omega
theorem u8_and127 (x : Int) (h0 : 0 ≤ x) (h1 : x < 256) : bits .and .u8 x 127 = x % 128 := by
  rw [u8_and x 127 h0 h1 (by decide) (by decide)]
  have := and127_fin ⟨x.toNat, by omega⟩
  simp only [show (127 : Int).toNat = 127 from rfl] at this ⊢
  omega

theorem i64_and128_fin : ∀ a : Fin 256, bits .and .i64 (a.val : Int) 128 = if a.val < 128 then 0 else 128 := by decide +kernel
theorem i64_and128 (x : Int) (h0 : 0 ≤ x) (h1 : x < 256) : bits .and .i64 x 128 = if x < 128 then 0 else 128 := by
  have := i64_and128_fin ⟨x.toNat, by omega⟩
  simp only [Int.toNat_of_nonneg h0] at this
  rw [this]
  by_cases h : x < 128
  · rw [if_pos (by omega), if_pos h]
  · rw [if_neg (by omega), if_neg h]
theorem wraps_i64' (n : Int) (h0 : 0 ≤ n) (h1 : n < 2 ^ 62) : IntKind.i64.wrap n = n := by
  rw [IntKind.wrap_i64]; omega
theorem i64_or (i : Nat) (x y : Int) (hx₀ : 0 ≤ x) (hx : x % 2 ^ i = 0) (hx₁ : x < 2 ^ 62) (hy₀ : 0 ≤ y) (hy : y < 2 ^ i) (hy₁ : y < 2 ^ 62) : bits .or .i64 y x = y + x := by
  have hc : bits .or .i64 y x = bits .or .i64 x y := by simp only [bits, BitVec.or_comm]
  rw [hc, bits_join .i64 62 (by decide) wraps_i64' i x y hx₀ hx hx₁ hy₀ hy hy₁]
  omega
theorem byte_lt (s : ByteArray) (k : Nat) (h : k < s.size) : ((s[k]'h).toNat : Int) < 256 := by
  have := (s[k]'h).toNat_lt
  omega

theorem ret_int {k : IntKind} {a b : Int} (h : a = b) : Ending.returned (.int k a) = .returned (.int k b) := by rw [h]

theorem ret_bytes {k : IntKind} {xs ys : List Int} {a b : Int} (h : xs = ys) (g : a = b) : Ending.returned (.tuple #[.string (strOfNums xs), .int k a]) = .returned (.tuple #[.string (strOfNums ys), .int k b]) := by rw [h, g]

theorem ret_str {k : IntKind} {x : ByteArray} {ys : List Int} {a b : Int} (h : x = strOfNums ys) (g : a = b) : Ending.returned (.tuple #[.string x, .int k a]) = .returned (.tuple #[.string (strOfNums ys), .int k b]) := by rw [h, g]

theorem ret_three {k : IntKind} {a b c : Int} {t : Int × Int × Int} (h : t = (a, b, c)) : Ending.returned (.tuple #[.int .i64 a, .int .i64 b, .int k c]) = .returned (.tuple #[.int .i64 t.1, .int .i64 t.2.1, .int k t.2.2]) := by rw [h]

end Go.Proofs.YtjajandjdclifaaGreatDoor
namespace Go.Proofs.YtjajandjdclifaaGreatDoor
open Go.RowKit

namespace TX
/-- Is there a byte from one up to another at a place? -/
def tl (s : ByteArray) (i a b : Nat) : Bool := decide (i < s.size ∧ a ≤ by_ s i ∧ by_ s i ≤ b)

theorem tl_true {s : ByteArray} {i a b : Nat} : tl s i a b = true ↔ i < s.size ∧ a ≤ by_ s i ∧ by_ s i ≤ b := by
  unfold tl
  exact decide_eq_true_iff

/-- A character's length by what is known of the bytes behind its first one. -/
def charB (b : Nat) (o t u h3 l3 h4 l4 : Bool) : Nat :=
  if 1 ≤ b ∧ b ≤ 127 then 1
  else if 194 ≤ b ∧ b ≤ 223 ∧ o = true then 2
  else if 224 ≤ b ∧ b ≤ 239 ∧ o = true ∧ t = true then (if (b = 224 ∧ h3 = false) ∨ (b = 237 ∧ l3 = false) then 0 else 3)
  else if 240 ≤ b ∧ b ≤ 244 ∧ o = true ∧ t = true ∧ u = true then (if (b = 240 ∧ h4 = false) ∨ (b = 244 ∧ l4 = false) then 0 else 4)
  else 0

theorem chr_tl (s : ByteArray) (i : Nat) (hi : i < s.size) :
    chr s i = charB (by_ s i) (tl s (i + 1) 128 191) (tl s (i + 2) 128 191) (tl s (i + 3) 128 191) (tl s (i + 1) 160 191) (tl s (i + 1) 128 159) (tl s (i + 1) 144 191) (tl s (i + 1) 128 143) := by
  unfold chr charB cl
  rw [if_pos hi]
  have f : ∀ i a b, tl s i a b = false ↔ ¬ (i < s.size ∧ a ≤ by_ s i ∧ by_ s i ≤ b) := fun i a b => by
    rw [← Bool.not_eq_true, tl_true]
  simp only [tl_true, f]
  repeat' split
  all_goals omega

theorem tl_get {s : ByteArray} {i : Nat} (a b : Nat) (h : i < s.size) : tl s i a b = (decide ((a : Int) ≤ ((s[i]'h).toNat : Int)) && decide (((s[i]'h).toNat : Int) ≤ b)) := by
  rw [Bool.eq_iff_iff, tl_true, by_get s i h]
  simp
  omega
theorem tl_out {s : ByteArray} {i : Nat} (a b : Nat) (h : ¬ i < s.size) : tl s i a b = false := by
  rw [← Bool.not_eq_true, tl_true]
  omega
end TX

theorem ret_bool {a b : Bool} (h : a = b) : Ending.returned (.bool a) = .returned (.bool b) := by rw [h]

set_option maxRecDepth 100000 in
set_option maxHeartbeats 400000 in
theorem reftail_any (s : ByteArray) (x : Int) (i a b : Nat) (hx : x = i) (w : World) :
    Calls Tryz.prog 154 #[.string s, .int .i64 x, .int .i64 a, .int .i64 b] w fun e w' => e = .returned (.bool (TX.tl s i a b)) ∧ w = w' := by
  subst hx
  by_cases h : i < s.size
  · have H := Lib.hid (TX.tl_get a b h)
    have hb := byte_lt s i h
    go_enter Tryz.func154, Tryz.ntmps154
    go_wp2
    all_goals
      go_ret
      refine ⟨ret_bool ?_, rfl⟩
      rw [H.out, Bool.eq_iff_iff]
      simp
      omega
  · rw [TX.tl_out a b h]
    go_enter Tryz.func154, Tryz.ntmps154
    go_wp2
    go_ret
    exact ⟨rfl, rfl⟩

set_option maxRecDepth 100000 in
set_option maxHeartbeats 4000000 in
theorem refchar_any (s : ByteArray) (i : Nat) (hi : i < s.size) (hs : s.size ≤ 140737488351232) (w : World) :
    Calls Tryz.prog 146 #[.string s, .int .i64 i] w fun e w' => e = .returned (.int .i64 (TX.chr s i)) ∧ w = w' := by
  have key := TX.chr_tl s i hi
  rw [TX.by_get s i hi] at key
  have c1 := reftail_any s ((i : Int) + 1) (i + 1) 128 191 (by omega) w
  have c2 := reftail_any s ((i : Int) + 2) (i + 2) 128 191 (by omega) w
  have c3 := reftail_any s ((i : Int) + 3) (i + 3) 128 191 (by omega) w
  have c4 := reftail_any s ((i : Int) + 1) (i + 1) 160 191 (by omega) w
  have c5 := reftail_any s ((i : Int) + 1) (i + 1) 128 159 (by omega) w
  have c6 := reftail_any s ((i : Int) + 1) (i + 1) 144 191 (by omega) w
  have c7 := reftail_any s ((i : Int) + 1) (i + 1) 128 143 (by omega) w
  generalize TX.tl s (i + 1) 128 191 = o at *
  generalize TX.tl s (i + 2) 128 191 = t at *
  generalize TX.tl s (i + 3) 128 191 = u at *
  generalize TX.tl s (i + 1) 160 191 = h3 at *
  generalize TX.tl s (i + 1) 128 159 = l3 at *
  generalize TX.tl s (i + 1) 144 191 = h4 at *
  generalize TX.tl s (i + 1) 128 143 = l4 at *
  unfold TX.charB at key
  have hb := byte_lt s i hi
  rcases (show (1 ≤ (s[i]'hi).toNat ∧ (s[i]'hi).toNat ≤ 127) ∨ (194 ≤ (s[i]'hi).toNat ∧ (s[i]'hi).toNat ≤ 223) ∨ (224 ≤ (s[i]'hi).toNat ∧ (s[i]'hi).toNat ≤ 239) ∨ (240 ≤ (s[i]'hi).toNat ∧ (s[i]'hi).toNat ≤ 244) ∨
      ((s[i]'hi).toNat < 1) ∨ (128 ≤ (s[i]'hi).toNat ∧ (s[i]'hi).toNat ≤ 193) ∨ 245 ≤ (s[i]'hi).toNat by omega) with ⟨g, g'⟩ | ⟨g, g'⟩ | ⟨g, g'⟩ | ⟨g, g'⟩ | g | ⟨g, g'⟩ | g
  · -- one byte
    rw [if_pos (by omega)] at key
    have K := Lib.hid key
    clear key c1 c2 c3 c4 c5 c6 c7
    have q1 : (1 : Int) ≤ ((s[i]'hi).toNat : Int) := by omega
    have q2 : ((s[i]'hi).toNat : Int) ≤ 127 := by omega
    go_enter Tryz.func146, Tryz.ntmps146
    go_wp2
    go_ret
    exact ⟨ret_int (by rw [K.out]; rfl), rfl⟩
  · -- two
    rw [if_neg (by omega)] at key
    have q1 : (194 : Int) ≤ ((s[i]'hi).toNat : Int) := by omega
    have q2 : ((s[i]'hi).toNat : Int) ≤ 223 := by omega
    cases o
    · rw [if_neg (by simp), if_neg (by omega), if_neg (by omega)] at key
      have K := Lib.hid key
      clear key c4 c5 c6 c7
      go_enter Tryz.func146, Tryz.ntmps146
      go_wp2_with fail
      refine c1.mono ?_
      rintro e w' ⟨rfl, rfl⟩
      clear c1
      go_wp2_with fail
      refine c2.mono ?_
      rintro e w' ⟨rfl, rfl⟩
      clear c2
      go_wp2_with fail
      refine c3.mono ?_
      rintro e w' ⟨rfl, rfl⟩
      clear c3
      go_wp2
      go_ret
      exact ⟨ret_int (by rw [K.out]; rfl), rfl⟩
    · rw [if_pos ⟨by omega, by omega, rfl⟩] at key
      have K := Lib.hid key
      clear key c4 c5 c6 c7
      go_enter Tryz.func146, Tryz.ntmps146
      go_wp2_with fail
      refine c1.mono ?_
      rintro e w' ⟨rfl, rfl⟩
      clear c1
      go_wp2_with fail
      refine c2.mono ?_
      rintro e w' ⟨rfl, rfl⟩
      clear c2
      go_wp2_with fail
      refine c3.mono ?_
      rintro e w' ⟨rfl, rfl⟩
      clear c3
      go_wp2
      go_ret
      exact ⟨ret_int (by rw [K.out]; rfl), rfl⟩
  · -- three
    rw [if_neg (by omega), if_neg (by omega)] at key
    have q1 : (224 : Int) ≤ ((s[i]'hi).toNat : Int) := by omega
    have q2 : ((s[i]'hi).toNat : Int) ≤ 239 := by omega
    by_cases hot : o = true ∧ t = true
    · obtain ⟨rfl, rfl⟩ := hot
      rw [if_pos ⟨by omega, by omega, rfl, rfl⟩] at key
      by_cases hz : ((s[i]'hi).toNat = 224 ∧ h3 = false) ∨ ((s[i]'hi).toNat = 237 ∧ l3 = false)
      · rw [if_pos hz] at key
        have K := Lib.hid key
        clear key c6 c7
        rcases hz with ⟨e1, rfl⟩ | ⟨e1, rfl⟩
        · have y1 : (((s[i]'hi).toNat : Int) == 224) = true := by rw [beq_iff_eq]; omega
          clear e1
          go_enter Tryz.func146, Tryz.ntmps146
          go_wp2_with fail
          refine c1.mono ?_
          rintro e w' ⟨rfl, rfl⟩
          clear c1
          go_wp2_with fail
          refine c2.mono ?_
          rintro e w' ⟨rfl, rfl⟩
          clear c2
          go_wp2_with fail
          refine c3.mono ?_
          rintro e w' ⟨rfl, rfl⟩
          clear c3
          go_wp2_with fail
          refine c4.mono ?_
          rintro e w' ⟨rfl, rfl⟩
          clear c4
          go_wp2_with fail
          refine c5.mono ?_
          rintro e w' ⟨rfl, rfl⟩
          clear c5
          go_wp2
          go_ret
          exact ⟨ret_int (by rw [K.out]; rfl), rfl⟩
        · have y1 : (((s[i]'hi).toNat : Int) == 224) = false := by rw [beq_eq_false_iff_ne]; omega
          have y2 : (((s[i]'hi).toNat : Int) == 237) = true := by rw [beq_iff_eq]; omega
          clear e1
          go_enter Tryz.func146, Tryz.ntmps146
          go_wp2_with fail
          refine c1.mono ?_
          rintro e w' ⟨rfl, rfl⟩
          clear c1
          go_wp2_with fail
          refine c2.mono ?_
          rintro e w' ⟨rfl, rfl⟩
          clear c2
          go_wp2_with fail
          refine c3.mono ?_
          rintro e w' ⟨rfl, rfl⟩
          clear c3
          go_wp2_with fail
          refine c4.mono ?_
          rintro e w' ⟨rfl, rfl⟩
          clear c4
          go_wp2_with fail
          refine c5.mono ?_
          rintro e w' ⟨rfl, rfl⟩
          clear c5
          go_wp2
          go_ret
          exact ⟨ret_int (by rw [K.out]; rfl), rfl⟩
      · rw [if_neg hz] at key
        have K := Lib.hid key
        clear key c6 c7
        by_cases e1 : (s[i]'hi).toNat = 224
        · obtain rfl : h3 = true := by cases h3 <;> simp_all
          have y1 : (((s[i]'hi).toNat : Int) == 224) = true := by rw [beq_iff_eq]; omega
          have y2 : (((s[i]'hi).toNat : Int) == 237) = false := by rw [beq_eq_false_iff_ne]; omega
          clear e1 hz
          go_enter Tryz.func146, Tryz.ntmps146
          go_wp2_with fail
          refine c1.mono ?_
          rintro e w' ⟨rfl, rfl⟩
          clear c1
          go_wp2_with fail
          refine c2.mono ?_
          rintro e w' ⟨rfl, rfl⟩
          clear c2
          go_wp2_with fail
          refine c3.mono ?_
          rintro e w' ⟨rfl, rfl⟩
          clear c3
          go_wp2_with fail
          refine c4.mono ?_
          rintro e w' ⟨rfl, rfl⟩
          clear c4
          go_wp2_with fail
          refine c5.mono ?_
          rintro e w' ⟨rfl, rfl⟩
          clear c5
          go_wp2
          go_ret
          exact ⟨ret_int (by rw [K.out]; rfl), rfl⟩
        · have y1 : (((s[i]'hi).toNat : Int) == 224) = false := by rw [beq_eq_false_iff_ne]; omega
          by_cases e2 : (s[i]'hi).toNat = 237
          · obtain rfl : l3 = true := by cases l3 <;> simp_all
            have y2 : (((s[i]'hi).toNat : Int) == 237) = true := by rw [beq_iff_eq]; omega
            clear e1 e2 hz
            go_enter Tryz.func146, Tryz.ntmps146
            go_wp2_with fail
            refine c1.mono ?_
            rintro e w' ⟨rfl, rfl⟩
            clear c1
            go_wp2_with fail
            refine c2.mono ?_
            rintro e w' ⟨rfl, rfl⟩
            clear c2
            go_wp2_with fail
            refine c3.mono ?_
            rintro e w' ⟨rfl, rfl⟩
            clear c3
            go_wp2_with fail
            refine c4.mono ?_
            rintro e w' ⟨rfl, rfl⟩
            clear c4
            go_wp2_with fail
            refine c5.mono ?_
            rintro e w' ⟨rfl, rfl⟩
            clear c5
            go_wp2
            go_ret
            exact ⟨ret_int (by rw [K.out]; rfl), rfl⟩
          · have y2 : (((s[i]'hi).toNat : Int) == 237) = false := by rw [beq_eq_false_iff_ne]; omega
            clear e1 e2 hz
            go_enter Tryz.func146, Tryz.ntmps146
            go_wp2_with fail
            refine c1.mono ?_
            rintro e w' ⟨rfl, rfl⟩
            clear c1
            go_wp2_with fail
            refine c2.mono ?_
            rintro e w' ⟨rfl, rfl⟩
            clear c2
            go_wp2_with fail
            refine c3.mono ?_
            rintro e w' ⟨rfl, rfl⟩
            clear c3
            go_wp2_with fail
            refine c4.mono ?_
            rintro e w' ⟨rfl, rfl⟩
            clear c4
            go_wp2_with fail
            refine c5.mono ?_
            rintro e w' ⟨rfl, rfl⟩
            clear c5
            go_wp2
            go_ret
            exact ⟨ret_int (by rw [K.out]; rfl), rfl⟩
    · rw [if_neg (fun g => hot ⟨g.2.2.1, g.2.2.2⟩), if_neg (by omega)] at key
      have K := Lib.hid key
      clear key c4 c5 c6 c7
      cases o
      · clear hot
        go_enter Tryz.func146, Tryz.ntmps146
        go_wp2_with fail
        refine c1.mono ?_
        rintro e w' ⟨rfl, rfl⟩
        clear c1
        go_wp2_with fail
        refine c2.mono ?_
        rintro e w' ⟨rfl, rfl⟩
        clear c2
        go_wp2_with fail
        refine c3.mono ?_
        rintro e w' ⟨rfl, rfl⟩
        clear c3
        go_wp2
        go_ret
        exact ⟨ret_int (by rw [K.out]; rfl), rfl⟩
      · obtain rfl : t = false := by cases t <;> simp_all
        clear hot
        go_enter Tryz.func146, Tryz.ntmps146
        go_wp2_with fail
        refine c1.mono ?_
        rintro e w' ⟨rfl, rfl⟩
        clear c1
        go_wp2_with fail
        refine c2.mono ?_
        rintro e w' ⟨rfl, rfl⟩
        clear c2
        go_wp2_with fail
        refine c3.mono ?_
        rintro e w' ⟨rfl, rfl⟩
        clear c3
        go_wp2
        go_ret
        exact ⟨ret_int (by rw [K.out]; rfl), rfl⟩
  · -- four
    rw [if_neg (by omega), if_neg (by omega), if_neg (by omega)] at key
    have q1 : (240 : Int) ≤ ((s[i]'hi).toNat : Int) := by omega
    have q2 : ((s[i]'hi).toNat : Int) ≤ 244 := by omega
    by_cases hot : o = true ∧ t = true ∧ u = true
    · obtain ⟨rfl, rfl, rfl⟩ := hot
      rw [if_pos ⟨by omega, by omega, rfl, rfl, rfl⟩] at key
      by_cases hz : ((s[i]'hi).toNat = 240 ∧ h4 = false) ∨ ((s[i]'hi).toNat = 244 ∧ l4 = false)
      · rw [if_pos hz] at key
        have K := Lib.hid key
        clear key c4 c5
        rcases hz with ⟨e1, rfl⟩ | ⟨e1, rfl⟩
        · have y1 : (((s[i]'hi).toNat : Int) == 240) = true := by rw [beq_iff_eq]; omega
          clear e1
          go_enter Tryz.func146, Tryz.ntmps146
          go_wp2_with fail
          refine c1.mono ?_
          rintro e w' ⟨rfl, rfl⟩
          clear c1
          go_wp2_with fail
          refine c2.mono ?_
          rintro e w' ⟨rfl, rfl⟩
          clear c2
          go_wp2_with fail
          refine c3.mono ?_
          rintro e w' ⟨rfl, rfl⟩
          clear c3
          go_wp2_with fail
          refine c6.mono ?_
          rintro e w' ⟨rfl, rfl⟩
          clear c6
          go_wp2_with fail
          refine c7.mono ?_
          rintro e w' ⟨rfl, rfl⟩
          clear c7
          go_wp2
          go_ret
          exact ⟨ret_int (by rw [K.out]; rfl), rfl⟩
        · have y1 : (((s[i]'hi).toNat : Int) == 240) = false := by rw [beq_eq_false_iff_ne]; omega
          have y2 : (((s[i]'hi).toNat : Int) == 244) = true := by rw [beq_iff_eq]; omega
          clear e1
          go_enter Tryz.func146, Tryz.ntmps146
          go_wp2_with fail
          refine c1.mono ?_
          rintro e w' ⟨rfl, rfl⟩
          clear c1
          go_wp2_with fail
          refine c2.mono ?_
          rintro e w' ⟨rfl, rfl⟩
          clear c2
          go_wp2_with fail
          refine c3.mono ?_
          rintro e w' ⟨rfl, rfl⟩
          clear c3
          go_wp2_with fail
          refine c6.mono ?_
          rintro e w' ⟨rfl, rfl⟩
          clear c6
          go_wp2_with fail
          refine c7.mono ?_
          rintro e w' ⟨rfl, rfl⟩
          clear c7
          go_wp2
          go_ret
          exact ⟨ret_int (by rw [K.out]; rfl), rfl⟩
      · rw [if_neg hz] at key
        have K := Lib.hid key
        clear key c4 c5
        by_cases e1 : (s[i]'hi).toNat = 240
        · obtain rfl : h4 = true := by cases h4 <;> simp_all
          have y1 : (((s[i]'hi).toNat : Int) == 240) = true := by rw [beq_iff_eq]; omega
          have y2 : (((s[i]'hi).toNat : Int) == 244) = false := by rw [beq_eq_false_iff_ne]; omega
          clear e1 hz
          go_enter Tryz.func146, Tryz.ntmps146
          go_wp2_with fail
          refine c1.mono ?_
          rintro e w' ⟨rfl, rfl⟩
          clear c1
          go_wp2_with fail
          refine c2.mono ?_
          rintro e w' ⟨rfl, rfl⟩
          clear c2
          go_wp2_with fail
          refine c3.mono ?_
          rintro e w' ⟨rfl, rfl⟩
          clear c3
          go_wp2_with fail
          refine c6.mono ?_
          rintro e w' ⟨rfl, rfl⟩
          clear c6
          go_wp2_with fail
          refine c7.mono ?_
          rintro e w' ⟨rfl, rfl⟩
          clear c7
          go_wp2
          go_ret
          exact ⟨ret_int (by rw [K.out]; rfl), rfl⟩
        · have y1 : (((s[i]'hi).toNat : Int) == 240) = false := by rw [beq_eq_false_iff_ne]; omega
          by_cases e2 : (s[i]'hi).toNat = 244
          · obtain rfl : l4 = true := by cases l4 <;> simp_all
            have y2 : (((s[i]'hi).toNat : Int) == 244) = true := by rw [beq_iff_eq]; omega
            clear e1 e2 hz
            go_enter Tryz.func146, Tryz.ntmps146
            go_wp2_with fail
            refine c1.mono ?_
            rintro e w' ⟨rfl, rfl⟩
            clear c1
            go_wp2_with fail
            refine c2.mono ?_
            rintro e w' ⟨rfl, rfl⟩
            clear c2
            go_wp2_with fail
            refine c3.mono ?_
            rintro e w' ⟨rfl, rfl⟩
            clear c3
            go_wp2_with fail
            refine c6.mono ?_
            rintro e w' ⟨rfl, rfl⟩
            clear c6
            go_wp2_with fail
            refine c7.mono ?_
            rintro e w' ⟨rfl, rfl⟩
            clear c7
            go_wp2
            go_ret
            exact ⟨ret_int (by rw [K.out]; rfl), rfl⟩
          · have y2 : (((s[i]'hi).toNat : Int) == 244) = false := by rw [beq_eq_false_iff_ne]; omega
            clear e1 e2 hz
            go_enter Tryz.func146, Tryz.ntmps146
            go_wp2_with fail
            refine c1.mono ?_
            rintro e w' ⟨rfl, rfl⟩
            clear c1
            go_wp2_with fail
            refine c2.mono ?_
            rintro e w' ⟨rfl, rfl⟩
            clear c2
            go_wp2_with fail
            refine c3.mono ?_
            rintro e w' ⟨rfl, rfl⟩
            clear c3
            go_wp2_with fail
            refine c6.mono ?_
            rintro e w' ⟨rfl, rfl⟩
            clear c6
            go_wp2_with fail
            refine c7.mono ?_
            rintro e w' ⟨rfl, rfl⟩
            clear c7
            go_wp2
            go_ret
            exact ⟨ret_int (by rw [K.out]; rfl), rfl⟩
    · rw [if_neg (fun g => hot ⟨g.2.2.1, g.2.2.2.1, g.2.2.2.2⟩)] at key
      have K := Lib.hid key
      clear key c4 c5 c6 c7
      cases o
      · clear hot
        go_enter Tryz.func146, Tryz.ntmps146
        go_wp2_with fail
        refine c1.mono ?_
        rintro e w' ⟨rfl, rfl⟩
        clear c1
        go_wp2_with fail
        refine c2.mono ?_
        rintro e w' ⟨rfl, rfl⟩
        clear c2
        go_wp2_with fail
        refine c3.mono ?_
        rintro e w' ⟨rfl, rfl⟩
        clear c3
        go_wp2
        go_ret
        exact ⟨ret_int (by rw [K.out]; rfl), rfl⟩
      · cases t
        · clear hot
          go_enter Tryz.func146, Tryz.ntmps146
          go_wp2_with fail
          refine c1.mono ?_
          rintro e w' ⟨rfl, rfl⟩
          clear c1
          go_wp2_with fail
          refine c2.mono ?_
          rintro e w' ⟨rfl, rfl⟩
          clear c2
          go_wp2_with fail
          refine c3.mono ?_
          rintro e w' ⟨rfl, rfl⟩
          clear c3
          go_wp2
          go_ret
          exact ⟨ret_int (by rw [K.out]; rfl), rfl⟩
        · obtain rfl : u = false := by cases u <;> simp_all
          clear hot
          go_enter Tryz.func146, Tryz.ntmps146
          go_wp2_with fail
          refine c1.mono ?_
          rintro e w' ⟨rfl, rfl⟩
          clear c1
          go_wp2_with fail
          refine c2.mono ?_
          rintro e w' ⟨rfl, rfl⟩
          clear c2
          go_wp2_with fail
          refine c3.mono ?_
          rintro e w' ⟨rfl, rfl⟩
          clear c3
          go_wp2
          go_ret
          exact ⟨ret_int (by rw [K.out]; rfl), rfl⟩
  all_goals
    rw [if_neg (by omega), if_neg (by omega), if_neg (by omega), if_neg (by omega)] at key
    have K := Lib.hid key
    clear key c4 c5 c6 c7
  · have q1 : ((s[i]'hi).toNat : Int) < 1 := by omega
    go_enter Tryz.func146, Tryz.ntmps146
    go_wp2_with fail
    refine c1.mono ?_
    rintro e w' ⟨rfl, rfl⟩
    clear c1
    go_wp2_with fail
    refine c2.mono ?_
    rintro e w' ⟨rfl, rfl⟩
    clear c2
    go_wp2_with fail
    refine c3.mono ?_
    rintro e w' ⟨rfl, rfl⟩
    clear c3
    go_wp2
    go_ret
    exact ⟨ret_int (by rw [K.out]; rfl), rfl⟩
  · have q1 : (128 : Int) ≤ ((s[i]'hi).toNat : Int) := by omega
    have q2 : ((s[i]'hi).toNat : Int) ≤ 193 := by omega
    go_enter Tryz.func146, Tryz.ntmps146
    go_wp2_with fail
    refine c1.mono ?_
    rintro e w' ⟨rfl, rfl⟩
    clear c1
    go_wp2_with fail
    refine c2.mono ?_
    rintro e w' ⟨rfl, rfl⟩
    clear c2
    go_wp2_with fail
    refine c3.mono ?_
    rintro e w' ⟨rfl, rfl⟩
    clear c3
    go_wp2
    go_ret
    exact ⟨ret_int (by rw [K.out]; rfl), rfl⟩
  · have q1 : (245 : Int) ≤ ((s[i]'hi).toNat : Int) := by omega
    go_enter Tryz.func146, Tryz.ntmps146
    go_wp2_with fail
    refine c1.mono ?_
    rintro e w' ⟨rfl, rfl⟩
    clear c1
    go_wp2_with fail
    refine c2.mono ?_
    rintro e w' ⟨rfl, rfl⟩
    clear c2
    go_wp2_with fail
    refine c3.mono ?_
    rintro e w' ⟨rfl, rfl⟩
    clear c3
    go_wp2
    go_ret
    exact ⟨ret_int (by rw [K.out]; rfl), rfl⟩

end Go.Proofs.YtjajandjdclifaaGreatDoor
namespace Go.Proofs.YtjajandjdclifaaGreatDoor
open Go.RowKit

namespace TX
/-- The place of the first byte that is no character's (0, if there is none). -/
def flt (s : ByteArray) : Nat := if fin s 0 = s.size then 0 else fin s 0
/-- Is there one? -/
def bad (s : ByteArray) : Bool := decide (fin s 0 ≠ s.size)
/-- A length, held to what there is. -/
def clamp (most : Int) (z : Nat) : Nat := (max 0 (min most z)).toNat
/-- Where the longest beginning ends that is a text of at most so many bytes. -/
def cutM (s : ByteArray) (most : Int) : Nat := fin (s.extract 0 (clamp most s.size)) 0

theorem clamp_le (most : Int) (z : Nat) : clamp most z ≤ z := by unfold clamp; omega
theorem size_take (s : ByteArray) (m : Nat) (h : m ≤ s.size) : (s.extract 0 m).size = m := by rw [ByteArray.size_extract]; omega
theorem cutM_le (s : ByteArray) (most : Int) : cutM s most ≤ clamp most s.size := by
  have h := (fin_le (s.extract 0 (clamp most s.size)) 0 (by omega)).2
  rw [size_take s _ (clamp_le _ _)] at h
  exact h
theorem bad_no {s : ByteArray} (h : fin s 0 = s.size) : bad s = false := by unfold bad; simp [h]
theorem bad_yes {s : ByteArray} (h : fin s 0 ≠ s.size) : bad s = true := by unfold bad; simp [h]
theorem flt_no {s : ByteArray} (h : fin s 0 = s.size) : flt s = 0 := by unfold flt; rw [if_pos h]
theorem flt_yes {s : ByteArray} (h : fin s 0 ≠ s.size) : flt s = fin s 0 := by unfold flt; rw [if_neg h]
end TX

theorem ret_ib {a c : Int} {b d : Bool} (h : a = c) (g : b = d) : Ending.returned (.tuple #[.int .i64 a, .bool b]) = .returned (.tuple #[.int .i64 c, .bool d]) := by rw [h, g]
theorem ret_string {a b : ByteArray} (h : a = b) : Ending.returned (.string a) = .returned (.string b) := by rw [h]

theorem fault_any (s : ByteArray) (hs : s.size ≤ 140737488351232) (w : World) (hT : Tabs w) :
    Calls Tryz.prog 139 #[.string s] w fun e w' => e = .returned (.tuple #[.int .i64 (TX.flt s), .bool (TX.bad s)]) ∧ Below w.heap.size w w' := by
  have C := begin_any s (by unfold maxLen; omega) w hT
  have hf := (TX.fin_le s 0 (by omega)).2
  by_cases h : TX.fin s 0 = s.size
  · rw [TX.flt_no h, TX.bad_no h]
    have e1 : (((TX.fin s 0 : Nat) : Int) == ((s.size : Nat) : Int)) = true := by rw [beq_iff_eq]; omega
    clear h
    generalize TX.fin s 0 = f at *
    go_enter Tryz.func139, Tryz.ntmps139
    go_wp2_with fail
    refine C.mono ?_
    rintro e w1 ⟨rfl, b1⟩
    go_wp2
    go_ret2
    exact ⟨rfl, b1⟩
  · rw [TX.flt_yes h, TX.bad_yes h]
    have e1 : (((TX.fin s 0 : Nat) : Int) == ((s.size : Nat) : Int)) = false := by rw [beq_eq_false_iff_ne]; omega
    clear h
    generalize TX.fin s 0 = f at *
    go_enter Tryz.func139, Tryz.ntmps139
    go_wp2_with fail
    refine C.mono ?_
    rintro e w1 ⟨rfl, b1⟩
    go_wp2
    go_ret2
    exact ⟨rfl, b1⟩

set_option maxHeartbeats 400000 in
theorem reffault_any (s : ByteArray) (hs : s.size ≤ 140737488351232) (w : World) :
    Calls Tryz.prog 132 #[.string s] w fun e w' => e = .returned (.tuple #[.int .i64 (TX.flt s), .bool (TX.bad s)]) ∧ w = w' := by
  go_enter Tryz.func132, Tryz.ntmps132
  go_wp2
  go_loop [4] (fun e => ∃ k : Nat, k ≤ s.size ∧ e = .int .i64 k ∧ Hid (TX.fin s k = TX.fin s 0)) (fun e => s.size - (intOf e).toNat)
  case atStart => exact ⟨0, by omega, rfl, Lib.hid rfl⟩
  case round =>
    obtain ⟨k, hk, rfl, hf⟩ := hrel
    by_cases hlt : k < s.size
    · have C := refchar_any s k hlt hs w
      by_cases h : TX.chr s k = 0
      · rw [h] at C
        have e1 : TX.fin s 0 ≠ s.size := by rw [← hf.out, TX.fin_no h]; omega
        have H := Lib.hid ((TX.flt_yes e1).trans (hf.out.symm.trans (TX.fin_no h)))
        have H2 := Lib.hid (TX.bad_yes e1)
        clear h e1
        go_wp2_with fail
        refine C.mono ?_
        rintro e w1 ⟨rfl, rfl⟩
        go_wp2
        go_ret2
        exact ⟨ret_ib (by rw [H.out]) H2.out.symm, rfl⟩
      · have H1 := Lib.hid (TX.fin_yes h)
        have hl := TX.chr_le s k hk
        have hp : 0 < TX.chr s k := by omega
        have h4 := TX.chr_four s k
        clear h
        generalize TX.chr s k = z at *
        have e1 : ((z : Int) == 0) = false := by rw [beq_eq_false_iff_ne]; omega
        go_wp2_with fail
        refine C.mono ?_
        rintro e w1 ⟨rfl, rfl⟩
        go_wp2
        go_round
        case rel => exact ⟨k + z, by omega, by go_num, Lib.hid (H1.out.symm.trans hf.out)⟩
        case measure => simp [intOf]; omega
    · have e1 : TX.fin s 0 = s.size := by rw [← hf.out, TX.fin_end (by omega)]; omega
      have H := Lib.hid (TX.flt_no e1)
      have H2 := Lib.hid (TX.bad_no e1)
      clear e1
      go_wp2
      go_ret2
      exact ⟨ret_ib (by rw [H.out]; rfl) H2.out.symm, rfl⟩

end Go.Proofs.YtjajandjdclifaaGreatDoor
namespace Go.Proofs.YtjajandjdclifaaGreatDoor
namespace VP

/-- Is it a width of fixed numbers? -/
def isW (w : Int) : Prop := w = 1 ∨ w = 2 ∨ w = 4

/-- The bytes of a number in w bytes, the highest first. -/
def fixL (w n : Int) : List Int :=
  if w = 1 then (if n < 0 ∨ 255 < n then [] else [n])
  else if w = 2 then (if n < 0 ∨ 65535 < n then [] else [n / 256, n % 256])
  else if w = 4 then (if n < 0 ∨ 4294967295 < n then [] else [n / 16777216, n / 65536 % 256, n / 256 % 256, n % 256])
  else []

/-- The code beside them. -/
def fixC (w n : Int) : Int :=
  if w = 1 then (if n < 0 ∨ 255 < n then 129 else 0)
  else if w = 2 then (if n < 0 ∨ 65535 < n then 129 else 0)
  else if w = 4 then (if n < 0 ∨ 4294967295 < n then 129 else 0)
  else 128

theorem fix_1out {n : Int} (h : n < 0 ∨ 255 < n) : fixL 1 n = [] ∧ fixC 1 n = 129 := by
  refine ⟨?_, ?_⟩
  · unfold fixL; rw [if_pos rfl, if_pos h]
  · unfold fixC; rw [if_pos rfl, if_pos h]
theorem fix_1 {n : Int} (h0 : 0 ≤ n) (h1 : n ≤ 255) : fixL 1 n = [n] ∧ fixC 1 n = 0 := by
  refine ⟨?_, ?_⟩
  · unfold fixL; rw [if_pos rfl, if_neg (by omega)]
  · unfold fixC; rw [if_pos rfl, if_neg (by omega)]
theorem fix_2out {n : Int} (h : n < 0 ∨ 65535 < n) : fixL 2 n = [] ∧ fixC 2 n = 129 := by
  refine ⟨?_, ?_⟩
  · unfold fixL; rw [if_neg (by decide), if_pos rfl, if_pos h]
  · unfold fixC; rw [if_neg (by decide), if_pos rfl, if_pos h]
theorem fix_2 {n : Int} (h0 : 0 ≤ n) (h1 : n ≤ 65535) : fixL 2 n = [n / 256, n % 256] ∧ fixC 2 n = 0 := by
  refine ⟨?_, ?_⟩
  · unfold fixL; rw [if_neg (by decide), if_pos rfl, if_neg (by omega)]
  · unfold fixC; rw [if_neg (by decide), if_pos rfl, if_neg (by omega)]
theorem fix_4out {n : Int} (h : n < 0 ∨ 4294967295 < n) : fixL 4 n = [] ∧ fixC 4 n = 129 := by
  refine ⟨?_, ?_⟩
  · unfold fixL; rw [if_neg (by decide), if_neg (by decide), if_pos rfl, if_pos h]
  · unfold fixC; rw [if_neg (by decide), if_neg (by decide), if_pos rfl, if_pos h]
theorem fix_4 {n : Int} (h0 : 0 ≤ n) (h1 : n ≤ 4294967295) : fixL 4 n = [n / 16777216, n / 65536 % 256, n / 256 % 256, n % 256] ∧ fixC 4 n = 0 := by
  refine ⟨?_, ?_⟩
  · unfold fixL; rw [if_neg (by decide), if_neg (by decide), if_pos rfl, if_neg (by omega)]
  · unfold fixC; rw [if_neg (by decide), if_neg (by decide), if_pos rfl, if_neg (by omega)]
theorem fix_no {w n : Int} (h : ¬ isW w) : fixL w n = [] ∧ fixC w n = 128 := by
  unfold isW at h
  refine ⟨?_, ?_⟩
  · unfold fixL; rw [if_neg (by omega), if_neg (by omega), if_neg (by omega)]
  · unfold fixC; rw [if_neg (by omega), if_neg (by omega), if_neg (by omega)]
theorem fixC_le (w n : Int) : 0 ≤ fixC w n ∧ fixC w n ≤ 129 := by
  unfold fixC; repeat' split
  all_goals decide

/-- The number in w bytes at a place of s, the place behind it, the code. -/
def rd (s : ByteArray) (at_ w : Int) : Int × Int × Int :=
  if at_ < 0 ∨ (s.size : Int) < at_ then (0, 0, 128)
  else if w = 1 then (if h : at_.toNat < s.size then (((s[at_.toNat]'h).toNat : Int), at_ + 1, 0) else (0, 0, 242))
  else if w = 2 then (if h : at_.toNat + 1 < s.size then (((s[at_.toNat]'(by omega)).toNat : Int) * 256 + (s[at_.toNat + 1]'h).toNat, at_ + 2, 0) else (0, 0, 242))
  else if w = 4 then (if h : at_.toNat + 3 < s.size then
    (((((s[at_.toNat]'(by omega)).toNat : Int) * 256 + (s[at_.toNat + 1]'(by omega)).toNat) * 256 + (s[at_.toNat + 2]'(by omega)).toNat) * 256 + (s[at_.toNat + 3]'h).toNat, at_ + 4, 0) else (0, 0, 242))
  else (0, 0, 128)

theorem rd_out (s : ByteArray) (at_ w : Int) (h : at_ < 0 ∨ (s.size : Int) < at_) : rd s at_ w = (0, 0, 128) := by unfold rd; rw [if_pos h]
theorem rd_no (s : ByteArray) (at_ w : Int) (h : ¬ isW w) : rd s at_ w = (0, 0, 128) := by
  unfold isW at h
  unfold rd
  split
  · rfl
  · rw [if_neg (by omega), if_neg (by omega), if_neg (by omega)]
theorem rd_1 (s : ByteArray) (k : Nat) (h : k < s.size) : rd s k 1 = (((s[k]'h).toNat : Int), (k : Int) + 1, 0) := by
  unfold rd; rw [if_neg (by omega), if_pos rfl, dif_pos (by simpa using h)]; simp
theorem rd_1few (s : ByteArray) (k : Nat) (hk : k ≤ s.size) (h : ¬ k < s.size) : rd s k 1 = (0, 0, 242) := by
  unfold rd; rw [if_neg (by omega), if_pos rfl, dif_neg (by simpa using h)]
theorem rd_2 (s : ByteArray) (k : Nat) (h : k + 1 < s.size) : rd s k 2 = (((s[k]'(by omega)).toNat : Int) * 256 + (s[k + 1]'h).toNat, (k : Int) + 2, 0) := by
  unfold rd; rw [if_neg (by omega), if_neg (by decide), if_pos rfl, dif_pos (by simpa using h)]; simp
theorem rd_2few (s : ByteArray) (k : Nat) (hk : k ≤ s.size) (h : ¬ k + 1 < s.size) : rd s k 2 = (0, 0, 242) := by
  unfold rd; rw [if_neg (by omega), if_neg (by decide), if_pos rfl, dif_neg (by simpa using h)]
theorem rd_4 (s : ByteArray) (k : Nat) (h : k + 3 < s.size) :
    rd s k 4 = (((((s[k]'(by omega)).toNat : Int) * 256 + (s[k + 1]'(by omega)).toNat) * 256 + (s[k + 2]'(by omega)).toNat) * 256 + (s[k + 3]'h).toNat, (k : Int) + 4, 0) := by
  unfold rd; rw [if_neg (by omega), if_neg (by decide), if_neg (by decide), if_pos rfl, dif_pos (by simpa using h)]; simp
theorem rd_4few (s : ByteArray) (k : Nat) (hk : k ≤ s.size) (h : ¬ k + 3 < s.size) : rd s k 4 = (0, 0, 242) := by
  unfold rd; rw [if_neg (by omega), if_neg (by decide), if_neg (by decide), if_pos rfl, dif_neg (by simpa using h)]
theorem rd_code (s : ByteArray) (at_ w : Int) : 0 ≤ (rd s at_ w).2.2 ∧ (rd s at_ w).2.2 ≤ 242 := by
  unfold rd; repeat' split
  all_goals (constructor <;> simp)

/-- The data at a place of s, the place behind it, the code. -/
def dat (s : ByteArray) (at_ : Int) : ByteArray × Int × Int :=
  if (rd s at_ 2).2.2 = 0 then
    (if (s.size : Int) - (rd s at_ 2).2.1 < (rd s at_ 2).1 then (⟨#[]⟩, 0, 242)
     else (s.extract (rd s at_ 2).2.1.toNat ((rd s at_ 2).2.1 + (rd s at_ 2).1).toNat, (rd s at_ 2).2.1 + (rd s at_ 2).1, 0))
  else (⟨#[]⟩, 0, (rd s at_ 2).2.2)

theorem rd2_ok (s : ByteArray) (at_ : Int) (h : (rd s at_ 2).2.2 = 0) : ∃ k L : Nat, at_ = k ∧ k + 2 ≤ s.size ∧ L < 65536 ∧ rd s at_ 2 = ((L : Int), (k : Int) + 2, 0) := by
  by_cases ho : at_ < 0 ∨ (s.size : Int) < at_
  · rw [rd_out s at_ 2 ho] at h; exact absurd h (by decide)
  · obtain ⟨k, rfl⟩ := Int.eq_ofNat_of_zero_le (show 0 ≤ at_ by omega)
    by_cases hk : k + 1 < s.size
    · refine ⟨k, (s[k]'(by omega)).toNat * 256 + (s[k + 1]'hk).toNat, rfl, by omega, ?_, ?_⟩
      · have h0 := (s[k]'(by omega)).toNat_lt
        have h1 := (s[k + 1]'hk).toNat_lt
        omega
      · rw [rd_2 s k hk]; simp
    · rw [rd_2few s k (by omega) hk] at h; exact absurd h (by decide)
theorem dat_bad (s : ByteArray) (at_ : Int) (h : ¬ (rd s at_ 2).2.2 = 0) : dat s at_ = (⟨#[]⟩, 0, (rd s at_ 2).2.2) := by unfold dat; rw [if_neg h]
theorem dat_few (s : ByteArray) (k L : Nat) (h : rd s k 2 = ((L : Int), (k : Int) + 2, 0)) (hl : (s.size : Int) - (k + 2) < L) : dat s k = (⟨#[]⟩, 0, 242) := by
  unfold dat; rw [h, if_pos rfl, if_pos hl]
theorem dat_ok (s : ByteArray) (k L : Nat) (h : rd s k 2 = ((L : Int), (k : Int) + 2, 0)) (hl : ¬ (s.size : Int) - (k + 2) < L) : dat s k = (s.extract (k + 2) (k + 2 + L), (k : Int) + 2 + L, 0) := by
  unfold dat; rw [h, if_pos rfl, if_neg hl]
  have e1 : ((k : Int) + 2).toNat = k + 2 := by omega
  have e2 : ((k : Int) + 2 + L).toNat = k + 2 + L := by omega
  simp only [e1, e2]
theorem dat_code (s : ByteArray) (at_ : Int) : 0 ≤ (dat s at_).2.2 ∧ (dat s at_).2.2 ≤ 242 := by
  have := rd_code s at_ 2
  unfold dat
  split
  · split
    · exact ⟨by decide, by decide⟩
    · exact ⟨Int.le_refl 0, (by decide : (0 : Int) ≤ 242)⟩
  · exact this

end VP
end Go.Proofs.YtjajandjdclifaaGreatDoor
namespace Go.Proofs.YtjajandjdclifaaGreatDoor
open Go.RowKit

set_option maxHeartbeats 1000000 in
theorem fixed_any (wd n : Int) (hr : -9223372036854775808 ≤ n) (hr' : n ≤ 9223372036854775807) (w : World) :
    Calls Tryz.prog 44 #[.int .i64 wd, .int .i64 n] w fun e w' => e = .returned (.tuple #[.string (strOfNums (VP.fixL wd n)), .int .u8 (VP.fixC wd n)]) ∧ Below w.heap.size w w' := by
  by_cases hw : VP.isW wd
  · rcases hw with rfl | rfl | rfl
    · by_cases hn : n < 0
      · rw [(VP.fix_1out (.inl hn)).1, (VP.fix_1out (.inl hn)).2]
        go_enter Tryz.func44, Tryz.ntmps44
        go_wp2
        go_ret2
        exact ⟨rfl, Below.refl _ _⟩
      · by_cases hn2 : 255 < n
        · rw [(VP.fix_1out (.inr hn2)).1, (VP.fix_1out (.inr hn2)).2]
          have hq : (n / 256 != 0) = true := by rw [bne_iff_ne]; omega
          go_enter Tryz.func44, Tryz.ntmps44
          go_wp2
          go_ret2
          exact ⟨rfl, Below.refl _ _⟩
        · have hl := Lib.hid (VP.fix_1 (n := n) (by omega) (by omega))
          have hq : (n / 256 != 0) = false := by rw [bne_eq_false_iff_eq]; omega
          have h0 : 0 ≤ n := by omega
          have h1 : n ≤ 255 := by omega
          clear hn hn2
          have hmk := make1
          have hcv := conv1
          go_enter Tryz.func44, Tryz.ntmps44
          go_wp2
          refine wp_loop_rounds 2 ?_
          iterate 2 (rw [rounds_succ]; go_wp2)
          go_ret2
          refine ⟨ret_bytes ?_ hl.out.2.symm, (Below.refl _ _).alloc (Nat.le_refl _) _⟩
          rw [hl.out.1]
    · by_cases hn : n < 0
      · rw [(VP.fix_2out (.inl hn)).1, (VP.fix_2out (.inl hn)).2]
        go_enter Tryz.func44, Tryz.ntmps44
        go_wp2
        go_ret2
        exact ⟨rfl, Below.refl _ _⟩
      · by_cases hn2 : 65535 < n
        · rw [(VP.fix_2out (.inr hn2)).1, (VP.fix_2out (.inr hn2)).2]
          have hq : (n / 65536 != 0) = true := by rw [bne_iff_ne]; omega
          go_enter Tryz.func44, Tryz.ntmps44
          go_wp2
          go_ret2
          exact ⟨rfl, Below.refl _ _⟩
        · have hl := Lib.hid (VP.fix_2 (n := n) (by omega) (by omega))
          have hq : (n / 65536 != 0) = false := by rw [bne_eq_false_iff_eq]; omega
          have h0 : 0 ≤ n := by omega
          have h1 : n ≤ 65535 := by omega
          clear hn hn2
          have hmk := make2
          have hcv := conv2
          go_enter Tryz.func44, Tryz.ntmps44
          go_wp2
          refine wp_loop_rounds 3 ?_
          iterate 3 (rw [rounds_succ]; go_wp2)
          go_ret2
          refine ⟨ret_bytes ?_ hl.out.2.symm, (Below.refl _ _).alloc (Nat.le_refl _) _⟩
          rw [hl.out.1]
    · by_cases hn : n < 0
      · rw [(VP.fix_4out (.inl hn)).1, (VP.fix_4out (.inl hn)).2]
        go_enter Tryz.func44, Tryz.ntmps44
        go_wp2
        go_ret2
        exact ⟨rfl, Below.refl _ _⟩
      · by_cases hn2 : 4294967295 < n
        · rw [(VP.fix_4out (.inr hn2)).1, (VP.fix_4out (.inr hn2)).2]
          have hq : (n / 4294967296 != 0) = true := by rw [bne_iff_ne]; omega
          go_enter Tryz.func44, Tryz.ntmps44
          go_wp2
          go_ret2
          exact ⟨rfl, Below.refl _ _⟩
        · have hl := Lib.hid (VP.fix_4 (n := n) (by omega) (by omega))
          have hq : (n / 4294967296 != 0) = false := by rw [bne_eq_false_iff_eq]; omega
          have h0 : 0 ≤ n := by omega
          have h1 : n ≤ 4294967295 := by omega
          clear hn hn2
          have hmk := make4
          have hcv := conv4
          go_enter Tryz.func44, Tryz.ntmps44
          go_wp2
          refine wp_loop_rounds 5 ?_
          iterate 5 (rw [rounds_succ]; go_wp2)
          go_ret2
          refine ⟨ret_bytes ?_ hl.out.2.symm, (Below.refl _ _).alloc (Nat.le_refl _) _⟩
          rw [hl.out.1]
  · rw [(VP.fix_no hw).1, (VP.fix_no hw).2]
    unfold VP.isW at hw
    have e1 : (wd == 1) = false := by rw [beq_eq_false_iff_ne]; omega
    have e2 : (wd == 2) = false := by rw [beq_eq_false_iff_ne]; omega
    have e4 : (wd == 4) = false := by rw [beq_eq_false_iff_ne]; omega
    clear hw
    go_enter Tryz.func44, Tryz.ntmps44
    go_wp2
    go_ret2
    exact ⟨rfl, Below.refl _ _⟩

end Go.Proofs.YtjajandjdclifaaGreatDoor
namespace Go.Proofs.YtjajandjdclifaaGreatDoor
open Go.RowKit

theorem within_yes (s : ByteArray) (k : Nat) (_hs : s.size ≤ maxLen) (hk : k ≤ s.size) (w : World) :
    Calls Tryz.prog 57 #[.string s, .int .i64 k] w fun e w' => e = .returned (.bool true) ∧ w = w' := by
  go_enter Tryz.func57, Tryz.ntmps57
  go_wp2
  go_ret
  exact ⟨rfl, rfl⟩

theorem within_no (s : ByteArray) (at_ : Int) (_hs : s.size ≤ maxLen) (hk : at_ < 0 ∨ (s.size : Int) < at_) (w : World) :
    Calls Tryz.prog 57 #[.string s, .int .i64 at_] w fun e w' => e = .returned (.bool false) ∧ w = w' := by
  by_cases h : at_ < 0
  · go_enter Tryz.func57, Tryz.ntmps57
    go_wp2
    go_ret
    exact ⟨rfl, rfl⟩
  · have h0 : 0 ≤ at_ := by omega
    have h1 : decide (at_ ≤ (s.size : Int)) = false := by simp; omega
    clear hk
    go_enter Tryz.func57, Tryz.ntmps57
    go_wp2
    go_ret
    exact ⟨rfl, rfl⟩

end Go.Proofs.YtjajandjdclifaaGreatDoor
namespace Go.Proofs.YtjajandjdclifaaGreatDoor
open Go.RowKit

theorem isw_yes (wd : Int) (h : VP.isW wd) (w : World) : Calls Tryz.prog 88 #[.int .i64 wd] w fun e w' => e = .returned (.bool true) ∧ w = w' := by
  rcases h with rfl | rfl | rfl
  all_goals
    go_enter Tryz.func88, Tryz.ntmps88
    go_wp2
    go_ret
    exact ⟨rfl, rfl⟩

theorem isw_no (wd : Int) (h : ¬ VP.isW wd) (w : World) : Calls Tryz.prog 88 #[.int .i64 wd] w fun e w' => e = .returned (.bool false) ∧ w = w' := by
  unfold VP.isW at h
  have e1 : (wd == 1) = false := by rw [beq_eq_false_iff_ne]; omega
  have e2 : (wd == 2) = false := by rw [beq_eq_false_iff_ne]; omega
  have e4 : (wd == 4) = false := by rw [beq_eq_false_iff_ne]; omega
  clear h
  go_enter Tryz.func88, Tryz.ntmps88
  go_wp2
  go_ret
  exact ⟨rfl, rfl⟩

theorem or256 (x y : Int) (h0 : 0 ≤ x) (h1 : x < 16777216) (g0 : 0 ≤ y) (g1 : y < 256) : bits .or .i64 (x * 256) y = x * 256 + y :=
  bits_join .i64 62 (by decide) wraps_i64' 8 (x * 256) y (by omega) (by simp) (by omega) g0 g1 (by omega)
theorem or0 (y : Int) (g0 : 0 ≤ y) (g1 : y < 256) : bits .or .i64 0 y = y := by
  have := or256 0 y (by omega) (by omega) g0 g1
  simpa using this

set_option maxRecDepth 100000 in
set_option maxHeartbeats 1000000 in
theorem read_1 (s : ByteArray) (k : Nat) (hs : s.size ≤ maxLen) (hk : k ≤ s.size) (w : World) :
    Calls Tryz.prog 140 #[.string s, .int .i64 k, .int .i64 1] w fun e w' => e = .returned (.tuple #[.int .i64 (VP.rd s k 1).1, .int .i64 (VP.rd s k 1).2.1, .int .u8 (VP.rd s k 1).2.2]) ∧ w = w' := by
  have hs' := hs
  unfold maxLen at hs'
  by_cases h : k < s.size
  · have hg := Lib.hid (VP.rd_1 s k h)
    have hb0 := byte_lt s (k) (by omega)
    have hq0 := or0 ((s[k]'(by omega)).toNat : Int) (by omega) hb0
    go_enter Tryz.func140, Tryz.ntmps140
    go_wp2_with fail
    refine (isw_yes 1 (.inl rfl) _).mono ?_
    rintro e w' ⟨rfl, rfl⟩
    go_wp2_with fail
    refine (within_yes s k hs hk _).mono ?_
    rintro e w' ⟨rfl, rfl⟩
    go_wp2
    refine wp_loop_rounds 2 ?_
    iterate 2 (rw [rounds_succ]; go_wp2)
    go_ret3
    exact ⟨ret_three hg.out, rfl⟩
  · have hg := Lib.hid (VP.rd_1few s k hk h)
    go_enter Tryz.func140, Tryz.ntmps140
    go_wp2_with fail
    refine (isw_yes 1 (.inl rfl) _).mono ?_
    rintro e w' ⟨rfl, rfl⟩
    go_wp2_with fail
    refine (within_yes s k hs hk _).mono ?_
    rintro e w' ⟨rfl, rfl⟩
    go_wp2
    go_ret3
    exact ⟨ret_three hg.out, rfl⟩

set_option maxRecDepth 100000 in
set_option maxHeartbeats 1000000 in
theorem read_2 (s : ByteArray) (k : Nat) (hs : s.size ≤ maxLen) (hk : k ≤ s.size) (w : World) :
    Calls Tryz.prog 140 #[.string s, .int .i64 k, .int .i64 2] w fun e w' => e = .returned (.tuple #[.int .i64 (VP.rd s k 2).1, .int .i64 (VP.rd s k 2).2.1, .int .u8 (VP.rd s k 2).2.2]) ∧ w = w' := by
  have hs' := hs
  unfold maxLen at hs'
  by_cases h : k + 1 < s.size
  · have hg := Lib.hid (VP.rd_2 s k h)
    have hb0 := byte_lt s (k) (by omega)
    have hb1 := byte_lt s (k + 1) (by omega)
    have hq0 := or0 ((s[k]'(by omega)).toNat : Int) (by omega) hb0
    have hq1 := or256 (((s[k]'(by omega)).toNat : Int)) ((s[k + 1]'(by omega)).toNat : Int) (by omega) (by omega) (by omega) hb1
    go_enter Tryz.func140, Tryz.ntmps140
    go_wp2_with fail
    refine (isw_yes 2 (.inr (.inl rfl)) _).mono ?_
    rintro e w' ⟨rfl, rfl⟩
    go_wp2_with fail
    refine (within_yes s k hs hk _).mono ?_
    rintro e w' ⟨rfl, rfl⟩
    go_wp2
    refine wp_loop_rounds 3 ?_
    iterate 3 (rw [rounds_succ]; go_wp2)
    go_ret3
    exact ⟨ret_three hg.out, rfl⟩
  · have hg := Lib.hid (VP.rd_2few s k hk h)
    go_enter Tryz.func140, Tryz.ntmps140
    go_wp2_with fail
    refine (isw_yes 2 (.inr (.inl rfl)) _).mono ?_
    rintro e w' ⟨rfl, rfl⟩
    go_wp2_with fail
    refine (within_yes s k hs hk _).mono ?_
    rintro e w' ⟨rfl, rfl⟩
    go_wp2
    go_ret3
    exact ⟨ret_three hg.out, rfl⟩

set_option maxRecDepth 100000 in
set_option maxHeartbeats 1000000 in
theorem read_4 (s : ByteArray) (k : Nat) (hs : s.size ≤ maxLen) (hk : k ≤ s.size) (w : World) :
    Calls Tryz.prog 140 #[.string s, .int .i64 k, .int .i64 4] w fun e w' => e = .returned (.tuple #[.int .i64 (VP.rd s k 4).1, .int .i64 (VP.rd s k 4).2.1, .int .u8 (VP.rd s k 4).2.2]) ∧ w = w' := by
  have hs' := hs
  unfold maxLen at hs'
  by_cases h : k + 3 < s.size
  · have hg := Lib.hid (VP.rd_4 s k h)
    have hb0 := byte_lt s (k) (by omega)
    have hb1 := byte_lt s (k + 1) (by omega)
    have hb2 := byte_lt s (k + 2) (by omega)
    have hb3 := byte_lt s (k + 3) (by omega)
    have hq0 := or0 ((s[k]'(by omega)).toNat : Int) (by omega) hb0
    have hq1 := or256 (((s[k]'(by omega)).toNat : Int)) ((s[k + 1]'(by omega)).toNat : Int) (by omega) (by omega) (by omega) hb1
    have hq2 := or256 (((s[k]'(by omega)).toNat : Int) * 256 + ((s[k + 1]'(by omega)).toNat : Int)) ((s[k + 2]'(by omega)).toNat : Int) (by omega) (by omega) (by omega) hb2
    have hq3 := or256 ((((s[k]'(by omega)).toNat : Int) * 256 + ((s[k + 1]'(by omega)).toNat : Int)) * 256 + ((s[k + 2]'(by omega)).toNat : Int)) ((s[k + 3]'(by omega)).toNat : Int) (by omega) (by omega) (by omega) hb3
    go_enter Tryz.func140, Tryz.ntmps140
    go_wp2_with fail
    refine (isw_yes 4 (.inr (.inr rfl)) _).mono ?_
    rintro e w' ⟨rfl, rfl⟩
    go_wp2_with fail
    refine (within_yes s k hs hk _).mono ?_
    rintro e w' ⟨rfl, rfl⟩
    go_wp2
    refine wp_loop_rounds 5 ?_
    iterate 5 (rw [rounds_succ]; go_wp2)
    go_ret3
    exact ⟨ret_three hg.out, rfl⟩
  · have hg := Lib.hid (VP.rd_4few s k hk h)
    go_enter Tryz.func140, Tryz.ntmps140
    go_wp2_with fail
    refine (isw_yes 4 (.inr (.inr rfl)) _).mono ?_
    rintro e w' ⟨rfl, rfl⟩
    go_wp2_with fail
    refine (within_yes s k hs hk _).mono ?_
    rintro e w' ⟨rfl, rfl⟩
    go_wp2
    go_ret3
    exact ⟨ret_three hg.out, rfl⟩

theorem read_any (s : ByteArray) (at_ wd : Int) (hs : s.size ≤ maxLen) (w : World) :
    Calls Tryz.prog 140 #[.string s, .int .i64 at_, .int .i64 wd] w fun e w' => e = .returned (.tuple #[.int .i64 (VP.rd s at_ wd).1, .int .i64 (VP.rd s at_ wd).2.1, .int .u8 (VP.rd s at_ wd).2.2]) ∧ w = w' := by
  by_cases hw : VP.isW wd
  · by_cases h : at_ < 0 ∨ (s.size : Int) < at_
    · rw [VP.rd_out s at_ wd h]
      have H := Lib.hid h
      have HW := Lib.hid hw
      clear h hw
      go_enter Tryz.func140, Tryz.ntmps140
      go_wp2_with fail
      refine (isw_yes wd HW.out _).mono ?_
      rintro e w' ⟨rfl, rfl⟩
      go_wp2_with fail
      refine (within_no s at_ hs H.out _).mono ?_
      rintro e w' ⟨rfl, rfl⟩
      go_wp2
      go_ret3
      exact ⟨rfl, rfl⟩
    · obtain ⟨k, rfl⟩ := Int.eq_ofNat_of_zero_le (show 0 ≤ at_ by omega)
      rcases hw with rfl | rfl | rfl
      · exact read_1 s k hs (by omega) w
      · exact read_2 s k hs (by omega) w
      · exact read_4 s k hs (by omega) w
  · rw [VP.rd_no s at_ wd hw]
    have HW := Lib.hid hw
    clear hw
    go_enter Tryz.func140, Tryz.ntmps140
    go_wp2_with fail
    refine (isw_no wd HW.out _).mono ?_
    rintro e w' ⟨rfl, rfl⟩
    go_wp2
    go_ret3
    exact ⟨rfl, rfl⟩

end Go.Proofs.YtjajandjdclifaaGreatDoor
namespace Go.Proofs.YtjajandjdclifaaGreatDoor
open Go.RowKit

set_option maxRecDepth 100000 in
set_option maxHeartbeats 1000000 in
theorem refread_1 (s : ByteArray) (k : Nat) (hs : s.size ≤ maxLen) (hk : k ≤ s.size) (w : World) :
    Calls Tryz.prog 107 #[.string s, .int .i64 k, .int .i64 1] w fun e w' => e = .returned (.tuple #[.int .i64 (VP.rd s k 1).1, .int .i64 (VP.rd s k 1).2.1, .int .i64 (VP.rd s k 1).2.2]) ∧ w = w' := by
  unfold maxLen at hs
  have hd : decide (s.size < k) = false := by simp; omega
  have hd2 : decide ((k : Int) < 0) = false := by simp
  by_cases h : k < s.size
  · have hg := Lib.hid (VP.rd_1 s k h)
    have hb0 := byte_lt s (k) (by omega)
    go_enter Tryz.func107, Tryz.ntmps107
    go_wp2
    refine wp_loop_rounds 2 ?_
    iterate 2 (rw [rounds_succ]; go_wp2)
    go_ret3
    exact ⟨ret_three hg.out, rfl⟩
  · have hg := Lib.hid (VP.rd_1few s k hk h)
    go_enter Tryz.func107, Tryz.ntmps107
    go_wp2
    go_ret3
    exact ⟨ret_three hg.out, rfl⟩

set_option maxRecDepth 100000 in
set_option maxHeartbeats 1000000 in
theorem refread_2 (s : ByteArray) (k : Nat) (hs : s.size ≤ maxLen) (hk : k ≤ s.size) (w : World) :
    Calls Tryz.prog 107 #[.string s, .int .i64 k, .int .i64 2] w fun e w' => e = .returned (.tuple #[.int .i64 (VP.rd s k 2).1, .int .i64 (VP.rd s k 2).2.1, .int .i64 (VP.rd s k 2).2.2]) ∧ w = w' := by
  unfold maxLen at hs
  have hd : decide (s.size < k) = false := by simp; omega
  have hd2 : decide ((k : Int) < 0) = false := by simp
  by_cases h : k + 1 < s.size
  · have hg := Lib.hid (VP.rd_2 s k h)
    have hb0 := byte_lt s (k) (by omega)
    have hb1 := byte_lt s (k + 1) (by omega)
    go_enter Tryz.func107, Tryz.ntmps107
    go_wp2
    refine wp_loop_rounds 3 ?_
    iterate 3 (rw [rounds_succ]; go_wp2)
    go_ret3
    exact ⟨ret_three hg.out, rfl⟩
  · have hg := Lib.hid (VP.rd_2few s k hk h)
    go_enter Tryz.func107, Tryz.ntmps107
    go_wp2
    go_ret3
    exact ⟨ret_three hg.out, rfl⟩

set_option maxRecDepth 100000 in
set_option maxHeartbeats 1000000 in
theorem refread_4 (s : ByteArray) (k : Nat) (hs : s.size ≤ maxLen) (hk : k ≤ s.size) (w : World) :
    Calls Tryz.prog 107 #[.string s, .int .i64 k, .int .i64 4] w fun e w' => e = .returned (.tuple #[.int .i64 (VP.rd s k 4).1, .int .i64 (VP.rd s k 4).2.1, .int .i64 (VP.rd s k 4).2.2]) ∧ w = w' := by
  unfold maxLen at hs
  have hd : decide (s.size < k) = false := by simp; omega
  have hd2 : decide ((k : Int) < 0) = false := by simp
  by_cases h : k + 3 < s.size
  · have hg := Lib.hid (VP.rd_4 s k h)
    have hb0 := byte_lt s (k) (by omega)
    have hb1 := byte_lt s (k + 1) (by omega)
    have hb2 := byte_lt s (k + 2) (by omega)
    have hb3 := byte_lt s (k + 3) (by omega)
    go_enter Tryz.func107, Tryz.ntmps107
    go_wp2
    refine wp_loop_rounds 5 ?_
    iterate 5 (rw [rounds_succ]; go_wp2)
    go_ret3
    exact ⟨ret_three hg.out, rfl⟩
  · have hg := Lib.hid (VP.rd_4few s k hk h)
    go_enter Tryz.func107, Tryz.ntmps107
    go_wp2
    go_ret3
    exact ⟨ret_three hg.out, rfl⟩

set_option maxHeartbeats 1000000 in
theorem refread_any (s : ByteArray) (at_ wd : Int) (hs : s.size ≤ maxLen) (w : World) :
    Calls Tryz.prog 107 #[.string s, .int .i64 at_, .int .i64 wd] w fun e w' => e = .returned (.tuple #[.int .i64 (VP.rd s at_ wd).1, .int .i64 (VP.rd s at_ wd).2.1, .int .i64 (VP.rd s at_ wd).2.2]) ∧ w = w' := by
  by_cases hw : VP.isW wd
  · by_cases h : at_ < 0
    · rw [VP.rd_out s at_ wd (.inl h)]
      rcases hw with rfl | rfl | rfl
      all_goals
        go_enter Tryz.func107, Tryz.ntmps107
        go_wp2
        go_ret3
        exact ⟨rfl, rfl⟩
    · by_cases h2 : (s.size : Int) < at_
      · rw [VP.rd_out s at_ wd (.inr h2)]
        unfold maxLen at hs
        rcases hw with rfl | rfl | rfl
        all_goals
          go_enter Tryz.func107, Tryz.ntmps107
          go_wp2
          go_ret3
          exact ⟨rfl, rfl⟩
      · obtain ⟨k, rfl⟩ := Int.eq_ofNat_of_zero_le (show 0 ≤ at_ by omega)
        rcases hw with rfl | rfl | rfl
        · exact refread_1 s k hs (by omega) w
        · exact refread_2 s k hs (by omega) w
        · exact refread_4 s k hs (by omega) w
  · rw [VP.rd_no s at_ wd hw]
    unfold VP.isW at hw
    have e1 : (wd == 1) = false := by rw [beq_eq_false_iff_ne]; omega
    have e2 : (wd == 2) = false := by rw [beq_eq_false_iff_ne]; omega
    have e4 : (wd == 4) = false := by rw [beq_eq_false_iff_ne]; omega
    clear hw
    go_enter Tryz.func107, Tryz.ntmps107
    go_wp2
    go_ret3
    exact ⟨rfl, rfl⟩

end Go.Proofs.YtjajandjdclifaaGreatDoor
namespace Go.Proofs.YtjajandjdclifaaGreatDoor
open Go.RowKit

set_option maxHeartbeats 400000 in
theorem data_any (s : ByteArray) (hs : s.size ≤ maxLen) (w : World) :
    Calls Tryz.prog 133 #[.string s] w fun e w' => e = .returned (.tuple #[.string (if s.size ≤ 65535 then strOfNums [(s.size : Int) / 256, (s.size : Int) % 256] ++ s else ⟨#[]⟩), .int .u8 (if s.size ≤ 65535 then 0 else 149)]) ∧ Below w.heap.size w w' := by
  unfold maxLen at hs
  by_cases h : s.size ≤ 65535
  · rw [if_pos h, if_pos h]
    have hf := Lib.hid (VP.fix_2 (n := (s.size : Int)) (by omega) (by omega)).1
    have hsz := strOfNums_size
    go_enter Tryz.func133, Tryz.ntmps133
    go_wp2_with fail
    refine (fixed_any 2 _ (by omega) (by omega) _).mono ?_
    rintro e w1 ⟨rfl, b1⟩
    rw [hf.out]
    go_wp2
    go_ret2
    exact ⟨rfl, b1⟩
  · rw [if_neg h, if_neg h]
    go_enter Tryz.func133, Tryz.ntmps133
    go_wp2
    go_ret2
    exact ⟨rfl, Below.refl _ _⟩

theorem slice_at (s : ByteArray) (k L : Nat) (h : k + 2 + L ≤ s.size) (w : World) :
    (Instr.slice 9 (.string s) (some (.int .i64 ((k : Int) + 2))) (some (.int .i64 ((k : Int) + 2 + (L : Int)))) none).run Tryz.prog w = .ok (.string (s.extract (k + 2) (k + 2 + L))) w := by
  rw [run_slice_string_if w 9 s .i64 .i64 _ _ Tryz.underlying9, if_pos (by omega), if_pos (by omega)]
  have e1 : ((k : Int) + 2).toNat = k + 2 := by omega
  have e2 : ((k : Int) + 2 + L).toNat = k + 2 + L := by omega
  rw [e1, e2]

set_option maxHeartbeats 400000 in
theorem getdata_any (s : ByteArray) (at_ : Int) (hs : s.size ≤ maxLen) (w : World) :
    Calls Tryz.prog 141 #[.string s, .int .i64 at_] w fun e w' => e = .returned (.tuple #[.string (VP.dat s at_).1, .int .i64 (VP.dat s at_).2.1, .int .u8 (VP.dat s at_).2.2]) ∧ Below w.heap.size w w' := by
  have hs' := hs
  unfold maxLen at hs'
  by_cases hc : (VP.rd s at_ 2).2.2 = 0
  · obtain ⟨k, L, rfl, hk, hL, hrd⟩ := VP.rd2_ok s at_ hc
    clear hc
    by_cases hl : (s.size : Int) - (k + 2) < L
    · rw [VP.dat_few s k L hrd hl]
      have HR := Lib.hid hrd
      clear hrd
      go_enter Tryz.func141, Tryz.ntmps141
      go_wp2_with fail
      refine (read_any s k 2 hs _).mono ?_
      rintro e w' ⟨rfl, rfl⟩
      rw [HR.out]
      go_wp2
      go_ret3
      exact ⟨rfl, Below.refl _ _⟩
    · rw [VP.dat_ok s k L hrd hl]
      have HR := Lib.hid hrd
      have hsl := slice_at s k L (by omega)
      clear hrd
      go_enter Tryz.func141, Tryz.ntmps141
      go_wp2_with fail
      refine (read_any s k 2 hs _).mono ?_
      rintro e w' ⟨rfl, rfl⟩
      rw [HR.out]
      go_wp2_with fail
      refine (clone_any (s.extract (k + 2) (k + 2 + L)) _ (by simp; omega)).mono ?_
      rintro e w1 ⟨rfl, b1⟩
      go_wp2
      go_ret3
      exact ⟨rfl, b1⟩
  · rw [VP.dat_bad s at_ hc]
    obtain ⟨c, hcd⟩ : ∃ c, c = (VP.rd s at_ 2).2.2 := ⟨_, rfl⟩
    have hne : (c != 0) = true := by rw [hcd, bne_iff_ne]; exact hc
    obtain ⟨a, b, hab⟩ : ∃ a b, VP.rd s at_ 2 = (a, b, c) := ⟨_, _, by rw [hcd]⟩
    rw [← hcd]
    have HR := Lib.hid hab
    clear hcd hab hc
    go_enter Tryz.func141, Tryz.ntmps141
    go_wp2_with fail
    refine (read_any s at_ 2 hs _).mono ?_
    rintro e w' ⟨rfl, rfl⟩
    rw [HR.out]
    go_wp2
    go_ret3
    exact ⟨rfl, Below.refl _ _⟩

set_option maxHeartbeats 400000 in
theorem refgetdata_any (s : ByteArray) (at_ : Int) (hs : s.size ≤ maxLen) (w : World) :
    Calls Tryz.prog 126 #[.string s, .int .i64 at_] w fun e w' => e = .returned (.tuple #[.string (VP.dat s at_).1, .int .i64 (VP.dat s at_).2.1, .int .i64 (VP.dat s at_).2.2]) ∧ Below w.heap.size w w' := by
  have hs' := hs
  unfold maxLen at hs'
  by_cases hc : (VP.rd s at_ 2).2.2 = 0
  · obtain ⟨k, L, rfl, hk, hL, hrd⟩ := VP.rd2_ok s at_ hc
    clear hc
    by_cases hl : (s.size : Int) - (k + 2) < L
    · rw [VP.dat_few s k L hrd hl]
      have HR := Lib.hid hrd
      clear hrd
      go_enter Tryz.func126, Tryz.ntmps126
      go_wp2_with fail
      refine (refread_any s k 2 hs _).mono ?_
      rintro e w' ⟨rfl, rfl⟩
      rw [HR.out]
      go_wp2
      go_ret3
      exact ⟨rfl, Below.refl _ _⟩
    · rw [VP.dat_ok s k L hrd hl]
      have HR := Lib.hid hrd
      have hsl := slice_at s k L (by omega)
      clear hrd
      go_enter Tryz.func126, Tryz.ntmps126
      go_wp2_with fail
      refine (refread_any s k 2 hs _).mono ?_
      rintro e w' ⟨rfl, rfl⟩
      rw [HR.out]
      go_wp2
      go_ret3
      exact ⟨rfl, Below.refl _ _⟩
  · rw [VP.dat_bad s at_ hc]
    obtain ⟨c, hcd⟩ : ∃ c, c = (VP.rd s at_ 2).2.2 := ⟨_, rfl⟩
    have hne : (c != 0) = true := by rw [hcd, bne_iff_ne]; exact hc
    obtain ⟨a, b, hab⟩ : ∃ a b, VP.rd s at_ 2 = (a, b, c) := ⟨_, _, by rw [hcd]⟩
    rw [← hcd]
    have HR := Lib.hid hab
    clear hcd hab hc
    go_enter Tryz.func126, Tryz.ntmps126
    go_wp2_with fail
    refine (refread_any s at_ 2 hs _).mono ?_
    rintro e w' ⟨rfl, rfl⟩
    rw [HR.out]
    go_wp2
    go_ret3
    exact ⟨rfl, Below.refl _ _⟩

end Go.Proofs.YtjajandjdclifaaGreatDoor
namespace Go.Proofs.YtjajandjdclifaaGreatDoor
open Go.RowKit

namespace TX
/-- The bytes of data. -/
def dataS (s : ByteArray) : ByteArray := if s.size ≤ 65535 then strOfNums [(s.size : Int) / 256, (s.size : Int) % 256] ++ s else ⟨#[]⟩
def dataC (s : ByteArray) : Int := if s.size ≤ 65535 then 0 else 149
/-- The bytes of a text, and the code beside them. -/
def putS (s : ByteArray) : ByteArray := if bad s = true then ⟨#[]⟩ else dataS s
def putC (s : ByteArray) : Int := if bad s = true then 129 else dataC s
/-- The text at a place, the place behind it, the code. -/
def getT (s : ByteArray) (at_ : Int) : ByteArray × Int × Int :=
  if (VP.dat s at_).2.2 ≠ 0 then (⟨#[]⟩, 0, (VP.dat s at_).2.2) else if bad (VP.dat s at_).1 = true then (⟨#[]⟩, 0, 129) else ((VP.dat s at_).1, (VP.dat s at_).2.1, 0)

theorem putC_le (s : ByteArray) : 0 ≤ putC s ∧ putC s ≤ 149 := by
  unfold putC dataC
  split
  · omega
  · split <;> omega
theorem getT_code (s : ByteArray) (at_ : Int) : 0 ≤ (getT s at_).2.2 ∧ (getT s at_).2.2 ≤ 242 := by
  have := VP.dat_code s at_
  unfold getT
  split
  · exact this
  · split
    · exact ⟨by decide, by decide⟩
    · exact ⟨Int.le_refl 0, (by decide : (0 : Int) ≤ 242)⟩
theorem dat_size (s : ByteArray) (at_ : Int) (b : Nat) (h : s.size ≤ b) : (VP.dat s at_).1.size ≤ b := by
  unfold VP.dat
  split
  · split
    · exact Nat.zero_le _
    · simp only [ByteArray.size_extract]; omega
  · exact Nat.zero_le _
end TX

set_option maxHeartbeats 400000 in
theorem tput_any (s : ByteArray) (hs : s.size ≤ 140737488351232) (w : World) (hT : Tabs w) :
    Calls Tryz.prog 118 #[.string s] w fun e w' => e = .returned (.tuple #[.string (TX.putS s), .int .u8 (TX.putC s)]) ∧ Below w.heap.size w w' := by
  have C := fault_any s hs w hT
  have D := fun w' => data_any s (by unfold maxLen; omega) w'
  rw [show (if s.size ≤ 65535 then strOfNums [(s.size : Int) / 256, (s.size : Int) % 256] ++ s else ⟨#[]⟩) = TX.dataS s from rfl, show (if s.size ≤ 65535 then (0 : Int) else 149) = TX.dataC s from rfl] at D
  unfold TX.putS TX.putC
  generalize TX.bad s = b at *
  generalize TX.flt s = f at *
  generalize TX.dataS s = ds at *
  generalize TX.dataC s = dc at *
  cases b
  · rw [if_neg (by decide), if_neg (by decide)]
    go_enter Tryz.func118, Tryz.ntmps118
    go_wp2_with fail
    refine C.mono ?_
    rintro e w1 ⟨rfl, b1⟩
    go_wp2_with fail
    refine (D _).mono ?_
    rintro e w2 ⟨rfl, b2⟩
    go_wp2
    go_ret2
    exact ⟨rfl, b1.trans (b2.mono b1.size)⟩
  · rw [if_pos rfl, if_pos rfl]
    clear D
    go_enter Tryz.func118, Tryz.ntmps118
    go_wp2_with fail
    refine C.mono ?_
    rintro e w1 ⟨rfl, b1⟩
    go_wp2
    go_ret2
    exact ⟨rfl, b1⟩

set_option maxHeartbeats 400000 in
theorem tget_any (s : ByteArray) (at_ : Int) (hs : s.size ≤ 140737488351232) (w : World) (hT : Tabs w) :
    Calls Tryz.prog 125 #[.string s, .int .i64 at_] w fun e w' => e = .returned (.tuple #[.string (TX.getT s at_).1, .int .i64 (TX.getT s at_).2.1, .int .u8 (TX.getT s at_).2.2]) ∧ Below w.heap.size w w' := by
  have C := getdata_any s at_ (by unfold maxLen; omega) w
  have D := fun w' (b : Below w.heap.size w w') => fault_any (VP.dat s at_).1 (TX.dat_size s at_ _ hs) w' (hT.below b)
  unfold TX.getT
  generalize VP.dat s at_ = d at *
  obtain ⟨x, to, c⟩ := d
  simp only at C D ⊢
  by_cases hc : c = 0
  · subst hc
    rw [if_neg (by decide)]
    generalize TX.bad x = b at *
    generalize TX.flt x = f at *
    cases b
    · rw [if_neg (by decide)]
      simp only
      go_enter Tryz.func125, Tryz.ntmps125
      go_wp2_with fail
      refine C.mono ?_
      rintro e w1 ⟨rfl, b1⟩
      go_wp2_with fail
      refine (D _ b1).mono ?_
      rintro e w2 ⟨rfl, b2⟩
      go_wp2
      go_ret3
      exact ⟨rfl, b1.trans (b2.mono b1.size)⟩
    · rw [if_pos rfl]
      simp only
      go_enter Tryz.func125, Tryz.ntmps125
      go_wp2_with fail
      refine C.mono ?_
      rintro e w1 ⟨rfl, b1⟩
      go_wp2_with fail
      refine (D _ b1).mono ?_
      rintro e w2 ⟨rfl, b2⟩
      go_wp2
      go_ret3
      exact ⟨rfl, b1.trans (b2.mono b1.size)⟩
  · rw [if_pos hc]
    have hne : (c != 0) = true := by rw [bne_iff_ne]; exact hc
    clear hc D
    simp only
    go_enter Tryz.func125, Tryz.ntmps125
    go_wp2_with fail
    refine C.mono ?_
    rintro e w1 ⟨rfl, b1⟩
    go_wp2
    go_ret3
    exact ⟨rfl, b1⟩

set_option maxHeartbeats 400000 in
theorem reftget_any (s : ByteArray) (at_ : Int) (hs : s.size ≤ 140737488351232) (w : World) :
    Calls Tryz.prog 110 #[.string s, .int .i64 at_] w fun e w' => e = .returned (.tuple #[.string (TX.getT s at_).1, .int .i64 (TX.getT s at_).2.1, .int .i64 (TX.getT s at_).2.2]) ∧ Below w.heap.size w w' := by
  have C := refgetdata_any s at_ (by unfold maxLen; omega) w
  have D := fun w' => reffault_any (VP.dat s at_).1 (TX.dat_size s at_ _ hs) w'
  unfold TX.getT
  generalize VP.dat s at_ = d at *
  obtain ⟨x, to, c⟩ := d
  simp only at C D ⊢
  by_cases hc : c = 0
  · subst hc
    rw [if_neg (by decide)]
    generalize TX.bad x = b at *
    generalize TX.flt x = f at *
    cases b
    · rw [if_neg (by decide)]
      simp only
      go_enter Tryz.func110, Tryz.ntmps110
      go_wp2_with fail
      refine C.mono ?_
      rintro e w1 ⟨rfl, b1⟩
      go_wp2_with fail
      refine (D _).mono ?_
      rintro e w2 ⟨rfl, rfl⟩
      go_wp2
      go_ret3
      exact ⟨rfl, b1⟩
    · rw [if_pos rfl]
      simp only
      go_enter Tryz.func110, Tryz.ntmps110
      go_wp2_with fail
      refine C.mono ?_
      rintro e w1 ⟨rfl, b1⟩
      go_wp2_with fail
      refine (D _).mono ?_
      rintro e w2 ⟨rfl, rfl⟩
      go_wp2
      go_ret3
      exact ⟨rfl, b1⟩
  · rw [if_pos hc]
    have hne : (c != 0) = true := by rw [bne_iff_ne]; exact hc
    clear hc D
    simp only
    go_enter Tryz.func110, Tryz.ntmps110
    go_wp2_with fail
    refine C.mono ?_
    rintro e w1 ⟨rfl, b1⟩
    go_wp2
    go_ret3
    exact ⟨rfl, b1⟩

end Go.Proofs.YtjajandjdclifaaGreatDoor
namespace Go.Proofs.YtjajandjdclifaaGreatDoor
namespace PR

/-- In how many bytes the numbers of a kind stand. -/
def wd (k : Int) : Int := if k = 1 then 1 else if k = 2 then 2 else if k = 3 then 4 else 0
/-- The bytes of a pair, and the code beside them. -/
def pairC (s t : ByteArray) : Int := if TX.putC s ≠ 0 then TX.putC s else TX.putC t
def pairS (s t : ByteArray) : ByteArray := if TX.putC s ≠ 0 then ⟨#[]⟩ else if TX.putC t ≠ 0 then ⟨#[]⟩ else TX.putS s ++ TX.putS t
/-- The bytes of a value, and the code beside them. -/
def valS (p : Pr) : ByteArray := if kd p.id = 4 then strOfNums (VP.putL p.n) else if kd p.id = 5 then TX.dataS p.s else if kd p.id = 6 then TX.putS p.s else if kd p.id = 7 then pairS p.s p.t else strOfNums (VP.fixL (wd (kd p.id)) p.n)
def valC (p : Pr) : Int := if kd p.id = 4 then VP.putC p.n else if kd p.id = 5 then TX.dataC p.s else if kd p.id = 6 then TX.putC p.s else if kd p.id = 7 then pairC p.s p.t else VP.fixC (wd (kd p.id)) p.n
/-- Has one ahead the identifier, which isn't 38? -/
def dup (l : List Pr) (id : Int) : Bool := !(id == 38) && decide (0 ≤ ix id 0 l)
/-- What speaks against an identifier. -/
def idC (l : List Pr) (id : Int) : Int := if kd id = 0 then 129 else if dup l id = true then 130 else 0
/-- The code of one behind those ahead, its bytes. -/
def oneC (l : List Pr) (p : Pr) : Int := if idC l p.id ≠ 0 then idC l p.id else valC p
def oneS (p : Pr) : ByteArray := strOfNums (VP.putL p.id) ++ valS p
/-- From the property at k on: the code, if one has one. -/
def restC (l : List Pr) (k : Nat) : List Pr → Int
  | [] => 0
  | p :: r => if oneC (l.take k) p ≠ 0 then oneC (l.take k) p else restC l (k + 1) r
/-- The bytes of all. -/
def allS : List Pr → ByteArray
  | [] => ⟨#[]⟩
  | p :: r => oneS p ++ allS r
def putC (l : List Pr) : Int := if 64 < l.length then 149 else if restC l 0 l ≠ 0 then restC l 0 l else 0
def putS (l : List Pr) : ByteArray := if 64 < l.length then ⟨#[]⟩ else if restC l 0 l ≠ 0 then ⟨#[]⟩ else strOfNums (VP.putL (allS l).size) ++ allS l

theorem dataS_size (s : ByteArray) : (TX.dataS s).size ≤ 65537 := by
  unfold TX.dataS
  split
  · rw [ByteArray.size_append, strOfNums_size]; simp; omega
  · exact Nat.zero_le _
theorem putS_size (s : ByteArray) : (TX.putS s).size ≤ 65537 := by
  unfold TX.putS
  split
  · exact Nat.zero_le _
  · exact dataS_size s
theorem putL_len (n : Int) : (VP.putL n).length ≤ 4 := by
  unfold VP.putL
  repeat' split
  all_goals simp
theorem fixL_len (w n : Int) : (VP.fixL w n).length ≤ 4 := by
  unfold VP.fixL
  repeat' split
  all_goals simp
theorem pairS_size (s t : ByteArray) : (pairS s t).size ≤ 131074 := by
  unfold pairS
  split
  · exact Nat.zero_le _
  · split
    · exact Nat.zero_le _
    · rw [ByteArray.size_append]; have := putS_size s; have := putS_size t; omega
theorem valS_size (p : Pr) : (valS p).size ≤ 131074 := by
  unfold valS
  repeat' split
  · rw [strOfNums_size]; have := putL_len p.n; omega
  · have := dataS_size p.s; omega
  · have := putS_size p.s; omega
  · exact pairS_size _ _
  · rw [strOfNums_size]; have := fixL_len (wd (kd p.id)) p.n; omega
theorem oneS_size (p : Pr) : (oneS p).size ≤ 131078 := by
  unfold oneS
  rw [ByteArray.size_append, strOfNums_size]; have := valS_size p; have := putL_len p.id; omega
theorem allS_size : ∀ l : List Pr, (allS l).size ≤ 131078 * l.length
  | [] => Nat.zero_le _
  | p :: r => by
    rw [allS, ByteArray.size_append]
    have := allS_size r; have := oneS_size p
    simp only [List.length_cons]; omega
theorem pairC_le (s t : ByteArray) : 0 ≤ pairC s t ∧ pairC s t ≤ 149 := by
  have := TX.putC_le s; have := TX.putC_le t
  unfold pairC; split <;> omega
theorem dataC_le (s : ByteArray) : 0 ≤ TX.dataC s ∧ TX.dataC s ≤ 149 := by unfold TX.dataC; split <;> omega
theorem valC_le (p : Pr) : 0 ≤ valC p ∧ valC p ≤ 149 := by
  have := VP.putC_le p.n; have := dataC_le p.s; have := TX.putC_le p.s; have := pairC_le p.s p.t; have := VP.fixC_le (wd (kd p.id)) p.n
  unfold valC
  repeat' split
  all_goals omega
theorem idC_le (l : List Pr) (id : Int) : 0 ≤ idC l id ∧ idC l id ≤ 149 := by
  unfold idC
  repeat' split
  all_goals omega
theorem oneC_le (l : List Pr) (p : Pr) : 0 ≤ oneC l p ∧ oneC l p ≤ 149 := by
  have := idC_le l p.id; have := valC_le p
  unfold oneC; split <;> omega
theorem rest_at {l r : List Pr} {k : Nat} {p : Pr} (h : r[k]? = some p) (he : oneC (l.take k) p = 0) : restC l k (r.drop k) = restC l (k + 1) (r.drop (k + 1)) := by
  rw [prop_drop h, restC, if_neg (by simp [he])]
theorem rest_stop {l r : List Pr} {k : Nat} {p : Pr} (h : r[k]? = some p) (he : oneC (l.take k) p ≠ 0) : restC l k (r.drop k) = oneC (l.take k) p := by
  rw [prop_drop h, restC, if_pos he]
theorem rest_end (l r : List Pr) : restC l r.length (r.drop r.length) = 0 := by rw [List.drop_length]; rfl
theorem all_snoc (l : List Pr) (p : Pr) : allS (l ++ [p]) = allS l ++ oneS p := by
  induction l with
  | nil => exact ByteArray.ext (by simp [allS, ByteArray.data_append])
  | cons a l ih => rw [List.cons_append, allS, ih, allS, ByteArray.append_assoc]
end PR
end Go.Proofs.YtjajandjdclifaaGreatDoor
