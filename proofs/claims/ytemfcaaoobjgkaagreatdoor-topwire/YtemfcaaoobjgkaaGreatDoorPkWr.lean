/- The writer of a packet: a strings.Builder and a code in one struct. -/
import Derived.Test.YtemfcaaoobjgkaaGreatDoorPrBld
import Derived.Lib.OthersKept
import Derived.Lib.AppendStr
import Derived.Lib.UnsafeStr
import Derived.Lib.Builder
import Derived.Deep.DeepAppendWide
import Derived.Room.AppendFits
import Derived.Laws.Externs
import Derived.WalkKit
import Derived.KernelRfl
namespace Go.Proofs.YtemfcaaoobjgkaaGreatDoor
open Go.RowKit

/-- A string behind a row of bytes of the call's own, where both together take up to 2 * 10^14 bytes. -/
theorem app_str_wide {P : Program} (w : World) (base : Nat) (t u ty e : TypeId) (i : TypeInfo) (ht : P.underlying t = some (.slice e)) (hu : P.underlying u = some .string) (hi : P.info? e = some i) (hz : i.zero = some (.int .u8 0)) (hsize : i.size = 1) (hby : i.bytes = 1)
    (v : Value) (n : Nat) (xs : List Value) (hown : w.ownsRow base e 1 v n xs) (s : ByteArray) (hs : s.size ≤ 140737488355328) (hn : n + s.size ≤ 200000000000000) (hbase : base ≤ w.heap.size) :
    ∃ v' w', (Builtin.append_ #[t, u] ty #[v, .string s]).run P w = .ok v' w' ∧ w'.ownsRow base e 1 v' (n + s.size) (xs ++ Lib.strCells s) ∧ w.grownBy w' v.ownBlock := by
  by_cases hsm : n + s.size ≤ 140737488355328
  · obtain ⟨v', w', h1, h2, h3, _⟩ := Lib.run_append_own_string (P := P) w base t u ty e i ht hu hi hz hsize hby v n xs hown s (by unfold maxLen; omega) hsm hbase
    exact ⟨v', w', h1, h2, h3⟩
  · rcases hown.2 with ⟨rfl, rfl⟩ | ⟨g, cap, cur, rfl, hbg, hg, hnc, hcm, hcs, htake⟩
    · omega
    · by_cases hroom : n + s.size ≤ cap
      · obtain ⟨w', h1, h2, h3⟩ := Lib.run_append_fits_string (P := P) w base t u ty e i ht hu hi hsize (some ⟨g, 0, none⟩) n cap xs hown s (by omega) hroom
        exact ⟨_, w', h1, h2, h3⟩
      · have hxl : xs.length = n := by simpa using hown.1
        have hr := Lib.run_append_grow_string (P := P) w t u ty e i (.int .u8 0) ht hu hi hz ⟨g, 0, none⟩ n cap xs (by rw [hsize]; omega) (hown.cells (g := g) rfl) s (by omega) (by omega) (by rw [hby]; exact growslice_fits_wide (by omega) (by omega))
        have hge := grownCap_ge w (n + s.size) cap e
        refine ⟨_, _, hr, ⟨by rw [List.length_append, hxl, Lib.strCells_length]; omega, .inr ⟨w.heap.size, grownCap w (n + s.size) cap e, _, rfl, hbase, heap_alloc_new w.drew _, hge, grownCap_le_maxLen w (n + s.size) cap e (by unfold maxLen; omega), ?_, ?_⟩⟩, ⟨rfl, rfl, rfl, by simp, fun k hk _ => heap_alloc_old w.drew _ hk⟩⟩
        · have hz1 : (Value.int IntKind.u8 0).cells.size = 1 := rfl
          simp only [Array.size_append, List.size_toArray, size_zeroCells, hz1, hxl, Lib.strCells_length]
          omega
        · have hl2 : (xs ++ Lib.strCells s).length = (n + s.size) * 1 := by rw [List.length_append, hxl, Lib.strCells_length]; omega
          simp only [Array.toList_append, List.append_assoc]
          rw [← List.append_assoc, ← hl2]
          exact List.take_left

/-- The writer in block b: the bytes l so far, the code c; 'p': whether its builder was used. -/
def WrAt (b : Nat) (p : Value) (l : List UInt8) (c : Int) (w : World) : Prop :=
  ∃ v, w.heap[b]? = some (.cells #[p, v, .int .u8 c] 87 (0, 0)) ∧ w.ownsRow b 5 1 v l.length (Lib.byteCells l) ∧ v.ownBlock ≠ some b
def Wr (b : Nat) (l : List UInt8) (c : Int) (w : World) : Prop := WrAt b (.pointer none) l c w ∨ WrAt b (.pointer (some ⟨b, 0, none⟩)) l c w
/-- All that isn't the writer's stands. -/
def Kp (b : Nat) (w w' : World) : Prop := Below b w w' ∧ Lib.OthersKept 5 (some b) w w'
theorem Kp.refl (b : Nat) (w : World) : Kp b w w := ⟨Below.refl _ _, Lib.OthersKept.refl _ _ _⟩
theorem Kp.trans {b : Nat} {w1 w2 w3 : World} (h : Kp b w1 w2) (k : Kp b w2 w3) : Kp b w1 w3 := ⟨h.1.trans k.1, h.2.trans k.2⟩
theorem Kp.of_below {b : Nat} {w w' : World} (hb : b ≤ w.heap.size) (h : Below w.heap.size w w') : Kp b w w' :=
  ⟨h.mono hb, fun k _ hk _ _ => (h.block k (lt_heap hk)).trans hk⟩
theorem Kp.size {b : Nat} {w w' : World} (h : Kp b w w') : w.heap.size ≤ w'.heap.size := h.1.size
theorem Kp.block {b k : Nat} {w w' : World} (h : Kp b w w') {cs : Array Value} {t : TypeId} {fr : Nat × Nat} (hk : w.heap[k]? = some (.cells cs t fr)) (hne : k ≠ b) (ht : t ≠ 5) : w'.heap[k]? = some (.cells cs t fr) :=
  h.2 k _ hk (fun e => hne (by injection e)) (fun c fz e => ht (by injection e))
theorem WrAt.lt {b : Nat} {p : Value} {l : List UInt8} {c : Int} {w : World} (h : WrAt b p l c w) : b < w.heap.size := by
  obtain ⟨v, h1, _⟩ := h; exact lt_heap h1
theorem Wr.lt {b : Nat} {l : List UInt8} {c : Int} {w : World} (h : Wr b l c w) : b < w.heap.size := by
  rcases h with h | h <;> exact h.lt
theorem WrAt.below {b : Nat} {p : Value} {l : List UInt8} {c : Int} {w w' : World} (h : WrAt b p l c w) (hb : Below w.heap.size w w') : WrAt b p l c w' := by
  obtain ⟨v, h1, h2, h3⟩ := h
  exact ⟨v, (hb.block b (lt_heap h1)).trans h1, own_below h2 hb, h3⟩
theorem Wr.below {b : Nat} {l : List UInt8} {c : Int} {w w' : World} (h : Wr b l c w) (hb : Below w.heap.size w w') : Wr b l c w' := by
  rcases h with h | h
  · exact .inl (h.below hb)
  · exact .inr (h.below hb)
theorem Wr.new (w : World) : Wr w.heap.size [] 0 (w.alloc (.cells #[.pointer none, .slice none 0 0, .int .u8 0] 87)) :=
  .inl ⟨_, heap_alloc_new w _, own_nil _ _ _ _, by simp [Value.ownBlock]⟩
theorem set_block {w : World} {b : Nat} {cs cs' : Array Value} {t : TypeId} {j : Nat} {u : Value} (h : w.heap[b]? = some (.cells cs t (0, 0))) (hc : cs.set! j u = cs') : (w.setCell ⟨b, j, none⟩ u).heap[b]? = some (.cells cs' t (0, 0)) := by
  subst hc
  simp [World.setCell, Array.getElem?_modify, h]
theorem own_set {w : World} {b j : Nat} {B : Nat} {e : TypeId} {k : Nat} {v u : Value} {n : Nat} {xs : List Value} (h : w.ownsRow B e k v n xs) (hne : v.ownBlock ≠ some b) : (w.setCell ⟨b, j, none⟩ u).ownsRow B e k v n xs :=
  h.kept (row := some b) ⟨rfl, rfl, rfl, by simp [World.setCell], fun i _ hi => Below.heap_setCell _ _ _ _ (fun e => hi (by simp [e]))⟩ (.inr hne)
/-- A store into the writer's own block. -/
theorem Kp.setCell {b : Nat} {w w' : World} (h : Kp b w w') (j : Nat) (u : Value) : Kp b w (w'.setCell ⟨b, j, none⟩ u) :=
  ⟨h.1.setCell (p := ⟨b, j, none⟩) (Nat.le_refl _) u, h.2.setCell ⟨b, j, none⟩ rfl u⟩

theorem bldInfo : ∃ j, Tryz.prog.info? 66 = some j ∧ j.size = 2 := by
  have h : (Tryz.prog.info? 66).map (·.size) = some 2 := by kernel_rfl
  exact Option.map_eq_some_iff.1 h
theorem bldLies : liesAt Tryz.prog Tryz.prog.depth 87 (3 / Tryz.prog.cellsOf 87) 0 66 1 = true := by kernel_rfl

set_option maxHeartbeats 1000000 in
set_option maxRecDepth 100000 in
theorem wcopy_used (b : Nat) (w : World) (h0 : w.cell? ⟨b, 0, none⟩ = some (.pointer (some ⟨b, 0, none⟩))) :
    Calls Tryz.prog 30 #[.pointer (some ⟨b, 0, none⟩)] w fun e w' => e = .returned (.tuple #[]) ∧ w = w' := by
  obtain ⟨j, hj, _⟩ := bldInfo
  have hn := Lib.run_neq_ptr_same (P := Tryz.prog) w ⟨b, 0, none⟩ Tryz.underlying63 hj
  clear hj
  go_enter Tryz.func30, Tryz.ntmps30
  go_wp2
  go_end0
  exact ⟨rfl, rfl⟩
set_option maxHeartbeats 1000000 in
set_option maxRecDepth 100000 in
theorem wcopy_fresh (b : Nat) (w : World) (h0 : w.cell? ⟨b, 0, none⟩ = some (.pointer none)) (hsh : w.shape? b = some (87, 3)) (hfz : w.frozen? ⟨b, 0, none⟩ = false) :
    Calls Tryz.prog 30 #[.pointer (some ⟨b, 0, none⟩)] w fun e w' => e = .returned (.tuple #[]) ∧ w.setCell ⟨b, 0, none⟩ (.pointer (some ⟨b, 0, none⟩)) = w' := by
  obtain ⟨j, hj, hjs⟩ := bldInfo
  have r1 := Lib.run_to_unsafe (P := Tryz.prog) w ⟨b, 0, none⟩ Tryz.underlying63 Tryz.underlying132 hj (by rw [hjs]; decide) hsh (Nat.zero_lt_succ 2)
  have r2 := Lib.run_from_unsafe (P := Tryz.prog) w ⟨b, 0, none⟩ Tryz.underlying132 Tryz.underlying63 hj hsh bldLies
  clear hj hjs hsh
  go_enter Tryz.func30, Tryz.ntmps30
  go_wp2
  rw [run_callFunc_extern Tryz.func62 (by kernel_rfl) (by kernel_rfl) (by kernel_rfl) (e := Extern.AbiNoEscape.same) (by kernel_rfl)]
  rw [Lib.run_noEscape]
  simp only [Result.andThen]
  rw [Oper.upon_value]
  go_wp2
  go_end0
  exact ⟨rfl, rfl⟩

theorem wcopy_any (b : Nat) (l : List UInt8) (c : Int) (w : World) (h : Wr b l c w) :
    Calls Tryz.prog 30 #[.pointer (some ⟨b, 0, none⟩)] w fun e w' => e = .returned (.tuple #[]) ∧ WrAt b (.pointer (some ⟨b, 0, none⟩)) l c w' ∧ Kp b w w' := by
  rcases h with ⟨v, h1, h2, h3⟩ | ⟨v, h1, h2, h3⟩
  · refine (wcopy_fresh b w (by rw [cell_heap h1]; rfl) (by simp [World.shape?, h1]) (frozen_heap h1)).mono ?_
    rintro e w' ⟨rfl, rfl⟩
    exact ⟨rfl, ⟨v, set_block h1 rfl, own_set h2 h3, h3⟩, (Kp.refl b w).setCell 0 _⟩
  · refine (wcopy_used b w (by rw [cell_heap h1]; rfl)).mono ?_
    rintro e w' ⟨rfl, rfl⟩
    exact ⟨rfl, ⟨v, h1, h2, h3⟩, Kp.refl b w⟩
theorem byteInfo : (Tryz.prog.info? 5).map (fun i => (i.zero, i.size, i.bytes)) = some (some (.int .u8 0), 1, 1) := by kernel_rfl
theorem own_row {w : World} {B : Nat} {e : TypeId} {k : Nat} {v : Value} {n : Nat} {xs : List Value} (h : w.ownsRow B e k v n xs) : ∀ g, v.ownBlock = some g → ∃ c fz, w.heap[g]? = some (.cells c e fz) := by
  intro g hg
  rcases h.2 with ⟨rfl, _⟩ | ⟨g', c, u, rfl, _, hh, _⟩
  · cases hg
  · simp only [Value.ownBlock, Option.some.injEq] at hg
    subst hg
    exact ⟨_, _, hh⟩

set_option maxHeartbeats 2000000 in
set_option maxRecDepth 100000 in
theorem wwrite_any (b : Nat) (l : List UInt8) (c : Int) (s : ByteArray) (w : World) (h : Wr b l c w) (hs : s.size ≤ 140737488355328) (hn : l.length + s.size ≤ 200000000000000) :
    Calls Tryz.prog 14 #[.pointer (some ⟨b, 0, none⟩), .string s] w fun e w' => e = .returned (.tuple #[.int .i64 s.size, .nilIface]) ∧ Wr b (l ++ s.data.toList) c w' ∧ Kp b w w' := by
  have C := Lib.hid (wcopy_any b l c w h)
  obtain ⟨i0, hi, hz0, hz1, hz2⟩ := info_parts byteInfo
  have Hi := Lib.hid hi; have Hz0 := Lib.hid hz0; have Hz1 := Lib.hid hz1; have Hz2 := Lib.hid hz2
  clear hi hz0 hz1 hz2 h
  go_enter Tryz.func14, Tryz.ntmps14
  go_wp2_with fail
  refine C.out.mono ?_
  rintro e w1 ⟨rfl, ⟨v, h1, h2, h3⟩, k1⟩
  obtain ⟨ao, cap, rfl⟩ := own_form h2
  have hlt := lt_heap h1
  obtain ⟨v', w2, hr, ho, hg⟩ := app_str_wide w1 b 64 9 64 5 i0 Tryz.underlying64 Tryz.underlying9 Hi.out Hz0.out Hz1.out Hz2.out _ _ _ h2 s hs hn (Nat.le_of_lt hlt)
  have hb2 : w2.heap[b]? = some (.cells #[.pointer (some ⟨b, 0, none⟩), .slice ao l.length cap, .int .u8 c] 87 (0, 0)) := (hg.block b hlt (fun e => h3 e.symm)).trans h1
  have k2 : Kp b w w2 := k1.trans ⟨(Below.refl b w1).grown hg (Nat.le_of_lt hlt) (fun k hk => (h2.lt k hk).1), (Lib.OthersKept.refl _ _ _).grown hg (own_row h2)⟩
  have hne := Lib.ownBlock_ne ho hb2 (by decide)
  have HW : Hid (Wr b (l ++ s.data.toList) c (w2.setCell ⟨b, 1, none⟩ v')) := .inr ⟨v', set_block hb2 rfl, by
    refine own_set ?_ hne
    rw [byteCells_app] at ho
    have e : (l ++ s.data.toList).length = l.length + s.size := by rw [List.length_append]; congr 1
    rw [e]; exact ho, hne⟩
  have HK : Hid (Kp b w (w2.setCell ⟨b, 1, none⟩ v')) := k2.setCell 1 _
  have c0 : w1.cell? ⟨b, 0, none⟩ = some (.pointer (some ⟨b, 0, none⟩)) := by rw [cell_heap h1]; rfl
  have c1 : w1.cell? ⟨b, 1, none⟩ = some (.slice ao l.length cap) := by rw [cell_heap h1]; rfl
  have d1 : w2.cell? ⟨b, 1, none⟩ = some (.slice ao l.length cap) := by rw [cell_heap hb2]; rfl
  have f1 : w2.frozen? ⟨b, 1, none⟩ = false := frozen_heap hb2
  obtain ⟨A2, cap2, rfl⟩ := own_form ho
  clear C h1 h2 h3 k1 ho hg hb2 k2 hne Hi Hz0 Hz1 Hz2
  go_wp2_with (at_builtin; refine wpList_run (by rfl) (.tmp 12) (.tmp 13) _ _ (by rfl) (by rfl) (by rfl) hr ?_; clear hr)
  go_ret2
  exact ⟨rfl, HW.out, HK.out⟩
theorem wlen_any (b : Nat) (l : List UInt8) (c : Int) (w : World) (h : Wr b l c w) :
    Calls Tryz.prog 27 #[.pointer (some ⟨b, 0, none⟩)] w fun e w' => e = .returned (.int .i64 l.length) ∧ w = w' := by
  obtain ⟨v, hv, A, cap, rfl⟩ : ∃ v, w.cell? ⟨b, 1, none⟩ = some v ∧ ∃ A cap, v = .slice A l.length cap := by
    rcases h with ⟨v, h2, h3, _⟩ | ⟨v, h2, h3, _⟩
    all_goals
      obtain ⟨A, cap, hv⟩ := own_form h3
      exact ⟨v, by rw [cell_heap h2]; rfl, A, cap, hv⟩
  clear h
  go_enter Tryz.func27, Tryz.ntmps27
  go_wp2
  go_ret
  exact ⟨rfl, rfl⟩
set_option maxHeartbeats 2000000 in
set_option maxRecDepth 100000 in
theorem wstr_any (b : Nat) (x : UInt8) (r : List UInt8) (c : Int) (w : World) (h : Wr b (x :: r) c w) :
    Calls Tryz.prog 15 #[.pointer (some ⟨b, 0, none⟩)] w fun e w' => e = .returned (.string ⟨(x :: r).toArray⟩) ∧ Below b w w' := by
  obtain ⟨p, v, h1, h2, h3⟩ : ∃ p, WrAt b p (x :: r) c w := by
    rcases h with h | h
    · exact ⟨_, h⟩
    · exact ⟨_, h⟩
  obtain ⟨g, cap, cur, rfl, hbg, hg, hnc, hcm, hcs, htake⟩ : ∃ g cap cur, v = .slice (some ⟨g, 0, none⟩) (x :: r).length cap ∧ b ≤ g ∧ w.heap[g]? = some (.cells cur 5 (0, 0)) ∧ (x :: r).length ≤ cap ∧ cap ≤ maxLen ∧ cur.size = cap * 1 ∧ cur.toList.take ((x :: r).length * 1) = Lib.byteCells (x :: r) := by
    rcases h2.2 with ⟨_, hz⟩ | ⟨g, cap, cur, hv, rr⟩
    · simp at hz
    · exact ⟨g, cap, cur, hv, rr⟩
  have hl0 : 0 < (x :: r).length := by simp
  have c1 : w.cell? ⟨b, 1, none⟩ = some (.slice (some ⟨g, 0, none⟩) (x :: r).length cap) := by rw [cell_heap h1]; rfl
  have hSD : (Builtin.unsafeSliceData_ #[64] 94 #[.slice (some ⟨g, 0, none⟩) (x :: r).length cap]).run Tryz.prog w.drew = .ok (.pointer (some ⟨g, 0, none⟩)) w.drew := Lib.run_unsafeSliceData_row _ _ _ _ _ _ (by omega)
  have hUS : (Builtin.unsafeString_ #[94, 3] 9 #[.pointer (some ⟨g, 0, none⟩), .int .i64 (x :: r).length]).run Tryz.prog w.drew = .ok (.string ⟨(x :: r).toArray⟩) (w.drew.freeze ⟨g, 0, none⟩ (x :: r).length) := by
    refine Lib.run_unsafeString_row w.drew 94 3 9 5 Tryz.underlying94 (by kernel_rfl) g cur.size (by have hg' : w.drew.heap[g]? = some (.cells cur 5 (0, 0)) := hg; simp [World.shape?, hg']) (x :: r) (by simp) (by omega) (by unfold maxLen at hcm; omega) ?_
    intro j y hy
    exact h2.cells (g := g) rfl j (.int .u8 y.toNat) (by rw [Lib.byteCells, List.getElem?_map, hy]; rfl)
  generalize x :: r = l at *
  clear h h1 h2 h3 hg hcs htake hnc hcm hl0
  go_enter Tryz.func15, Tryz.ntmps15
  go_wp2
  go_region
  all_goals
    go_wp2
    go_ret
    exact ⟨rfl, Lib.below_freeze (Below.drew (Below.refl b w)) (p := ⟨g, 0, none⟩) hbg _⟩

theorem us_none (W : World) (q : Option Addr) : (Builtin.unsafeString_ #[94, 3] 9 #[.pointer q, .int .i64 0]).run Tryz.prog W = .ok (.string ⟨#[]⟩) W := Lib.run_unsafeString_none W _ _ _ q
set_option maxHeartbeats 2000000 in
set_option maxRecDepth 100000 in
theorem wstr_empty (b : Nat) (c : Int) (w : World) (h : Wr b [] c w) :
    Calls Tryz.prog 15 #[.pointer (some ⟨b, 0, none⟩)] w fun e w' => e = .returned (.string ⟨#[]⟩) ∧ Below b w w' := by
  have hlt := h.lt
  obtain ⟨p, v, h1, h2, h3⟩ : ∃ p, WrAt b p [] c w := by
    rcases h with h | h
    · exact ⟨_, h⟩
    · exact ⟨_, h⟩
  have hUS := us_none
  rcases h2.2 with ⟨rfl, _⟩ | ⟨g, cap, cur, rfl, hbg, hg, _, _, _, _⟩
  · have c1 : w.cell? ⟨b, 1, none⟩ = some (.slice none 0 0) := by rw [cell_heap h1]; rfl
    have hSD : (Builtin.unsafeSliceData_ #[64] 94 #[.slice none 0 0]).run Tryz.prog w.drew = .ok (.pointer none) w.drew := rfl
    clear h h1 h2 h3
    go_enter Tryz.func15, Tryz.ntmps15
    go_wp2
    go_region
    all_goals
      go_wp2
      go_ret
      exact ⟨rfl, Below.drew (Below.refl b w)⟩
  · have c1 : w.cell? ⟨b, 1, none⟩ = some (.slice (some ⟨g, 0, none⟩) 0 cap) := by rw [cell_heap h1]; rfl
    by_cases hc0 : cap = 0
    · subst hc0
      have hSD : (Builtin.unsafeSliceData_ #[64] 94 #[.slice (some ⟨g, 0, none⟩) 0 0]).run Tryz.prog w.drew = .ok (.pointer (some ⟨w.drew.heap.size, 0, none⟩)) (w.drew.alloc (.view ⟨g, 0, none⟩ 5)) :=
        Lib.run_unsafeSliceData_zero w.drew _ _ 5 Tryz.underlying94 ⟨g, 0, none⟩ 0 (5, cur.size) (by have hg' : w.drew.heap[g]? = some (.cells cur 5 (0, 0)) := hg; simp [World.shape?, hg'])
      have c3 : (w.alloc (.view ⟨g, 0, none⟩ 5)).drew.cell? ⟨b, 1, none⟩ = some (.slice (some ⟨g, 0, none⟩) 0 0) := by
        have e : (w.alloc (.view ⟨g, 0, none⟩ 5)).drew.heap[b]? = some (.cells #[p, .slice (some ⟨g, 0, none⟩) 0 0, .int .u8 c] 87 (0, 0)) := (heap_alloc_old w _ hlt).trans h1
        rw [cell_heap e]; rfl
      clear h h1 h2 h3 hg
      go_enter Tryz.func15, Tryz.ntmps15
      go_wp2
      go_region
      all_goals
        go_wp2
        go_ret
        exact ⟨rfl, (Below.drew (Below.refl b w)).alloc (Nat.le_of_lt hlt) _⟩
    · have hSD : (Builtin.unsafeSliceData_ #[64] 94 #[.slice (some ⟨g, 0, none⟩) 0 cap]).run Tryz.prog w.drew = .ok (.pointer (some ⟨g, 0, none⟩)) w.drew := Lib.run_unsafeSliceData_row _ _ _ _ _ _ hc0
      clear h h1 h2 h3 hg hc0
      go_enter Tryz.func15, Tryz.ntmps15
      go_wp2
      go_region
      all_goals
        go_wp2
        go_ret
        exact ⟨rfl, Below.drew (Below.refl b w)⟩
theorem wstring_any (b : Nat) (l : List UInt8) (c : Int) (w : World) (h : Wr b l c w) :
    Calls Tryz.prog 15 #[.pointer (some ⟨b, 0, none⟩)] w fun e w' => e = .returned (.string ⟨l.toArray⟩) ∧ Below b w w' := by
  cases l with
  | nil => exact wstr_empty b c w h
  | cons x r => exact wstr_any b x r c w h
end Go.Proofs.YtemfcaaoobjgkaaGreatDoor
