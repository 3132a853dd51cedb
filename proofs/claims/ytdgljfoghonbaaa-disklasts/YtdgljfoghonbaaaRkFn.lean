/- The document's disk in memory; its smaller functions. -/
import Derived.Test.YtdgljfoghonbaaaDkLose
import Derived.Test.YtdgljfoghonbaaaRkPure
namespace Go.Proofs.Ytdgljfoghonbaaa
open Go.RowKit DK

def intCells' (l : List Int) : List Value := l.map (Value.int .i64)
def rkCells (R : Rv) (vk : Value) : Array Value := #[.string ⟨R.a.s.toArray⟩, .string ⟨R.b.s.toArray⟩, .int .i64 R.a.l, .int .i64 R.b.l, .int .i64 R.lim, .bool R.off, .int .i64 R.cut, vk, .int .i64 R.brk, .bool R.isf]
def RkAt (r : Nat) (R : Rv) (vk : Value) (w : World) : Prop := w.heap[r]? = some (.cells (rkCells R vk) 54 (0, 0)) ∧ w.ownsRow r 3 1 vk R.keep.length (intCells' R.keep)
/-- The document's disk lies in block r. -/
def Rk (r : Nat) (R : Rv) (w : World) : Prop := ∃ vk, RkAt r R vk w
theorem Rk.lt {r : Nat} {R : Rv} {w : World} (h : Rk r R w) : r < w.heap.size := by obtain ⟨_, h, _⟩ := h; exact lt_heap h
theorem RkAt.below {r : Nat} {R : Rv} {vk : Value} {w w' : World} (h : RkAt r R vk w) (hb : Below w.heap.size w w') : RkAt r R vk w' := ⟨(hb.block r (lt_heap h.1)).trans h.1, own_below h.2 hb⟩
theorem Rk.below {r : Nat} {R : Rv} {w w' : World} (h : Rk r R w) (hb : Below w.heap.size w w') : Rk r R w' := by obtain ⟨vk, h⟩ := h; exact ⟨vk, h.below hb⟩
/-- What turns only block b and rows of another type leaves the disk. -/
theorem Rk.kt {t : TypeId} {b r : Nat} {R : Rv} {w w' : World} (h : Rk r R w) (hk : Kt t b w w') (hb : r ≠ b) (ht : 3 ≠ t) (ht2 : 54 ≠ t) {cs : Array Value} {u : TypeId} {fz : Nat × Nat} (hbb : w.heap[b]? = some (.cells cs u fz)) (hu : 3 ≠ u) : Rk r R w' := by
  obtain ⟨vk, h1, h2⟩ := h
  exact ⟨vk, hk.block h1 hb ht2, own_kt h2 hk (own_ne h2 hbb hu) ht⟩
theorem RkAt.ne {r : Nat} {R : Rv} {vk : Value} {w : World} (h : RkAt r R vk w) : vk.ownBlock ≠ some r := own_ne h.2 h.1 (by decide)
theorem RkAt.cells {r : Nat} {R : Rv} {vk : Value} {w : World} (h : RkAt r R vk w) :
    w.cell? ⟨r, 0, none⟩ = some (.string ⟨R.a.s.toArray⟩) ∧ w.cell? ⟨r, 1, none⟩ = some (.string ⟨R.b.s.toArray⟩) ∧ w.cell? ⟨r, 2, none⟩ = some (.int .i64 R.a.l) ∧ w.cell? ⟨r, 3, none⟩ = some (.int .i64 R.b.l) ∧ w.cell? ⟨r, 4, none⟩ = some (.int .i64 R.lim) ∧
    w.cell? ⟨r, 5, none⟩ = some (.bool R.off) ∧ w.cell? ⟨r, 6, none⟩ = some (.int .i64 R.cut) ∧ w.cell? ⟨r, 7, none⟩ = some vk ∧ w.cell? ⟨r, 8, none⟩ = some (.int .i64 R.brk) ∧ w.cell? ⟨r, 9, none⟩ = some (.bool R.isf) := by
  refine ⟨?_, ?_, ?_, ?_, ?_, ?_, ?_, ?_, ?_, ?_⟩ <;> (rw [cell_heap h.1]; rfl)
theorem RkAt.loose {r : Nat} {R : Rv} {vk : Value} {w : World} (h : RkAt r R vk w) (j : Nat) : w.frozen? ⟨r, j, none⟩ = false := frozen_heap h.1
theorem RkAt.set {r : Nat} {R R' : Rv} {vk : Value} {w : World} (h : RkAt r R vk w) (j : Nat) (u : Value) (hc : (rkCells R vk).set! j u = rkCells R' vk) (hk : R'.keep = R.keep) : RkAt r R' vk (w.setCell ⟨r, j, none⟩ u) :=
  ⟨set_block h.1 hc, by rw [hk]; exact own_set h.2 h.ne⟩
theorem RkAt.drewN {r : Nat} {R : Rv} {vk : Value} {w : World} (h : RkAt r R vk w) (n : Nat) : RkAt r R vk (w.drewN n) := h
def RetP (r : Nat) (R : Rv) (w : World) (v : Value) (e : Ending) (w' : World) : Prop := e = .returned v ∧ Rk r R w' ∧ Kt 3 r w w'

set_option maxRecDepth 100000 in
theorem rkept_any (n : Nat) (k : Int) (w : World) (hk : I64 k) (hn : n ≤ 16777216) : Calls Try.prog 44 #[.int .i64 n, .int .i64 k] w fun e w' => e = .returned (.int .i64 (kp k n)) ∧ w = w' := by
  obtain ⟨hk1, hk2⟩ := hk
  unfold kp
  by_cases h0 : 0 ≤ k
  · rw [if_pos h0]
    go_enter Try.func44, Try.ntmps44
    go_wp2
    go_ret
    exact ⟨rfl, rfl⟩
  · rw [if_neg h0]
    have hk0 : k < 0 := by omega
    have hd : decide (0 ≤ k) = false := by simpa using h0
    have hm := Int.emod_lt_of_pos (-(k + 1)) (b := (n : Int) + 1) (by omega)
    have hm0 := Int.emod_nonneg (-(k + 1)) (b := (n : Int) + 1) (by omega)
    have ht : (k + 1).tmod ((n : Int) + 1) = -(-(k + 1) % ((n : Int) + 1)) := by
      rw [← Int.tmod_eq_emod_of_nonneg (by omega), Int.neg_tmod, Int.neg_neg]
    have HT := Lib.hid ht
    clear h0 ht
    go_enter Try.func44, Try.ntmps44
    go_wp2
    go_ret
    refine ⟨ret_int ?_, rfl⟩
    rw [HT.out]
    generalize -(k + 1) % ((n : Int) + 1) = m at *
    unfold wrap64
    omega
set_option maxRecDepth 100000 in
theorem find_any (r : Nat) (R : Rv) (f : Int) (w : World) (h : Rk r R w) : Calls Try.prog 39 #[.pointer (some ⟨r, 0, none⟩), .int .i64 f] w fun e w' => e = .returned (.int .i64 (R.find f)) ∧ w = w' := by
  obtain ⟨vk, h⟩ := h
  obtain ⟨-, -, -, -, -, c5, -, -, -, -⟩ := h.cells
  clear h
  by_cases ho : R.off = true
  · have hr : R.find f = 240 := by unfold Rv.find; rw [if_pos ho]
    rw [hr]
    rw [ho] at c5
    clear hr ho
    go_enter Try.func39, Try.ntmps39
    go_wp2
    go_ret
    exact ⟨rfl, rfl⟩
  · have ho' : R.off = false := by simpa using ho
    rw [ho'] at c5
    by_cases hf : fileB f = true
    · have hr : R.find f = 0 := by unfold Rv.find; rw [if_neg ho, if_pos hf]
      rw [hr]
      rcases fileB_cases hf with rfl | rfl
      all_goals
        clear hr ho ho' hf
        go_enter Try.func39, Try.ntmps39
        go_wp2
        go_ret
        exact ⟨rfl, rfl⟩
    · have hr : R.find f = 242 := by unfold Rv.find; rw [if_neg ho, if_neg hf]
      have hf' : fileB f = false := by simpa using hf
      obtain ⟨n0, n1⟩ := fileB_no hf'
      have m0 : (f != 0) = true := by rw [bne_iff_ne]; exact n0
      have m1 : (f != 1) = true := by rw [bne_iff_ne]; exact n1
      rw [hr]
      clear hr ho ho' hf hf' n0 n1
      go_enter Try.func39, Try.ntmps39
      go_wp2
      go_ret
      exact ⟨rfl, rfl⟩
set_option maxRecDepth 100000 in
theorem ron_any (r : Nat) (R : Rv) (w : World) (h : Rk r R w) : Calls Try.prog 28 #[.pointer (some ⟨r, 0, none⟩)] w (RetP r R.on w (.tuple #[])) := by
  obtain ⟨vk, h⟩ := h
  have h1 := h.set (R' := { R with off := false }) 5 (.bool false) rfl rfl
  have h2 := h1.set (R' := { R with off := false, cut := 0 }) 6 (.int .i64 0) rfl rfl
  have b2 := h2.1
  have b3 := set_block (j := 7) (u := .slice none 0 0) b2 rfl
  have b4 := set_block (j := 8) (u := .int .i64 0) b3 rfl
  have b5 := set_block (j := 9) (u := .bool false) b4 rfl
  have HF : Hid (RetP r R.on w (.tuple #[]) (.returned (.tuple #[])) (((((w.setCell ⟨r, 5, none⟩ (.bool false)).setCell ⟨r, 6, none⟩ (.int .i64 0)).setCell ⟨r, 7, none⟩ (.slice none 0 0)).setCell ⟨r, 8, none⟩ (.int .i64 0)).setCell ⟨r, 9, none⟩ (.bool false))) :=
    Lib.hid ⟨rfl, ⟨_, b5, own_nil _ _ _ _⟩, (((((Kt.refl _ _ _).setCell _ _).setCell _ _).setCell _ _).setCell _ _).setCell _ _⟩
  obtain ⟨-, -, -, -, -, c5, c6, c7, c8, c9⟩ := h.cells
  have f5 := h.loose 5
  have f6 := h.loose 6
  have f7 := h.loose 7
  have f8 := h.loose 8
  have f9 := h.loose 9
  clear h h1 h2 b2 b3 b4 b5
  go_enter Try.func28, Try.ntmps28
  go_wp2
  go_end0
  exact HF.out
set_option maxRecDepth 100000 in
theorem breaks_any (r : Nat) (R : Rv) (n : Int) (w : World) (h : Rk r R w) : Calls Try.prog 26 #[.pointer (some ⟨r, 0, none⟩), .int .i64 n] w (RetP r (R.breaks n) w (.tuple #[])) := by
  obtain ⟨vk, h⟩ := h
  have h1 := h.set (R' := { R with brk := 0 }) 8 (.int .i64 0) rfl rfl
  obtain ⟨-, -, -, -, -, -, -, -, c8, c9⟩ := h.cells
  have f8 := h.loose 8
  have f9 := h.loose 9
  by_cases hp : 0 < n
  · have h2 := h1.set (R' := { R with brk := n }) 8 (.int .i64 n) rfl rfl
    have h3 := h2.set (R' := { R with brk := n, isf := false }) 9 (.bool false) rfl rfl
    have HF : Hid (RetP r (R.breaks n) w (.tuple #[]) (.returned (.tuple #[])) (((w.setCell ⟨r, 8, none⟩ (.int .i64 0)).setCell ⟨r, 8, none⟩ (.int .i64 n)).setCell ⟨r, 9, none⟩ (.bool false))) :=
      Lib.hid ⟨rfl, ⟨vk, by unfold Rv.breaks; rw [if_pos hp]; exact h3⟩, (((Kt.refl _ _ _).setCell _ _).setCell _ _).setCell _ _⟩
    clear h h1 h2 h3
    go_enter Try.func26, Try.ntmps26
    go_wp2
    go_end0
    exact HF.out
  · have h3 := h1.set (R' := { R with brk := 0, isf := false }) 9 (.bool false) rfl rfl
    have HF : Hid (RetP r (R.breaks n) w (.tuple #[]) (.returned (.tuple #[])) ((w.setCell ⟨r, 8, none⟩ (.int .i64 0)).setCell ⟨r, 9, none⟩ (.bool false))) :=
      Lib.hid ⟨rfl, ⟨vk, by unfold Rv.breaks; rw [if_neg hp]; exact h3⟩, ((Kt.refl _ _ _).setCell _ _).setCell _ _⟩
    clear h h1 h3
    go_enter Try.func26, Try.ntmps26
    go_wp2
    go_end0
    exact HF.out
set_option maxRecDepth 100000 in
theorem rread_any (r : Nat) (R : Rv) (f : Int) (w : World) (h : Rk r R w) : Calls Try.prog 22 #[.pointer (some ⟨r, 0, none⟩), .int .i64 f] w fun e w' => e = .returned (.tuple #[.string ⟨(R.rd f).toArray⟩, .int .i64 (R.find f)]) ∧ w = w' := by
  have C := Lib.hid (find_any r R f w h)
  obtain ⟨vk, h⟩ := h
  obtain ⟨c0, c1, -⟩ := h.cells
  clear h
  by_cases hr : R.find f = 0
  · rw [hr] at C ⊢
    have hf : fileB f = true := by
      unfold Rv.find at hr
      split at hr
      · cases hr
      · split at hr
        · assumption
        · cases hr
    have hd : R.rd f = (R.fl (ix f)).s := by unfold Rv.rd; rw [if_neg (by rw [hr]; decide)]
    rw [hd]
    clear hr hd
    rcases fileB_cases hf with rfl | rfl
    · rw [show (R.fl (ix 0)).s = R.a.s from rfl]
      clear hf
      go_enter Try.func22, Try.ntmps22
      go_wp2_with fail
      refine C.out.mono ?_
      rintro e w' ⟨rfl, rfl⟩
      go_wp2
      go_ret2
      exact ⟨rfl, rfl⟩
    · rw [show (R.fl (ix 1)).s = R.b.s from rfl]
      clear hf
      go_enter Try.func22, Try.ntmps22
      go_wp2_with fail
      refine C.out.mono ?_
      rintro e w' ⟨rfl, rfl⟩
      go_wp2
      go_ret2
      exact ⟨rfl, rfl⟩
  · have hd : R.rd f = [] := by unfold Rv.rd; rw [if_pos hr]
    rw [hd]
    have hne : (R.find f != 0) = true := by rw [bne_iff_ne]; exact hr
    generalize R.find f = c at *
    clear hr hd
    go_enter Try.func22, Try.ntmps22
    go_wp2_with fail
    refine C.out.mono ?_
    rintro e w' ⟨rfl, rfl⟩
    go_wp2
    go_ret2
    exact ⟨rfl, rfl⟩
set_option maxRecDepth 100000 in
theorem rnew_any (lim : Int) (w : World) : Calls Try.prog 8 #[.int .i64 lim] w fun e w' => e = .returned (.pointer (some ⟨w.heap.size, 0, none⟩)) ∧ Rk w.heap.size (newR lim) w' ∧ Below w.heap.size w w' := by
  have H1 : Hid (∀ L : Int, L = min (max lim 0) 16777216 → Rk w.heap.size (newR lim) (w.alloc (.cells #[.string ⟨#[]⟩, .string ⟨#[]⟩, .int .i64 0, .int .i64 0, .int .i64 L, .bool false, .int .i64 0, .slice none 0 0, .int .i64 0, .bool false] 54))) := Lib.hid (fun L hL => by
    have hm : (((min (max lim 0) 16777216).toNat : Nat) : Int) = L := by omega
    refine ⟨.slice none 0 0, ?_, own_nil _ _ _ _⟩
    rw [heap_alloc_new]
    show _ = some (Obj.cells (rkCells _ _) _ _)
    simp only [rkCells, newR, hm]
    rfl)
  by_cases h1 : lim < 0
  · go_enter Try.func8, Try.ntmps8
    go_wp2
    go_ret
    exact ⟨rfl, H1.out _ (by omega), (Below.refl _ _).alloc (Nat.le_refl _) _⟩
  · by_cases h2 : 16777216 < lim
    · go_enter Try.func8, Try.ntmps8
      go_wp2
      go_ret
      exact ⟨rfl, H1.out _ (by omega), (Below.refl _ _).alloc (Nat.le_refl _) _⟩
    · go_enter Try.func8, Try.ntmps8
      go_wp2
      go_ret
      exact ⟨rfl, H1.out _ (by omega), (Below.refl _ _).alloc (Nat.le_refl _) _⟩
end Go.Proofs.Ytdgljfoghonbaaa
