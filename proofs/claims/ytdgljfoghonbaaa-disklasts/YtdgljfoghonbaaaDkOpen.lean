/- The laws' arguments, opened: calls as plain data. -/
import Derived.Test.YtdgljfoghonbaaaDkCrash
import Derived.Deep.Slices
import Derived.ChangeOld
import Derived.OpenShut
import Derived.SizedLaws
import Derived.Lib.Strings
import Derived.ChangeSlices
namespace Go.Proofs.Ytdgljfoghonbaaa
open Go.RowKit Go.ChangeShapes Go.WideShapes Go.Deep DK

/-- One call as plain data: what is to be done, the file, the number, the text, the numbers kept. -/
structure Tx where
  d : Int
  f : Int
  n : Int
  s : ByteArray
  k : List Int
  A : Option Addr
  cap : Nat
instance : Inhabited Tx := ⟨⟨0, 0, 0, ⟨#[]⟩, [], none, 0⟩⟩
def Tx.cells (x : Tx) : Array Value := #[.int .i64 x.d, .int .i64 x.f, .int .i64 x.n, .string x.s, .slice x.A x.k.length x.cap]
def Tx.Fine (w : World) (x : Tx) : Prop := I64 x.d ∧ I64 x.f ∧ I64 x.n ∧ Ints w x.A x.k ∧ x.k.length ≤ maxLen ∧ x.k.length ≤ x.cap
def Acts (w : World) (A : Option Addr) (l : List Tx) : Prop := ∀ (i : Nat) x, l[i]? = some x → x.Fine w ∧ ∃ g o, A = some ⟨g, o, none⟩ ∧ g < w.heap.size ∧ ∀ (j : Nat) v, x.cells[j]? = some v → w.cell? ⟨g, o + i * 5 + j, none⟩ = some v

theorem cell_lt' {w : World} {a : Addr} {v : Value} (h : w.cell? a = some v) : a.block < w.heap.size := by
  rcases Nat.lt_or_ge a.block w.heap.size with h' | h'
  · exact h'
  · exfalso
    have e : w.heap[a.block]? = none := Array.getElem?_eq_none h'
    simp [World.cell?, e] at h
theorem trod_in {H : Type} {enc : TypeId × Value → H} {P : Program} {w : World} {base : Nat} {spare : Nat → Bool} {held : Bool} {t : TypeId} {v : Value} {d : DataW H} {ps : List MemPlace} (h : DataW.Trod enc P w base spare held t v d ps) : ∀ x ∈ ps, x.block < w.heap.size := by
  obtain ⟨n, hn⟩ := h
  exact DataW.trod_lt n t _ _ hn
theorem i64_wf {n : Int} (h : (Lit.int .i64 n).wf = true) : I64 n := bounds_i64 h
theorem take_at {l : List Value} {k m : Nat} {v : Value} (h : (l.drop k).take m = [v]) : l[k]? = some v := by
  have h0 := congrArg (fun x => x[0]?) h
  simp only [List.getElem?_take, List.getElem?_drop] at h0
  split at h0
  · simpa using h0
  · simp at h0
theorem list_of {α : Type} [Inhabited α] {len : Nat} {Q : Nat → α → Prop} (h : ∀ i, i < len → ∃ x, Q i x) : ∃ l : List α, l.length = len ∧ ∀ (i : Nat) x, l[i]? = some x → Q i x := by
  obtain ⟨X, hX⟩ := choose_lt h
  refine ⟨(List.range len).map X, by simp, fun i x hx => ?_⟩
  have hi : i < len := by have := (List.getElem?_eq_some_iff.1 hx).1; simpa using this
  have h2 : ((List.range len).map X)[i]? = some (X i) := by simp [hi]
  obtain rfl := Option.some.inj (hx.symm.trans h2)
  exact hX i hi

section
variable {H : Type} {enc : TypeId × Value → H} {P : Program} {w : World} {base : Nat} {spare : Nat → Bool} {held : Bool}
/-- A row of an argument: at every place its cells, and what they read as. -/
theorem open_rowC {t e : TypeId} {C : Nat} {fuel : Nat} {A : Option Addr} {len cap : Nat} {x : DataW H × List MemPlace} (ht : P.underlying t = some (.slice e)) (hC : P.cellsOf e = C) (h0 : 0 < C)
    (h : DataW.trod enc P w base spare held fuel t [.slice A len cap] = some x) :
    len ≤ cap ∧ len ≤ maxLen ∧ ∀ i, i < len → ∃ (g o n : Nat) (cs : List Value) (y : DataW H × List MemPlace), A = some ⟨g, o, none⟩ ∧ cs.length = C ∧ (∀ j, j < C → w.cell? ⟨g, o + i * C + j, none⟩ = cs[j]?) ∧
      DataW.trod enc P w base spare held n e cs = some y := by
  rcases open_slice ht h with ⟨hcs, _⟩ | ⟨a, len', cap', m, n, D, Pl, hcs, hb, hl, hm, hmm, hx, hi⟩
  · have e1 : Value.slice A len cap = .slice none 0 0 := by simpa using hcs
    injection e1 with e1 e2 e3
    subst e2 e3
    exact ⟨Nat.le_refl _, by simp [maxLen], fun i hi => absurd hi (by omega)⟩
  · have e1 : Value.slice A len cap = .slice (some a) len' cap' := by simpa using hcs
    injection e1 with e1 e2 e3
    subst e1 e2 e3
    refine ⟨hl, by omega, fun i hlt => ?_⟩
    obtain ⟨cs, h1, h2⟩ := hi i (by rw [hmm]; split <;> omega)
    rw [hC] at h1
    obtain ⟨_, hlen, hat⟩ := World.cells?_some h1
    obtain ⟨b, o, spot⟩ := a
    have hspot : spot = none := by
      obtain ⟨cs0, h10, _⟩ := hi 0 (by rw [hmm]; split <;> omega)
      rw [hC] at h10
      obtain ⟨_, hlen0, hat0⟩ := World.cells?_some h10
      have h00 := hat0 0 (by omega)
      rw [List.getElem?_eq_getElem (by omega)] at h00
      simpa [Addr.add] using World.cell?_spot h00
    subst hspot
    refine ⟨b, o, n, cs, (D i, Pl i), rfl, hlen, fun j hj => ?_, h2⟩
    have := hat j (by omega)
    simpa only [add_plain] using this
end
section
variable {H : Type} {enc : TypeId × Value → H} {w : World} {base : Nat} {spare : Nat → Bool} {held : Bool} {fuel : Nat} {x : DataW H × List MemPlace}
theorem intCells : Try.prog.cellsOf 3 = 1 := by kernel_rfl
/-- A row of numbers. -/
theorem open_keep {cs : List Value} (hf : DataW.trod enc Try.prog w base spare held fuel 29 cs = some x) : ∃ A cap l, cs = [.slice A l.length cap] ∧ Ints w A l ∧ l.length ≤ maxLen ∧ l.length ≤ cap := by
  rcases open_slice Try.underlying29 hf with ⟨hcs, _⟩ | ⟨a, len', cap', m, n, D, Pl, hcs, _⟩
  · exact ⟨none, 0, [], hcs, (fun i z hz => by cases hz), (by simp [maxLen]), Nat.le_refl _⟩
  · subst hcs
    obtain ⟨hc, hm, each⟩ := open_rowC Try.underlying29 intCells (by decide) hf
    obtain ⟨l, hl, hX⟩ := list_of (α := Int) (Q := fun i z => I64 z ∧ ∃ g o, some a = some ⟨g, o, none⟩ ∧ g < w.heap.size ∧ w.cell? ⟨g, o + i, none⟩ = some (.int .i64 z)) (fun i hi => by
      obtain ⟨g, o, n, cs, y, hA, hlen, hat, ht⟩ := each i hi
      obtain ⟨z, rfl, _, wz⟩ := DataW.trod_int Try.underlying3 ht
      have h0 := hat 0 (by decide)
      rw [Nat.mul_one, Nat.add_zero] at h0
      exact ⟨z, i64_wf wz, g, o, hA, cell_lt' (h0.trans rfl), h0⟩)
    exact ⟨some a, cap', l, by rw [hl], hX, by rw [hl]; exact hm, by rw [hl]; exact hc⟩
theorem drop_cells {cs : List Value} (h : cs.length = 5) : ∃ c0 c1 c2 c3 c4, cs = [c0, c1, c2, c3, c4] := by
  match cs, h with
  | [c0, c1, c2, c3, c4], _ => exact ⟨c0, c1, c2, c3, c4, rfl⟩
set_option maxRecDepth 100000 in
/-- A call's five cells. -/
theorem open_act5 {cs : List Value} (h5 : cs.length = 5) (hf : DataW.trod enc Try.prog w base spare held fuel 31 cs = some x) : ∃ X : Tx, cs = X.cells.toList ∧ X.Fine w := by
  obtain ⟨c0, c1, c2, c3, c4, rfl⟩ := drop_cells h5
  obtain ⟨xs, n', _, hD, _, hxl, hfl⟩ := DataW.trod_struct Try.underlying31 hf
  obtain ⟨y0, e0⟩ : ∃ y, xs[0]? = some y := ⟨xs[0]'(by rw [hxl]; decide), List.getElem?_eq_getElem _⟩
  have f0 := (hfl 0 _ rfl).trans e0
  obtain ⟨z0, q0, _, w0⟩ := DataW.trod_int Try.underlying3 f0
  obtain ⟨y1, e1⟩ : ∃ y, xs[1]? = some y := ⟨xs[1]'(by rw [hxl]; decide), List.getElem?_eq_getElem _⟩
  have f1 := (hfl 1 _ rfl).trans e1
  obtain ⟨z1, q1, _, w1⟩ := DataW.trod_int Try.underlying3 f1
  obtain ⟨y2, e2⟩ : ∃ y, xs[2]? = some y := ⟨xs[2]'(by rw [hxl]; decide), List.getElem?_eq_getElem _⟩
  have f2 := (hfl 2 _ rfl).trans e2
  obtain ⟨z2, q2, _, w2⟩ := DataW.trod_int Try.underlying3 f2
  obtain ⟨y3, e3⟩ : ∃ y, xs[3]? = some y := ⟨xs[3]'(by rw [hxl]; decide), List.getElem?_eq_getElem _⟩
  have f3 := (hfl 3 _ rfl).trans e3
  obtain ⟨z3, q3, _, _⟩ := DataW.trod_string Try.underlying9 f3
  obtain ⟨y4, e4⟩ : ∃ y, xs[4]? = some y := ⟨xs[4]'(by rw [hxl]; decide), List.getElem?_eq_getElem _⟩
  have f4 := (hfl 4 _ rfl).trans e4
  obtain ⟨A, cap, l, q4, hI, hm, hc⟩ := open_keep f4
  have a0 := take_at q0
  have a1 := take_at q1
  have a2 := take_at q2
  have a3 := take_at q3
  have a4 := take_at q4
  have b0 : c0 = .int .i64 z0 := by simpa using a0
  have b1 : c1 = .int .i64 z1 := by simpa using a1
  have b2 : c2 = .int .i64 z2 := by simpa using a2
  have b3 : c3 = .string z3 := by simpa using a3
  have b4 : c4 = .slice A l.length cap := by simpa using a4
  subst b0 b1 b2 b3 b4
  exact ⟨⟨z0, z1, z2, z3, l, A, cap⟩, rfl, i64_wf w0, i64_wf w1, i64_wf w2, hI, hm, hc⟩
end
theorem actCells : Try.prog.cellsOf 31 = 5 := by kernel_rfl
set_option maxRecDepth 100000 in
theorem open_act {H : Type} {enc : TypeId × Value → H} {w : World} {base : Nat} {spare : Nat → Bool} {held : Bool} {r : Reach} {b0 : Nat} {v : Value} {d : DataW H} {ps : List MemPlace} (hv : Value.okWide Try.prog w r b0 31 v) (h : DataW.Trod enc Try.prog w base spare held 31 v d ps) :
    ∃ X : Tx, v = .agg X.cells ∧ X.Fine w := by
  obtain ⟨cs, rfl, hsz⟩ := okWide_struct Try.underlying31 hv
  obtain ⟨fuel, hf⟩ := h
  have hsz' : cs.size = 5 := hsz.trans (by kernel_rfl)
  have hcs : (Value.agg cs).cells.toList = cs.toList := rfl
  rw [hcs] at hf
  obtain ⟨X, hX, hF⟩ := open_act5 (by simpa using hsz') hf
  exact ⟨X, by rw [show cs = X.cells from Array.toList_inj.1 hX], hF⟩
set_option maxRecDepth 100000 in
theorem open_acts {H : Type} {enc : TypeId × Value → H} {w : World} {v : Value} {d : DataW H} {ps : List MemPlace} {r : Reach} {b0 : Nat} (hv : Value.okWide Try.prog w r b0 22 v) (h : DataW.Trod enc Try.prog w 0 (fun _ => true) true 22 v d ps) :
    ∃ A cap l, v = .slice A l.length cap ∧ l.length ≤ maxLen ∧ Acts w A l ∧ l.length ≤ cap := by
  obtain ⟨A, len, cap, rfl⟩ := okWide_slice Try.underlying22 hv
  obtain ⟨fuel, hf⟩ := h
  obtain ⟨hc, hm, each⟩ := open_rowC Try.underlying22 actCells (by decide) hf
  obtain ⟨l, hl, hX⟩ := list_of (α := Tx) (Q := fun i x => x.Fine w ∧ ∃ g o, A = some ⟨g, o, none⟩ ∧ g < w.heap.size ∧ ∀ (j : Nat) v, x.cells[j]? = some v → w.cell? ⟨g, o + i * 5 + j, none⟩ = some v) (fun i hi => by
    obtain ⟨g, o, n, cs, y, hA, hlen, hat, ht⟩ := each i hi
    obtain ⟨X, rfl, hF⟩ := open_act5 hlen ht
    have h0 := hat 0 (by decide)
    exact ⟨X, hF, g, o, hA, cell_lt' (h0.trans rfl), fun j v hv => by
      have hj : j < 5 := (Array.getElem?_eq_some_iff.1 hv).1
      rw [hat j hj, Array.getElem?_toList]; exact hv⟩)
  exact ⟨A, cap, l, by rw [hl], by rw [hl]; exact hm, hX, by rw [hl]; exact hc⟩
set_option maxRecDepth 100000 in
theorem open_nums {H : Type} {enc : TypeId × Value → H} {w : World} {v : Value} {d : DataW H} {ps : List MemPlace} {r : Reach} {b0 : Nat} (hv : Value.okWide Try.prog w r b0 29 v) (h : DataW.Trod enc Try.prog w 0 (fun _ => true) true 29 v d ps) :
    ∃ A cap l, v = .slice A l.length cap ∧ l.length ≤ maxLen ∧ Ints w A l ∧ l.length ≤ cap := by
  obtain ⟨A, len, cap, rfl⟩ := okWide_slice Try.underlying29 hv
  obtain ⟨fuel, hf⟩ := h
  obtain ⟨A', cap', l, e, hI, hm, hc⟩ := open_keep hf
  have e1 : Value.slice A len cap = .slice A' l.length cap' := (List.cons.inj (show [Value.slice A len cap] = _ from e)).1
  exact ⟨A', cap', l, e1, hm, hI, hc⟩
end Go.Proofs.Ytdgljfoghonbaaa
