/- The program's disk in memory. -/
import Derived.Test.YtdgljfoghonbaaaDkPure
import Derived.Test.YtdgljfoghonbaaaProg
import Derived.WalkKit
import Derived.KernelRfl
import Derived.Below
import Derived.Laws.BytesArg
import Derived.Lib.OthersKept
import Derived.Lib.AppendStr
import Derived.Lib.Builder
import Derived.Lib.Hide
import Derived.Maps.AppendAt
import Derived.Deep.AppendLies
import Derived.Deep.Fields
import Derived.Deep.QuietTactic
import Derived.BigQuiet
import Derived.Deep.RegionHeld3
import Derived.StillTailTactics
import Derived.Deep.RegionLawGrows
import Derived.Laws.CopyOwn
import Derived.WalkLawsBesides
import Derived.Laws.BitsAllLaws
namespace Go.Proofs.Ytdgljfoghonbaaa
open Go.RowKit DK

theorem ret_int {k : IntKind} {a b : Int} (h : a = b) : Ending.returned (.int k a) = .returned (.int k b) := by rw [h]
theorem ret_bool {a b : Bool} (h : a = b) : Ending.returned (.bool a) = .returned (.bool b) := by rw [h]
theorem add0 (g j : Nat) : (⟨g, 0, none⟩ : Addr).add j = ⟨g, j, none⟩ := by
  unfold Addr.add
  split <;> simp_all
theorem own_below {B : Nat} {e : TypeId} {k : Nat} {v : Value} {n : Nat} {xs : List Value} {w w' : World} (h : w.ownsRow B e k v n xs) (hb : Below w.heap.size w w') : w'.ownsRow B e k v n xs :=
  h.kept (row := none) ⟨hb.os, hb.tape, hb.output, hb.size, fun i hi _ => hb.block i hi⟩ (by
    rcases h.2 with ⟨rfl, _⟩ | ⟨g, c, u, rfl, _⟩
    · exact .inl rfl
    · exact .inr (by simp [Value.ownBlock]))
theorem own_nil (w : World) (B : Nat) (e : TypeId) (k : Nat) : w.ownsRow B e k (.slice none 0 0) 0 [] := ⟨by simp, .inl ⟨rfl, rfl⟩⟩
theorem own_form {B : Nat} {e : TypeId} {k : Nat} {v : Value} {n : Nat} {xs : List Value} {w : World} (h : w.ownsRow B e k v n xs) : ∃ A cap, v = .slice A n cap := by
  rcases h.2 with ⟨rfl, rfl⟩ | ⟨g, c, u, rfl, _⟩
  · exact ⟨_, _, rfl⟩
  · exact ⟨_, _, rfl⟩
theorem own_mono {B B' : Nat} {e : TypeId} {k : Nat} {v : Value} {n : Nat} {xs : List Value} {w : World} (h : w.ownsRow B e k v n xs) (hB : B' ≤ B) : w.ownsRow B' e k v n xs := by
  refine ⟨h.1, ?_⟩
  rcases h.2 with h | ⟨g, c, u, h1, h2, h3⟩
  · exact .inl h
  · exact .inr ⟨g, c, u, h1, Nat.le_trans hB h2, h3⟩
theorem cell_heap {w : World} {b i : Nat} {cs : Array Value} {t : TypeId} (h : w.heap[b]? = some (.cells cs t (0, 0))) : w.cell? ⟨b, i, none⟩ = cs[i]? := by simp [World.cell?, h]
theorem frozen_heap {w : World} {b i : Nat} {cs : Array Value} {t : TypeId} (h : w.heap[b]? = some (.cells cs t (0, 0))) : w.frozen? ⟨b, i, none⟩ = false := by simp [World.frozen?, h]
theorem lt_heap {w : World} {b : Nat} {o : Obj} (h : w.heap[b]? = some o) : b < w.heap.size := by
  rcases Nat.lt_or_ge b w.heap.size with h' | h'
  · exact h'
  · rw [Array.getElem?_eq_none h'] at h; cases h
theorem set_block {w : World} {b : Nat} {cs cs' : Array Value} {t : TypeId} {j : Nat} {u : Value} (h : w.heap[b]? = some (.cells cs t (0, 0))) (hc : cs.set! j u = cs') : (w.setCell ⟨b, j, none⟩ u).heap[b]? = some (.cells cs' t (0, 0)) := by
  subst hc
  simp [World.setCell, Array.getElem?_modify, h]
theorem own_set {w : World} {b j : Nat} {B : Nat} {e : TypeId} {k : Nat} {v u : Value} {n : Nat} {xs : List Value} (h : w.ownsRow B e k v n xs) (hne : v.ownBlock ≠ some b) : (w.setCell ⟨b, j, none⟩ u).ownsRow B e k v n xs :=
  h.kept (row := some b) ⟨rfl, rfl, rfl, by simp [World.setCell], fun i _ hi => Below.heap_setCell _ _ _ _ (fun e => hi (by simp [e]))⟩ (.inr hne)
theorem own_row {w : World} {B : Nat} {e : TypeId} {k : Nat} {v : Value} {n : Nat} {xs : List Value} (h : w.ownsRow B e k v n xs) : ∀ g, v.ownBlock = some g → ∃ c fz, w.heap[g]? = some (.cells c e fz) := by
  intro g hg
  rcases h.2 with ⟨rfl, _⟩ | ⟨g', c, u, rfl, _, hh, _⟩
  · cases hg
  · simp only [Value.ownBlock, Option.some.injEq] at hg
    subst hg
    exact ⟨_, _, hh⟩
theorem own_ne {w : World} {B b : Nat} {e t : TypeId} {k : Nat} {v : Value} {n : Nat} {xs : List Value} {cs : Array Value} {fz : Nat × Nat} (h : w.ownsRow B e k v n xs) (hb : w.heap[b]? = some (.cells cs t fz)) (hne : e ≠ t) : v.ownBlock ≠ some b := fun he => by
  obtain ⟨c, f, hc⟩ := own_row h b he
  rw [hb] at hc
  injection hc with hc
  injection hc with _ hc _
  exact hne hc.symm
theorem info_parts {e : TypeId} {z : Value} {n b : Nat} (h : (Try.prog.info? e).map (fun i => (i.zero, i.size, i.bytes)) = some (some z, n, b)) : ∃ i, Try.prog.info? e = some i ∧ i.zero = some z ∧ i.size = n ∧ i.bytes = b := by
  cases hi : Try.prog.info? e with
  | none => rw [hi] at h; cases h
  | some i => rw [hi] at h; simp at h; exact ⟨i, rfl, h.1, h.2.1, h.2.2⟩
theorem byteInfo : (Try.prog.info? 5).map (fun i => (i.zero, i.size, i.bytes)) = some (some (.int .u8 0), 1, 1) := by kernel_rfl
theorem intInfo : (Try.prog.info? 3).map (fun i => (i.zero, i.size, i.bytes)) = some (some (.int .i64 0), 1, 8) := by kernel_rfl
theorem drewN_below (B : Nat) (w : World) (n : Nat) : Below B w (w.drewN n) := ⟨rfl, rfl, rfl, Nat.le_refl _, fun _ _ => rfl⟩
theorem drew_below (B : Nat) (w : World) : Below B w w.drew := ⟨rfl, rfl, rfl, Nat.le_refl _, fun _ _ => rfl⟩
/-- An append whose run is known. -/
theorem wpList_run {P : Program} {ops : Array Oper} {rest : List Oper} {o : Oper} {a : Act} {w : World} {Q : Exit → Act → World → Prop} (hgd : o.guard = none) (s x : Operand) (t1 t2 : TypeId)
    (ho : o.op = .call { callee := .builtin .append, args := #[s, x], argTypes := #[t1, t2] }) {v u v' : Value} {w' : World} (hs : a.eval s = v) (hx : a.eval x = u)
    (hr : (Builtin.append_ #[t1, t2] o.type #[v, u]).run P w = .ok v' w') (h : wpList P ops Q rest (a.put o.dst v') w') : wpList P ops Q (o :: rest) a w := by
  refine wpList_plain hgd fun K hK => ?_
  unfold Oper.wp execOp
  simp only [ho, resolve, invoke, builtin, Sem.run_bind, Sem.run_pure, Result.andThen_ok, List.map_toArray, List.map_cons, List.map_nil, hs, hx, hr]
  exact hK _ _ h

/-- All that is neither block b nor a row of t's stands. -/
def Kt (t : TypeId) (b : Nat) (w w' : World) : Prop := Below b w w' ∧ Lib.OthersKept t (some b) w w'
theorem Kt.refl (t : TypeId) (b : Nat) (w : World) : Kt t b w w := ⟨Below.refl _ _, Lib.OthersKept.refl _ _ _⟩
theorem Kt.trans {t : TypeId} {b : Nat} {w1 w2 w3 : World} (h : Kt t b w1 w2) (k : Kt t b w2 w3) : Kt t b w1 w3 := ⟨h.1.trans k.1, h.2.trans k.2⟩
theorem Kt.of_below {t : TypeId} {b : Nat} {w w' : World} (hb : b ≤ w.heap.size) (h : Below w.heap.size w w') : Kt t b w w' :=
  ⟨h.mono hb, fun k _ hk _ _ => (h.block k (lt_heap hk)).trans hk⟩
theorem Kt.size {t : TypeId} {b : Nat} {w w' : World} (h : Kt t b w w') : w.heap.size ≤ w'.heap.size := h.1.size
theorem Kt.block {t : TypeId} {b k : Nat} {w w' : World} (h : Kt t b w w') {cs : Array Value} {u : TypeId} {fr : Nat × Nat} (hk : w.heap[k]? = some (.cells cs u fr)) (hne : k ≠ b) (ht : u ≠ t) : w'.heap[k]? = some (.cells cs u fr) :=
  h.2 k _ hk (fun e => hne (by injection e)) (fun c fz e => ht (by injection e))
theorem Kt.drewN {t : TypeId} {b : Nat} {w w' : World} (h : Kt t b w w') (n : Nat) : Kt t b w (w'.drewN n) := ⟨h.1.trans (drewN_below _ _ _), fun k o hk hb ho => h.2 k o hk hb ho⟩
theorem Kt.setCell {t : TypeId} {b : Nat} {w w' : World} (h : Kt t b w w') (j : Nat) (u : Value) : Kt t b w (w'.setCell ⟨b, j, none⟩ u) :=
  ⟨h.1.setCell (p := ⟨b, j, none⟩) (Nat.le_refl _) u, h.2.setCell ⟨b, j, none⟩ rfl u⟩
theorem Kt.alloc {t : TypeId} {b : Nat} {w w' : World} (h : Kt t b w w') (hb : b ≤ w'.heap.size) (o : Obj) : Kt t b w (w'.alloc o) := ⟨h.1.alloc hb o, h.2.alloc o⟩
theorem Kt.grown {t : TypeId} {b : Nat} {w w1 w2 : World} (h : Kt t b w w1) {B : Nat} {k : Nat} {v : Value} {n : Nat} {xs : List Value} (ho : w1.ownsRow B t k v n xs) (hB : b ≤ B) (hb : b ≤ w1.heap.size) (hg : w1.grownBy w2 v.ownBlock) : Kt t b w w2 :=
  ⟨h.1.grown hg hb (fun k hk => by have := (ho.lt k hk).1; omega), h.2.grown hg (own_row ho)⟩

/-- The cells of a disk. -/
def dkCells (D : Dv) (va vb : Value) : Array Value := #[va, .int .i64 D.a.l, vb, .int .i64 D.b.l, .int .i64 D.lim, .bool D.off, .int .i64 D.cut, .int .i64 D.k0, .int .i64 D.k1, .int .i64 D.full]
def DkAt (d : Nat) (D : Dv) (va vb : Value) (w : World) : Prop :=
  w.heap[d]? = some (.cells (dkCells D va vb) 52 (0, 0)) ∧ w.ownsRow d 5 1 va D.a.s.length (Lib.byteCells D.a.s) ∧ w.ownsRow d 5 1 vb D.b.s.length (Lib.byteCells D.b.s) ∧ (va.ownBlock = none ∨ va.ownBlock ≠ vb.ownBlock)
/-- The program's disk lies in block d. -/
def Dk (d : Nat) (D : Dv) (w : World) : Prop := ∃ va vb, DkAt d D va vb w
theorem Dk.lt {d : Nat} {D : Dv} {w : World} (h : Dk d D w) : d < w.heap.size := by obtain ⟨_, _, h, _⟩ := h; exact lt_heap h
theorem DkAt.below {d : Nat} {D : Dv} {va vb : Value} {w w' : World} (h : DkAt d D va vb w) (hb : Below w.heap.size w w') : DkAt d D va vb w' :=
  ⟨(hb.block d (lt_heap h.1)).trans h.1, own_below h.2.1 hb, own_below h.2.2.1 hb, h.2.2.2⟩
theorem Dk.below {d : Nat} {D : Dv} {w w' : World} (h : Dk d D w) (hb : Below w.heap.size w w') : Dk d D w' := by
  obtain ⟨va, vb, h⟩ := h; exact ⟨va, vb, h.below hb⟩
theorem own_kt {t u : TypeId} {b B : Nat} {k : Nat} {v : Value} {n : Nat} {xs : List Value} {w w' : World} (h : w.ownsRow B u k v n xs) (hk : Kt t b w w') (hne : v.ownBlock ≠ some b) (hu : u ≠ t) : w'.ownsRow B u k v n xs := by
  refine ⟨h.1, ?_⟩
  rcases h.2 with hn | ⟨g, cap, cur, rfl, hb, hg, rest⟩
  · exact .inl hn
  · exact .inr ⟨g, cap, cur, rfl, hb, hk.block hg (fun e => hne (by simp [Value.ownBlock, e])) hu, rest⟩
/-- What turns only block b and rows of another type leaves the disk. -/
theorem Dk.kt {t : TypeId} {b d : Nat} {D : Dv} {w w' : World} (h : Dk d D w) (hk : Kt t b w w') (hb : d ≠ b) (ht : 5 ≠ t) (ht2 : 52 ≠ t) {cs : Array Value} {u : TypeId} {fz : Nat × Nat} (hbb : w.heap[b]? = some (.cells cs u fz)) (hu : 5 ≠ u) : Dk d D w' := by
  obtain ⟨va, vb, h1, h2, h3, h4⟩ := h
  exact ⟨va, vb, hk.block h1 hb ht2, own_kt h2 hk (own_ne h2 hbb hu) ht, own_kt h3 hk (own_ne h3 hbb hu) ht, h4⟩
theorem DkAt.ne {d : Nat} {D : Dv} {va vb : Value} {w : World} (h : DkAt d D va vb w) : va.ownBlock ≠ some d ∧ vb.ownBlock ≠ some d := ⟨own_ne h.2.1 h.1 (by decide), own_ne h.2.2.1 h.1 (by decide)⟩
theorem DkAt.cells {d : Nat} {D : Dv} {va vb : Value} {w : World} (h : DkAt d D va vb w) :
    w.cell? ⟨d, 0, none⟩ = some va ∧ w.cell? ⟨d, 1, none⟩ = some (.int .i64 D.a.l) ∧ w.cell? ⟨d, 2, none⟩ = some vb ∧ w.cell? ⟨d, 3, none⟩ = some (.int .i64 D.b.l) ∧ w.cell? ⟨d, 4, none⟩ = some (.int .i64 D.lim) ∧
    w.cell? ⟨d, 5, none⟩ = some (.bool D.off) ∧ w.cell? ⟨d, 6, none⟩ = some (.int .i64 D.cut) ∧ w.cell? ⟨d, 7, none⟩ = some (.int .i64 D.k0) ∧ w.cell? ⟨d, 8, none⟩ = some (.int .i64 D.k1) ∧ w.cell? ⟨d, 9, none⟩ = some (.int .i64 D.full) := by
  refine ⟨?_, ?_, ?_, ?_, ?_, ?_, ?_, ?_, ?_, ?_⟩ <;> (rw [cell_heap h.1]; rfl)
theorem DkAt.loose {d : Nat} {D : Dv} {va vb : Value} {w : World} (h : DkAt d D va vb w) (j : Nat) : w.frozen? ⟨d, j, none⟩ = false := frozen_heap h.1
/-- A store that turns the plain fields alone. -/
theorem DkAt.set {d : Nat} {D D' : Dv} {va vb : Value} {w : World} (h : DkAt d D va vb w) (j : Nat) (u : Value) (hc : (dkCells D va vb).set! j u = dkCells D' va vb) (ha : D'.a.s = D.a.s) (hb : D'.b.s = D.b.s) : DkAt d D' va vb (w.setCell ⟨d, j, none⟩ u) := by
  obtain ⟨n1, n2⟩ := h.ne
  obtain ⟨h1, h2, h3, h4⟩ := h
  exact ⟨set_block h1 hc, by rw [ha]; exact own_set h2 n1, by rw [hb]; exact own_set h3 n2, h4⟩
theorem heap_alloc_new' (w : World) (o : Obj) : (w.alloc o).heap[w.heap.size]? = some o := heap_alloc_new w o
theorem Dk.new (w : World) (lim : Nat) : Dk w.heap.size { a := ⟨[], 0⟩, b := ⟨[], 0⟩, lim := lim, off := false, cut := 0, k0 := 0, k1 := 0, full := 0 } (w.alloc (.cells #[.slice none 0 0, .int .i64 0, .slice none 0 0, .int .i64 0, .int .i64 lim, .bool false, .int .i64 0, .int .i64 0, .int .i64 0, .int .i64 0] 52)) :=
  ⟨_, _, heap_alloc_new w _, own_nil _ _ _ _, own_nil _ _ _ _, .inl rfl⟩
end Go.Proofs.Ytdgljfoghonbaaa
