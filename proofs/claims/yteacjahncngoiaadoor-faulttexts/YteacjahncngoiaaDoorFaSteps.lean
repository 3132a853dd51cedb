/- The steps that a law is handed, and the errors that they make. -/
import Derived.Test.YteacjahncngoiaaDoorFaRef4
import Derived.Test.YteacjahncngoiaaDoorFaQ
import Derived.Test.YteacjahncngoiaaDoorFaText2
namespace Go.Proofs.YteacjahncngoiaaDoor
open Go.RowKit FA

structure St where
  what : Int
  code : Nat
  whr : ByteArray
  more : Int

/-- A row of steps, from an address on. -/
def Steps (w : World) (A : Option Addr) (l : List St) : Prop :=
  ∀ (i : Nat) x, l[i]? = some x → ∃ g o, A = some ⟨g, o, none⟩ ∧ g < w.heap.size ∧
    w.cell? ⟨g, o + i * 4, none⟩ = some (.int .i64 x.what) ∧ w.cell? ⟨g, o + i * 4 + 1, none⟩ = some (.int .u8 x.code) ∧ w.cell? ⟨g, o + i * 4 + 2, none⟩ = some (.string x.whr) ∧ w.cell? ⟨g, o + i * 4 + 3, none⟩ = some (.int .i64 x.more) ∧
    (Lit.int .i64 x.what).wf = true ∧ x.code < 256 ∧ (Lit.int .i64 x.more).wf = true ∧ x.whr.size ≤ maxLen

/-- A block from N on that is none of the three rows'. -/
def Free (N : Nat) (w : World) (a b c : Value) (k : Nat) : Prop := k < w.heap.size ∧ a.ownBlock ≠ some k ∧ b.ownBlock ≠ some k ∧ c.ownBlock ≠ some k ∧ N ≤ k

/-- What the first steps have made: rows of errors, of records, of sizes. -/
structure Made (N : Nat) (w : World) (errs refs sizes : Value) (ps qs : List (Option E × Value)) (zs : List Nat) : Prop where
  hE : w.ownsRow N 24 1 errs ps.length (ps.map Prod.snd)
  hR : w.ownsRow N 27 4 refs ps.length (flat qs)
  hZ : w.ownsRow N 3 1 sizes ps.length (zs.map fun z : Nat => .int .i64 (z : Int))
  same : qs.map Prod.fst = ps.map Prod.fst
  zlen : zs.length = ps.length
  reps : ∀ p ∈ ps, RepQO w (Free N w errs refs sizes) p.1 p.2
  recs : ∀ q ∈ qs, RepRQO w (Free N w errs refs sizes) q.1 q.2
  small : ∀ (i : Nat) p z, ps[i]? = some p → zs[i]? = some z → szO p.1 ≤ z ∧ 1 ≤ z ∧ z ≤ 1000 ∧ GoodO p.1

theorem RepQO.shape {w : World} {Q : Nat → Prop} {x : Option E} {v : Value} (hB : ∀ b, Q b → b < w.heap.size) (h : RepQO w Q x v) : (x = none → v = .nilIface) ∧ (x ≠ none → ∃ t b, v = .iface t (.pointer (some ⟨b, 0, none⟩))) := by
  cases x with
  | none => exact ⟨fun _ => h, fun h => absurd rfl h⟩
  | some e => exact ⟨fun h => (by cases h), fun _ => RepE.iface (RepQ.toB hB e v h)⟩
theorem RepRQO.shape {w : World} {Q : Nat → Prop} {x : Option E} {v : Value} (hB : ∀ b, Q b → b < w.heap.size) (h : RepRQO w Q x v) : ∃ A n c, v = .slice A n c := RepRO.slice (RepRQO.toB hB h)
theorem Free.lt {N : Nat} {w : World} {a b c : Value} : ∀ k, Free N w a b c k → k < w.heap.size := fun _ h => h.1

/-- What has turned below a size: nothing of the rows and trees. -/
theorem Made.below {N : Nat} {w w' : World} {errs refs sizes : Value} {ps qs : List (Option E × Value)} {zs : List Nat} (h : Made N w errs refs sizes ps qs zs) (hb : Below w.heap.size w w') : Made N w' errs refs sizes ps qs zs := by
  have hm : Moves w w' (Free N w errs refs sizes) (Free N w' errs refs sizes) := fun b hq => ⟨⟨Nat.lt_of_lt_of_le hq.1 hb.size, hq.2⟩, hb.block b hq.1⟩
  exact ⟨own_below h.hE hb, own_below h.hR hb, own_below h.hZ hb, h.same, h.zlen, fun p hp => (h.reps p hp).move hm, fun q hq => (h.recs q hq).move hm, h.small⟩
end Go.Proofs.YteacjahncngoiaaDoor
