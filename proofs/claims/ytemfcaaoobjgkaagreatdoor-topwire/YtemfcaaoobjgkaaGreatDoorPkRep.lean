/- A packet in memory. -/
import Derived.Test.YtemfcaaoobjgkaaGreatDoorPkPropW
import Derived.Deep.MidRow
namespace Go.Proofs.YtemfcaaoobjgkaaGreatDoor
open Go.RowKit

/-- The cells of a packet; its rows are told apart. -/
def pkCells (p : Pk) (vc vp vw vs vf : Value) : Array Value :=
  #[.int .i64 p.kind, .bool p.dup, .bool p.ret, .int .i64 p.qos, .int .i64 p.id, .string p.topic, .string p.pay, .int .u8 p.code, vc, vp, .string p.client, .bool p.clean, .int .i64 p.keep, .bool p.hasWill,
    .string p.wtopic, .string p.wpay, .int .i64 p.wqos, .bool p.wret, vw, .bool p.hasUser, .bool p.hasPass, .string p.user, .string p.pass, .bool p.session, vs, vf]
theorem pk_cells {w : World} {N : Nat} {p : Pk} {vc vp vw vs vf : Value} {t : TypeId} (h : w.heap[N]? = some (.cells (pkCells p vc vp vw vs vf) t (0, 0))) :
    w.cell? ⟨N, 0, none⟩ = some (.int .i64 p.kind) ∧ w.cell? ⟨N, 1, none⟩ = some (.bool p.dup) ∧ w.cell? ⟨N, 2, none⟩ = some (.bool p.ret) ∧ w.cell? ⟨N, 3, none⟩ = some (.int .i64 p.qos) ∧ w.cell? ⟨N, 4, none⟩ = some (.int .i64 p.id) ∧
    w.cell? ⟨N, 5, none⟩ = some (.string p.topic) ∧ w.cell? ⟨N, 6, none⟩ = some (.string p.pay) ∧ w.cell? ⟨N, 7, none⟩ = some (.int .u8 p.code) ∧ w.cell? ⟨N, 8, none⟩ = some vc ∧ w.cell? ⟨N, 9, none⟩ = some vp ∧
    w.cell? ⟨N, 10, none⟩ = some (.string p.client) ∧ w.cell? ⟨N, 11, none⟩ = some (.bool p.clean) ∧ w.cell? ⟨N, 12, none⟩ = some (.int .i64 p.keep) ∧ w.cell? ⟨N, 13, none⟩ = some (.bool p.hasWill) ∧
    w.cell? ⟨N, 14, none⟩ = some (.string p.wtopic) ∧ w.cell? ⟨N, 15, none⟩ = some (.string p.wpay) ∧ w.cell? ⟨N, 16, none⟩ = some (.int .i64 p.wqos) ∧ w.cell? ⟨N, 17, none⟩ = some (.bool p.wret) ∧ w.cell? ⟨N, 18, none⟩ = some vw ∧
    w.cell? ⟨N, 19, none⟩ = some (.bool p.hasUser) ∧ w.cell? ⟨N, 20, none⟩ = some (.bool p.hasPass) ∧ w.cell? ⟨N, 21, none⟩ = some (.string p.user) ∧ w.cell? ⟨N, 22, none⟩ = some (.string p.pass) ∧ w.cell? ⟨N, 23, none⟩ = some (.bool p.session) ∧
    w.cell? ⟨N, 24, none⟩ = some vs ∧ w.cell? ⟨N, 25, none⟩ = some vf := by
  refine ⟨?_, ?_, ?_, ?_, ?_, ?_, ?_, ?_, ?_, ?_, ?_, ?_, ?_, ?_, ?_, ?_, ?_, ?_, ?_, ?_, ?_, ?_, ?_, ?_, ?_, ?_⟩
  all_goals
    rw [cell_heap h]
    rfl
theorem pk_load {w : World} {N : Nat} {p : Pk} {vc vp vw vs vf : Value} (h : w.heap[N]? = some (.cells (pkCells p vc vp vw vs vf) 45 (0, 0))) :
    (Instr.loadAt 45 (.pointer (some ⟨N, 0, none⟩))).run Tryz.prog w = .ok (.agg (pkCells p vc vp vw vs vf)) w :=
  run_loadAt_mid w N 0 45 (pkCells p vc vp vw vs vf).toList _ (fun j v hv => by rw [Nat.zero_add, cell_heap h, ← hv]; simp) Tryz.underlying45 rfl (by kernel_rfl)
/-- A whole packet, loaded. -/
theorem wpl_load_pk {ops : Array Oper} {rest : List Oper} {op : Oper} {a : Act} {w : World} {Q : Exit → Act → World → Prop} (hgd : op.guard = none) (x : Operand) (ho : op.op = .load 45 x)
    (n : Nat) (hx : a.eval x = .pointer (some ⟨n, 0, none⟩)) {p : Pk} {vc vp vw vs vf : Value} (hb : w.heap[n]? = some (.cells (pkCells p vc vp vw vs vf) 45 (0, 0)))
    (h : wpList Tryz.prog ops Q rest (a.put op.dst (.agg (pkCells p vc vp vw vs vf))) w) : wpList Tryz.prog ops Q (op :: rest) a w :=
  wpList_load_mid hgd 45 x ho n 0 hx (pkCells p vc vp vw vs vf).toList _ (fun j v hv => by rw [Nat.zero_add, cell_heap hb, ← hv]; simp) Tryz.underlying45 rfl (by kernel_rfl) h
/-- Rows of codes, of filters with their options, of texts. -/
def Codes (w : World) (A : Option Addr) (l : List Int) : Prop := ∀ (i : Nat) x, l[i]? = some x → ∃ g o, A = some ⟨g, o, none⟩ ∧ g < w.heap.size ∧ w.cell? ⟨g, o + i, none⟩ = some (.int .u8 x)
def Texts (w : World) (A : Option Addr) (l : List ByteArray) : Prop := ∀ (i : Nat) x, l[i]? = some x → ∃ g o, A = some ⟨g, o, none⟩ ∧ g < w.heap.size ∧ w.cell? ⟨g, o + i, none⟩ = some (.string x)
def Subs (w : World) (A : Option Addr) (l : List Sb) : Prop := ∀ (i : Nat) s, l[i]? = some s → ∃ g o, A = some ⟨g, o, none⟩ ∧ g < w.heap.size ∧
  w.cell? ⟨g, o + i * 5, none⟩ = some (.string s.f) ∧ w.cell? ⟨g, o + i * 5 + 1, none⟩ = some (.int .i64 s.q) ∧ w.cell? ⟨g, o + i * 5 + 2, none⟩ = some (.bool s.nl) ∧ w.cell? ⟨g, o + i * 5 + 3, none⟩ = some (.bool s.ap) ∧ w.cell? ⟨g, o + i * 5 + 4, none⟩ = some (.int .i64 s.h)
theorem Codes.below {w w' : World} {A : Option Addr} {l : List Int} (h : Codes w A l) (hb : Below w.heap.size w w') : Codes w' A l := fun i x hx => by
  obtain ⟨g, o, hA, hg, h0⟩ := h i x hx
  have := hb.size
  exact ⟨g, o, hA, by omega, (hb.cell (p := ⟨g, _, none⟩) hg).trans h0⟩
theorem Texts.below {w w' : World} {A : Option Addr} {l : List ByteArray} (h : Texts w A l) (hb : Below w.heap.size w w') : Texts w' A l := fun i x hx => by
  obtain ⟨g, o, hA, hg, h0⟩ := h i x hx
  have := hb.size
  exact ⟨g, o, hA, by omega, (hb.cell (p := ⟨g, _, none⟩) hg).trans h0⟩
theorem Subs.below {w w' : World} {A : Option Addr} {l : List Sb} (h : Subs w A l) (hb : Below w.heap.size w w') : Subs w' A l := fun i x hx => by
  obtain ⟨g, o, hA, hg, h0, h1, h2, h3, h4⟩ := h i x hx
  have := hb.size
  exact ⟨g, o, hA, by omega, (hb.cell (p := ⟨g, _, none⟩) hg).trans h0, (hb.cell (p := ⟨g, _, none⟩) hg).trans h1, (hb.cell (p := ⟨g, _, none⟩) hg).trans h2, (hb.cell (p := ⟨g, _, none⟩) hg).trans h3, (hb.cell (p := ⟨g, _, none⟩) hg).trans h4⟩

def I64 (n : Int) : Prop := -9223372036854775808 ≤ n ∧ n ≤ 9223372036854775807
def Short (s : ByteArray) : Prop := s.size ≤ 140737488351232
def SbFine (s : Sb) : Prop := Short s.f ∧ I64 s.q ∧ I64 s.h
/-- Numbers and texts that a machine can hold. -/
structure PkFine (p : Pk) : Prop where
  kind : I64 p.kind
  qos : I64 p.qos
  id : I64 p.id
  topic : Short p.topic
  pay : Short p.pay
  code : 0 ≤ p.code ∧ p.code ≤ 255
  client : Short p.client
  keep : I64 p.keep
  wtopic : Short p.wtopic
  wpay : Short p.wpay
  wqos : I64 p.wqos
  user : Short p.user
  pass : Short p.pass
  codes : p.codes.length ≤ 100 ∧ ∀ c ∈ p.codes, 0 ≤ c ∧ c ≤ 255
  subs : p.subs.length ≤ 100 ∧ ∀ s ∈ p.subs, SbFine s
  filters : p.filters.length ≤ 100 ∧ ∀ s ∈ p.filters, Short s
/-- A packet whose rows lie in blocks below b. -/
structure PkIn (b : Nat) (w : World) (p : Pk) (vc vp vw vs vf : Value) : Prop where
  fine : PkFine p
  tabs : ∀ W, Below b w W → Tabs W
  props : ∃ A cap, vp = .slice A p.props.length cap ∧ ∀ W, Below b w W → PrRow W A cap p.props
  wprops : ∃ A cap, vw = .slice A p.wprops.length cap ∧ ∀ W, Below b w W → PrRow W A cap p.wprops
  codes : ∃ A cap, vc = .slice A p.codes.length cap ∧ ∀ W, Below b w W → Codes W A p.codes
  subs : ∃ A cap, vs = .slice A p.subs.length cap ∧ ∀ W, Below b w W → Subs W A p.subs
  filters : ∃ A cap, vf = .slice A p.filters.length cap ∧ ∀ W, Below b w W → Texts W A p.filters
theorem PkIn.below {b : Nat} {w w' : World} {p : Pk} {vc vp vw vs vf : Value} (h : PkIn b w p vc vp vw vs vf) (hb : Below b w w') : PkIn b w' p vc vp vw vs vf where
  fine := h.fine
  tabs := fun W hW => h.tabs W (hb.trans hW)
  props := by obtain ⟨A, c, h1, h2⟩ := h.props; exact ⟨A, c, h1, fun W hW => h2 W (hb.trans hW)⟩
  wprops := by obtain ⟨A, c, h1, h2⟩ := h.wprops; exact ⟨A, c, h1, fun W hW => h2 W (hb.trans hW)⟩
  codes := by obtain ⟨A, c, h1, h2⟩ := h.codes; exact ⟨A, c, h1, fun W hW => h2 W (hb.trans hW)⟩
  subs := by obtain ⟨A, c, h1, h2⟩ := h.subs; exact ⟨A, c, h1, fun W hW => h2 W (hb.trans hW)⟩
  filters := by obtain ⟨A, c, h1, h2⟩ := h.filters; exact ⟨A, c, h1, fun W hW => h2 W (hb.trans hW)⟩

/-- The box of a packet that a method lays ahead of all: where it lies, and that the writer stands. -/
theorem boxed {b N : Nat} {o : ByteArray × Int} {w : World} (h : WO b N o w) (p : Pk) (vc vp vw vs vf : Value) :
    WO b N o (w.alloc (.cells (pkCells p vc vp vw vs vf) 45)) ∧ Kp b w (w.alloc (.cells (pkCells p vc vp vw vs vf) 45)) ∧
      (w.alloc (.cells (pkCells p vc vp vw vs vf) 45)).heap[w.heap.size]? = some (.cells (pkCells p vc vp vw vs vf) 45 (0, 0)) := by
  have hal := (Below.refl w.heap.size w).alloc (Nat.le_refl _) (.cells (pkCells p vc vp vw vs vf) 45)
  exact ⟨h.below hal, Kp.of_below (Nat.le_of_lt h.lt) hal, heap_alloc_new w _⟩
/-- .. and stands behind what a method does. -/
theorem boxed_kept {b n : Nat} {w w' : World} {p : Pk} {vc vp vw vs vf : Value} (hk : Kp b w w') (hn : n ≠ b) (h : w.heap[n]? = some (.cells (pkCells p vc vp vw vs vf) 45 (0, 0))) : w'.heap[n]? = some (.cells (pkCells p vc vp vw vs vf) 45 (0, 0)) :=
  hk.block h hn (by decide)
end Go.Proofs.YtemfcaaoobjgkaaGreatDoor
