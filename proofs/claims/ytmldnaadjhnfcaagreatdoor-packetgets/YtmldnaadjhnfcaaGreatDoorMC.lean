/- The reader: a whole packet.; packet.begin: what a packet's first byte tells.; packet.Get's function that reads a whole packet.; packet.caught: what a reading makes, or the code by which it left.; A number is read back from its bytes, and bytes that are read are just those of the number. No program is named here.; Packets out of bytes: the plain side.; stream.first, and stream.through with whatever function it hands the packets to.; packet.Get.; The document's reader of packets, plainly: it answers what the program's does. (First part: what is read piece by piece, and a Connect.); The document's reader of packets, plainly: pieces, bound one to another; a Connect.; The document's reader of packets, plainly: lists, endings, what follows the length.; The document's reader of packets, plainly: it answers PK.getPk.; The document's reader of packets as code: what is read piece by piece.; The bytes of properties: the document's.; A property's value, read: the document's.; The law's own helper: the program's and the document's rows of properties. -/
import Derived.Test.YtmldnaadjhnfcaaGreatDoorMB
import Derived.Laws.Tables
import Derived.Deep.MidRow
import Derived.Deep.CutBlock
import Derived.Defers
import Derived.Recover
import Derived.Test.YtmldnaadjhnfcaaGreatDoorVarPure
import Derived.Laws.BytesArg
import Derived.Test.YtmldnaadjhnfcaaGreatDoorMA
import Derived.Laws.DeepStrings4
import Derived.Lib.Hide
import Derived.Below
import Derived.Test.YtmldnaadjhnfcaaGreatDoorTxPut
import Derived.Test.YtmldnaadjhnfcaaGreatDoorVarRefRead
import Derived.Test.YtmldnaadjhnfcaaGreatDoorPrPutAll
import Derived.Test.YtmldnaadjhnfcaaGreatDoorPrApp
import Derived.Test.YtmldnaadjhnfcaaGreatDoorVarClone
import Derived.Deep.RegionHeld3
import Derived.Deep.DrawnRows
import Derived.Deep.DeepCutAuto
import Derived.Deep.CutRange
namespace Go.Proofs.YtmldnaadjhnfcaaGreatDoor
open Go.RowKit
attribute [local go_sem ↓] Go.wp_at_zero Go.wp_at_succ

namespace PK
def rdWhole (s : ByteArray) (a : Int) (P : Pk) : Pk × Int := ((partsK P.kind s a P).1, thn (partsK P.kind s a P).2.2 (if (partsK P.kind s a P).2.1 = (s.size : Int) then 0 else 129))
def zeroPk : Pk := ⟨0, false, false, 0, 0, ⟨#[]⟩, ⟨#[]⟩, 0, [], [], ⟨#[]⟩, false, 0, false, ⟨#[]⟩, ⟨#[]⟩, 0, false, [], false, false, ⟨#[]⟩, ⟨#[]⟩, false, [], []⟩
end PK
/-- The cells of a packet without rows. -/
def pkNil (P : Pk) : Array Value := pkCells P (.slice none 0 0) (.slice none 0 0) (.slice none 0 0) (.slice none 0 0) (.slice none 0 0)
/-- What the reader's whole answers. -/
def WhP (r : Nat) (w : World) (X : Pk × Int) (e : Ending) (w' : World) : Prop :=
  (X.2 = 0 → ∃ vc vp vw vs vf, e = .returned (.agg (pkCells X.1 vc vp vw vs vf)) ∧ Own5 w.heap.size X.1 vc vp vw vs vf w' ∧ Gr r w w') ∧ (X.2 ≠ 0 → e = leftBy X.2 ∧ Gr r w w')
theorem Gr.of_g2 {r p : Nat} {w W W' : World} (h : Gr r w W) (hp : w.heap.size ≤ p) (g : G2 r p W W') : Gr r w W' :=
  ⟨g.os.trans h.os, g.tape.trans h.tape, g.output.trans h.output, Nat.le_trans h.size g.size, fun i hi hne => (g.block i (Nat.lt_of_lt_of_le hi h.size) (fun e => hne (by rw [e])) (by omega)).trans (h.block i hi hne)⟩
theorem setRow_heap {w : World} {g : Nat} {old cs : Array Value} {t : TypeId} (h : w.heap[g]? = some (.cells old t (0, 0))) : (w.setRow g cs).heap[g]? = some (.cells cs t (0, 0)) := by
  simp [World.setRow, Array.getElem?_modify, h]
theorem setRow_other {w : World} {g i : Nat} (cs : Array Value) (h : i ≠ g) : (w.setRow g cs).heap[i]? = w.heap[i]? := by
  simp [World.setRow, Array.getElem?_modify, Ne.symm h]
theorem Gr.setRow {r g : Nat} {w w' : World} (h : Gr r w w') (hg : w.heap.size ≤ g) (cs : Array Value) : Gr r w (w'.setRow g cs) :=
  ⟨h.os, h.tape, h.output, by simp [World.setRow]; exact h.size, fun i hi hne => (setRow_other cs (by omega)).trans (h.block i hi hne)⟩
theorem own_setRow {w : World} {g B : Nat} {e : TypeId} {k : Nat} {v : Value} {n : Nat} {xs : List Value} (cs : Array Value) (h : w.ownsRow B e k v n xs) (hne : v.ownBlock ≠ some g) : (w.setRow g cs).ownsRow B e k v n xs :=
  h.kept (row := some g) ⟨rfl, rfl, rfl, by simp [World.setRow], fun i _ hi => setRow_other cs (fun e => hi (by rw [e]))⟩ (.inr hne)
theorem Own5.below {B C : Nat} {P : Pk} {vc vp vw vs vf : Value} {w w' : World} (h : Own5 C P vc vp vw vs vf w) (hb : Below w.heap.size w w') (hC : B ≤ C) : Own5 B P vc vp vw vs vf w' :=
  ⟨own_base' (own_gr h.codes (Gr.of_below (r := w.heap.size) hb) (fun hv => Nat.lt_irrefl _ (h.codes.lt _ hv).2)) hC, own_base' (own_gr h.props (Gr.of_below (r := w.heap.size) hb) (fun hv => Nat.lt_irrefl _ (h.props.lt _ hv).2)) hC, own_base' (own_gr h.wprops (Gr.of_below (r := w.heap.size) hb) (fun hv => Nat.lt_irrefl _ (h.wprops.lt _ hv).2)) hC, own_base' (own_gr h.subs (Gr.of_below (r := w.heap.size) hb) (fun hv => Nat.lt_irrefl _ (h.subs.lt _ hv).2)) hC, own_base' (own_gr h.filters (Gr.of_below (r := w.heap.size) hb) (fun hv => Nat.lt_irrefl _ (h.filters.lt _ hv).2)) hC⟩
theorem pk_one (P : Pk) {B : Nat} {vc vp vw vs vf : Value} {w : World} (h : Own5 B P vc vp vw vs vf w) : (pkCells P vc vp vw vs vf).all (·.oneCell') = true := by
  obtain ⟨A1, n1, rfl⟩ := own_form h.codes
  obtain ⟨A2, n2, rfl⟩ := own_form h.props
  obtain ⟨A3, n3, rfl⟩ := own_form h.wprops
  obtain ⟨A4, n4, rfl⟩ := own_form h.subs
  obtain ⟨A5, n5, rfl⟩ := own_form h.filters
  simp [pkCells, Value.oneCell']
theorem pk_size (P : Pk) (vc vp vw vs vf : Value) : (pkCells P vc vp vw vs vf).size = 26 := rfl
theorem pk_info : (Tryz.prog.info? 31).map (·.size) = some 26 := by kernel_rfl

set_option maxRecDepth 100000 in
set_option maxHeartbeats 2000000 in
theorem rwhole_any (r : Nat) (s : ByteArray) (a : Int) (P : Pk) (w : World) (hk1 : 1 ≤ P.kind) (hk2 : P.kind ≤ 15) (hB : Bare P) (h : RdAt r s a w) (hs : s.size ≤ 140737488351232) (hT : ∀ W, Gr r w W → Tabs W) :
    Calls Tryz.prog 23 #[.pointer (some ⟨r, 0, none⟩), .agg (pkNil P)] w (WhP r w (PK.rdWhole s a P)) := by
  have b1 := (Below.refl w.heap.size w).alloc (Nat.le_refl _) (.cells (pkNil P) 31)
  have b2 := (Below.refl (w.alloc (.cells (pkNil P) 31)).heap.size (w.alloc (.cells (pkNil P) 31))).alloc (Nat.le_refl _) (.cells (pkNil PK.zeroPk) 31)
  have hsz : (w.alloc (.cells (pkNil P) 31)).heap.size = w.heap.size + 1 := by simp
  have B1 : (w.alloc (.cells (pkNil P) 31)).heap[w.heap.size]? = some (.cells (pkNil P) 31 (0, 0)) := heap_alloc_new w _
  have B2 : ((w.alloc (.cells (pkNil P) 31)).alloc (.cells (pkNil PK.zeroPk) 31)).heap[w.heap.size + 1]? = some (.cells (pkNil PK.zeroPk) 31 (0, 0)) := by rw [← hsz]; exact heap_alloc_new _ _
  have hlt := lt_heap h
  have R0 := (h.below b1).below b2
  have P0 : PbAt w.heap.size P (.slice none 0 0) (.slice none 0 0) (.slice none 0 0) (.slice none 0 0) (.slice none 0 0) ((w.alloc (.cells (pkNil P) 31)).alloc (.cells (pkNil PK.zeroPk) 31)) := (b2.block _ (lt_heap B1)).trans B1
  have G0 : Gr r w ((w.alloc (.cells (pkNil P) 31)).alloc (.cells (pkNil PK.zeroPk) 31)) := (Gr.of_below b1).trans (Gr.of_below b2)
  have C1 := Lib.hid (rparts_any r w.heap.size s a P _ hk1 hk2 hB R0 P0 hs (fun W hg => hT W (G0.of_g2 (Nat.le_refl _) hg)) (by omega))
  have CE : Hid (∀ a W, RdAt r s a W → Calls Tryz.prog 49 #[.pointer (some ⟨r, 0, none⟩)] W fun e w' => e = .returned (.bool (a == (s.size : Int))) ∧ Below W.heap.size W w') := fun a W hW => ended_any r s a W hW
  have CL := Lib.hid leave_any
  have HG0 := Lib.hid G0
  have HB2 := Lib.hid B2
  obtain ⟨X, hX⟩ : ∃ X, X = PK.rdWhole s a P := ⟨_, rfl⟩
  rw [← hX]
  unfold PK.rdWhole at hX
  generalize PK.partsK P.kind s a P = Y at *
  obtain ⟨Q, a1, c1⟩ := Y
  simp only at hX
  have HX := Lib.hid hX
  obtain ⟨cs, hcs⟩ : ∃ cs, cs = pkNil P := ⟨_, rfl⟩
  clear b1 b2 B1 B2 R0 P0 G0 hX h hT hk1 hk2 hB
  go_enter Tryz.func23, Tryz.ntmps23
  go_wp2_with fail
  refine C1.out.mono ?_
  rintro e w1 hR
  by_cases h1 : c1 = 0
  · obtain ⟨vc, vp, vw, vs, vf, rfl, o1, r1, p1, g1⟩ := hR.1 h1
    simp only at o1 r1 p1
    have G1 : Hid (Gr r w w1) := Lib.hid (HG0.out.of_g2 (Nat.le_refl _) g1)
    have z1 : w1.heap[w.heap.size + 1]? = some (.cells (pkNil PK.zeroPk) 31 (0, 0)) := (g1.block _ (lt_heap HB2.out) (by omega) (by omega)).trans HB2.out
    have D1 := CE.out a1 w1 r1
    have O1 := Lib.hid o1
    have P1 := Lib.hid p1
    have Z1 := Lib.hid z1
    have X1 := HX.out
    rw [PK.thn_ok h1] at X1
    have HX1 := Lib.hid X1
    clear hR r1 g1 o1 p1 z1 C1 HX X1 h1 CE
    by_cases h2 : a1 = (s.size : Int)
    · have e2 : (a1 == (s.size : Int)) = true := by simp [h2]
      rw [e2] at D1
      have E1 := Lib.hid D1
      have EX : Hid (X = (Q, 0)) := Lib.hid (by rw [HX1.out, if_pos h2])
      clear D1 e2 h2 HX1
      go_wp2_with fail
      refine E1.out.mono ?_
      rintro e w2 ⟨rfl, b2⟩
      have P2 := Lib.hid ((b2.block _ (lt_heap P1.out)).trans P1.out)
      have Z2 := Lib.hid ((b2.block _ (lt_heap Z1.out)).trans Z1.out)
      have G2' : Hid (Gr r w w2) := Lib.hid (G1.out.trans (Gr.of_below b2))
      have hsz2 : w.heap.size ≤ ((w.alloc (.cells (pkNil P) 31)).alloc (.cells (pkNil PK.zeroPk) 31)).heap.size := HG0.out.size
      have hz2 : w.heap.size + 1 < ((w.alloc (.cells (pkNil P) 31)).alloc (.cells (pkNil PK.zeroPk) 31)).heap.size := lt_heap HB2.out
      have o2 := O1.out.below b2 (Nat.le_refl _)
      have O2 := Lib.hid o2
      have W1 := Lib.hid (pk_one Q o2)
      clear b2 o2
      go_wp2_with (first
        | refine wpl_load_pk (by rfl) (.tmp 3) (by rfl) w.heap.size (by rfl) P2.out ?_
        | refine wpList_store_row (by rfl) 31 (.tmp 4) (.tmp 11) (by rfl) (w.heap.size + 1) (pkCells Q vc vp vw vs vf) (by rfl) (by rfl) 31 (pkNil PK.zeroPk) Z2.out pk_info rfl W1.out ?_)
      have Z3 := setRow_heap (cs := pkCells Q vc vp vw vs vf) Z2.out
      refine bodyPost_ret (v := .agg (pkCells Q vc vp vw vs vf)) ?_ rfl ?_
      · have hl : (loadVar 31 ⟨w.heap.size + 1, 0, none⟩).run Tryz.prog (w2.setRow (w.heap.size + 1) (pkCells Q vc vp vw vs vf)) = .ok (.agg (pkCells Q vc vp vw vs vf)) (w2.setRow (w.heap.size + 1) (pkCells Q vc vp vw vs vf)) :=
          run_loadVar_mid _ (w.heap.size + 1) 0 31 (pkCells Q vc vp vw vs vf).toList _ (fun j v hv => by rw [Nat.zero_add, cell_heap Z3, ← hv]; simp) Tryz.underlying31 rfl (by kernel_rfl)
        simp [results, Tryz.results23, Act.put]
        exact hl
      · rw [EX.out]
        refine ⟨fun _ => ⟨_, _, _, _, _, rfl, ?_, G2'.out.setRow (by omega) _⟩, fun h => absurd rfl h⟩
        have n5 := fun {e : TypeId} {k : Nat} {v : Value} {n : Nat} {xs : List Value} (ho : w2.ownsRow ((w.alloc (.cells (pkNil P) 31)).alloc (.cells (pkNil PK.zeroPk) 31)).heap.size e k v n xs) => own_base' (own_setRow (g := w.heap.size + 1) (pkCells Q vc vp vw vs vf) ho (row_ne ho hz2)) hsz2
        exact ⟨n5 O2.out.codes, n5 O2.out.props, n5 O2.out.wprops, n5 O2.out.subs, n5 O2.out.filters⟩
    · have e2 : (a1 == (s.size : Int)) = false := by rw [beq_eq_false_iff_ne]; exact h2
      rw [e2] at D1
      have E1 := Lib.hid D1
      have EX : Hid (X = (Q, 129)) := Lib.hid (by rw [HX1.out, if_neg h2])
      clear D1 e2 h2 HX1
      go_wp2_with fail
      refine E1.out.mono ?_
      rintro e w2 ⟨rfl, b2⟩
      have G2' : Hid (Gr r w w2) := Lib.hid (G1.out.trans (Gr.of_below b2))
      clear b2
      go_wp2_with fail
      refine (CL.out _ _).mono ?_
      rintro e w' ⟨rfl, rfl⟩
      exact ⟨rfl, by rw [EX.out]; exact ⟨fun h => absurd h (show (129 : Int) ≠ 0 by decide), fun _ => ⟨rfl, G2'.out⟩⟩⟩
  · obtain ⟨rfl, g1⟩ := hR.2 h1
    have EX : X = (Q, c1) := by rw [HX.out, PK.thn_bad h1]
    exact ⟨rfl, by rw [EX]; exact ⟨fun h => absurd h h1, fun _ => ⟨rfl, HG0.out.of_g2 (Nat.le_refl _) g1⟩⟩⟩
end Go.Proofs.YtmldnaadjhnfcaaGreatDoor
namespace Go.Proofs.YtmldnaadjhnfcaaGreatDoor
open Go.RowKit
attribute [local go_sem ↓] Go.wp_at_zero Go.wp_at_succ

namespace PK
/-- A packet of which nothing is known but its first byte. -/
def barePk (k : Int) (d r : Bool) (q : Int) : Pk := ⟨k, d, r, q, 0, ⟨#[]⟩, ⟨#[]⟩, 0, [], [], ⟨#[]⟩, false, 0, false, ⟨#[]⟩, ⟨#[]⟩, 0, false, [], false, false, ⟨#[]⟩, ⟨#[]⟩, false, [], []⟩
/-- What a first byte tells of a packet. -/
def begPk (n : Int) : Pk := if n / 16 = 3 then barePk 3 (bits .and .i64 (n % 16) 8 != 0) (bits .and .i64 (n % 16) 1 != 0) (bits .and .i64 (n % 16 / 2) 3) else barePk (n / 16) false false 0
def begOk (n : Int) : Bool := if n / 16 = 3 then canPub (begPk n) else isK (n / 16) && (n % 16 == fixN (n / 16))
end PK
theorem pkNil_one (P : Pk) : (pkNil P).all (·.oneCell') = true := by simp [pkNil, pkCells, Value.oneCell']
theorem below_setRow {n g : Nat} {w w' : World} (h : Below n w w') (hg : n ≤ g) (cs : Array Value) : Below n w (w'.setRow g cs) :=
  ⟨h.os, h.tape, h.output, by simp [World.setRow]; exact h.size, fun i hi => (setRow_other cs (by omega)).trans (h.block i hi)⟩
theorem load_pk_var {w : World} {g : Nat} {P : Pk} {vc vp vw vs vf : Value} (h : w.heap[g]? = some (.cells (pkCells P vc vp vw vs vf) 31 (0, 0))) :
    (loadVar 31 ⟨g, 0, none⟩).run Tryz.prog w = .ok (.agg (pkCells P vc vp vw vs vf)) w :=
  run_loadVar_mid _ g 0 31 (pkCells P vc vp vw vs vf).toList _ (fun j v hv => by rw [Nat.zero_add, cell_heap h, ← hv]; simp) Tryz.underlying31 rfl (by kernel_rfl)
theorem read_two {P : Program} {W : World} {g : Nat} {T : TypeId} {x y : Value} (hl : (loadVar T ⟨g, 0, none⟩).run P W = .ok x W) :
    ((Sem.run P (asAddr (.pointer (some ⟨g, 0, none⟩))) W).andThen fun a w' => (Sem.run P (loadVar T a) w').andThen fun a w' => Result.ok (Value.tuple #[a, y]) w') = .ok (Value.tuple #[x, y]) W := by
  show ((Sem.run P (loadVar T ⟨g, 0, none⟩) W).andThen _) = _
  rw [hl]
  rfl
theorem step_load_pk {ops : Array Oper} {o : Oper} {a : Act} {w : World} {K : Act → World → Prop} {Q : Exit → Act → World → Prop} {E : Prop} (hgd : o.guard = none) (x : Operand) (ho : o.op = .load 31 x)
    (n : Nat) (hx : a.eval x = .pointer (some ⟨n, 0, none⟩)) {p : Pk} {vc vp vw vs vf : Value} (hb : w.heap[n]? = some (.cells (pkCells p vc vp vw vs vf) 31 (0, 0)))
    (h : K (a.put o.dst (.agg (pkCells p vc vp vw vs vf))) w) : if Region.wanted o (yielded ops a.tmps) = true then Oper.wp Tryz.prog o a w K Q else E := by
  rw [if_pos (by simp [Region.wanted, hgd])]
  exact wp_load_mid 31 x ho n 0 hx (pkCells p vc vp vw vs vf).toList _ (fun j v hv => by rw [Nat.zero_add, cell_heap hb, ← hv]; simp) Tryz.underlying31 rfl (by kernel_rfl) h
theorem step_store_pk {ops : Array Oper} {o : Oper} {a : Act} {w : World} {K : Act → World → Prop} {Q : Exit → Act → World → Prop} {E : Prop} (hgd : o.guard = none) (x y : Operand) (ho : o.op = .store 31 x y)
    (g : Nat) (cells : Array Value) (hx : a.eval x = .pointer (some ⟨g, 0, none⟩)) (hy : a.eval y = .agg cells)
    {t : TypeId} {old : Array Value} (hg : w.heap[g]? = some (.cells old t (0, 0))) (hi : (Tryz.prog.info? 31).map (·.size) = some cells.size)
    (hold : old.size = cells.size) (h1 : cells.all (·.oneCell') = true)
    (h : K (a.put o.dst undef) (w.setRow g cells)) : if Region.wanted o (yielded ops a.tmps) = true then Oper.wp Tryz.prog o a w K Q else E := by
  rw [if_pos (by simp [Region.wanted, hgd])]
  exact wp_store_row 31 x y ho g cells hx hy t old hg hi hold h1 h
theorem and15 (n : Int) (h0 : 0 ≤ n) (h1 : n ≤ 255) : bits .and .u8 n 15 = n % 16 := by
  obtain ⟨k, rfl⟩ := Int.eq_ofNat_of_zero_le h0
  have h : ∀ k : Fin 256, bits .and .u8 ((k.val : Nat) : Int) 15 = ((k.val : Nat) : Int) % 16 := by decide +kernel
  exact h ⟨k, by omega⟩

set_option maxRecDepth 100000 in
set_option maxHeartbeats 2000000 in
theorem begin_other (n : Int) (h0 : 0 ≤ n) (h1 : n ≤ 255) (h3 : n / 16 ≠ 3) (w : World) :
    Calls Tryz.prog 18 #[.int .u8 n] w fun e w' => e = .returned (.tuple #[.agg (pkNil (PK.begPk n)), .bool (PK.begOk n)]) ∧ Below w.heap.size w w' := by
  have hA := and15 n h0 h1
  have E1 : Hid (PK.begPk n = PK.barePk (n / 16) false false 0) := Lib.hid (by unfold PK.begPk; rw [if_neg h3])
  have E2 : Hid (PK.begOk n = (PK.isK (n / 16) && (n % 16 == PK.fixN (n / 16)))) := Lib.hid (by unfold PK.begOk; rw [if_neg h3])
  have hne : (n / 16 != 3) = true := by rw [bne_iff_ne]; exact h3
  have CK := Lib.hid iskind_any
  have CF := Lib.hid fixed_flags
  have Z : Hid ((w.alloc (.cells (pkNil PK.zeroPk) 31)).heap[w.heap.size]? = some (.cells (pkNil PK.zeroPk) 31 (0, 0))) := Lib.hid (heap_alloc_new w _)
  have hk0 : 0 ≤ n / 16 := by omega
  have hk1 : n / 16 ≤ 15 := by omega
  have hf0 : 0 ≤ n % 16 := by omega
  have hf1 : n % 16 ≤ 15 := by omega
  have O1 := Lib.hid (pkNil_one (PK.barePk (n / 16) false false 0))
  have HB : Hid (Below w.heap.size w (w.alloc (.cells (pkNil PK.zeroPk) 31))) := Lib.hid ((Below.refl _ _).alloc (Nat.le_refl _) _)
  rw [E1.out, E2.out]
  clear h3 E1 E2
  cases hq : PK.isK (n / 16)
  · go_enter Tryz.func18, Tryz.ntmps18
    go_wp2_with fail
    refine (CK.out _ _).mono ?_
    rintro e w' ⟨rfl, rfl⟩
    rw [hq]
    go_wp2_with (refine wpList_store_row (by rfl) 31 (.tmp 2) (.tmp 16) (by rfl) w.heap.size (pkNil (PK.barePk (n / 16) false false 0)) (by rfl) (by rfl) 31 (pkNil PK.zeroPk) Z.out pk_info rfl O1.out ?_)
    have Z3 : Hid (((w.alloc (.cells (pkNil PK.zeroPk) 31)).setRow w.heap.size (pkNil (PK.barePk (n / 16) false false 0))).heap[w.heap.size]? = some (.cells (pkNil (PK.barePk (n / 16) false false 0)) 31 (0, 0))) := Lib.hid (setRow_heap Z.out)
    have B3 : Hid (Below w.heap.size w ((w.alloc (.cells (pkNil PK.zeroPk) 31)).setRow w.heap.size (pkNil (PK.barePk (n / 16) false false 0)))) := Lib.hid (below_setRow HB.out (Nat.le_refl _) _)
    have hl := load_pk_var (P := PK.barePk (n / 16) false false 0) (vc := .slice none 0 0) (vp := .slice none 0 0) (vw := .slice none 0 0) (vs := .slice none 0 0) (vf := .slice none 0 0) Z3.out
    refine bodyPost_ret (v := .tuple #[.agg (pkNil (PK.barePk (n / 16) false false 0)), .bool false]) ?_ rfl ⟨rfl, B3.out⟩
    simp only [results, Tryz.results18]
    simp
    exact read_two hl
  · have Hq := Lib.hid hq
    clear hq
    go_enter Tryz.func18, Tryz.ntmps18
    go_wp2_with fail
    refine (CK.out _ _).mono ?_
    rintro e w' ⟨rfl, rfl⟩
    rw [Hq.out]
    go_wp2_with fail
    refine (CF.out _ _).mono ?_
    rintro e w' ⟨rfl, rfl⟩
    go_wp2_with (refine wpList_store_row (by rfl) 31 (.tmp 2) (.tmp 16) (by rfl) w.heap.size (pkNil (PK.barePk (n / 16) false false 0)) (by rfl) (by rfl) 31 (pkNil PK.zeroPk) Z.out pk_info rfl O1.out ?_)
    have Z3 : Hid (((w.alloc (.cells (pkNil PK.zeroPk) 31)).setRow w.heap.size (pkNil (PK.barePk (n / 16) false false 0))).heap[w.heap.size]? = some (.cells (pkNil (PK.barePk (n / 16) false false 0)) 31 (0, 0))) := Lib.hid (setRow_heap Z.out)
    have B3 : Hid (Below w.heap.size w ((w.alloc (.cells (pkNil PK.zeroPk) 31)).setRow w.heap.size (pkNil (PK.barePk (n / 16) false false 0)))) := Lib.hid (below_setRow HB.out (Nat.le_refl _) _)
    have hl := load_pk_var (P := PK.barePk (n / 16) false false 0) (vc := .slice none 0 0) (vp := .slice none 0 0) (vw := .slice none 0 0) (vs := .slice none 0 0) (vf := .slice none 0 0) Z3.out
    refine bodyPost_ret (v := .tuple #[.agg (pkNil (PK.barePk (n / 16) false false 0)), .bool (n % 16 == PK.fixN (n / 16))]) ?_ rfl ⟨by simp, B3.out⟩
    simp only [results, Tryz.results18]
    simp
    exact read_two hl
set_option maxRecDepth 100000 in
set_option maxHeartbeats 2000000 in
theorem begin_pub (n : Int) (h0 : 0 ≤ n) (h1 : n ≤ 255) (h3 : n / 16 = 3) (w : World) :
    Calls Tryz.prog 18 #[.int .u8 n] w fun e w' => e = .returned (.tuple #[.agg (pkNil (PK.begPk n)), .bool (PK.begOk n)]) ∧ Below w.heap.size w w' := by
  have hA := and15 n h0 h1
  have hf0 : 0 ≤ n % 16 := by omega
  have hf1 : n % 16 ≤ 15 := by omega
  have E1 : Hid (PK.begPk n = PK.barePk 3 (bits .and .i64 (n % 16) 8 != 0) (bits .and .i64 (n % 16) 1 != 0) (bits .and .i64 (n % 16 / 2) 3)) := Lib.hid (by unfold PK.begPk; rw [if_pos h3])
  have E2 : Hid (PK.begOk n = PK.canPub (PK.begPk n)) := Lib.hid (by unfold PK.begOk; rw [if_pos h3])
  rw [E2.out, E1.out]
  clear E2 E1
  have Z : Hid ((w.alloc (.cells (pkNil PK.zeroPk) 31)).heap[w.heap.size]? = some (.cells (pkNil PK.zeroPk) 31 (0, 0))) := Lib.hid (heap_alloc_new w _)
  have HB : Hid (Below w.heap.size w (w.alloc (.cells (pkNil PK.zeroPk) 31))) := Lib.hid ((Below.refl _ _).alloc (Nat.le_refl _) _)
  have O1 := Lib.hid (pkNil_one (PK.barePk 3 (bits .and .i64 (n % 16) 8 != 0) (bits .and .i64 (n % 16) 1 != 0) (bits .and .i64 (n % 16 / 2) 3)))
  have CP := Lib.hid (canpub_any (PK.barePk 3 (bits .and .i64 (n % 16) 8 != 0) (bits .and .i64 (n % 16) 1 != 0) (bits .and .i64 (n % 16 / 2) 3)) (.slice none 0 0) (.slice none 0 0) (.slice none 0 0) (.slice none 0 0) (.slice none 0 0))
  have Z2 : Hid (((w.alloc (.cells (pkNil PK.zeroPk) 31)).alloc (.cells (pkNil PK.zeroPk) 31)).heap[w.heap.size + 1]? = some (.cells (pkNil PK.zeroPk) 31 (0, 0))) := Lib.hid (by
    rw [show w.heap.size + 1 = (w.alloc (.cells (pkNil PK.zeroPk) 31)).heap.size by simp]; exact heap_alloc_new _ _)
  have Z1 : Hid (((w.alloc (.cells (pkNil PK.zeroPk) 31)).alloc (.cells (pkNil PK.zeroPk) 31)).heap[w.heap.size]? = some (.cells (pkNil PK.zeroPk) 31 (0, 0))) := Lib.hid ((Below.heap_alloc _ _ _ (lt_heap Z.out)).trans Z.out)
  have HB2 : Hid (Below w.heap.size w ((w.alloc (.cells (pkNil PK.zeroPk) 31)).alloc (.cells (pkNil PK.zeroPk) 31))) := Lib.hid (HB.out.alloc (by simp) _)
  generalize e8 : (bits .and .i64 (n % 16) 8 != 0) = b8 at *
  generalize e1 : (bits .and .i64 (n % 16) 1 != 0) = b1 at *
  generalize e3 : bits .and .i64 (n % 16 / 2) 3 = q3 at *
  clear Z HB
  go_enter Tryz.func18, Tryz.ntmps18
  go_upto_region 5 with (refine wpList_store_row (by rfl) 31 (.tmp 6) (.tmp 35) (by rfl) (w.heap.size + 1) (pkNil (PK.barePk 3 b8 b1 q3)) (by rfl) (by rfl) 31 (pkNil PK.zeroPk) Z2.out pk_info rfl O1.out ?_)
  obtain ⟨wA, hwA⟩ : ∃ wA, wA = ((w.alloc (.cells (pkNil PK.zeroPk) 31)).alloc (.cells (pkNil PK.zeroPk) 31)).setRow (w.heap.size + 1) (pkNil (PK.barePk 3 b8 b1 q3)) := ⟨_, rfl⟩
  have X1 : wA.heap[w.heap.size + 1]? = some (.cells (pkNil (PK.barePk 3 b8 b1 q3)) 31 (0, 0)) := by rw [hwA]; exact setRow_heap Z2.out
  have X0 : wA.heap[w.heap.size]? = some (.cells (pkNil PK.zeroPk) 31 (0, 0)) := by rw [hwA]; exact (setRow_other _ (by omega)).trans Z1.out
  have HBA : Hid (Below w.heap.size w wA) := Lib.hid (by rw [hwA]; exact below_setRow HB2.out (by omega) _)
  have hsA := HBA.out.size
  change Code.wp _ _ _ _ (((w.alloc (.cells (pkNil PK.zeroPk) 31)).alloc (.cells (pkNil PK.zeroPk) 31)).setRow (w.heap.size + 1) (pkNil (PK.barePk 3 b8 b1 q3)))
  rw [← hwA]
  clear hwA Z2 Z1 HB2
  -- REGION5
  refine wp_region_any (by kernel_rfl) ?_
  change wpAny _ _ _ _ _ _ _ (World.drew _)
  refine wpAny_ready (rs := [0, 1]) (by kernel_rfl) (by simp) ?_
  refine AllReady.cons rfl (fun K hK => ?_) (AllReady.cons rfl (fun K hK => ?_) AllReady.nil)
  · skip
    refine step_load_pk (by rfl) (.tmp 6) (by rfl) (w.heap.size + 1) (by rfl) X1 ?_
    refine hK _ _ ?_
    clear hK K
    refine wpAny_ready (rs := [1]) (by kernel_rfl) (by simp) (AllReady.cons rfl (fun K hK => ?_) AllReady.nil)
    refine step_load_pk (by rfl) (.tmp 6) (by rfl) (w.heap.size + 1) (by rfl) X1 ?_
    refine hK _ _ ?_
    clear hK K
    refine wpAny_ready (rs := [2]) (by kernel_rfl) (by simp) (AllReady.cons rfl (fun K hK => ?_) AllReady.nil)
    go_simp
    refine (CP.out _).mono ?_
    rintro e w1 ⟨rfl, bb⟩
    dsimp only
    have hb1 : Below wA.heap.size wA w1 := below_of_drew bb
    have Y0 := (hb1.block _ (lt_heap X0)).trans X0
    have Y1 := (hb1.block _ (lt_heap X1)).trans X1
    refine hK _ _ ?_
    clear hK K
    refine wpAny_ready (rs := [3]) (by kernel_rfl) (by simp) (AllReady.cons rfl (fun K hK => ?_) AllReady.nil)
    refine step_store_pk (by rfl) (.tmp 2) (.tmp 36) (by rfl) w.heap.size (pkNil (PK.barePk 3 b8 b1 q3)) (by rfl) (by rfl) Y0 pk_info rfl O1.out ?_
    refine hK _ _ ?_
    clear hK K
    refine wpAny_ready (rs := [4]) (by kernel_rfl) (by simp) (AllReady.cons rfl (fun K hK => ?_) AllReady.nil)
    go_simp
    refine hK _ _ ?_
    clear hK K
    refine wpAny_done (by kernel_rfl) ?_ _
    have Z3 : Hid ((w1.setRow w.heap.size (pkNil (PK.barePk 3 b8 b1 q3))).heap[w.heap.size]? = some (.cells (pkNil (PK.barePk 3 b8 b1 q3)) 31 (0, 0))) := Lib.hid (setRow_heap Y0)
    have B3 : Hid (Below w.heap.size w (w1.setRow w.heap.size (pkNil (PK.barePk 3 b8 b1 q3)))) := Lib.hid (below_setRow (HBA.out.trans (hb1.mono hsA)) (Nat.le_refl _) _)
    have hl := load_pk_var (P := (PK.barePk 3 b8 b1 q3)) (vc := .slice none 0 0) (vp := .slice none 0 0) (vw := .slice none 0 0) (vs := .slice none 0 0) (vf := .slice none 0 0) Z3.out
    clear Y0 Y1 X0 X1 bb hb1
    go_wp2_with fail
    refine bodyPost_ret (v := .tuple #[.agg (pkNil (PK.barePk 3 b8 b1 q3)), .bool (PK.canPub (PK.barePk 3 b8 b1 q3))]) ?_ rfl ⟨rfl, B3.out⟩
    simp only [results, Tryz.results18]
    simp
    exact read_two hl
  · skip
    refine step_load_pk (by rfl) (.tmp 6) (by rfl) (w.heap.size + 1) (by rfl) X1 ?_
    refine hK _ _ ?_
    clear hK K
    refine wpAny_ready (rs := [0, 2]) (by kernel_rfl) (by simp) ?_
    refine AllReady.cons rfl (fun K hK => ?_) (AllReady.cons rfl (fun K hK => ?_) AllReady.nil)
    · skip
      refine step_load_pk (by rfl) (.tmp 6) (by rfl) (w.heap.size + 1) (by rfl) X1 ?_
      refine hK _ _ ?_
      clear hK K
      refine wpAny_ready (rs := [2]) (by kernel_rfl) (by simp) (AllReady.cons rfl (fun K hK => ?_) AllReady.nil)
      go_simp
      refine (CP.out _).mono ?_
      rintro e w1 ⟨rfl, bb⟩
      dsimp only
      have hb1 : Below wA.heap.size wA w1 := below_of_drew bb
      have Y0 := (hb1.block _ (lt_heap X0)).trans X0
      have Y1 := (hb1.block _ (lt_heap X1)).trans X1
      refine hK _ _ ?_
      clear hK K
      refine wpAny_ready (rs := [3]) (by kernel_rfl) (by simp) (AllReady.cons rfl (fun K hK => ?_) AllReady.nil)
      refine step_store_pk (by rfl) (.tmp 2) (.tmp 36) (by rfl) w.heap.size (pkNil (PK.barePk 3 b8 b1 q3)) (by rfl) (by rfl) Y0 pk_info rfl O1.out ?_
      refine hK _ _ ?_
      clear hK K
      refine wpAny_ready (rs := [4]) (by kernel_rfl) (by simp) (AllReady.cons rfl (fun K hK => ?_) AllReady.nil)
      go_simp
      refine hK _ _ ?_
      clear hK K
      refine wpAny_done (by kernel_rfl) ?_ _
      have Z3 : Hid ((w1.setRow w.heap.size (pkNil (PK.barePk 3 b8 b1 q3))).heap[w.heap.size]? = some (.cells (pkNil (PK.barePk 3 b8 b1 q3)) 31 (0, 0))) := Lib.hid (setRow_heap Y0)
      have B3 : Hid (Below w.heap.size w (w1.setRow w.heap.size (pkNil (PK.barePk 3 b8 b1 q3)))) := Lib.hid (below_setRow (HBA.out.trans (hb1.mono hsA)) (Nat.le_refl _) _)
      have hl := load_pk_var (P := (PK.barePk 3 b8 b1 q3)) (vc := .slice none 0 0) (vp := .slice none 0 0) (vw := .slice none 0 0) (vs := .slice none 0 0) (vf := .slice none 0 0) Z3.out
      clear Y0 Y1 X0 X1 bb hb1
      go_wp2_with fail
      refine bodyPost_ret (v := .tuple #[.agg (pkNil (PK.barePk 3 b8 b1 q3)), .bool (PK.canPub (PK.barePk 3 b8 b1 q3))]) ?_ rfl ⟨rfl, B3.out⟩
      simp only [results, Tryz.results18]
      simp
      exact read_two hl
    · skip
      go_simp
      refine (CP.out _).mono ?_
      rintro e w1 ⟨rfl, bb⟩
      dsimp only
      have hb1 : Below wA.heap.size wA w1 := below_of_drew bb
      have Y0 := (hb1.block _ (lt_heap X0)).trans X0
      have Y1 := (hb1.block _ (lt_heap X1)).trans X1
      refine hK _ _ ?_
      clear hK K
      refine wpAny_ready (rs := [0]) (by kernel_rfl) (by simp) (AllReady.cons rfl (fun K hK => ?_) AllReady.nil)
      refine step_load_pk (by rfl) (.tmp 6) (by rfl) (w.heap.size + 1) (by rfl) Y1 ?_
      refine hK _ _ ?_
      clear hK K
      refine wpAny_ready (rs := [3]) (by kernel_rfl) (by simp) (AllReady.cons rfl (fun K hK => ?_) AllReady.nil)
      refine step_store_pk (by rfl) (.tmp 2) (.tmp 36) (by rfl) w.heap.size (pkNil (PK.barePk 3 b8 b1 q3)) (by rfl) (by rfl) Y0 pk_info rfl O1.out ?_
      refine hK _ _ ?_
      clear hK K
      refine wpAny_ready (rs := [4]) (by kernel_rfl) (by simp) (AllReady.cons rfl (fun K hK => ?_) AllReady.nil)
      go_simp
      refine hK _ _ ?_
      clear hK K
      refine wpAny_done (by kernel_rfl) ?_ _
      have Z3 : Hid ((w1.setRow w.heap.size (pkNil (PK.barePk 3 b8 b1 q3))).heap[w.heap.size]? = some (.cells (pkNil (PK.barePk 3 b8 b1 q3)) 31 (0, 0))) := Lib.hid (setRow_heap Y0)
      have B3 : Hid (Below w.heap.size w (w1.setRow w.heap.size (pkNil (PK.barePk 3 b8 b1 q3)))) := Lib.hid (below_setRow (HBA.out.trans (hb1.mono hsA)) (Nat.le_refl _) _)
      have hl := load_pk_var (P := (PK.barePk 3 b8 b1 q3)) (vc := .slice none 0 0) (vp := .slice none 0 0) (vw := .slice none 0 0) (vs := .slice none 0 0) (vf := .slice none 0 0) Z3.out
      clear Y0 Y1 X0 X1 bb hb1
      go_wp2_with fail
      refine bodyPost_ret (v := .tuple #[.agg (pkNil (PK.barePk 3 b8 b1 q3)), .bool (PK.canPub (PK.barePk 3 b8 b1 q3))]) ?_ rfl ⟨rfl, B3.out⟩
      simp only [results, Tryz.results18]
      simp
      exact read_two hl
end Go.Proofs.YtmldnaadjhnfcaaGreatDoor
namespace Go.Proofs.YtmldnaadjhnfcaaGreatDoor
open Go.RowKit
attribute [local go_sem ↓] Go.wp_at_zero Go.wp_at_succ

theorem WhP.mono {r : Nat} {w W : World} {X : Pk × Int} {e : Ending} {w' : World} (hg : Gr r w W) (h : WhP r W X e w') : WhP r w X e w' := by
  refine ⟨fun h0 => ?_, fun h0 => ?_⟩
  · obtain ⟨vc, vp, vw, vs, vf, he, ho, hg'⟩ := h.1 h0
    have b := fun {e : TypeId} {k : Nat} {v : Value} {n : Nat} {xs : List Value} (ho : w'.ownsRow W.heap.size e k v n xs) => own_base' ho hg.size
    exact ⟨vc, vp, vw, vs, vf, he, ⟨b ho.codes, b ho.props, b ho.wprops, b ho.subs, b ho.filters⟩, hg.trans hg'⟩
  · obtain ⟨he, hg'⟩ := h.2 h0
    exact ⟨he, hg.trans hg'⟩

set_option maxRecDepth 100000 in
set_option maxHeartbeats 2000000 in
theorem getfn_any (r pb : Nat) (s : ByteArray) (a : Int) (P : Pk) (w : World) (hk1 : 1 ≤ P.kind) (hk2 : P.kind ≤ 15) (hB : Bare P) (h : RdAt r s a w) (hp : w.heap[pb]? = some (.cells (pkNil P) 31 (0, 0))) (hs : s.size ≤ 140737488351232) (hT : ∀ W, Gr r w W → Tabs W) :
    Calls Tryz.prog 22 #[.pointer (some ⟨r, 0, none⟩), .pointer (some ⟨pb, 0, none⟩)] w (WhP r w (PK.rdWhole s a P)) := by
  have b1 := (Below.refl w.heap.size w).alloc (Nat.le_refl _) (.cells (pkNil PK.zeroPk) 31)
  have B1 : (w.alloc (.cells (pkNil PK.zeroPk) 31)).heap[w.heap.size]? = some (.cells (pkNil PK.zeroPk) 31 (0, 0)) := heap_alloc_new w _
  have G0 : Gr r w (w.alloc (.cells (pkNil PK.zeroPk) 31)) := Gr.of_below b1
  have P1 := Lib.hid ((b1.block _ (lt_heap hp)).trans hp)
  have hlt := lt_heap h
  have C1 := Lib.hid (rwhole_any r s a P _ hk1 hk2 hB (h.below b1) hs (fun W hg => hT W (G0.trans hg)))
  have HG0 := Lib.hid G0
  have HB1 := Lib.hid B1
  have hsz : (w.alloc (.cells (pkNil PK.zeroPk) 31)).heap.size = w.heap.size + 1 := by simp
  have HSZ := Lib.hid hsz
  generalize PK.rdWhole s a P = X at *
  clear b1 B1 G0 hp h hT hk1 hk2 hB hsz
  go_enter Tryz.func22, Tryz.ntmps22
  go_wp2_with (refine wpl_load_pk (by rfl) (.tmp 1) (by rfl) pb (by rfl) P1.out ?_)
  refine C1.out.mono ?_
  rintro e w1 hR
  by_cases h1 : X.2 = 0
  · obtain ⟨vc, vp, vw, vs, vf, rfl, o1, g1⟩ := hR.1 h1
    have Z1 := Lib.hid ((g1.block _ (lt_heap HB1.out) (fun e => by injection e with e; omega)).trans HB1.out)
    have G1 := Lib.hid (HG0.out.trans g1)
    have O1 := Lib.hid o1
    have W1 := Lib.hid (pk_one X.1 o1)
    clear hR o1 g1 C1
    go_wp2_with (refine wpList_store_row (by rfl) 31 (.tmp 2) (.tmp 4) (by rfl) w.heap.size (pkCells X.1 vc vp vw vs vf) (by rfl) (by rfl) 31 (pkNil PK.zeroPk) Z1.out pk_info rfl W1.out ?_)
    have Z3 := setRow_heap (cs := pkCells X.1 vc vp vw vs vf) Z1.out
    refine bodyPost_ret (v := .agg (pkCells X.1 vc vp vw vs vf)) ?_ rfl ?_
    · have hl : (loadVar 31 ⟨w.heap.size, 0, none⟩).run Tryz.prog (w1.setRow w.heap.size (pkCells X.1 vc vp vw vs vf)) = .ok (.agg (pkCells X.1 vc vp vw vs vf)) (w1.setRow w.heap.size (pkCells X.1 vc vp vw vs vf)) :=
        run_loadVar_mid _ w.heap.size 0 31 (pkCells X.1 vc vp vw vs vf).toList _ (fun j v hv => by rw [Nat.zero_add, cell_heap Z3, ← hv]; simp) Tryz.underlying31 rfl (by kernel_rfl)
      simp [results, Tryz.results22, Act.put]
      exact hl
    · refine ⟨fun _ => ⟨_, _, _, _, _, rfl, ?_, G1.out.setRow (Nat.le_refl _) _⟩, fun h => absurd h1 h⟩
      have hz := HSZ.out
      have n5 := fun {e : TypeId} {k : Nat} {v : Value} {n : Nat} {xs : List Value} (ho : w1.ownsRow (w.alloc (.cells (pkNil PK.zeroPk) 31)).heap.size e k v n xs) => own_base' (C := w.heap.size) (own_setRow (g := w.heap.size) (pkCells X.1 vc vp vw vs vf) ho (row_ne ho (by omega))) (by omega)
      exact ⟨n5 O1.out.codes, n5 O1.out.props, n5 O1.out.wprops, n5 O1.out.subs, n5 O1.out.filters⟩
  · obtain ⟨rfl, g1⟩ := hR.2 h1
    exact ⟨rfl, fun h => absurd h h1, fun _ => ⟨rfl, HG0.out.trans g1⟩⟩
end Go.Proofs.YtmldnaadjhnfcaaGreatDoor
namespace Go.Proofs.YtmldnaadjhnfcaaGreatDoor
open Go.RowKit
attribute [local go_sem ↓] Go.wp_at_zero Go.wp_at_succ

theorem caught_world {p q : Nat} {cs : Array Value} {x c : Int} {w : World} (hpq : p ≠ q) (hp : w.heap[p]? = some (.cells cs 31 (0, 0))) (hq : w.heap[q]? = some (.cells #[.int .u8 x] 23 (0, 0))) (o : Obj) :
    ((((w.setRow p (pkNil PK.zeroPk)).setCell ⟨q, 0, none⟩ (.int .u8 128)).setCell ⟨q, 0, none⟩ (.int .u8 c)).alloc o).heap[p]? = some (.cells (pkNil PK.zeroPk) 31 (0, 0)) ∧
    ((((w.setRow p (pkNil PK.zeroPk)).setCell ⟨q, 0, none⟩ (.int .u8 128)).setCell ⟨q, 0, none⟩ (.int .u8 c)).alloc o).heap[q]? = some (.cells #[.int .u8 c] 23 (0, 0)) ∧
    G2 p q w ((((w.setRow p (pkNil PK.zeroPk)).setCell ⟨q, 0, none⟩ (.int .u8 128)).setCell ⟨q, 0, none⟩ (.int .u8 c)).alloc o) := by
  have e1 : (w.setRow p (pkNil PK.zeroPk)).heap[q]? = some (.cells #[.int .u8 x] 23 (0, 0)) := (setRow_other _ (Ne.symm hpq)).trans hq
  have e2 := one_setCell (u := .int .u8 128) e1
  have e3 := one_setCell (u := .int .u8 c) e2
  have hz : (((w.setRow p (pkNil PK.zeroPk)).setCell ⟨q, 0, none⟩ (.int .u8 128)).setCell ⟨q, 0, none⟩ (.int .u8 c)).heap.size = w.heap.size := by simp [World.setCell, World.setRow]
  have other : ∀ i, i ≠ q → (((w.setRow p (pkNil PK.zeroPk)).setCell ⟨q, 0, none⟩ (.int .u8 128)).setCell ⟨q, 0, none⟩ (.int .u8 c)).heap[i]? = (w.setRow p (pkNil PK.zeroPk)).heap[i]? := fun i hi => (Below.heap_setCell _ _ _ _ (fun e => hi (by simpa using e))).trans (Below.heap_setCell _ _ _ _ (fun e => hi (by simpa using e)))
  refine ⟨(Below.heap_alloc _ _ _ (by rw [hz]; exact lt_heap hp)).trans ((other p hpq).trans (setRow_heap hp)), (Below.heap_alloc _ _ _ (by rw [hz]; exact lt_heap hq)).trans e3, rfl, rfl, rfl, by simp, fun i hi h1 h2 => (Below.heap_alloc _ _ _ (by rw [hz]; exact hi)).trans ((other i h2).trans (setRow_other _ h1))⟩
theorem taU (v : Value) (xT : TypeId) (w : World) : (Instr.typeAssert (.iface 118 v) xT 118 true).run Tryz.prog w = .ok (.tuple #[v, .bool true]) w := by kernel_rfl

set_option maxRecDepth 100000 in
set_option maxHeartbeats 2000000 in
theorem catch_left (p q : Nat) (cs : Array Value) (x c : Int) (older : List PanicEntry) (w : World) (hpq : p ≠ q) (hcs : cs.size = 26) (hp : w.heap[p]? = some (.cells cs 31 (0, 0))) (hq : w.heap[q]? = some (.cells #[.int .u8 x] 23 (0, 0))) :
    CallsD Tryz.prog 47 #[.pointer (some ⟨p, 0, none⟩), .pointer (some ⟨q, 0, none⟩)] (.panicking ({ v := .iface 118 (.agg #[.int .u8 c]), recovered := false } :: older)) w fun e u' w' =>
      e = .returned (.tuple #[]) ∧ u' = .panicking ({ v := .iface 118 (.agg #[.int .u8 c]), recovered := true } :: older) ∧
        w'.heap[p]? = some (.cells (pkNil PK.zeroPk) 31 (0, 0)) ∧ w'.heap[q]? = some (.cells #[.int .u8 c] 23 (0, 0)) ∧ G2 p q w w' := by
  refine callsD_of_wpS Tryz.func47 rfl fun c₀ cs₀ hu => ?_
  apply wpS_seq
  apply wpS_region
  simp [wpOpsS, go_sem, recoverD, hu, Tryz.ntmps47, Exit.thenS]
  refine wpS_of_wp ?_
  have hta := taU (.agg #[.int .u8 c]) 20
  have hlq := lt_heap hq
  have hs1 : (w.setRow p (pkNil PK.zeroPk)).heap.size = w.heap.size := by simp [World.setRow]
  have Q0 := Lib.hid (setRow_heap (cs := pkNil PK.zeroPk) hp)
  have q1 : (w.setRow p (pkNil PK.zeroPk)).cell? ⟨q, 0, none⟩ = some (.int .u8 x) := by rw [cell_heap ((setRow_other _ (Ne.symm hpq)).trans hq)]; rfl
  have f1 : (w.setRow p (pkNil PK.zeroPk)).frozen? ⟨q, 0, none⟩ = false := frozen_heap ((setRow_other _ (Ne.symm hpq)).trans hq)
  have O1 := Lib.hid (pkNil_one PK.zeroPk)
  change Code.wp _ _ _ { tmps := #[.pointer (some ⟨p, 0, none⟩), .pointer (some ⟨q, 0, none⟩), .iface 118 (.agg #[.int .u8 c]), undef, undef, .iface 118 (.agg #[.int .u8 c]), undef, undef, undef, undef, undef, undef, undef, undef, undef, undef, undef], defers := [] } w
  go_wp2_with (refine wpList_store_row (by rfl) 31 (.tmp 0) (.tmp 8) (by rfl) p (pkNil PK.zeroPk) (by rfl) (by rfl) 31 cs hp pk_info hcs O1.out ?_)
  obtain ⟨r1, r2, r3⟩ := caught_world (c := c) (x := x) hpq hp hq (.cells #[.int .u8 c] 118)
  generalize ((((w.setRow p (pkNil PK.zeroPk)).setCell ⟨q, 0, none⟩ (.int .u8 128)).setCell ⟨q, 0, none⟩ (.int .u8 c)).alloc (.cells #[.int .u8 c] 118)) = W' at r1 r2 r3 ⊢
  simp [bodyPostS, results, Tryz.results47, r1, r2, r3]

set_option maxRecDepth 100000 in
theorem catch_none (p q : Nat) (w : World) :
    CallsD Tryz.prog 47 #[.pointer (some ⟨p, 0, none⟩), .pointer (some ⟨q, 0, none⟩)] .returning w fun e u' w' => e = .returned (.tuple #[]) ∧ u' = .returning ∧ w' = w := by
  refine callsD_of_wpS Tryz.func47 rfl fun c₀ cs hu => ?_
  apply wpS_seq
  apply wpS_region
  simp [wpOpsS, go_sem, recoverD, hu, Tryz.ntmps47, Exit.thenS]
  refine wpS_of_wp ?_
  change Code.wp _ _ _ { tmps := #[.pointer (some ⟨p, 0, none⟩), .pointer (some ⟨q, 0, none⟩), .nilIface, undef, undef, .nilIface, undef, undef, undef, undef, undef, undef, undef, undef, undef, undef, undef], defers := [] } w
  go_wp2
  cases c₀
  simp_all [bodyPostS, results, Tryz.results47]
theorem load_code_var {w : World} {q : Nat} {c : Int} (h : w.heap[q]? = some (.cells #[.int .u8 c] 23 (0, 0))) :
    (loadVar 23 ⟨q, 0, none⟩).run Tryz.prog w = .ok (.int .u8 c) w := by
  have hc : w.cell? ⟨q, 0, none⟩ = some (.int .u8 c) := by rw [cell_heap h]; rfl
  simp [go_sem, hc]
set_option maxRecDepth 100000 in
theorem read_both {w : World} {p q : Nat} {P : Pk} {vc vp vw vs vf : Value} {c : Int} (hp : w.heap[p]? = some (.cells (pkCells P vc vp vw vs vf) 31 (0, 0))) (hq : w.heap[q]? = some (.cells #[.int .u8 c] 23 (0, 0))) :
    ((Sem.run Tryz.prog (asAddr (.pointer (some ⟨p, 0, none⟩))) w).andThen fun a w' => (Sem.run Tryz.prog (loadVar 31 a) w').andThen fun a w' =>
      (Sem.run Tryz.prog (asAddr (.pointer (some ⟨q, 0, none⟩))) w').andThen fun a_1 w' => (Sem.run Tryz.prog (loadVar 23 a_1) w').andThen fun a_2 w' => Result.ok (Value.tuple #[a, a_2]) w') = .ok (.tuple #[.agg (pkCells P vc vp vw vs vf), .int .u8 c]) w := by
  show ((Sem.run Tryz.prog (loadVar 31 ⟨p, 0, none⟩) w).andThen _) = _
  rw [load_pk_var hp]
  show ((Sem.run Tryz.prog (loadVar 23 ⟨q, 0, none⟩) w).andThen _) = _
  rw [load_code_var hq]
  rfl
/-- What caught answers. -/
def CaP (r : Nat) (w : World) (X : Pk × Int) (e : Ending) (w' : World) : Prop :=
  (X.2 = 0 → ∃ vc vp vw vs vf, e = .returned (.tuple #[.agg (pkCells X.1 vc vp vw vs vf), .int .u8 0]) ∧ Own5 w.heap.size X.1 vc vp vw vs vf w' ∧ Gr r w w') ∧ (X.2 ≠ 0 → e = .returned (.tuple #[.agg (pkNil PK.zeroPk), .int .u8 X.2]) ∧ Gr r w w')

set_option maxRecDepth 100000 in
set_option maxHeartbeats 2000000 in
theorem caught_any (r : Nat) (cap : Array Value) (X : Pk × Int) (w : World) (hr : r < w.heap.size)
    (hC : ∀ W, Below w.heap.size w W → Calls Tryz.prog 22 cap W (WhP r W X)) :
    Calls Tryz.prog 21 #[.func (.func 22) #[] cap] w (CaP r w X) := by
  have hmf : ∀ (fn : Fn) (first cap : Array Value) (w : World), (Instr.makeFunc fn first cap).run Tryz.prog w = .ok (.func fn first cap) w := fun _ _ _ _ => rfl
  have b1 := (Below.refl w.heap.size w).alloc (Nat.le_refl _) (.cells (pkNil PK.zeroPk) 31)
  have hsz : (w.alloc (.cells (pkNil PK.zeroPk) 31)).heap.size = w.heap.size + 1 := by simp
  have b2 := b1.alloc (by omega) (.cells #[.int .u8 0] 23)
  have P1 : (w.alloc (.cells (pkNil PK.zeroPk) 31)).heap[w.heap.size]? = some (.cells (pkNil PK.zeroPk) 31 (0, 0)) := heap_alloc_new w _
  have P2 : ((w.alloc (.cells (pkNil PK.zeroPk) 31)).alloc (.cells #[.int .u8 0] 23)).heap[w.heap.size]? = some (.cells (pkNil PK.zeroPk) 31 (0, 0)) := (Below.heap_alloc _ _ _ (lt_heap P1)).trans P1
  have Q2 : ((w.alloc (.cells (pkNil PK.zeroPk) 31)).alloc (.cells #[.int .u8 0] 23)).heap[w.heap.size + 1]? = some (.cells #[.int .u8 0] 23 (0, 0)) := by rw [← hsz]; exact heap_alloc_new _ _
  have C1 := Lib.hid (hC _ b2)
  have hs2 : ((w.alloc (.cells (pkNil PK.zeroPk) 31)).alloc (.cells #[.int .u8 0] 23)).heap.size = w.heap.size + 2 := by simp
  have HB2 := Lib.hid b2
  have HP2 := Lib.hid P2
  have HQ2 := Lib.hid Q2
  have HS2 := Lib.hid hs2
  clear b1 b2 P1 P2 Q2 hs2 hsz hC
  go_enter_defers Tryz.func21, Tryz.ntmps21
  go_wp2_with fail
  refine C1.out.mono ?_
  rintro e w1 hR
  by_cases h1 : X.2 = 0
  · obtain ⟨vc, vp, vw, vs, vf, rfl, o1, g1⟩ := hR.1 h1
    have p1 := (g1.block _ (lt_heap HP2.out) (fun e => by injection e with e; omega)).trans HP2.out
    have q1 := (g1.block _ (lt_heap HQ2.out) (fun e => by injection e with e; omega)).trans HQ2.out
    have W1 := Lib.hid (pk_one X.1 o1)
    have HPP := Lib.hid p1
    have c1 : (w1.setRow w.heap.size (pkCells X.1 vc vp vw vs vf)).cell? ⟨w.heap.size + 1, 0, none⟩ = some (.int .u8 0) := by rw [cell_heap ((setRow_other _ (by omega)).trans q1)]; rfl
    have f1 : (w1.setRow w.heap.size (pkCells X.1 vc vp vw vs vf)).frozen? ⟨w.heap.size + 1, 0, none⟩ = false := frozen_heap ((setRow_other _ (by omega)).trans q1)
    clear hR C1
    go_wp2_with (refine wpList_store_row (by rfl) 31 (.tmp 2) (.tmp 6) (by rfl) w.heap.size (pkCells X.1 vc vp vw vs vf) (by rfl) (by rfl) 31 (pkNil PK.zeroPk) HPP.out pk_info rfl W1.out ?_)
    refine leaves_cons (f := 47) (args := #[.pointer (some ⟨w.heap.size, 0, none⟩), .pointer (some ⟨w.heap.size + 1, 0, none⟩)]) (by simp) (by simp [go_sem]) ?_
    refine (catch_none _ _ _).mono ?_
    rintro e u' w'' ⟨rfl, rfl, rfl⟩
    simp [Leaves, settle, results, Tryz.results21]
    have hp' := setRow_heap (cs := pkCells X.1 vc vp vw vs vf) HPP.out
    have hq' := one_setCell (u := .int .u8 0) ((setRow_other (g := w.heap.size) (pkCells X.1 vc vp vw vs vf) (by omega)).trans q1)
    refine ⟨_, read_both ((Below.heap_setCell _ _ _ _ (fun e => by simp at e)).trans hp') hq', fun _ => ⟨_, _, _, _, _, rfl, ?_, ?_⟩, fun h => absurd h1 h⟩
    · have hz := HS2.out
      have n5 := fun {e : TypeId} {k : Nat} {v : Value} {n : Nat} {xs : List Value} (ho : w1.ownsRow ((w.alloc (.cells (pkNil PK.zeroPk) 31)).alloc (.cells #[.int .u8 0] 23)).heap.size e k v n xs) => own_base' (C := w.heap.size) (ownsRow_setCell_other (own_setRow (g := w.heap.size) (pkCells X.1 vc vp vw vs vf) ho (row_ne ho (by omega))) (a := ⟨w.heap.size + 1, 0, none⟩) (row_ne (r := w.heap.size + 1) ho (by omega)) (.int .u8 0)) (by omega)
      exact ⟨n5 o1.codes, n5 o1.props, n5 o1.wprops, n5 o1.subs, n5 o1.filters⟩
    · exact (((Gr.of_below HB2.out).trans g1).setRow (Nat.le_refl _) _).setNew (by omega) 0 _
  · obtain ⟨rfl, g1⟩ := hR.2 h1
    have p1 := (g1.block _ (lt_heap HP2.out) (fun e => by injection e with e; omega)).trans HP2.out
    have q1 := (g1.block _ (lt_heap HQ2.out) (fun e => by injection e with e; omega)).trans HQ2.out
    change bodyPostD _ _ _ (Exit.panic [{ v := .iface 118 (.agg #[.int .u8 X.2]), recovered := false }]) _ _
    refine leaves_cons (f := 47) (args := #[.pointer (some ⟨w.heap.size, 0, none⟩), .pointer (some ⟨w.heap.size + 1, 0, none⟩)]) (by simp) (by simp [go_sem]) ?_
    refine (catch_left w.heap.size (w.heap.size + 1) (pkNil PK.zeroPk) 0 X.2 [] w1 (by omega) rfl p1 q1).mono ?_
    rintro e u' w'' ⟨rfl, rfl, r1, r2, r3⟩
    simp [Leaves, settle, results, Tryz.results21]
    refine ⟨_, read_both (P := PK.zeroPk) (vc := .slice none 0 0) (vp := .slice none 0 0) (vw := .slice none 0 0) (vs := .slice none 0 0) (vf := .slice none 0 0) r1 r2, fun h => absurd h h1, fun _ => ⟨rfl, ?_⟩⟩
    have g0 := (Gr.of_below (r := r) HB2.out).trans g1
    exact ⟨r3.os.trans g0.os, r3.tape.trans g0.tape, r3.output.trans g0.output, Nat.le_trans g0.size r3.size, fun i hi hne => (r3.block i (Nat.lt_of_lt_of_le hi g0.size) (by omega) (by omega)).trans (g0.block i hi hne)⟩
end Go.Proofs.YtmldnaadjhnfcaaGreatDoor
namespace Go.Proofs.YtmldnaadjhnfcaaGreatDoor
namespace VP

theorem str_at (xs : List Int) (i : Nat) (h : i < (strOfNums xs).size) (h' : i < xs.length) (h0 : 0 ≤ xs[i]) (h1 : xs[i] < 256) : (((strOfNums xs)[i]'h).toNat : Int) = xs[i] := by
  have e : (strOfNums xs)[i]'h = UInt8.ofNat (xs[i]).toNat := by
    show (strOfNums xs).data[i] = _
    simp [strOfNums]
  rw [e, UInt8.toNat_ofNat']
  omega

theorem got1 (s : ByteArray) (k : Nat) (a : Int) (h : k < s.size) (b0 : ((s[k]'(by omega)).toNat : Int) = a) (hl : a < 128) (hz : sz (0 + a) = 1) :
    get s k = (0 + a, (k : Int) + 1, 0) := by
  rw [get_in s k (by omega)]
  rw [last0 s k _ h (by omega) (by rw [b0]; exact hz), b0]

theorem got2 (s : ByteArray) (k : Nat) (a b : Int) (h : k + 1 < s.size) (b0 : ((s[k]'(by omega)).toNat : Int) = a) (b1 : ((s[k + 1]'(by omega)).toNat : Int) = b) (h0 : 128 ≤ a) (hl : b < 128) (hz : sz (0 + (a - 128) + b * 128) = 2) :
    get s k = (0 + (a - 128) + b * 128, (k : Int) + 1 + 1, 0) := by
  rw [get_in s k (by omega)]
  rw [more0 s k _ (by omega) (by omega), b0]
  rw [last1 s k _ h (by omega) (by rw [b1]; exact hz), b1]

theorem got3 (s : ByteArray) (k : Nat) (a b c : Int) (h : k + 2 < s.size) (b0 : ((s[k]'(by omega)).toNat : Int) = a) (b1 : ((s[k + 1]'(by omega)).toNat : Int) = b) (b2 : ((s[k + 2]'(by omega)).toNat : Int) = c) (h0 : 128 ≤ a) (h1 : 128 ≤ b) (hl : c < 128) (hz : sz (0 + (a - 128) + (b - 128) * 128 + c * 16384) = 3) :
    get s k = (0 + (a - 128) + (b - 128) * 128 + c * 16384, (k : Int) + 2 + 1, 0) := by
  rw [get_in s k (by omega)]
  rw [more0 s k _ (by omega) (by omega), b0]
  rw [more1 s k _ (by omega) (by omega), b1]
  rw [last2 s k _ h (by omega) (by rw [b2]; exact hz), b2]

theorem got4 (s : ByteArray) (k : Nat) (a b c d : Int) (h : k + 3 < s.size) (b0 : ((s[k]'(by omega)).toNat : Int) = a) (b1 : ((s[k + 1]'(by omega)).toNat : Int) = b) (b2 : ((s[k + 2]'(by omega)).toNat : Int) = c) (b3 : ((s[k + 3]'(by omega)).toNat : Int) = d) (h0 : 128 ≤ a) (h1 : 128 ≤ b) (h2 : 128 ≤ c) (hl : d < 128) (hz : sz (0 + (a - 128) + (b - 128) * 128 + (c - 128) * 16384 + d * 2097152) = 4) :
    get s k = (0 + (a - 128) + (b - 128) * 128 + (c - 128) * 16384 + d * 2097152, (k : Int) + 3 + 1, 0) := by
  rw [get_in s k (by omega)]
  rw [more0 s k _ (by omega) (by omega), b0]
  rw [more1 s k _ (by omega) (by omega), b1]
  rw [more2 s k _ (by omega) (by omega), b2]
  rw [last3 s k _ h (by omega) (by rw [b3]; exact hz), b3]

theorem get_put1 {n : Int} (h : 0 ≤ n) (h' : n < 128) : get (strOfNums (putL n)) 0 = (n, 1, 0) := by
  rw [putL_1 h h']
  generalize hs : strOfNums [n] = s
  have hz : s.size = 1 := by rw [← hs, strOfNums_size]; rfl
  have b0 : ((s[0]'(by omega)).toNat : Int) = n := by subst hs; exact str_at _ 0 (by omega) (by simp) (by simp; omega) (by simp; omega)
  have e : 0 + n = n := by omega
  have g := got1 s 0 (n) (by omega) (by simpa using b0) (by omega) (by rw [e]; exact sz_1 h h')
  rw [e] at g
  simpa using g

theorem get_put2 {n : Int} (h : 128 ≤ n) (h' : n < 16384) : get (strOfNums (putL n)) 0 = (n, 2, 0) := by
  rw [putL_2 h h']
  generalize hs : strOfNums [n % 128 + 128, n / 128] = s
  have hz : s.size = 2 := by rw [← hs, strOfNums_size]; rfl
  have b0 : ((s[0]'(by omega)).toNat : Int) = n % 128 + 128 := by subst hs; exact str_at _ 0 (by omega) (by simp) (by simp; omega) (by simp; omega)
  have b1 : ((s[1]'(by omega)).toNat : Int) = n / 128 := by subst hs; exact str_at _ 1 (by omega) (by simp) (by simp; omega) (by simp; omega)
  have e : 0 + ((n % 128 + 128) - 128) + n / 128 * 128 = n := by omega
  have g := got2 s 0 (n % 128 + 128) (n / 128) (by omega) (by simpa using b0) (by simpa using b1) (by omega) (by omega) (by rw [e]; exact sz_2 h h')
  rw [e] at g
  simpa using g

theorem get_put3 {n : Int} (h : 16384 ≤ n) (h' : n < 2097152) : get (strOfNums (putL n)) 0 = (n, 3, 0) := by
  rw [putL_3 h h']
  generalize hs : strOfNums [n % 128 + 128, n / 128 % 128 + 128, n / 16384] = s
  have hz : s.size = 3 := by rw [← hs, strOfNums_size]; rfl
  have b0 : ((s[0]'(by omega)).toNat : Int) = n % 128 + 128 := by subst hs; exact str_at _ 0 (by omega) (by simp) (by simp; omega) (by simp; omega)
  have b1 : ((s[1]'(by omega)).toNat : Int) = n / 128 % 128 + 128 := by subst hs; exact str_at _ 1 (by omega) (by simp) (by simp; omega) (by simp; omega)
  have b2 : ((s[2]'(by omega)).toNat : Int) = n / 16384 := by subst hs; exact str_at _ 2 (by omega) (by simp) (by simp; omega) (by simp; omega)
  have e : 0 + ((n % 128 + 128) - 128) + ((n / 128 % 128 + 128) - 128) * 128 + n / 16384 * 16384 = n := by omega
  have g := got3 s 0 (n % 128 + 128) (n / 128 % 128 + 128) (n / 16384) (by omega) (by simpa using b0) (by simpa using b1) (by simpa using b2) (by omega) (by omega) (by omega) (by rw [e]; exact sz_3 h h')
  rw [e] at g
  simpa using g

theorem get_put4 {n : Int} (h : 2097152 ≤ n) (h' : n ≤ 268435455) : get (strOfNums (putL n)) 0 = (n, 4, 0) := by
  rw [putL_4 h h']
  generalize hs : strOfNums [n % 128 + 128, n / 128 % 128 + 128, n / 16384 % 128 + 128, n / 2097152] = s
  have hz : s.size = 4 := by rw [← hs, strOfNums_size]; rfl
  have b0 : ((s[0]'(by omega)).toNat : Int) = n % 128 + 128 := by subst hs; exact str_at _ 0 (by omega) (by simp) (by simp; omega) (by simp; omega)
  have b1 : ((s[1]'(by omega)).toNat : Int) = n / 128 % 128 + 128 := by subst hs; exact str_at _ 1 (by omega) (by simp) (by simp; omega) (by simp; omega)
  have b2 : ((s[2]'(by omega)).toNat : Int) = n / 16384 % 128 + 128 := by subst hs; exact str_at _ 2 (by omega) (by simp) (by simp; omega) (by simp; omega)
  have b3 : ((s[3]'(by omega)).toNat : Int) = n / 2097152 := by subst hs; exact str_at _ 3 (by omega) (by simp) (by simp; omega) (by simp; omega)
  have e : 0 + ((n % 128 + 128) - 128) + ((n / 128 % 128 + 128) - 128) * 128 + ((n / 16384 % 128 + 128) - 128) * 16384 + n / 2097152 * 2097152 = n := by omega
  have g := got4 s 0 (n % 128 + 128) (n / 128 % 128 + 128) (n / 16384 % 128 + 128) (n / 2097152) (by omega) (by simpa using b0) (by simpa using b1) (by simpa using b2) (by simpa using b3) (by omega) (by omega) (by omega) (by omega) (by rw [e]; exact sz_4 h h')
  rw [e] at g
  simpa using g

theorem putL_len {n : Int} (h : 0 ≤ n) (h' : n ≤ 268435455) : ((putL n).length : Int) = sz n := by
  rcases (show (n < 128) ∨ (128 ≤ n ∧ n < 16384) ∨ (16384 ≤ n ∧ n < 2097152) ∨ (2097152 ≤ n) from by omega) with g | ⟨g, g'⟩ | ⟨g, g'⟩ | g
  · rw [putL_1 h g, sz_1 h g]; rfl
  · rw [putL_2 g g', sz_2 g g']; rfl
  · rw [putL_3 g g', sz_3 g g']; rfl
  · rw [putL_4 g h', sz_4 g h']; rfl

theorem get_put {n : Int} (h : 0 ≤ n) (h' : n ≤ 268435455) : get (strOfNums (putL n)) 0 = (n, ((putL n).length : Int), 0) := by
  rw [putL_len h h']
  rcases (show (n < 128) ∨ (128 ≤ n ∧ n < 16384) ∨ (16384 ≤ n ∧ n < 2097152) ∨ (2097152 ≤ n) from by omega) with g | ⟨g, g'⟩ | ⟨g, g'⟩ | g
  · rw [get_put1 h g, sz_1 h g]
  · rw [get_put2 g g', sz_2 g g']
  · rw [get_put3 g g', sz_3 g g']
  · rw [get_put4 g h', sz_4 g h']

theorem sz_inv1 {x : Int} (h : sz x = 1) : 0 ≤ x ∧ x < 128 := by unfold sz at h; repeat' split at h; all_goals omega
theorem sz_inv2 {x : Int} (h : sz x = 2) : 128 ≤ x ∧ x < 16384 := by unfold sz at h; repeat' split at h; all_goals omega
theorem sz_inv3 {x : Int} (h : sz x = 3) : 16384 ≤ x ∧ x < 2097152 := by unfold sz at h; repeat' split at h; all_goals omega
theorem sz_inv4 {x : Int} (h : sz x = 4) : 2097152 ≤ x ∧ x ≤ 268435455 := by unfold sz at h; repeat' split at h; all_goals omega

theorem byte_lt (s : ByteArray) (k : Nat) (h : k < s.size) : ((s[k]'h).toNat : Int) < 256 := by
  have := (s[k]'h).toNat_lt
  omega

/-- What it is that a number was read of: its bytes, and no others. -/
def Read (s : ByteArray) (k : Nat) : Prop :=
  ∃ (x : Int) (m : Nat), 1 ≤ m ∧ k + m ≤ s.size ∧ 0 ≤ x ∧ x ≤ 268435455 ∧ (putL x).length = m ∧ get s k = (x, (k : Int) + m, 0) ∧
    ∀ i (h : k + i < s.size) (h' : i < (putL x).length), ((s[k + i]'h).toNat : Int) = (putL x)[i]

theorem read_got1 (s : ByteArray) (k : Nat) (a : Int) (h : k < s.size) (b0 : ((s[k]'(by omega)).toNat : Int) = a) (_h0 : 0 ≤ a) (hl : a < 128) (hz : sz (0 + a) = 1) : Read s k := by
  obtain ⟨r0, r1⟩ := sz_inv1 hz
  have hp := putL_1 r0 r1
  refine ⟨0 + a, 1, by omega, by omega, by omega, by omega, by rw [hp]; rfl, ?_, ?_⟩
  · rw [got1 s k a h b0 hl hz]
    simp
    try omega
  · intro j hj hj'
    simp only [hp]
    rw [hp] at hj'
    match j, hj' with
    | 0, _ => simp only [Nat.add_zero]; simp; omega

theorem read_got2 (s : ByteArray) (k : Nat) (a b : Int) (h : k + 1 < s.size) (b0 : ((s[k]'(by omega)).toNat : Int) = a) (b1 : ((s[k + 1]'(by omega)).toNat : Int) = b) (h0 : 128 ≤ a) (g0 : a < 256) (_h1 : 0 ≤ b) (hl : b < 128) (hz : sz (0 + (a - 128) + b * 128) = 2) : Read s k := by
  obtain ⟨r0, r1⟩ := sz_inv2 hz
  have hp := putL_2 r0 r1
  refine ⟨0 + (a - 128) + b * 128, 2, by omega, by omega, by omega, by omega, by rw [hp]; rfl, ?_, ?_⟩
  · rw [got2 s k a b h b0 b1 h0 hl hz]
    simp
    try omega
  · intro j hj hj'
    simp only [hp]
    rw [hp] at hj'
    match j, hj' with
    | 0, _ => simp only [Nat.add_zero]; simp; omega
    | 1, _ => simp; omega

theorem read_got3 (s : ByteArray) (k : Nat) (a b c : Int) (h : k + 2 < s.size) (b0 : ((s[k]'(by omega)).toNat : Int) = a) (b1 : ((s[k + 1]'(by omega)).toNat : Int) = b) (b2 : ((s[k + 2]'(by omega)).toNat : Int) = c) (h0 : 128 ≤ a) (g0 : a < 256) (h1 : 128 ≤ b) (g1 : b < 256) (_h2 : 0 ≤ c) (hl : c < 128) (hz : sz (0 + (a - 128) + (b - 128) * 128 + c * 16384) = 3) : Read s k := by
  obtain ⟨r0, r1⟩ := sz_inv3 hz
  have hp := putL_3 r0 r1
  refine ⟨0 + (a - 128) + (b - 128) * 128 + c * 16384, 3, by omega, by omega, by omega, by omega, by rw [hp]; rfl, ?_, ?_⟩
  · rw [got3 s k a b c h b0 b1 b2 h0 h1 hl hz]
    simp
    try omega
  · intro j hj hj'
    simp only [hp]
    rw [hp] at hj'
    match j, hj' with
    | 0, _ => simp only [Nat.add_zero]; simp; omega
    | 1, _ => simp; omega
    | 2, _ => simp; omega

theorem read_got4 (s : ByteArray) (k : Nat) (a b c d : Int) (h : k + 3 < s.size) (b0 : ((s[k]'(by omega)).toNat : Int) = a) (b1 : ((s[k + 1]'(by omega)).toNat : Int) = b) (b2 : ((s[k + 2]'(by omega)).toNat : Int) = c) (b3 : ((s[k + 3]'(by omega)).toNat : Int) = d) (h0 : 128 ≤ a) (g0 : a < 256) (h1 : 128 ≤ b) (g1 : b < 256) (h2 : 128 ≤ c) (g2 : c < 256) (_h3 : 0 ≤ d) (hl : d < 128) (hz : sz (0 + (a - 128) + (b - 128) * 128 + (c - 128) * 16384 + d * 2097152) = 4) : Read s k := by
  obtain ⟨r0, r1⟩ := sz_inv4 hz
  have hp := putL_4 r0 r1
  refine ⟨0 + (a - 128) + (b - 128) * 128 + (c - 128) * 16384 + d * 2097152, 4, by omega, by omega, by omega, by omega, by rw [hp]; rfl, ?_, ?_⟩
  · rw [got4 s k a b c d h b0 b1 b2 b3 h0 h1 h2 hl hz]
    simp
    try omega
  · intro j hj hj'
    simp only [hp]
    rw [hp] at hj'
    match j, hj' with
    | 0, _ => simp only [Nat.add_zero]; simp; omega
    | 1, _ => simp; omega
    | 2, _ => simp; omega
    | 3, _ => simp; omega

theorem get_inv (s : ByteArray) (k : Nat) (hk : k ≤ s.size) (hc : (get s k).2.2 = 0) : Read s k := by
  have hg := get_in s k hk
  by_cases l0 : k < s.size
  · have w0 := byte_lt s k l0
    by_cases c0 : ((s[k]'l0).toNat : Int) < 128
    · refine read_got1 s k _ l0 rfl (by omega) c0 ?_
      exact sz_1 (by omega) (by omega)
    · rw [more0 s k 0 l0 c0] at hg
      by_cases l1 : k + 1 < s.size
      · have w1 := byte_lt s (k + 1) l1
        by_cases c1 : ((s[k + 1]'l1).toNat : Int) < 128
        · by_cases hz : sz (0 + (((s[k]'l0).toNat : Int) - 128) + ((s[k + 1]'l1).toNat : Int) * 128) = 2
          · exact read_got2 s k _ _ l1 rfl rfl (by omega) w0 (by omega) c1 hz
          · rw [bad1 s k _ l1 c1 hz] at hg; rw [hg] at hc; exact absurd hc (by decide)
        · rw [more1 s k _ l1 c1] at hg
          by_cases l2 : k + 2 < s.size
          · have w2 := byte_lt s (k + 2) l2
            by_cases c2 : ((s[k + 2]'l2).toNat : Int) < 128
            · by_cases hz : sz (0 + (((s[k]'l0).toNat : Int) - 128) + (((s[k + 1]'l1).toNat : Int) - 128) * 128 + ((s[k + 2]'l2).toNat : Int) * 16384) = 3
              · exact read_got3 s k _ _ _ l2 rfl rfl rfl (by omega) w0 (by omega) w1 (by omega) c2 hz
              · rw [bad2 s k _ l2 c2 hz] at hg; rw [hg] at hc; exact absurd hc (by decide)
            · rw [more2 s k _ l2 c2] at hg
              by_cases l3 : k + 3 < s.size
              · have w3 := byte_lt s (k + 3) l3
                by_cases c3 : ((s[k + 3]'l3).toNat : Int) < 128
                · by_cases hz : sz (0 + (((s[k]'l0).toNat : Int) - 128) + (((s[k + 1]'l1).toNat : Int) - 128) * 128 + (((s[k + 2]'l2).toNat : Int) - 128) * 16384 + ((s[k + 3]'l3).toNat : Int) * 2097152) = 4
                  · exact read_got4 s k _ _ _ _ l3 rfl rfl rfl rfl (by omega) w0 (by omega) w1 (by omega) w2 (by omega) c3 hz
                  · rw [bad3 s k _ l3 c3 hz] at hg; rw [hg] at hc; exact absurd hc (by decide)
                · rw [more3 s k _ l3 c3, getG_0] at hg; rw [hg] at hc; exact absurd hc (by decide)
              · rw [ends3 s k _ l3] at hg; rw [hg] at hc; exact absurd hc (by decide)
          · rw [ends2 s k _ l2] at hg; rw [hg] at hc; exact absurd hc (by decide)
      · rw [ends1 s k _ l1] at hg; rw [hg] at hc; exact absurd hc (by decide)
  · rw [ends0 s k _ l0] at hg; rw [hg] at hc; exact absurd hc (by decide)

theorem extract_eq (s : ByteArray) (m : Nat) (xs : List Int) (hm : xs.length = m) (hs : m ≤ s.size) (hb : ∀ i (h : i < s.size) (h' : i < xs.length), ((s[i]'h).toNat : Int) = xs[i]) : s.extract 0 m = strOfNums xs := by
  apply ByteArray.ext
  apply Array.ext
  · simp [strOfNums, hm]; omega
  · intro i h1 h2
    have hi : i < xs.length := by simpa [strOfNums] using h2
    have hx := hb i (by omega) hi
    have hx' : xs[i].toNat = (s[i]'(by omega)).toNat := by omega
    simp only [strOfNums, ByteArray.data_extract]
    simp only [Array.getElem_extract, List.getElem_toArray, List.getElem_map, Nat.zero_add, hx', UInt8.ofNat_toNat]
    rfl

theorem read_back (s : ByteArray) (hc : (get s 0).2.2 = 0) : ∃ (x : Int) (m : Nat), 1 ≤ m ∧ m ≤ s.size ∧ 0 ≤ x ∧ x ≤ 268435455 ∧ get s 0 = (x, (m : Int), 0) ∧ s.extract 0 m = strOfNums (putL x) := by
  obtain ⟨x, m, h1, h2, h3, h4, h5, h6, h7⟩ := get_inv s 0 (Nat.zero_le _) hc
  refine ⟨x, m, h1, by omega, h3, h4, by simpa using h6, ?_⟩
  exact extract_eq s m (putL x) h5 (by omega) (fun i h h' => by have := h7 i (by omega) h'; simpa using this)

end VP
end Go.Proofs.YtmldnaadjhnfcaaGreatDoor
namespace Go.Proofs.YtmldnaadjhnfcaaGreatDoor
namespace ST
/-- How many bytes the packet has that stands whole at the beginning of s, and the code. -/
def first (s : ByteArray) (most : Int) : Int × Int :=
  if s.size = 0 then (0, 242) else if (VP.get s 1).2.2 ≠ 0 then (0, (VP.get s 1).2.2) else
  if most < (VP.get s 1).2.1 + (VP.get s 1).1 then (0, 149) else
  if (s.size : Int) < (VP.get s 1).2.1 + (VP.get s 1).1 then (0, 242) else ((VP.get s 1).2.1 + (VP.get s 1).1, 0)
theorem get1 (s : ByteArray) (h : s.size ≠ 0) (hc : (VP.get s 1).2.2 = 0) : ∃ n b : Nat, VP.get s 1 = ((n : Int), (b : Int), 0) ∧ n ≤ 268435455 ∧ 2 ≤ b ∧ b ≤ s.size := by
  obtain ⟨x, m, h1, h2, h3, h4, _, h6, _⟩ := VP.get_inv s 1 (by omega) hc
  obtain ⟨n, rfl⟩ := Int.eq_ofNat_of_zero_le h3
  exact ⟨n, 1 + m, by rw [show ((1 : Int)) = ((1 : Nat) : Int) from rfl, h6]; simp, by omega, by omega, by omega⟩
theorem first_ok (s : ByteArray) (most : Int) (h : (first s most).2 = 0) : ∃ k : Nat, first s most = ((k : Int), 0) ∧ 2 ≤ k ∧ k ≤ s.size := by
  unfold first at h ⊢
  by_cases h0 : s.size = 0
  · rw [if_pos h0] at h; exact absurd h (by decide)
  rw [if_neg h0] at h ⊢
  by_cases h1 : (VP.get s 1).2.2 ≠ 0
  · rw [if_pos h1] at h; exact absurd h h1
  rw [if_neg h1] at h ⊢
  obtain ⟨n, b, hg, hn, hb1, hb2⟩ := get1 s h0 (Classical.not_not.1 h1)
  rw [hg] at h ⊢
  simp only at h ⊢
  by_cases h2 : most < (b : Int) + n
  · rw [if_pos h2] at h; exact absurd h (by decide)
  rw [if_neg h2] at h ⊢
  by_cases h3 : (s.size : Int) < (b : Int) + n
  · rw [if_pos h3] at h; exact absurd h (by decide)
  rw [if_neg h3]
  exact ⟨b + n, by simp, by omega, by omega⟩
/-- The packets from a place on whose f is no code; the place behind them, and the code. -/
def thr (s : ByteArray) (most : Int) (f : ByteArray → Int) : Nat → Nat → List ByteArray × Nat × Int
  | 0, a => ([], a, 0)
  | u + 1, a =>
    if (first (s.extract a s.size) most).2 = 0 then
      if f (s.extract a (a + (first (s.extract a s.size) most).1.toNat)) = 0 then
        (s.extract a (a + (first (s.extract a s.size) most).1.toNat) :: (thr s most f u (a + (first (s.extract a s.size) most).1.toNat)).1, (thr s most f u (a + (first (s.extract a s.size) most).1.toNat)).2)
      else ([], a, f (s.extract a (a + (first (s.extract a s.size) most).1.toNat)))
    else ([], a, if (first (s.extract a s.size) most).2 = 242 then 0 else (first (s.extract a s.size) most).2)
/-- What a loop has done of them. -/
def Thr (s : ByteArray) (most : Int) (f : ByteArray → Int) (l : List ByteArray) (a : Nat) : Prop :=
  ∃ u, s.size < a + u ∧ a ≤ s.size ∧ 2 * l.length ≤ a ∧ thr s most f (s.size + 1) 0 = (l ++ (thr s most f u a).1, (thr s most f u a).2)
theorem Thr.start (s : ByteArray) (most : Int) (f : ByteArray → Int) : Thr s most f [] 0 := ⟨s.size + 1, by omega, by omega, by simp, by simp⟩
theorem Thr.step {s : ByteArray} {most : Int} {f : ByteArray → Int} {l : List ByteArray} {a k : Nat} (h : Thr s most f l a) (hf : first (s.extract a s.size) most = ((k : Int), 0)) (hk : 2 ≤ k) (hk2 : a + k ≤ s.size) (h0 : f (s.extract a (a + k)) = 0) : Thr s most f (l ++ [s.extract a (a + k)]) (a + k) := by
  obtain ⟨u, h1, h2, h3, h4⟩ := h
  obtain ⟨v, rfl⟩ : ∃ v, u = v + 1 := ⟨u - 1, by omega⟩
  refine ⟨v, by omega, hk2, by simp; omega, ?_⟩
  rw [h4, thr, hf]
  simp [h0]
theorem Thr.left {s : ByteArray} {most : Int} {f : ByteArray → Int} {l : List ByteArray} {a k : Nat} (h : Thr s most f l a) (hf : first (s.extract a s.size) most = ((k : Int), 0)) (h0 : f (s.extract a (a + k)) ≠ 0) : thr s most f (s.size + 1) 0 = (l, a, f (s.extract a (a + k))) := by
  obtain ⟨u, h1, h2, h3, h4⟩ := h
  obtain ⟨v, rfl⟩ : ∃ v, u = v + 1 := ⟨u - 1, by omega⟩
  rw [h4, thr, hf]
  simp [h0]
theorem Thr.stop {s : ByteArray} {most : Int} {f : ByteArray → Int} {l : List ByteArray} {a : Nat} (h : Thr s most f l a) (hf : (first (s.extract a s.size) most).2 ≠ 0) : thr s most f (s.size + 1) 0 = (l, a, if (first (s.extract a s.size) most).2 = 242 then 0 else (first (s.extract a s.size) most).2) := by
  obtain ⟨u, h1, h2, h3, h4⟩ := h
  obtain ⟨v, rfl⟩ : ∃ v, u = v + 1 := ⟨u - 1, by omega⟩
  rw [h4, thr, if_neg hf]
  simp
theorem Thr.size {s : ByteArray} {most : Int} {f : ByteArray → Int} {l : List ByteArray} {a : Nat} (h : Thr s most f l a) : a ≤ s.size ∧ 2 * l.length ≤ a := by
  obtain ⟨u, h1, h2, h3, h4⟩ := h
  exact ⟨h2, h3⟩
end ST
end Go.Proofs.YtmldnaadjhnfcaaGreatDoor
namespace Go.Proofs.YtmldnaadjhnfcaaGreatDoor
open Go.RowKit

theorem empty_list {s : ByteArray} (h : s.size = 0) : s = ⟨#[]⟩ := by
  cases s with | mk d => cases d with | mk l => cases l with
    | nil => rfl
    | cons a b => simp [ByteArray.size] at h
theorem nonempty_list {s : ByteArray} (h : s.size ≠ 0) : (s.toList == []) = false := by
  rw [beq_eq_false_iff_ne]
  intro e
  rw [ByteArray.toList_eq] at e
  apply h
  cases s with | mk d => cases d with | mk l => cases l with
    | nil => rfl
    | cons a b => simp at e
theorem st_from (s : ByteArray) (k : Nat) (h : k ≤ s.size) (w : World) :
    (Instr.slice 9 (.string s) (some (.int .i64 (k : Int))) none none).run Tryz.prog w = .ok (.string (s.extract k s.size)) w := by
  rw [run_slice_string_from_if w 9 s .i64 _ Tryz.underlying9, if_pos (by omega)]
  rfl
theorem st_upto (s : ByteArray) (k : Nat) (h : k ≤ s.size) (w : World) :
    (Instr.slice 9 (.string s) none (some (.int .i64 (k : Int))) none).run Tryz.prog w = .ok (.string (s.extract 0 k)) w := by
  rw [run_slice_string_to_if w 9 s .i64 _ Tryz.underlying9, if_pos (by omega)]
  rfl
theorem st_part (s : ByteArray) (a k : Nat) (h : a + k ≤ s.size) (w : World) :
    (Instr.slice 9 (.string s) (some (.int .i64 (a : Int))) (some (.int .i64 ((a : Int) + (k : Int)))) none).run Tryz.prog w = .ok (.string (s.extract a (a + k))) w := by
  rw [run_slice_string_if w 9 s .i64 .i64 _ _ Tryz.underlying9, if_pos (by omega), if_pos (by omega)]
  have e1 : ((a : Int)).toNat = a := by omega
  have e2 : ((a : Int) + (k : Int)).toNat = a + k := by omega
  rw [e1, e2]

set_option maxRecDepth 100000 in
set_option maxHeartbeats 1000000 in
theorem first_any (s : ByteArray) (most : Int) (hs : s.size ≤ 140737488351232) (w : World) :
    Calls Tryz.prog 62 #[.string s, .int .i64 most] w fun e w' => e = .returned (.tuple #[.int .i64 (ST.first s most).1, .int .u8 (ST.first s most).2]) ∧ w = w' := by
  by_cases h0 : s.size = 0
  · have e : ST.first s most = (0, 242) := by unfold ST.first; rw [if_pos h0]
    rw [e]
    obtain rfl := empty_list h0
    go_enter Tryz.func62, Tryz.ntmps62
    go_wp2
    go_ret2
    exact ⟨rfl, rfl⟩
  have hne := nonempty_list h0
  have C := Lib.hid (get_any s 1 (by unfold maxLen; omega))
  by_cases h1 : (VP.get s 1).2.2 ≠ 0
  · have e : ST.first s most = (0, (VP.get s 1).2.2) := by unfold ST.first; rw [if_neg h0, if_pos h1]
    rw [e]
    generalize VP.get s 1 = X at *
    obtain ⟨n, b, c⟩ := X
    simp only at C h1 ⊢
    have hc : (c != 0) = true := by rw [bne_iff_ne]; exact h1
    go_enter Tryz.func62, Tryz.ntmps62
    go_wp2_with fail
    refine (C.out _).mono ?_
    rintro e w' ⟨rfl, rfl⟩
    go_wp2
    go_ret2
    exact ⟨rfl, rfl⟩
  obtain ⟨n, b, hg, hn, hb1, hb2⟩ := ST.get1 s h0 (Classical.not_not.1 h1)
  have e : ST.first s most = if most < (b : Int) + n then (0, 149) else if (s.size : Int) < (b : Int) + n then (0, 242) else ((b : Int) + n, 0) := by unfold ST.first; rw [if_neg h0, if_neg h1, hg]
  rw [e]
  rw [hg] at C
  simp only at C
  clear hg h1 e h0
  by_cases h2 : most < (b : Int) + n
  · rw [if_pos h2]
    go_enter Tryz.func62, Tryz.ntmps62
    go_wp2_with fail
    refine (C.out _).mono ?_
    rintro e w' ⟨rfl, rfl⟩
    go_wp2
    go_ret2
    exact ⟨rfl, rfl⟩
  rw [if_neg h2]
  by_cases h3 : (s.size : Int) < (b : Int) + n
  · rw [if_pos h3]
    go_enter Tryz.func62, Tryz.ntmps62
    go_wp2_with fail
    refine (C.out _).mono ?_
    rintro e w' ⟨rfl, rfl⟩
    go_wp2
    go_ret2
    exact ⟨rfl, rfl⟩
  rw [if_neg h3]
  go_enter Tryz.func62, Tryz.ntmps62
  go_wp2_with fail
  refine (C.out _).mono ?_
  rintro e w' ⟨rfl, rfl⟩
  go_wp2
  go_ret2
  exact ⟨rfl, rfl⟩
end Go.Proofs.YtmldnaadjhnfcaaGreatDoor
namespace Go.Proofs.YtmldnaadjhnfcaaGreatDoor
open Go.RowKit
attribute [local go_sem ↓] Go.wp_at_zero Go.wp_at_succ

namespace PK
/-- The first byte. -/
def b0 (s : ByteArray) : Int := if h : 0 < s.size then ((s[0]'h).toNat : Int) else 0
/-- What speaks against a packet's length. -/
def hdC (s : ByteArray) : Int := if (VP.get s 1).2.2 = 0 then lenC (VP.get s 1).1 ((s.size : Int) - (VP.get s 1).2.1) else (VP.get s 1).2.2
/-- The packet that bytes are, and the code. -/
def getPk (s : ByteArray) : Pk × Int :=
  if s.size = 0 then (zeroPk, 242) else if begOk (b0 s) = false then (zeroPk, 129) else if hdC s ≠ 0 then (zeroPk, hdC s)
  else if (rdWhole s (VP.get s 1).2.1 (begPk (b0 s))).2 ≠ 0 then (zeroPk, (rdWhole s (VP.get s 1).2.1 (begPk (b0 s))).2) else ((rdWhole s (VP.get s 1).2.1 (begPk (b0 s))).1, 0)
end PK
/-- What Get answers. -/
def GtP (w : World) (X : Pk × Int) (e : Ending) (w' : World) : Prop :=
  (X.2 = 0 → ∃ vc vp vw vs vf, e = .returned (.tuple #[.agg (pkCells X.1 vc vp vw vs vf), .int .u8 0]) ∧ Own5 w.heap.size X.1 vc vp vw vs vf w') ∧ (X.2 ≠ 0 → e = .returned (.tuple #[.agg (pkNil PK.zeroPk), .int .u8 X.2])) ∧ Below w.heap.size w w'
theorem GtP.bad {w w' : World} {c : Int} (hc : c ≠ 0) (hb : Below w.heap.size w w') : GtP w (PK.zeroPk, c) (.returned (.tuple #[.agg (pkNil PK.zeroPk), .int .u8 c])) w' :=
  ⟨fun h => absurd h hc, fun _ => rfl, hb⟩
theorem below_of_gr {n r : Nat} {w W W' : World} (h : Below n w W) (hn : n ≤ W.heap.size) (hr : n ≤ r) (g : Gr r W W') : Below n w W' :=
  h.trans ⟨g.os, g.tape, g.output, g.size, fun i hi => g.block i (by omega) (fun e => by injection e with e; omega)⟩
theorem pbegin_any (n : Int) (h0 : 0 ≤ n) (h1 : n ≤ 255) (w : World) :
    Calls Tryz.prog 18 #[.int .u8 n] w fun e w' => e = .returned (.tuple #[.agg (pkNil (PK.begPk n)), .bool (PK.begOk n)]) ∧ Below w.heap.size w w' := by
  by_cases h3 : n / 16 = 3
  · exact begin_pub n h0 h1 h3 w
  · exact begin_other n h0 h1 h3 w
theorem beg_kind (n : Int) (h : PK.begOk n = true) : 1 ≤ (PK.begPk n).kind ∧ (PK.begPk n).kind ≤ 15 ∧ Bare (PK.begPk n) := by
  by_cases h3 : n / 16 = 3
  · unfold PK.begPk; rw [if_pos h3]
    exact ⟨(by decide : (1 : Int) ≤ 3), (by decide : (3 : Int) ≤ 15), ⟨rfl, rfl, rfl, rfl, rfl, rfl⟩⟩
  · unfold PK.begOk at h
    rw [if_neg h3] at h
    unfold PK.begPk; rw [if_neg h3]
    simp [PK.isK] at h
    exact ⟨h.1.1, h.1.2, ⟨rfl, rfl, rfl, rfl, rfl, rfl⟩⟩

set_option maxRecDepth 100000 in
set_option maxHeartbeats 4000000 in
theorem get_pk_any (s : ByteArray) (hs : s.size ≤ 140737488351232) (w : World) (hT : ∀ W, Below w.heap.size w W → Tabs W) :
    Calls Tryz.prog 6 #[.string s] w (GtP w (PK.getPk s)) := by
  have Z : Hid ((w.alloc (.cells (pkNil PK.zeroPk) 31)).heap[w.heap.size]? = some (.cells (pkNil PK.zeroPk) 31 (0, 0))) := Lib.hid (heap_alloc_new w _)
  have HB : Hid (Below w.heap.size w (w.alloc (.cells (pkNil PK.zeroPk) 31))) := Lib.hid ((Below.refl _ _).alloc (Nat.le_refl _) _)
  have O1 := Lib.hid (pkNil_one PK.zeroPk)
  have fin : ∀ (W : World) (c : Int), Below w.heap.size w W → W.heap[w.heap.size]? = some (.cells (pkNil PK.zeroPk) 31 (0, 0)) → c ≠ 0 →
      ((Sem.run Tryz.prog (asAddr (.pointer (some ⟨w.heap.size, 0, none⟩))) (W.setRow w.heap.size (pkNil PK.zeroPk))).andThen fun a w' => (Sem.run Tryz.prog (loadVar 31 a) w').andThen fun a w' => Result.ok (Value.tuple #[a, .int .u8 c]) w') = .ok (Value.tuple #[.agg (pkNil PK.zeroPk), .int .u8 c]) (W.setRow w.heap.size (pkNil PK.zeroPk)) ∧ GtP w (PK.zeroPk, c) (.returned (.tuple #[.agg (pkNil PK.zeroPk), .int .u8 c])) (W.setRow w.heap.size (pkNil PK.zeroPk)) :=
    fun W c hb hz hc => ⟨read_two (load_pk_var (P := PK.zeroPk) (vc := .slice none 0 0) (vp := .slice none 0 0) (vw := .slice none 0 0) (vs := .slice none 0 0) (vf := .slice none 0 0) (setRow_heap hz)), GtP.bad hc (below_setRow hb (Nat.le_refl _) _)⟩
  have FIN := Lib.hid fin
  clear fin
  obtain ⟨X, hX⟩ : ∃ X, X = PK.getPk s := ⟨_, rfl⟩
  rw [← hX]
  unfold PK.getPk at hX
  by_cases h0 : s.size = 0
  · rw [if_pos h0] at hX
    subst hX
    obtain rfl := empty_list h0
    go_enter Tryz.func6, Tryz.ntmps6
    go_wp2_with (refine wpList_store_row (by rfl) 31 (.tmp 2) (.tmp 12) (by rfl) w.heap.size (pkNil PK.zeroPk) (by rfl) (by rfl) 31 (pkNil PK.zeroPk) Z.out pk_info rfl O1.out ?_)
    obtain ⟨f1, f2⟩ := FIN.out _ 242 HB.out Z.out (by decide)
    refine bodyPost_ret (v := .tuple #[.agg (pkNil PK.zeroPk), .int .u8 242]) ?_ rfl f2
    simp only [results, Tryz.results6]
    simp
    exact f1
  rw [if_neg h0] at hX
  have hne := nonempty_list h0
  have hpos : 0 < s.size := by omega
  have hn : PK.b0 s = ((s[0]'hpos).toNat : Int) := by unfold PK.b0; rw [dif_pos hpos]
  have hn1 := VP.byte_lt s 0 hpos
  have hnn : 0 ≤ PK.b0 s ∧ PK.b0 s ≤ 255 := by rw [hn]; omega
  have CB : Hid (∀ W, Calls Tryz.prog 18 #[.int .u8 ((s[0]'hpos).toNat : Int)] W fun e w' => e = .returned (.tuple #[.agg (pkNil (PK.begPk (PK.b0 s))), .bool (PK.begOk (PK.b0 s))]) ∧ Below W.heap.size W w') := Lib.hid (fun W => by
    have := pbegin_any (PK.b0 s) hnn.1 hnn.2 W
    rwa [show Value.int .u8 (PK.b0 s) = .int .u8 ((s[0]'hpos).toNat : Int) from by rw [hn]] at this)
  have HK := Lib.hid (beg_kind (PK.b0 s))
  generalize PK.begPk (PK.b0 s) = P at *
  generalize PK.begOk (PK.b0 s) = ok at *
  clear hn hnn
  have HX := Lib.hid hX
  clear hX
  cases ok
  · have EX : Hid (X = (PK.zeroPk, 129)) := Lib.hid (by rw [HX.out, if_pos rfl])
    clear HX HK
    go_enter Tryz.func6, Tryz.ntmps6
    go_wp2_with fail
    refine (CB.out _).mono ?_
    rintro e w1 ⟨rfl, b1⟩
    have z1 := (b1.block _ (lt_heap Z.out)).trans Z.out
    have hw1 := HB.out.trans (b1.mono HB.out.size)
    have Z1 : Hid ((w1.alloc (.cells (pkNil PK.zeroPk) 31)).heap[w1.heap.size]? = some (.cells (pkNil PK.zeroPk) 31 (0, 0))) := Lib.hid (heap_alloc_new w1 _)
    have OP := Lib.hid (pkNil_one P)
    have hlt := lt_heap z1
    have Z2 : Hid (((w1.alloc (.cells (pkNil PK.zeroPk) 31)).setRow w1.heap.size (pkNil P)).heap[w.heap.size]? = some (.cells (pkNil PK.zeroPk) 31 (0, 0))) := Lib.hid ((setRow_other _ (by omega)).trans ((Below.heap_alloc _ _ _ hlt).trans z1))
    have B2 : Hid (Below w.heap.size w ((w1.alloc (.cells (pkNil PK.zeroPk) 31)).setRow w1.heap.size (pkNil P))) := Lib.hid (below_setRow (hw1.alloc (by omega) _) (by omega) _)
    clear b1 z1 hw1 CB
    go_wp2_with (first
      | refine wpList_store_row (by rfl) 31 (.tmp 4) (.tmp 17) (by rfl) w1.heap.size (pkNil P) (by rfl) (by rfl) 31 (pkNil PK.zeroPk) Z1.out pk_info rfl OP.out ?_
      | refine wpList_store_row (by rfl) 31 (.tmp 2) (.tmp 21) (by rfl) w.heap.size (pkNil PK.zeroPk) (by rfl) (by rfl) 31 (pkNil PK.zeroPk) Z2.out pk_info rfl O1.out ?_)
    obtain ⟨f1, f2⟩ := FIN.out _ 129 B2.out Z2.out (by decide)
    rw [EX.out]
    refine bodyPost_ret (v := .tuple #[.agg (pkNil PK.zeroPk), .int .u8 129]) ?_ rfl f2
    simp only [results, Tryz.results6]
    simp
    exact f1
  · obtain ⟨hk1, hk2, hB⟩ := HK.out rfl
    have HK1 := Lib.hid hk1; have HK2 := Lib.hid hk2; have HBa := Lib.hid hB
    have CG := Lib.hid (get_any s 1 (by unfold maxLen; omega))
    have CL := Lib.hid lencode_any
    clear HK hk1 hk2 hB
    go_enter Tryz.func6, Tryz.ntmps6
    go_wp2_with fail
    refine (CB.out _).mono ?_
    rintro e w1 ⟨rfl, b1⟩
    have z1 := (b1.block _ (lt_heap Z.out)).trans Z.out
    have hw1 := HB.out.trans (b1.mono HB.out.size)
    have Z1 : Hid ((w1.alloc (.cells (pkNil PK.zeroPk) 31)).heap[w1.heap.size]? = some (.cells (pkNil PK.zeroPk) 31 (0, 0))) := Lib.hid (heap_alloc_new w1 _)
    have OP := Lib.hid (pkNil_one P)
    have hlt := lt_heap z1
    go_upto_region 4 with (refine wpList_store_row (by rfl) 31 (.tmp 4) (.tmp 17) (by rfl) w1.heap.size (pkNil P) (by rfl) (by rfl) 31 (pkNil PK.zeroPk) Z1.out pk_info rfl OP.out ?_)
    obtain ⟨wA, hwA⟩ : ∃ wA, wA = (w1.alloc (.cells (pkNil PK.zeroPk) 31)).setRow w1.heap.size (pkNil P) := ⟨_, rfl⟩
    have Z2 : Hid (wA.heap[w.heap.size]? = some (.cells (pkNil PK.zeroPk) 31 (0, 0))) := Lib.hid (by rw [hwA]; exact (setRow_other _ (by omega)).trans ((Below.heap_alloc _ _ _ hlt).trans z1))
    have B2 : Hid (Below w.heap.size w wA) := Lib.hid (by rw [hwA]; exact below_setRow (hw1.alloc (by omega) _) (by omega) _)
    have P2 : Hid (wA.heap[w1.heap.size]? = some (.cells (pkNil P) 31 (0, 0))) := Lib.hid (by rw [hwA]; exact setRow_heap Z1.out)
    change Code.wp _ _ _ _ ((w1.alloc (.cells (pkNil PK.zeroPk) 31)).setRow w1.heap.size (pkNil P))
    rw [← hwA]
    have hsA : w1.heap.size < wA.heap.size := lt_heap P2.out
    clear hwA Z1 b1 z1 hw1 CB OP
    by_cases hc : (VP.get s 1).2.2 = 0
    · obtain ⟨m, b, hg, hm, hb1, hb2⟩ := ST.get1 s h0 hc
      have hd : PK.hdC s = PK.lenC (m : Int) ((s.size : Int) - (b : Int)) := by unfold PK.hdC; rw [if_pos hc, hg]
      rw [hg] at CG
      have EX : Hid (X = if PK.lenC (m : Int) ((s.size : Int) - (b : Int)) ≠ 0 then (PK.zeroPk, PK.lenC (m : Int) ((s.size : Int) - (b : Int))) else if (PK.rdWhole s (b : Int) P).2 ≠ 0 then (PK.zeroPk, (PK.rdWhole s (b : Int) P).2) else ((PK.rdWhole s (b : Int) P).1, 0)) := Lib.hid (by rw [HX.out, if_neg (by decide), hd, hg])
      simp only at CG
      clear hc hd hg HX
      have DL := Lib.hid (CL.out (m : Int) ((s.size : Int) - (b : Int)))
      generalize PK.lenC (m : Int) ((s.size : Int) - (b : Int)) = c at *
      clear CL
      by_cases hc : c = 0
      · subst hc
        have EX2 : Hid (X = if (PK.rdWhole s (b : Int) P).2 ≠ 0 then (PK.zeroPk, (PK.rdWhole s (b : Int) P).2) else ((PK.rdWhole s (b : Int) P).1, 0)) := Lib.hid (by rw [EX.out, if_neg (by decide)])
        have hsz3 : (wA.alloc (.cells #[.string s, .int .i64 (b : Int)] 74)).heap.size = wA.heap.size + 1 := by simp
        have B3 : Below w.heap.size w (wA.alloc (.cells #[.string s, .int .i64 (b : Int)] 74)) := B2.out.alloc (by omega) _
        have R3 : RdAt wA.heap.size s (b : Int) (wA.alloc (.cells #[.string s, .int .i64 (b : Int)] 74)) := heap_alloc_new wA _
        have P3 := (Below.heap_alloc wA (.cells #[.string s, .int .i64 (b : Int)] 74) _ hsA).trans P2.out
        have Z3 := Lib.hid ((Below.heap_alloc wA (.cells #[.string s, .int .i64 (b : Int)] 74) _ (lt_heap Z2.out)).trans Z2.out)
        have CC := Lib.hid (caught_any wA.heap.size #[.pointer (some ⟨wA.heap.size, 0, none⟩), .pointer (some ⟨w1.heap.size, 0, none⟩)] (PK.rdWhole s (b : Int) P) _ (by omega)
          (fun W hW => getfn_any wA.heap.size w1.heap.size s (b : Int) P W HK1.out HK2.out HBa.out (R3.below hW) ((hW.block _ (lt_heap P3)).trans P3) hs
            (fun W' hg => hT W' (below_of_gr (B3.trans (hW.mono B3.size)) (by have := hW.size; omega) (by omega) hg))))
        have HB3 := Lib.hid B3
        have HSZ := Lib.hid hsz3
        generalize PK.rdWhole s (b : Int) P = Y at *
        have hmf : ∀ (fn : Fn) (first cap : Array Value) (w : World), (Instr.makeFunc fn first cap).run Tryz.prog w = .ok (.func fn first cap) w := fun _ _ _ _ => rfl
        clear EX B3 R3 P3 hT P2 Z2 B2 hsz3
        go_wp2_with fail
        refine (CG.out _).mono ?_
        rintro e w' ⟨rfl, rfl⟩
        go_wp2_with fail
        refine (DL.out _).mono ?_
        rintro e w' ⟨rfl, rfl⟩
        go_wp2_with fail
        refine CC.out.mono ?_
        rintro e w4 hR
        by_cases h1 : Y.2 = 0
        · obtain ⟨vc, vp, vw, vs, vf, rfl, o1, g1⟩ := hR.1 h1
          have z4 := Lib.hid ((g1.block _ (lt_heap Z3.out) (fun e => by injection e with e; omega)).trans Z3.out)
          have W1 := Lib.hid (pk_one Y.1 o1)
          have B4 := Lib.hid (below_of_gr HB3.out HB3.out.size (by omega) g1)
          have O4 := Lib.hid o1
          have EX3 : Hid (X = (Y.1, 0)) := Lib.hid (by rw [EX2.out, if_neg (by simp [h1])])
          clear hR o1 g1 CC CG DL EX2 h1 Z3
          go_wp2_with (refine wpList_store_row (by rfl) 31 (.tmp 2) (.tmp 45) (by rfl) w.heap.size (pkCells Y.1 vc vp vw vs vf) (by rfl) (by rfl) 31 (pkNil PK.zeroPk) z4.out pk_info rfl W1.out ?_)
          rw [EX3.out]
          refine bodyPost_ret (v := .tuple #[.agg (pkCells Y.1 vc vp vw vs vf), .int .u8 0]) ?_ rfl ⟨fun _ => ⟨_, _, _, _, _, rfl, ?_⟩, fun h => absurd rfl h, below_setRow B4.out (Nat.le_refl _) _⟩
          · simp only [results, Tryz.results6]
            simp
            exact read_two (load_pk_var (setRow_heap z4.out))
          · have hz := HSZ.out
            have n5 := fun {e : TypeId} {k : Nat} {v : Value} {n : Nat} {xs : List Value} (ho : w4.ownsRow (wA.alloc (.cells #[.string s, .int .i64 (b : Int)] 74)).heap.size e k v n xs) => own_base' (C := w.heap.size) (own_setRow (g := w.heap.size) (pkCells Y.1 vc vp vw vs vf) ho (row_ne ho (by omega))) (by omega)
            exact ⟨n5 O4.out.codes, n5 O4.out.props, n5 O4.out.wprops, n5 O4.out.subs, n5 O4.out.filters⟩
        · obtain ⟨rfl, g1⟩ := hR.2 h1
          have z4 := Lib.hid ((g1.block _ (lt_heap Z3.out) (fun e => by injection e with e; omega)).trans Z3.out)
          have B4 := Lib.hid (below_of_gr HB3.out HB3.out.size (by omega) g1)
          have EX3 : Hid (X = (PK.zeroPk, Y.2)) := Lib.hid (by rw [EX2.out, if_pos h1])
          have H1 := Lib.hid h1
          clear hR g1 CC CG DL EX2 h1 Z3
          go_wp2_with (refine wpList_store_row (by rfl) 31 (.tmp 2) (.tmp 45) (by rfl) w.heap.size (pkNil PK.zeroPk) (by rfl) (by rfl) 31 (pkNil PK.zeroPk) z4.out pk_info rfl O1.out ?_)
          obtain ⟨f1, f2⟩ := FIN.out _ Y.2 B4.out z4.out H1.out
          rw [EX3.out]
          refine bodyPost_ret (v := .tuple #[.agg (pkNil PK.zeroPk), .int .u8 Y.2]) ?_ rfl f2
          simp only [results, Tryz.results6]
          simp
          exact f1
      · have e2 : (c != 0) = true := by rw [bne_iff_ne]; exact hc
        have EX2 : Hid (X = (PK.zeroPk, c)) := Lib.hid (by rw [EX.out, if_pos hc])
        have HC := Lib.hid hc
        clear EX hc
        go_wp2_with fail
        refine (CG.out _).mono ?_
        rintro e w' ⟨rfl, rfl⟩
        go_wp2_with fail
        refine (DL.out _).mono ?_
        rintro e w' ⟨rfl, rfl⟩
        go_wp2_with (refine wpList_store_row (by rfl) 31 (.tmp 2) (.tmp 38) (by rfl) w.heap.size (pkNil PK.zeroPk) (by rfl) (by rfl) 31 (pkNil PK.zeroPk) Z2.out pk_info rfl O1.out ?_)
        obtain ⟨f1, f2⟩ := FIN.out _ c B2.out Z2.out HC.out
        rw [EX2.out]
        refine bodyPost_ret (v := .tuple #[.agg (pkNil PK.zeroPk), .int .u8 c]) ?_ rfl f2
        simp only [results, Tryz.results6]
        simp
        exact f1
    · have hd : PK.hdC s = (VP.get s 1).2.2 := by unfold PK.hdC; rw [if_neg hc]
      have EX : Hid (X = (PK.zeroPk, (VP.get s 1).2.2)) := Lib.hid (by rw [HX.out, if_neg (by decide), hd, if_pos hc])
      generalize VP.get s 1 = Y at *
      obtain ⟨n, b, c⟩ := Y
      simp only at CG EX hc
      have e1 : (c == 0) = false := by rw [beq_eq_false_iff_ne]; exact hc
      have e2 : (c != 0) = true := by rw [bne_iff_ne]; exact hc
      clear hd HX
      have HC := Lib.hid hc
      clear hc
      go_wp2_with fail
      refine (CG.out _).mono ?_
      rintro e w' ⟨rfl, rfl⟩
      go_wp2_with (refine wpList_store_row (by rfl) 31 (.tmp 2) (.tmp 38) (by rfl) w.heap.size (pkNil PK.zeroPk) (by rfl) (by rfl) 31 (pkNil PK.zeroPk) Z2.out pk_info rfl O1.out ?_)
      obtain ⟨f1, f2⟩ := FIN.out _ c B2.out Z2.out HC.out
      rw [EX.out]
      refine bodyPost_ret (v := .tuple #[.agg (pkNil PK.zeroPk), .int .u8 c]) ?_ rfl f2
      simp only [results, Tryz.results6]
      simp
      exact f1
end Go.Proofs.YtmldnaadjhnfcaaGreatDoor
namespace Go.Proofs.YtmldnaadjhnfcaaGreatDoor
namespace RG
open PK (thn bnd alAll rdN rdT rdD rdId rdPr rdC rdSub)
/-- A code, if there was none ahead. -/
def fl (x : Int × Int) (c : Int) : Int × Int := (x.1, if x.2 = 0 then c else x.2)
def rN (U : ByteArray) (wd : Int) (x : Int × Int) : (Int × Int) × Int :=
  if x.2 ≠ 0 then (x, 0) else if (VP.rd U x.1 wd).2.2 ≠ 0 then (fl x 129, 0) else (((VP.rd U x.1 wd).2.1, x.2), (VP.rd U x.1 wd).1)
def rT (U : ByteArray) (x : Int × Int) : (Int × Int) × ByteArray :=
  if x.2 ≠ 0 then (x, ⟨#[]⟩) else if (TX.getT U x.1).2.2 ≠ 0 then (fl x 129, ⟨#[]⟩) else (((TX.getT U x.1).2.1, x.2), (TX.getT U x.1).1)
def rD (U : ByteArray) (x : Int × Int) : (Int × Int) × ByteArray :=
  if x.2 ≠ 0 then (x, ⟨#[]⟩) else if (VP.dat U x.1).2.2 ≠ 0 then (fl x 129, ⟨#[]⟩) else (((VP.dat U x.1).2.1, x.2), (VP.dat U x.1).1)
def rI (U : ByteArray) (x : Int × Int) : (Int × Int) × Int :=
  (if (rN U 2 x).1.2 = 0 ∧ (rN U 2 x).2 = 0 then fl (rN U 2 x).1 130 else (rN U 2 x).1, (rN U 2 x).2)
def rP (U : ByteArray) (k : Int) (x : Int × Int) : (Int × Int) × List Pr :=
  if x.2 ≠ 0 then (x, []) else if cm (PR.getL U x.1).2.2 ≠ 0 then (fl x (cm (PR.getL U x.1).2.2), []) else
  if alAll k (PR.getL U x.1).1 = true then (((PR.getL U x.1).2.1, x.2), (PR.getL U x.1).1) else (fl x 130, [])

/-- Both have read the same, or have the same code; the document's bytes begin at b. -/
def Rl {α : Type} (s : ByteArray) (b : Nat) (x : (Int × Int) × α) (y : α × Int × Int) : Prop :=
  (y.2.2 = 0 → ∃ q : Nat, x.1 = ((q : Int), 0) ∧ y.2.1 = ((b + q : Nat) : Int) ∧ b + q ≤ s.size ∧ x.2 = y.1) ∧ (y.2.2 ≠ 0 → x.1.2 = y.2.2)
/-- Behind a code nothing turns. -/
def Kps {α : Type} (f : Int × Int → (Int × Int) × α) : Prop := ∀ x, x.2 ≠ 0 → (f x).1.2 = x.2
theorem rN_kps (U : ByteArray) (wd : Int) : Kps (rN U wd) := fun x h => by unfold rN; rw [if_pos h]
theorem rT_kps (U : ByteArray) : Kps (rT U) := fun x h => by unfold rT; rw [if_pos h]
theorem rD_kps (U : ByteArray) : Kps (rD U) := fun x h => by unfold rD; rw [if_pos h]
theorem rP_kps (U : ByteArray) (k : Int) : Kps (rP U k) := fun x h => by unfold rP; rw [if_pos h]
theorem rI_kps (U : ByteArray) : Kps (rI U) := fun x h => by
  have := rN_kps U 2 x h
  unfold rI
  rw [if_neg (by rw [this]; exact fun e => h e.1)]
  exact this
theorem fl_kps {x : Int × Int} (h : x.2 ≠ 0) (c : Int) : (fl x c).2 = x.2 := by unfold fl; rw [if_neg h]
theorem fl_new {x : Int × Int} (h : x.2 = 0) (c : Int) : (fl x c).2 = c := by unfold fl; rw [if_pos h]

section
variable {s : ByteArray} {b : Nat}
theorem whole_s (s : ByteArray) : s.extract 0 s.size = s := by simp
theorem rd_sh (hb : b ≤ s.size) (p : Nat) (hp : b + p ≤ s.size) (wd : Int) : VP.rd s ((b + p : Nat) : Int) wd = PR.sh b (VP.rd (s.extract b s.size) (p : Int) wd) := by
  have := PR.rd_part (s := s) (f := b) (e := s.size) hb (Nat.le_refl _) p (by omega) wd
  rw [whole_s] at this
  exact this
theorem dat_sh (hb : b ≤ s.size) (p : Nat) (hp : b + p ≤ s.size) : VP.dat s ((b + p : Nat) : Int) = PR.shS b (VP.dat (s.extract b s.size) (p : Int)) := by
  have := PR.dat_part (s := s) (f := b) (e := s.size) hb (Nat.le_refl _) p (by omega)
  rw [whole_s] at this
  exact this
theorem getT_sh (hb : b ≤ s.size) (p : Nat) (hp : b + p ≤ s.size) : TX.getT s ((b + p : Nat) : Int) = PR.shS b (TX.getT (s.extract b s.size) (p : Int)) := by
  have := PR.getT_part (s := s) (f := b) (e := s.size) hb (Nat.le_refl _) p (by omega)
  rw [whole_s] at this
  exact this
theorem get_sh (hb : b ≤ s.size) (p : Nat) (hp : b + p ≤ s.size) : VP.get s ((b + p : Nat) : Int) = PR.sh b (VP.get (s.extract b s.size) (p : Int)) := by
  have := PR.get_part (s := s) (f := b) (e := s.size) hb (Nat.le_refl _) p (by omega)
  rw [whole_s] at this
  exact this
/-- Properties, read in a part. -/
theorem getL_sh (hb : b ≤ s.size) (p : Nat) (hp : b + p ≤ s.size) : (PR.getL s ((b + p : Nat) : Int)).1 = (PR.getL (s.extract b s.size) (p : Int)).1 ∧ (PR.getL s ((b + p : Nat) : Int)).2.2 = (PR.getL (s.extract b s.size) (p : Int)).2.2 ∧
    ((PR.getL (s.extract b s.size) (p : Int)).2.2 = 0 → (PR.getL s ((b + p : Nat) : Int)).2.1 = b + (PR.getL (s.extract b s.size) (p : Int)).2.1) := by
  have hg := get_sh hb p hp
  have hz : (s.extract b s.size).size = s.size - b := by rw [ByteArray.size_extract]; omega
  by_cases hc : (VP.get (s.extract b s.size) (p : Int)).2.2 = 0
  · obtain ⟨m, f, e1, e2⟩ := PR.get_at _ _ hc
    have e3 : VP.get s ((b + p : Nat) : Int) = ((m : Int), ((b + f : Nat) : Int), 0) := by rw [hg, e1]; unfold PR.sh; simp
    unfold PR.getL
    rw [e1, e3]
    simp only [ne_eq, not_true_eq_false, if_false]
    by_cases hl : (((s.extract b s.size).size : Nat) : Int) - (f : Int) < (m : Int)
    · rw [if_pos hl, if_pos (by omega)]
      exact ⟨rfl, rfl, fun h => absurd h (by decide)⟩
    · rw [if_neg hl, if_neg (by omega)]
      have ex : s.extract (((b + f : Nat) : Int)).toNat ((((b + f : Nat) : Int)) + (m : Int)).toNat = (s.extract b s.size).extract ((f : Int)).toNat ((f : Int) + (m : Int)).toNat := by
        rw [ByteArray.extract_extract]
        congr 1 <;> omega
      rw [ex]
      split
      · rename_i h
        exact ⟨rfl, rfl, fun e => absurd e h⟩
      · exact ⟨rfl, rfl, fun _ => by simp only; omega⟩
  · have e3 : (VP.get s ((b + p : Nat) : Int)).2.2 = (VP.get (s.extract b s.size) (p : Int)).2.2 := by rw [hg]; rfl
    unfold PR.getL
    rw [if_pos (by rw [e3]; exact hc), if_pos hc, e3]
    exact ⟨rfl, rfl, fun e => absurd e hc⟩
end
end RG
end Go.Proofs.YtmldnaadjhnfcaaGreatDoor
namespace Go.Proofs.YtmldnaadjhnfcaaGreatDoor
namespace RG
open PK (thn bnd alAll rdN rdT rdD rdId rdPr rdC rdSub)

theorem rd12 (U : ByteArray) (p : Nat) (hp : p ≤ U.size) {wd : Int} (hw : wd = 1 ∨ wd = 2) : (VP.rd U (p : Int) wd).2.2 = 0 ∨ (VP.rd U (p : Int) wd).2.2 = 242 := by
  rcases hw with rfl | rfl
  · by_cases h : p < U.size
    · rw [VP.rd_1 U p h]; exact .inl rfl
    · rw [VP.rd_1few U p hp h]; exact .inr rfl
  · by_cases h : p + 1 < U.size
    · rw [VP.rd_2 U p h]; exact .inl rfl
    · rw [VP.rd_2few U p hp h]; exact .inr rfl
theorem dat02 (U : ByteArray) (p : Nat) (hp : p ≤ U.size) : (VP.dat U (p : Int)).2.2 = 0 ∨ (VP.dat U (p : Int)).2.2 = 242 := by
  rcases rd12 U p hp (.inr rfl) with h | h
  · unfold VP.dat
    rw [if_pos h]
    split
    · exact .inr rfl
    · exact .inl rfl
  · unfold VP.dat
    rw [if_neg (by rw [h]; decide)]
    exact .inr h
theorem getT02 (U : ByteArray) (p : Nat) (hp : p ≤ U.size) : (TX.getT U (p : Int)).2.2 = 0 ∨ (TX.getT U (p : Int)).2.2 = 129 ∨ (TX.getT U (p : Int)).2.2 = 242 := by
  unfold TX.getT
  rcases dat02 U p hp with h | h
  · rw [if_neg (by rw [h]; decide)]
    split
    · exact .inr (.inl rfl)
    · exact .inl rfl
  · rw [if_pos (by rw [h]; decide)]
    exact .inr (.inr h)

section
variable {s : ByteArray} {b : Nat}
theorem rl_piece {α : Type} (d : α) {q : Nat} {z y : α × Int × Int} (hb : b ≤ s.size) (h1 : y.1 = z.1) (h2 : z.2.2 = 0 → y.2.1 = (b : Int) + z.2.1) (h3 : y.2.2 = cm z.2.2)
    (hz : z.2.2 = 0 → ∃ f : Nat, z.2.1 = f ∧ f ≤ s.size - b) (hc : z.2.2 = 0 ∨ cm z.2.2 = 129) :
    Rl s b (if ((q : Int), (0 : Int)).2 ≠ 0 then (((q : Int), (0 : Int)), d) else if z.2.2 ≠ 0 then (fl ((q : Int), 0) 129, d) else ((z.2.1, ((q : Int), (0 : Int)).2), z.1)) y := by
  rw [if_neg (by simp)]
  by_cases h0 : z.2.2 = 0
  · rw [if_neg (by simp [h0])]
    refine ⟨fun _ => ?_, fun h => absurd (by rw [h3, h0]; rfl) h⟩
    obtain ⟨f, e, le⟩ := hz h0
    exact ⟨f, by rw [e], by rw [h2 h0, e]; simp, by omega, h1.symm⟩
  · have h9 := hc.resolve_left h0
    rw [if_pos h0]
    exact ⟨fun h => absurd (h3.symm.trans h) (by rw [h9]; decide), fun _ => by rw [h3, h9]; rfl⟩
theorem size_part (s : ByteArray) (b : Nat) : (s.extract b s.size).size = s.size - b := by rw [ByteArray.size_extract]; omega
theorem rl_N (hb : b ≤ s.size) (q : Nat) (hq : b + q ≤ s.size) {wd : Int} (hw : wd = 1 ∨ wd = 2) : Rl s b (rN (s.extract b s.size) wd ((q : Int), 0)) (rdN s ((b + q : Nat) : Int) wd) := by
  have hs := rd_sh hb q hq wd
  have hz := size_part s b
  have hc := rd12 (s.extract b s.size) q (by omega) hw
  refine rl_piece (0 : Int) (z := VP.rd (s.extract b s.size) (q : Int) wd) hb (by unfold rdN; rw [hs]; rfl) (fun h => by unfold rdN; rw [hs]; unfold PR.sh; simp only [h, if_true]) (by unfold rdN; rw [hs]; rfl) (fun h => ?_) (hc.imp id fun h => by rw [h]; rfl)
  obtain ⟨f, e, -, le⟩ := PR.rd_ok _ q wd h
  exact ⟨f, e, by omega⟩
theorem rl_D (hb : b ≤ s.size) (q : Nat) (hq : b + q ≤ s.size) : Rl s b (rD (s.extract b s.size) ((q : Int), 0)) (rdD s ((b + q : Nat) : Int)) := by
  have hs := dat_sh hb q hq
  have hz := size_part s b
  have hc := dat02 (s.extract b s.size) q (by omega)
  refine rl_piece (⟨#[]⟩ : ByteArray) (z := VP.dat (s.extract b s.size) (q : Int)) hb (by unfold rdD; rw [hs]; rfl) (fun h => by unfold rdD; rw [hs]; unfold PR.shS; simp only [h, if_true]) (by unfold rdD; rw [hs]; rfl) (fun h => ?_) (hc.imp id fun h => by rw [h]; rfl)
  obtain ⟨f, e, -, le⟩ := PR.dat_ok _ q h
  exact ⟨f, e, by omega⟩
theorem rl_T (hb : b ≤ s.size) (q : Nat) (hq : b + q ≤ s.size) : Rl s b (rT (s.extract b s.size) ((q : Int), 0)) (rdT s ((b + q : Nat) : Int)) := by
  have hs := getT_sh hb q hq
  have hz := size_part s b
  have hc := getT02 (s.extract b s.size) q (by omega)
  refine rl_piece (⟨#[]⟩ : ByteArray) (z := TX.getT (s.extract b s.size) (q : Int)) hb (by unfold rdT; rw [hs]; rfl) (fun h => by unfold rdT; rw [hs]; unfold PR.shS; simp only [h, if_true]) (by unfold rdT; rw [hs]; rfl) (fun h => ?_) (hc.imp id fun h => by rcases h with h | h <;> rw [h] <;> rfl)
  obtain ⟨f, e, -, le⟩ := PR.getT_ok _ q h
  exact ⟨f, e, by omega⟩
theorem rl_I (hb : b ≤ s.size) (q : Nat) (hq : b + q ≤ s.size) : Rl s b (rI (s.extract b s.size) ((q : Int), 0)) (rdId s ((b + q : Nat) : Int)) := by
  obtain ⟨g1, g2⟩ := rl_N hb q hq (wd := 2) (.inr rfl)
  unfold rI
  by_cases hc : (rdN s ((b + q : Nat) : Int) 2).2.2 = 0
  · obtain ⟨f, e1, e2, e3, e4⟩ := g1 hc
    have hc' : cm (VP.rd s ((b + q : Nat) : Int) 2).2.2 = 0 := hc
    rw [e1, e4]
    unfold rdId
    rw [PK.thn_ok hc']
    by_cases h0 : (rdN s ((b + q : Nat) : Int) 2).1 = 0
    · rw [if_pos ⟨rfl, h0⟩, if_pos (show (VP.rd s ((b + q : Nat) : Int) 2).1 = 0 from h0)]
      exact ⟨fun h => absurd (show (130 : Int) = 0 from h) (by decide), fun _ => rfl⟩
    · rw [if_neg (fun h => h0 h.2), if_neg (show ¬ (VP.rd s ((b + q : Nat) : Int) 2).1 = 0 from h0)]
      exact ⟨fun _ => ⟨f, rfl, e2, e3, rfl⟩, fun h => absurd rfl h⟩
  · have h2 := g2 hc
    have hc' : cm (VP.rd s ((b + q : Nat) : Int) 2).2.2 ≠ 0 := hc
    rw [if_neg (fun h => hc (h2.symm.trans h.1))]
    unfold rdId
    rw [PK.thn_bad hc']
    exact ⟨fun h => absurd h hc', fun _ => h2⟩
theorem rl_P (hb : b ≤ s.size) (q : Nat) (hq : b + q ≤ s.size) (k : Int) : Rl s b (rP (s.extract b s.size) k ((q : Int), 0)) (rdPr s ((b + q : Nat) : Int) k) := by
  obtain ⟨e1, e2, e3⟩ := getL_sh hb q hq
  have hz := size_part s b
  unfold rP rdPr
  rw [e1, e2, if_neg (by simp)]
  by_cases hc : cm (PR.getL (s.extract b s.size) (q : Int)).2.2 = 0
  · have h0 := PK.cm_zero hc
    obtain ⟨f, a1, a2⟩ := PK.getL_at _ _ h0
    rw [if_neg (by simp [hc]), PK.thn_ok hc, e3 h0]
    by_cases ha : alAll k (PR.getL (s.extract b s.size) (q : Int)).1 = true
    · rw [if_pos ha, if_pos ha]
      exact ⟨fun _ => ⟨f, by rw [a1], by rw [a1]; simp, by omega, rfl⟩, fun h => absurd rfl h⟩
    · rw [if_neg ha, if_neg ha]
      exact ⟨fun h => absurd (show (130 : Int) = 0 from h) (by decide), fun _ => rfl⟩
  · rw [if_pos hc, PK.thn_bad hc]
    exact ⟨fun h => absurd h hc, fun _ => rfl⟩

/-- One piece, and then the others. -/
theorem rl_bnd {α : Type} {P : Pk} {x : (Int × Int) × α} {y : α × Int × Int} (h : Rl s b x y) {F : α → Int × Int → (Int × Int) × Pk} (hk : ∀ v, Kps (F v)) {G : α → Int → Pk × Int × Int}
    (hg : ∀ q : Nat, b + q ≤ s.size → y.2.2 = 0 → y.2.1 = ((b + q : Nat) : Int) → Rl s b (F y.1 ((q : Int), 0)) (G y.1 ((b + q : Nat) : Int))) : Rl s b (F x.2 x.1) (bnd P y G) := by
  unfold bnd
  by_cases hc : y.2.2 = 0
  · obtain ⟨q, e1, e2, e3, e4⟩ := h.1 hc
    rw [if_neg (by simp [hc]), e1, e4, e2]
    exact hg q e3 hc e2
  · rw [if_pos hc]
    exact ⟨fun h => absurd h hc, fun _ => (hk x.2 x.1 (by rw [h.2 hc]; exact hc)).trans (h.2 hc)⟩
end

-- A Connect.
def pass (U : ByteArray) (P : Pk) (x : Int × Int) : (Int × Int) × Pk := if P.hasPass = true then ((rD U x).1, { P with pass := (rD U x).2 }) else (x, P)
def user (U : ByteArray) (P : Pk) (x : Int × Int) : (Int × Int) × Pk := if P.hasUser = true then pass U { P with user := (rT U x).2 } (rT U x).1 else pass U P x
def will3 (U : ByteArray) (P : Pk) (l : List Pr) (t : ByteArray) (x : Int × Int) : (Int × Int) × Pk := user U { P with wprops := l, wtopic := t, wpay := (rD U x).2 } (rD U x).1
def will2 (U : ByteArray) (P : Pk) (l : List Pr) (x : Int × Int) : (Int × Int) × Pk := will3 U P l (rT U x).2 (rT U x).1
def will (U : ByteArray) (P : Pk) (x : Int × Int) : (Int × Int) × Pk := if P.hasWill = true then will2 U P (rP U 0 x).2 (rP U 0 x).1 else user U P x
def con5 (U : ByteArray) (P : Pk) (k : Int) (l : List Pr) (x : Int × Int) : (Int × Int) × Pk := will U { P with keep := k, props := l, client := (rT U x).2 } (rT U x).1
def con4 (U : ByteArray) (P : Pk) (k : Int) (x : Int × Int) : (Int × Int) × Pk := con5 U P k (rP U 1 x).2 (rP U 1 x).1
/-- What a Connect's flags tell. -/
def flP (P : Pk) (n : Int) : Pk := { P with clean := n / 2 % 2 == 1, hasWill := n / 4 % 2 == 1, wret := n / 32 % 2 == 1, hasPass := n / 64 % 2 == 1, hasUser := n / 128 % 2 == 1, wqos := n / 8 % 4 }
def flBad (n : Int) : Bool := n % 2 == 1 || n / 8 % 4 == 3 || (!(n / 4 % 2 == 1) && (decide (0 < n / 8 % 4) || n / 32 % 2 == 1))
def con3 (U : ByteArray) (P : Pk) (n : Int) (x : Int × Int) : (Int × Int) × Pk := con4 U (flP P n) (rN U 2 (if flBad n = true then fl x 129 else x)).2 (rN U 2 (if flBad n = true then fl x 129 else x)).1
def con2 (U : ByteArray) (P : Pk) (v : Int) (x : Int × Int) : (Int × Int) × Pk := con3 U P (rN U 1 (if x.2 = 0 ∧ v ≠ 5 then fl x 132 else x)).2 (rN U 1 (if x.2 = 0 ∧ v ≠ 5 then fl x 132 else x)).1
def con1 (U : ByteArray) (P : Pk) (m : ByteArray) (x : Int × Int) : (Int × Int) × Pk := con2 U P (rN U 1 (if x.2 = 0 ∧ m ≠ ⟨#[77, 81, 84, 84]⟩ then fl x 129 else x)).2 (rN U 1 (if x.2 = 0 ∧ m ≠ ⟨#[77, 81, 84, 84]⟩ then fl x 129 else x)).1
def conn (U : ByteArray) (P : Pk) (x : Int × Int) : (Int × Int) × Pk := con1 U P (rT U x).2 (rT U x).1

theorem kps_thn {α β : Type} {f : Int × Int → (Int × Int) × α} {g : α → Int × Int → (Int × Int) × β} (hf : Kps f) (hg : ∀ v, Kps (g v)) : Kps (fun x => g (f x).2 (f x).1) :=
  fun x h => (hg _ _ (by rw [hf x h]; exact h)).trans (hf x h)
theorem pass_kps (U : ByteArray) (P : Pk) : Kps (pass U P) := fun x h => by
  unfold pass; split
  · exact rD_kps U x h
  · rfl
theorem user_kps (U : ByteArray) (P : Pk) : Kps (user U P) := fun x h => by
  unfold user; split
  · exact kps_thn (rT_kps U) (g := fun v => pass U { P with user := v }) (fun v => pass_kps U _) x h
  · exact pass_kps U P x h
theorem will3_kps (U : ByteArray) (P : Pk) (l : List Pr) (t : ByteArray) : Kps (will3 U P l t) := kps_thn (rD_kps U) (g := fun v => user U { P with wprops := l, wtopic := t, wpay := v }) (fun _ => user_kps U _)
theorem will2_kps (U : ByteArray) (P : Pk) (l : List Pr) : Kps (will2 U P l) := kps_thn (rT_kps U) (g := fun v => will3 U P l v) (fun _ => will3_kps U _ _ _)
theorem will_kps (U : ByteArray) (P : Pk) : Kps (will U P) := fun x h => by
  unfold will; split
  · exact kps_thn (rP_kps U 0) (g := fun v => will2 U P v) (fun v => will2_kps U _ _) x h
  · exact user_kps U P x h
theorem con5_kps (U : ByteArray) (P : Pk) (k : Int) (l : List Pr) : Kps (con5 U P k l) := kps_thn (rT_kps U) (g := fun v => will U { P with keep := k, props := l, client := v }) (fun _ => will_kps U _)
theorem con4_kps (U : ByteArray) (P : Pk) (k : Int) : Kps (con4 U P k) := kps_thn (rP_kps U 1) (g := fun v => con5 U P k v) (fun _ => con5_kps U _ _ _)
theorem con3_kps (U : ByteArray) (P : Pk) (n : Int) : Kps (con3 U P n) := fun x h => by
  have e : (if flBad n = true then fl x 129 else x).2 = x.2 := by split; exact fl_kps h _; rfl
  unfold con3
  exact (kps_thn (rN_kps U 2) (g := fun v => con4 U (flP P n) v) (fun v => con4_kps U _ _) _ (by rw [e]; exact h)).trans e
theorem con2_kps (U : ByteArray) (P : Pk) (v : Int) : Kps (con2 U P v) := fun x h => by
  unfold con2
  rw [if_neg (fun e => h e.1)]
  exact kps_thn (rN_kps U 1) (g := fun v => con3 U P v) (fun v => con3_kps U _ _) x h
theorem con1_kps (U : ByteArray) (P : Pk) (m : ByteArray) : Kps (con1 U P m) := fun x h => by
  unfold con1
  rw [if_neg (fun e => h e.1)]
  exact kps_thn (rN_kps U 1) (g := fun v => con2 U P v) (fun v => con2_kps U _ _) x h
theorem conn_kps (U : ByteArray) (P : Pk) : Kps (conn U P) := kps_thn (rT_kps U) (g := fun v => con1 U P v) (fun _ => con1_kps U _ _)

theorem fl_facts (k : Fin 256) : (bits .and .i64 ((k.val : Nat) : Int) 2 != 0) = (((k.val : Nat) : Int) / 2 % 2 == 1) ∧ (bits .and .i64 ((k.val : Nat) : Int) 4 != 0) = (((k.val : Nat) : Int) / 4 % 2 == 1) ∧ bits .and .i64 (((k.val : Nat) : Int) / 8) 3 = ((k.val : Nat) : Int) / 8 % 4 ∧
    (bits .and .i64 ((k.val : Nat) : Int) 32 != 0) = (((k.val : Nat) : Int) / 32 % 2 == 1) ∧ (bits .and .i64 ((k.val : Nat) : Int) 64 != 0) = (((k.val : Nat) : Int) / 64 % 2 == 1) ∧ (bits .and .i64 ((k.val : Nat) : Int) 128 != 0) = (((k.val : Nat) : Int) / 128 % 2 == 1) ∧
    PK.cflC ((k.val : Nat) : Int) = if flBad ((k.val : Nat) : Int) = true then 129 else 0 := by
  revert k; decide +kernel
theorem fl_same {n : Int} (h0 : 0 ≤ n) (h1 : n ≤ 255) (P : Pk) : PK.cflPk P n = flP P n ∧ PK.cflC n = if flBad n = true then 129 else 0 := by
  obtain ⟨k, rfl⟩ := Int.eq_ofNat_of_zero_le h0
  obtain ⟨a, b, c, d, e, f, g⟩ := fl_facts ⟨k, by omega⟩
  refine ⟨?_, g⟩
  unfold PK.cflPk flP
  simp only at a b c d e f
  rw [a, b, c, d, e, f]

section
variable {s : ByteArray} {b : Nat}
theorem rl_ok (q : Nat) (hq : b + q ≤ s.size) (P : Pk) : Rl s b (((q : Int), (0 : Int)), P) (P, ((b + q : Nat) : Int), 0) := ⟨fun _ => ⟨q, rfl, rfl, hq, rfl⟩, fun h => absurd rfl h⟩
theorem rl_pass (hb : b ≤ s.size) (q : Nat) (hq : b + q ≤ s.size) (P : Pk) : Rl s b (pass (s.extract b s.size) P ((q : Int), 0)) (PK.rdPass s ((b + q : Nat) : Int) P) := by
  unfold pass PK.rdPass
  split
  · exact rl_bnd (rl_D hb q hq) (F := fun v z => (z, { P with pass := v })) (fun _ _ _ => rfl) fun q hq _ _ => rl_ok q hq _
  · exact rl_ok q hq _
theorem rl_user (hb : b ≤ s.size) (q : Nat) (hq : b + q ≤ s.size) (P : Pk) : Rl s b (user (s.extract b s.size) P ((q : Int), 0)) (PK.rdUser s ((b + q : Nat) : Int) P) := by
  unfold user PK.rdUser
  split
  · exact rl_bnd (rl_T hb q hq) (F := fun v z => pass (s.extract b s.size) { P with user := v } z) (fun _ => pass_kps _ _) fun q hq _ _ => rl_pass hb q hq _
  · exact rl_pass hb q hq _
theorem rl_will (hb : b ≤ s.size) (q : Nat) (hq : b + q ≤ s.size) (P : Pk) : Rl s b (will (s.extract b s.size) P ((q : Int), 0)) (PK.rdWill s ((b + q : Nat) : Int) P) := by
  unfold will PK.rdWill
  split
  · refine rl_bnd (rl_P hb q hq 0) (F := fun v z => will2 (s.extract b s.size) P v z) (fun _ => will2_kps _ _ _) fun q hq _ _ => ?_
    refine rl_bnd (rl_T hb q hq) (F := fun v z => will3 (s.extract b s.size) P _ v z) (fun _ => will3_kps _ _ _ _) fun q hq _ _ => ?_
    exact rl_bnd (rl_D hb q hq) (F := fun v z => user (s.extract b s.size) { P with wprops := _, wtopic := _, wpay := v } z) (fun _ => user_kps _ _) fun q hq _ _ => rl_user hb q hq _
  · exact rl_user hb q hq _
theorem rl_con1 (hb : b ≤ s.size) (q : Nat) (hq : b + q ≤ s.size) (P : Pk) (hP : P.kind = 1) : Rl s b (con4 (s.extract b s.size) P (rN (s.extract b s.size) 2 ((q : Int), 0)).2 (rN (s.extract b s.size) 2 ((q : Int), 0)).1) (PK.rdConn1 s ((b + q : Nat) : Int) P) := by
  unfold PK.rdConn1
  refine rl_bnd (rl_N hb q hq (.inr rfl)) (F := fun v z => con4 (s.extract b s.size) P v z) (fun _ => con4_kps _ _ _) fun q hq _ _ => ?_
  refine rl_bnd (x := rP (s.extract b s.size) 1 ((q : Int), 0)) (by rw [hP]; exact rl_P hb q hq 1) (F := fun v z => con5 (s.extract b s.size) P _ v z) (fun _ => con5_kps _ _ _ _) fun q hq _ _ => ?_
  exact rl_bnd (rl_T hb q hq) (F := fun v z => will (s.extract b s.size) { P with keep := _, props := _, client := v } z) (fun _ => will_kps _ _) fun q hq _ _ => rl_will hb q hq _
/-- A code behind a piece that is read. -/
theorem rl_bad {P : Pk} {c : Int} (hc : c ≠ 0) {f : Int × Int → (Int × Int) × Pk} (hf : Kps f) {x : Int × Int} (hx : x.2 = c) (a : Int) : Rl s b (f x) (P, a, c) :=
  ⟨fun h => absurd h hc, fun _ => (hf x (by rw [hx]; exact hc)).trans hx⟩
theorem rl_con (hb : b ≤ s.size) (q : Nat) (hq : b + q ≤ s.size) (P : Pk) (hP : P.kind = 1) : Rl s b (conn (s.extract b s.size) P ((q : Int), 0)) (PK.rdConn s ((b + q : Nat) : Int) P) := by
  unfold PK.rdConn
  refine rl_bnd (rl_T hb q hq) (F := fun v z => con1 (s.extract b s.size) P v z) (fun _ => con1_kps _ _ _) fun q hq _ _ => ?_
  generalize (rdT s _).1 = m
  unfold con1
  by_cases hm : m = ⟨#[77, 81, 84, 84]⟩
  · rw [if_neg (fun h => h.2 hm), if_neg (fun h => h hm)]
    refine rl_bnd (rl_N hb q hq (.inl rfl)) (F := fun v z => con2 (s.extract b s.size) P v z) (fun _ => con2_kps _ _ _) fun q hq _ _ => ?_
    generalize (rdN s _ 1).1 = v
    unfold con2
    by_cases hv : v = 5
    · rw [if_neg (fun h => h.2 hv), if_neg (fun h => h hv)]
      have hN := rl_N hb q hq (wd := 1) (.inl rfl)
      have hr := PK.rd_nn s ((b + q : Nat) : Int) 1
      have hr1 := PK.rd_1le s ((b + q : Nat) : Int)
      obtain ⟨f1, f2⟩ := fl_same hr.1 hr1 P
      by_cases hc : (rdN s ((b + q : Nat) : Int) 1).2.2 = 0
      · obtain ⟨f, e1, e2, e3, e4⟩ := hN.1 hc
        have hc' : cm (VP.rd s ((b + q : Nat) : Int) 1).2.2 = 0 := hc
        have e4' : (rN (s.extract b s.size) 1 ((q : Int), 0)).2 = (VP.rd s ((b + q : Nat) : Int) 1).1 := e4
        have e2' : (VP.rd s ((b + q : Nat) : Int) 1).2.1 = ((b + f : Nat) : Int) := e2
        rw [e1, e4']
        unfold PK.rdFl con3
        rw [PK.thn_ok hc', f2, e2']
        by_cases hB : flBad (VP.rd s ((b + q : Nat) : Int) 1).1 = true
        · rw [if_pos hB, if_pos hB, PK.bnd_bad (by decide)]
          exact rl_bad (c := 129) (by decide) (kps_thn (rN_kps _ 2) (g := fun v => con4 (s.extract b s.size) (flP P (VP.rd s ((b + q : Nat) : Int) 1).1) v) (fun v => con4_kps _ _ _)) rfl 0
        · rw [if_neg hB, if_neg hB, PK.bnd_ok rfl, f1]
          exact rl_con1 hb f e3 _ hP
      · have h2 := hN.2 hc
        have hc' : cm (VP.rd s ((b + q : Nat) : Int) 1).2.2 ≠ 0 := hc
        unfold PK.rdFl
        rw [PK.thn_bad hc', PK.bnd_bad hc']
        exact rl_bad hc' (con3_kps _ _ _) h2 0
    · rw [if_pos ⟨rfl, hv⟩, if_pos hv]
      exact rl_bad (c := 132) (by decide) (kps_thn (rN_kps _ 1) (g := fun v => con3 (s.extract b s.size) P v) (fun v => con3_kps _ _ _)) rfl 0
  · rw [if_pos ⟨rfl, hm⟩, if_pos hm]
    exact rl_bad (c := 129) (by decide) (kps_thn (rN_kps _ 1) (g := fun v => con2 (s.extract b s.size) P v) (fun v => con2_kps _ _ _)) rfl 0
end
end RG
end Go.Proofs.YtmldnaadjhnfcaaGreatDoor
namespace Go.Proofs.YtmldnaadjhnfcaaGreatDoor
namespace RG
open PK (thn bnd alAll rdN rdT rdD rdId rdPr rdC rdSub lst)

theorem thn_thn (a b c : Int) : thn (thn a b) c = thn a (thn b c) := by
  by_cases h : a = 0
  · rw [PK.thn_ok h, PK.thn_ok h]
  · rw [PK.thn_bad h, PK.thn_bad h, PK.thn_bad h]
/-- One after another. -/
def pair {α β : Type} (f : Int × Int → (Int × Int) × α) (g : Int × Int → (Int × Int) × β) (x : Int × Int) : (Int × Int) × (α × β) := ((g (f x).1).1, ((f x).2, (g (f x).1).2))
def pairP {α β : Type} (y : α × Int × Int) (g : Int → β × Int × Int) : (α × β) × Int × Int := ((y.1, (g y.2.1).1), (g y.2.1).2.1, thn y.2.2 (g y.2.1).2.2)
/-- A piece that may not be what it is. -/
def chk {α : Type} (c : α → Int) (x : (Int × Int) × α) : (Int × Int) × α := (if c x.2 ≠ 0 then fl x.1 (c x.2) else x.1, x.2)
def chkP {α : Type} (c : α → Int) (y : α × Int × Int) : α × Int × Int := (y.1, y.2.1, thn y.2.2 (c y.1))
theorem pair_kps {α β : Type} {f : Int × Int → (Int × Int) × α} {g : Int × Int → (Int × Int) × β} (hf : Kps f) (hg : Kps g) : Kps (pair f g) :=
  fun x h => (hg _ (by rw [hf x h]; exact h)).trans (hf x h)
theorem chk_keeps {α : Type} (c : α → Int) (x : (Int × Int) × α) (h : x.1.2 ≠ 0) : (chk c x).1.2 = x.1.2 := by
  unfold chk; dsimp only; split
  · exact fl_kps h _
  · rfl

section
variable {s : ByteArray} {b : Nat}
theorem rl_pair {α β : Type} {f : Int × Int → (Int × Int) × α} {g : Int × Int → (Int × Int) × β} (hk : Kps g) {x : Int × Int} {y : α × Int × Int} {G : Int → β × Int × Int} (h : Rl s b (f x) y)
    (hg : ∀ q : Nat, b + q ≤ s.size → y.2.2 = 0 → Rl s b (g ((q : Int), 0)) (G ((b + q : Nat) : Int))) : Rl s b (pair f g x) (pairP y G) := by
  unfold pair pairP
  by_cases hc : y.2.2 = 0
  · obtain ⟨q, e1, e2, e3, e4⟩ := h.1 hc
    obtain ⟨g1, g2⟩ := hg q e3 hc
    rw [PK.thn_ok hc, e1, e4, e2]
    refine ⟨fun h0 => ?_, g2⟩
    obtain ⟨q', a1, a2, a3, a4⟩ := g1 h0
    exact ⟨q', a1, a2, a3, by rw [a4]⟩
  · rw [PK.thn_bad hc]
    exact ⟨fun h0 => absurd h0 hc, fun _ => (hk (f x).1 (by rw [h.2 hc]; exact hc)).trans (h.2 hc)⟩
theorem rl_chk {α : Type} (c : α → Int) {x : (Int × Int) × α} {y : α × Int × Int} (h : Rl s b x y) : Rl s b (chk c x) (chkP c y) := by
  by_cases hc : y.2.2 = 0
  · obtain ⟨q, e1, e2, e3, e4⟩ := h.1 hc
    unfold chk chkP
    rw [PK.thn_ok hc, e4, e1]
    by_cases hv : c y.1 = 0
    · rw [if_neg (by simp [hv])]
      exact ⟨fun _ => ⟨q, rfl, e2, e3, rfl⟩, fun h0 => absurd hv h0⟩
    · rw [if_pos hv]
      exact ⟨fun h0 => absurd h0 hv, fun _ => fl_new rfl _⟩
  · have e := chk_keeps c x (by rw [h.2 hc]; exact hc)
    unfold chkP
    rw [PK.thn_bad hc]
    exact ⟨fun h0 => absurd h0 hc, fun _ => e.trans (h.2 hc)⟩
theorem rl_map {α β : Type} (f : α → β) {x : (Int × Int) × α} {y : α × Int × Int} (h : Rl s b x y) : Rl s b (x.1, f x.2) (f y.1, y.2) := by
  refine ⟨fun h0 => ?_, h.2⟩
  obtain ⟨q, e1, e2, e3, e4⟩ := h.1 h0
  exact ⟨q, e1, e2, e3, by show f x.2 = f y.1; rw [e4]⟩
end

-- A filter with its options.
def subV (f : ByteArray) (n : Int) : Sb := ⟨f, n % 4, n / 4 % 2 == 1, n / 8 % 2 == 1, n / 16 % 4⟩
def subC1 (n : Int) : Int := if n % 4 = 3 ∨ 64 ≤ n then 129 else 0
def subC2 (n : Int) : Int := if n / 16 % 4 = 3 then 130 else 0
def sub (U : ByteArray) (x : Int × Int) : (Int × Int) × Sb :=
  ((chk (fun y => subC2 y.2) (chk (fun y => subC1 y.2) (pair (rT U) (rN U 1) x))).1, subV (chk (fun y => subC2 y.2) (chk (fun y => subC1 y.2) (pair (rT U) (rN U 1) x))).2.1 (chk (fun y => subC2 y.2) (chk (fun y => subC1 y.2) (pair (rT U) (rN U 1) x))).2.2)
theorem sub_kps (U : ByteArray) : Kps (sub U) := fun x h => by
  have e1 := pair_kps (rT_kps U) (rN_kps U 1) x h
  have e2 := chk_keeps (fun y : ByteArray × Int => subC1 y.2) (pair (rT U) (rN U 1) x) (by rw [e1]; exact h)
  have e3 := chk_keeps (fun y : ByteArray × Int => subC2 y.2) (chk (fun y => subC1 y.2) (pair (rT U) (rN U 1) x)) (by rw [e2, e1]; exact h)
  exact e3.trans (e2.trans e1)
theorem sub_facts (k : Fin 256) : bits .and .i64 ((k.val : Nat) : Int) 3 = ((k.val : Nat) : Int) % 4 ∧ (bits .and .i64 ((k.val : Nat) : Int) 4 != 0) = (((k.val : Nat) : Int) / 4 % 2 == 1) ∧ (bits .and .i64 ((k.val : Nat) : Int) 8 != 0) = (((k.val : Nat) : Int) / 8 % 2 == 1) ∧
    bits .and .i64 (((k.val : Nat) : Int) / 16) 3 = ((k.val : Nat) : Int) / 16 % 4 ∧ PK.subC ((k.val : Nat) : Int) = thn (subC1 ((k.val : Nat) : Int)) (subC2 ((k.val : Nat) : Int)) := by
  revert k; decide +kernel
theorem sub_same {n : Int} (h0 : 0 ≤ n) (h1 : n ≤ 255) (f : ByteArray) : PK.subOf f n = subV f n ∧ PK.subC n = thn (subC1 n) (subC2 n) := by
  obtain ⟨k, rfl⟩ := Int.eq_ofNat_of_zero_le h0
  obtain ⟨a, b, c, d, e⟩ := sub_facts ⟨k, by omega⟩
  refine ⟨?_, e⟩
  unfold PK.subOf subV
  simp only at a b c d
  rw [a, b, c, d]

/-- All that is left, one by one. -/
def ls {α : Type} (rd : Int × Int → (Int × Int) × α) (sz : Nat) : Nat → Int × Int → List α → (Int × Int) × List α
  | 0, x, out => (fl x 149, out)
  | u + 1, x, out => if x.2 = 0 ∧ x.1 < (sz : Int) then (if 64 ≤ out.length then (fl x 149, out) else ls rd sz u (rd x).1 (out ++ [(rd x).2])) else (x, out)
theorem ls_kps {α : Type} (rd : Int × Int → (Int × Int) × α) (sz u : Nat) (out : List α) : Kps (fun x => ls rd sz u x out) := fun x h => by
  cases u with
  | zero => exact fl_kps h _
  | succ u => show (ls rd sz (u + 1) x out).1.2 = _; unfold ls; rw [if_neg (fun e => h e.1)]
def lsE {α : Type} (rd : Int × Int → (Int × Int) × α) (sz : Nat) (x : Int × Int) : (Int × Int) × List α := ls rd sz 66 (if x.2 = 0 ∧ (sz : Int) ≤ x.1 then fl x 130 else x) []
theorem lsE_kps {α : Type} (rd : Int × Int → (Int × Int) × α) (sz : Nat) : Kps (lsE rd sz) := fun x h => by
  unfold lsE
  rw [if_neg (fun e => h e.1)]
  exact ls_kps rd sz 66 [] x h

section
variable {s : ByteArray} {b : Nat}
theorem rl_sub (hb : b ≤ s.size) (q : Nat) (hq : b + q ≤ s.size) : Rl s b (sub (s.extract b s.size) ((q : Int), 0)) (rdSub s ((b + q : Nat) : Int)) := by
  have h := rl_map (fun y : ByteArray × Int => subV y.1 y.2) (rl_chk (fun y : ByteArray × Int => subC2 y.2) (rl_chk (fun y : ByteArray × Int => subC1 y.2)
    (rl_pair (rN_kps _ 1) (G := fun a => rdN s a 1) (rl_T hb q hq) (fun q hq _ => rl_N hb q hq (.inl rfl)))))
  unfold sub
  have e : (rdSub s ((b + q : Nat) : Int)) = ((fun y : ByteArray × Int => subV y.1 y.2) (chkP (fun y : ByteArray × Int => subC2 y.2) (chkP (fun y : ByteArray × Int => subC1 y.2) (pairP (rdT s ((b + q : Nat) : Int)) (fun a => rdN s a 1)))).1, (chkP (fun y : ByteArray × Int => subC2 y.2) (chkP (fun y : ByteArray × Int => subC1 y.2) (pairP (rdT s ((b + q : Nat) : Int)) (fun a => rdN s a 1)))).2) := by
    have hr := PK.rd_nn s (TX.getT s ((b + q : Nat) : Int)).2.1 1
    have hr1 := PK.rd_1le s (TX.getT s ((b + q : Nat) : Int)).2.1
    obtain ⟨f1, f2⟩ := sub_same hr.1 hr1 (TX.getT s ((b + q : Nat) : Int)).1
    unfold rdSub chkP pairP
    dsimp only
    rw [thn_thn, thn_thn, f1, f2]
    rfl
  rw [e]
  exact h
theorem rl_ls {α : Type} {rd : Int × Int → (Int × Int) × α} {rd' : Int → α × Int × Int} (hr : ∀ q : Nat, b + q ≤ s.size → Rl s b (rd ((q : Int), 0)) (rd' ((b + q : Nat) : Int))) :
    ∀ (u q : Nat) (out : List α), b + q ≤ s.size → out.length ≤ 64 → (out ≠ [] ∨ b + q < s.size) → Rl s b (ls rd (s.extract b s.size).size u ((q : Int), 0) out) (lst rd' s.size u ((b + q : Nat) : Int) out) := by
  intro u
  induction u with
  | zero => intro q out _ _ _; exact ⟨fun h => absurd (show (149 : Int) = 0 from h) (by decide), fun _ => rfl⟩
  | succ u ih =>
    intro q out hq hl ho
    have hz := size_part s b
    unfold ls lst
    by_cases he : b + q = s.size
    · rw [if_neg (by rw [hz]; simp; omega), if_pos (by exact_mod_cast he)]
      have hne := ho.resolve_right (by omega)
      rw [if_neg hne]
      exact ⟨fun _ => ⟨q, rfl, rfl, hq, rfl⟩, fun h => absurd rfl h⟩
    · rw [if_pos ⟨rfl, by rw [hz]; show (q : Int) < _; omega⟩, if_neg (show ¬ (((b + q : Nat) : Int) = (s.size : Int)) from by exact_mod_cast he)]
      by_cases h4 : out.length = 64
      · rw [if_pos (by omega), if_pos h4]
        exact ⟨fun h => absurd (show (149 : Int) = 0 from h) (by decide), fun _ => rfl⟩
      · rw [if_neg (by omega), if_neg h4]
        obtain ⟨r1, r2⟩ := hr q hq
        by_cases hc : (rd' ((b + q : Nat) : Int)).2.2 = 0
        · obtain ⟨q', e1, e2, e3, e4⟩ := r1 hc
          rw [if_neg (show ¬ ((rd' ((b + q : Nat) : Int)).2.2 ≠ 0) from fun h => h hc), e1, e2, e4]
          exact ih q' _ e3 (by rw [List.length_append]; exact Nat.lt_of_le_of_ne hl h4) (.inl (by simp))
        · rw [if_pos hc]
          exact ⟨fun h => absurd h hc, fun _ => (ls_kps rd _ u _ _ (by rw [r2 hc]; exact hc)).trans (r2 hc)⟩
theorem rl_lsE {α : Type} {rd : Int × Int → (Int × Int) × α} {rd' : Int → α × Int × Int} (hr : ∀ q : Nat, b + q ≤ s.size → Rl s b (rd ((q : Int), 0)) (rd' ((b + q : Nat) : Int))) (q : Nat) (hq : b + q ≤ s.size) :
    Rl s b (lsE rd (s.extract b s.size).size ((q : Int), 0)) (lst rd' s.size 66 ((b + q : Nat) : Int) []) := by
  have hz := size_part s b
  unfold lsE
  by_cases he : b + q = s.size
  · rw [if_pos ⟨rfl, by rw [hz]; show _ ≤ (q : Int); omega⟩]
    unfold lst
    rw [if_pos (by exact_mod_cast he), if_pos rfl]
    exact ⟨fun h => absurd (show (130 : Int) = 0 from h) (by decide), fun _ => (ls_kps rd _ 66 [] (fl ((q : Int), 0) 130) (by rw [fl_new rfl]; decide)).trans (fl_new rfl _)⟩
  · rw [if_neg (fun h => by have := h.2; rw [hz] at this; change _ ≤ (q : Int) at this; omega)]
    exact rl_ls hr 66 q [] hq (by simp) (.inr (by omega))
end

-- Endings that may be left out.
def end2 (U : ByteArray) (P : Pk) (x : Int × Int) : (Int × Int) × Pk := if x.2 = 0 ∧ x.1 < (U.size : Int) then ((rP U P.kind x).1, { P with props := (rP U P.kind x).2 }) else (x, P)
def end1 (U : ByteArray) (P : Pk) (x : Int × Int) : (Int × Int) × Pk := if x.2 = 0 ∧ x.1 < (U.size : Int) then end2 U { P with code := (rN U 1 x).2 } (rN U 1 x).1 else end2 U P x
theorem end2_kps (U : ByteArray) (P : Pk) : Kps (end2 U P) := fun x h => by unfold end2; rw [if_neg (fun e => h e.1)]
theorem end1_kps (U : ByteArray) (P : Pk) : Kps (end1 U P) := fun x h => by unfold end1; rw [if_neg (fun e => h e.1)]; exact end2_kps U P x h
-- What has lists.
def hd (U : ByteArray) (k : Int) : Int × Int → (Int × Int) × (Int × List Pr) := pair (rI U) (rP U k)
theorem hd_kps (U : ByteArray) (k : Int) : Kps (hd U k) := pair_kps (rI_kps U) (rP_kps U k)
def lists1 (U : ByteArray) (P : Pk) (h : Int × List Pr) (x : Int × Int) : (Int × Int) × Pk :=
  if P.kind = 8 then ((lsE (sub U) U.size x).1, { P with id := h.1, props := h.2, subs := (lsE (sub U) U.size x).2 })
  else if P.kind = 10 then ((lsE (rT U) U.size x).1, { P with id := h.1, props := h.2, filters := (lsE (rT U) U.size x).2 })
  else ((lsE (rN U 1) U.size x).1, { P with id := h.1, props := h.2, codes := (lsE (rN U 1) U.size x).2 })
def lists (U : ByteArray) (P : Pk) (x : Int × Int) : (Int × Int) × Pk := lists1 U P (hd U P.kind x).2 (hd U P.kind x).1
theorem lists1_kps (U : ByteArray) (P : Pk) (h : Int × List Pr) : Kps (lists1 U P h) := fun x e => by
  unfold lists1
  split
  · exact lsE_kps _ _ x e
  · split
    · exact lsE_kps _ _ x e
    · exact lsE_kps _ _ x e
-- A Connack, a Publish.
def ack3 (U : ByteArray) (P : Pk) (v : Bool) (c : Int) (x : Int × Int) : (Int × Int) × Pk := ((rP U 2 x).1, { P with session := v, code := c, props := (rP U 2 x).2 })
def ack2 (U : ByteArray) (P : Pk) (v : Bool) (x : Int × Int) : (Int × Int) × Pk := ack3 U P v (rN U 1 x).2 (rN U 1 x).1
def ses (U : ByteArray) (x : Int × Int) : (Int × Int) × Int := chk (fun n => if 1 < n then 129 else 0) (rN U 1 x)
def ack (U : ByteArray) (P : Pk) (x : Int × Int) : (Int × Int) × Pk := ack2 U P ((ses U x).2 == 1) (ses U x).1
def pubI (U : ByteArray) (q i : Int) (x : Int × Int) : (Int × Int) × Int := if 0 < q then rI U x else (x, i)
def pub3 (U : ByteArray) (q i : Int) : Int × Int → (Int × Int) × (ByteArray × (Int × List Pr)) := pair (rT U) (pair (pubI U q i) (rP U 3))
def pub (U : ByteArray) (P : Pk) (x : Int × Int) : (Int × Int) × Pk :=
  (((U.size : Int), (pub3 U P.qos P.id x).1.2), { P with topic := (pub3 U P.qos P.id x).2.1, id := (pub3 U P.qos P.id x).2.2.1, props := (pub3 U P.qos P.id x).2.2.2, pay := U.extract (pub3 U P.qos P.id x).1.1.toNat U.size })
theorem pubI_kps (U : ByteArray) (q i : Int) : Kps (pubI U q i) := fun x h => by
  unfold pubI; split
  · exact rI_kps U x h
  · rfl
/-- What follows the length. -/
def body (k : Int) (U : ByteArray) (P : Pk) (x : Int × Int) : (Int × Int) × Pk :=
  if k = 1 then conn U P x else if k = 2 then ack U P x else if k = 3 then pub U P x
  else if k = 4 ∨ k = 5 ∨ k = 6 ∨ k = 7 then end1 U { P with id := (rI U x).2 } (rI U x).1
  else if k = 14 ∨ k = 15 then end1 U P x
  else if k = 8 ∨ k = 9 ∨ k = 10 ∨ k = 11 then lists U P x
  else (x, P)

section
variable {s : ByteArray} {b : Nat}
theorem rl_end2 (hb : b ≤ s.size) (q : Nat) (hq : b + q ≤ s.size) (P : Pk) (h : ¬ b + q = s.size) : Rl s b (end2 (s.extract b s.size) P ((q : Int), 0)) ({ P with props := (rdPr s ((b + q : Nat) : Int) P.kind).1 }, (rdPr s ((b + q : Nat) : Int) P.kind).2) := by
  have hz := size_part s b
  unfold end2
  rw [if_pos ⟨rfl, by rw [hz]; show (q : Int) < _; omega⟩]
  exact rl_map (fun l => { P with props := l }) (rl_P hb q hq P.kind)
theorem rl_end2e (q : Nat) (P : Pk) (hp : P.props = []) (h : b + q = s.size) : Rl s b (end2 (s.extract b s.size) P ((q : Int), 0)) ({ P with props := [] }, ((b + q : Nat) : Int), 0) := by
  have hz := size_part s b
  unfold end2
  rw [if_neg (fun e => by have := e.2; rw [hz] at this; change (q : Int) < _ at this; omega)]
  exact ⟨fun _ => ⟨q, rfl, rfl, by omega, by rw [← hp]⟩, fun h => absurd rfl h⟩
theorem rl_end (hb : b ≤ s.size) (q : Nat) (hq : b + q ≤ s.size) (P : Pk) (hp : P.props = []) (h0 : P.code = 0) : Rl s b (end1 (s.extract b s.size) P ((q : Int), 0)) (PK.rdEndP s ((b + q : Nat) : Int) P.kind P) := by
  have hz := size_part s b
  unfold end1 PK.rdEndP PK.rdEnd
  by_cases he : b + q = s.size
  · rw [if_neg (fun e => by have := e.2; rw [hz] at this; change (q : Int) < _ at this; omega), if_pos (by exact_mod_cast he)]
    have := rl_end2e q P hp he
    rw [show ({ P with code := 0, props := [] } : Pk) = { P with props := [] } from by rw [← h0]]
    exact this
  · rw [if_pos ⟨rfl, by rw [hz]; show (q : Int) < _; omega⟩, if_neg (by exact_mod_cast he)]
    obtain ⟨r1, r2⟩ := rl_N hb q hq (wd := 1) (.inl rfl)
    by_cases hc : (rdC s ((b + q : Nat) : Int)).2.2 = 0
    · obtain ⟨q', e1, e2, e3, e4⟩ := r1 hc
      have e2' : (rdC s ((b + q : Nat) : Int)).2.1 = ((b + q' : Nat) : Int) := e2
      have e4' : (rN (s.extract b s.size) 1 ((q : Int), 0)).2 = (rdC s ((b + q : Nat) : Int)).1 := e4
      rw [if_neg (show ¬ ((rdC s ((b + q : Nat) : Int)).2.2 ≠ 0) from fun h => h hc), e1, e4', e2']
      by_cases he' : b + q' = s.size
      · rw [if_pos (by exact_mod_cast he')]
        exact rl_end2e q' { P with code := (rdC s ((b + q : Nat) : Int)).1 } hp he'
      · rw [if_neg (by exact_mod_cast he')]
        exact rl_end2 hb q' e3 { P with code := (rdC s ((b + q : Nat) : Int)).1 } he'
    · have r3 := r2 hc
      rw [if_pos hc]
      exact ⟨fun h => absurd h hc, fun _ => (end2_kps _ _ _ (by rw [r3]; exact hc)).trans r3⟩
theorem rl_hd (hb : b ≤ s.size) (q : Nat) (hq : b + q ≤ s.size) (k : Int) : Rl s b (hd (s.extract b s.size) k ((q : Int), 0)) (PK.rdHd s ((b + q : Nat) : Int) k) :=
  rl_pair (rP_kps _ k) (G := fun a => rdPr s a k) (rl_I hb q hq) fun q hq _ => rl_P hb q hq k
theorem rl_ack (hb : b ≤ s.size) (q : Nat) (hq : b + q ≤ s.size) (P : Pk) : Rl s b (ack (s.extract b s.size) P ((q : Int), 0)) (bnd P (PK.rdSes s ((b + q : Nat) : Int)) (fun v a => bnd P (rdC s a) (fun c a => bnd P (rdPr s a 2) (fun l a => ({ P with session := v, code := c, props := l }, a, 0))))) := by
  have h : Rl s b ((ses (s.extract b s.size) ((q : Int), 0)).1, ((ses (s.extract b s.size) ((q : Int), 0)).2 == 1)) (PK.rdSes s ((b + q : Nat) : Int)) := rl_map (fun n : Int => n == 1) (rl_chk (fun n : Int => if 1 < n then 129 else 0) (rl_N hb q hq (.inl rfl)))
  unfold ack
  refine rl_bnd h (F := fun v z => ack2 (s.extract b s.size) P v z) (fun v => kps_thn (rN_kps _ 1) (g := fun c => ack3 (s.extract b s.size) P v c) (fun c => rP_kps _ 2)) fun q hq _ _ => ?_
  refine rl_bnd (rl_N hb q hq (.inl rfl)) (F := fun c z => ack3 (s.extract b s.size) P _ c z) (fun c => rP_kps _ 2) fun q hq _ _ => ?_
  exact rl_bnd (rl_P hb q hq 2) (F := fun l z => (z, { P with session := _, code := _, props := l })) (fun _ _ _ => rfl) fun q hq _ _ => rl_ok q hq _
theorem rl_pubI (hb : b ≤ s.size) (q : Nat) (hq : b + q ≤ s.size) (k i : Int) : Rl s b (pubI (s.extract b s.size) k i ((q : Int), 0)) (PK.rdI s ((b + q : Nat) : Int) k i) := by
  unfold pubI PK.rdI
  split
  · exact rl_I hb q hq
  · exact ⟨fun _ => ⟨q, rfl, rfl, hq, rfl⟩, fun h => absurd rfl h⟩
theorem rl_pub (hb : b ≤ s.size) (q : Nat) (hq : b + q ≤ s.size) (P : Pk) : Rl s b (pub (s.extract b s.size) P ((q : Int), 0)) ({ P with topic := (PK.rdPub s ((b + q : Nat) : Int) 3 P.qos P.id).1.1, id := (PK.rdPub s ((b + q : Nat) : Int) 3 P.qos P.id).1.2.1, props := (PK.rdPub s ((b + q : Nat) : Int) 3 P.qos P.id).1.2.2.1, pay := (PK.rdPub s ((b + q : Nat) : Int) 3 P.qos P.id).1.2.2.2 }, (PK.rdPub s ((b + q : Nat) : Int) 3 P.qos P.id).2.1, (PK.rdPub s ((b + q : Nat) : Int) 3 P.qos P.id).2.2) := by
  have hz := size_part s b
  have h : Rl s b (pub3 (s.extract b s.size) P.qos P.id ((q : Int), 0)) (pairP (rdT s ((b + q : Nat) : Int)) (fun a => pairP (PK.rdI s a P.qos P.id) (fun a => rdPr s a 3))) :=
    rl_pair (pair_kps (pubI_kps _ _ _) (rP_kps _ 3)) (rl_T hb q hq) fun q hq _ => rl_pair (rP_kps _ 3) (rl_pubI hb q hq _ _) fun q hq _ => rl_P hb q hq 3
  unfold pub PK.rdPub
  refine ⟨fun h0 => ?_, fun h0 => h.2 h0⟩
  obtain ⟨q', e1, e2, e3, e4⟩ := h.1 h0
  have e2' : (rdPr s (PK.rdI s (rdT s ((b + q : Nat) : Int)).2.1 P.qos P.id).2.1 3).2.1 = ((b + q' : Nat) : Int) := e2
  refine ⟨(s.extract b s.size).size, by rw [e1], ?_, by omega, ?_⟩
  · show (s.size : Int) = _
    rw [hz]; omega
  · dsimp only
    rw [e1, e4, e2']
    have ex : (s.extract b s.size).extract ((q' : Int)).toNat (s.extract b s.size).size = s.extract (((b + q' : Nat) : Int)).toNat s.size := by
      rw [ByteArray.extract_extract, hz]
      congr 1 <;> omega
    dsimp only at ex ⊢
    rw [ex]
    rfl
theorem rl_lists {α : Type} (hb : b ≤ s.size) (q : Nat) (hq : b + q ≤ s.size) (P : Pk) (k : Int) {rd : Int × Int → (Int × Int) × α} {rd' : Int → α × Int × Int} (hr : ∀ q : Nat, b + q ≤ s.size → Rl s b (rd ((q : Int), 0)) (rd' ((b + q : Nat) : Int)))
    (f : Int × List Pr → List α → Pk) : Rl s b ((lsE rd (s.extract b s.size).size (hd (s.extract b s.size) k ((q : Int), 0)).1).1, f (hd (s.extract b s.size) k ((q : Int), 0)).2 (lsE rd (s.extract b s.size).size (hd (s.extract b s.size) k ((q : Int), 0)).1).2)
      (bnd P (PK.rdHd s ((b + q : Nat) : Int) k) (fun h a => bnd P (lst rd' s.size 66 a []) (fun l a => (f h l, a, 0)))) := by
  refine rl_bnd (rl_hd hb q hq k) (F := fun v z => ((lsE rd (s.extract b s.size).size z).1, f v (lsE rd (s.extract b s.size).size z).2)) (fun v z h => lsE_kps rd _ z h) fun q hq _ _ => ?_
  exact rl_bnd (rl_lsE hr q hq) (F := fun l z => (z, f _ l)) (fun _ _ _ => rfl) fun q hq _ _ => rl_ok q hq _
theorem rl_body (hb : b ≤ s.size) (q : Nat) (hq : b + q ≤ s.size) (P : Pk) (k : Int) (hk : P.kind = k) (hp : P.props = []) (h0 : P.code = 0) : Rl s b (body k (s.extract b s.size) P ((q : Int), 0)) (PK.partsK k s ((b + q : Nat) : Int) P) := by
  unfold body PK.partsK
  by_cases h1 : k = 1
  · rw [if_pos h1, if_pos h1]; exact rl_con hb q hq P (hk.trans h1)
  rw [if_neg h1, if_neg h1]
  by_cases h2 : k = 2
  · rw [if_pos h2, if_pos h2]; subst h2; exact rl_ack hb q hq P
  rw [if_neg h2, if_neg h2]
  by_cases h3 : k = 3
  · rw [if_pos h3, if_pos h3]; subst h3; exact rl_pub hb q hq P
  rw [if_neg h3, if_neg h3]
  by_cases h8 : k = 8
  · rw [if_pos h8, if_neg (by omega), if_neg (by omega), if_pos (by omega)]
    subst hk
    unfold lists lists1
    rw [if_pos h8]
    exact rl_lists hb q hq P P.kind (fun q hq => rl_sub hb q hq) (fun h l => { P with id := h.1, props := h.2, subs := l })
  rw [if_neg h8]
  by_cases h10 : k = 10
  · rw [if_pos h10, if_neg (by omega), if_neg (by omega), if_pos (by omega)]
    subst hk
    unfold lists lists1
    rw [if_neg h8, if_pos h10]
    exact rl_lists hb q hq P P.kind (fun q hq => rl_T hb q hq) (fun h l => { P with id := h.1, props := h.2, filters := l })
  rw [if_neg h10]
  by_cases h9 : k = 9 ∨ k = 11
  · rw [if_pos h9, if_neg (by omega), if_neg (by omega), if_pos (by omega)]
    subst hk
    unfold lists lists1
    rw [if_neg h8, if_neg h10]
    exact rl_lists hb q hq P P.kind (rd' := rdC s) (fun q hq => rl_N hb q hq (.inl rfl)) (fun h l => { P with id := h.1, props := h.2, codes := l })
  rw [if_neg h9]
  by_cases h4 : k = 4 ∨ k = 5 ∨ k = 6 ∨ k = 7
  · rw [if_pos h4, if_pos h4]
    subst hk
    exact rl_bnd (rl_I hb q hq) (F := fun i z => end1 (s.extract b s.size) { P with id := i } z) (fun _ => end1_kps _ _) fun q hq _ _ => rl_end hb q hq { P with id := _ } hp h0
  rw [if_neg h4, if_neg h4]
  by_cases h14 : k = 14 ∨ k = 15
  · rw [if_pos h14, if_pos h14]
    subst hk
    exact rl_end hb q hq P hp h0
  rw [if_neg h14, if_neg h14, if_neg (by omega)]
  exact rl_ok q hq P
end
end RG
end Go.Proofs.YtmldnaadjhnfcaaGreatDoor
namespace Go.Proofs.YtmldnaadjhnfcaaGreatDoor
namespace RG
open PK (thn)

/-- What the document takes from a first byte. -/
def begP (n : Int) : Pk := if n / 16 = 3 then PK.barePk 3 (n % 16 / 8 % 2 == 1) (n % 16 / 1 % 2 == 1) (n % 16 / 2 % 4) else PK.barePk (n / 16) false false 0
def begO (n : Int) : Bool := if n / 16 = 0 then false else if n / 16 = 3 then !(n % 16 / 2 % 4 == 3 || (n % 16 / 8 % 2 == 1 && n % 16 / 2 % 4 == 0)) else n % 16 == PK.flagsN (PK.barePk (n / 16) false false 0)
/-- What stands behind the length. -/
def rest (s : ByteArray) : ByteArray := s.extract (VP.get s 1).2.1.toNat s.size
def whole (U : ByteArray) (P : Pk) : Pk × Int :=
  if (body P.kind U P (0, 0)).1.2 ≠ 0 then (PK.zeroPk, (body P.kind U P (0, 0)).1.2) else if (body P.kind U P (0, 0)).1.1 < (U.size : Int) then (PK.zeroPk, 129) else ((body P.kind U P (0, 0)).2, 0)
def get (s : ByteArray) : Pk × Int :=
  if s.size = 0 then (PK.zeroPk, 242) else if begO (PK.b0 s) = false then (PK.zeroPk, 129) else if PK.hdC s ≠ 0 then (PK.zeroPk, PK.hdC s) else whole (rest s) (begP (PK.b0 s))

theorem beg_facts (k : Fin 256) : (((k.val : Nat) : Int) / 16 = 3 → (bits .and .i64 (((k.val : Nat) : Int) % 16) 8 != 0) = (((k.val : Nat) : Int) % 16 / 8 % 2 == 1) ∧ (bits .and .i64 (((k.val : Nat) : Int) % 16) 1 != 0) = (((k.val : Nat) : Int) % 16 / 1 % 2 == 1) ∧ bits .and .i64 (((k.val : Nat) : Int) % 16 / 2) 3 = ((k.val : Nat) : Int) % 16 / 2 % 4) := by
  revert k; decide +kernel
theorem beg_okf (k : Fin 256) : PK.begOk ((k.val : Nat) : Int) = begO ((k.val : Nat) : Int) := by
  revert k; decide +kernel
theorem b0_le (s : ByteArray) : 0 ≤ PK.b0 s ∧ PK.b0 s ≤ 255 := by
  unfold PK.b0
  split
  · rename_i h
    have := VP.byte_lt s 0 h
    omega
  · omega
theorem beg_same {n : Int} (h0 : 0 ≤ n) (h1 : n ≤ 255) : PK.begPk n = begP n ∧ PK.begOk n = begO n := by
  obtain ⟨k, rfl⟩ := Int.eq_ofNat_of_zero_le h0
  refine ⟨?_, beg_okf ⟨k, by omega⟩⟩
  have h := beg_facts ⟨k, by omega⟩
  unfold PK.begPk begP
  split
  · rename_i h3
    obtain ⟨a, b, c⟩ := h h3
    rw [a, b, c]
  · rfl
theorem begP_bare (n : Int) : (begP n).props = [] ∧ (begP n).code = 0 := by
  unfold begP; split <;> exact ⟨rfl, rfl⟩
theorem lt_no {f q z : Nat} (h : f + q = z) : ¬ (q : Int) < ((z - f : Nat) : Int) := by omega
theorem lt_yes {f q z : Nat} (h : f + q ≤ z) (hn : ¬ f + q = z) : (q : Int) < ((z - f : Nat) : Int) := by omega
theorem get_same (s : ByteArray) : get s = PK.getPk s := by
  obtain ⟨n0, n1⟩ := b0_le s
  obtain ⟨e1, e2⟩ := beg_same n0 n1
  unfold get PK.getPk
  rw [e1, e2]
  split
  · rfl
  split
  · rfl
  split
  · rfl
  rename_i hs ho hc
  have hc0 : PK.hdC s = 0 := Classical.byContradiction hc
  have hg : (VP.get s 1).2.2 = 0 := by
    refine Classical.byContradiction fun h => ?_
    unfold PK.hdC at hc0
    rw [if_neg h] at hc0
    exact h hc0
  obtain ⟨m, f, eg, hf⟩ := PR.get_at s 1 hg
  obtain ⟨p0, c0⟩ := begP_bare (PK.b0 s)
  unfold rest
  rw [eg]
  simp only [Int.toNat_natCast]
  generalize begP (PK.b0 s) = P at *
  have hz := size_part s f
  obtain ⟨r1, r2⟩ := rl_body hf 0 (by omega) P P.kind rfl p0 c0
  rw [show ((f + 0 : Nat) : Int) = (f : Int) from by simp] at r1 r2
  unfold whole PK.rdWhole
  change (_ → ∃ q : Nat, (body P.kind (s.extract f s.size) P (0, 0)).1 = _ ∧ _) at r1
  change (_ → (body P.kind (s.extract f s.size) P (0, 0)).1.2 = _) at r2
  by_cases h0 : (PK.partsK P.kind s (f : Int) P).2.2 = 0
  · obtain ⟨q, a1, a2, a3, a4⟩ := r1 h0
    have a4' : (body P.kind (s.extract f s.size) P (0, 0)).2 = (PK.partsK P.kind s (f : Int) P).1 := a4
    rw [PK.thn_ok h0, a1, a2, a4']
    rw [if_neg (by simp)]
    by_cases he : f + q = s.size
    · rw [if_neg (by rw [hz]; exact lt_no he), if_pos (show (((f + q : Nat) : Int)) = (s.size : Int) from by exact_mod_cast he), if_neg (by simp)]
    · rw [if_pos (by rw [hz]; exact lt_yes a3 he), if_neg (show ¬ (((f + q : Nat) : Int)) = (s.size : Int) from by exact_mod_cast he), if_pos (show (129 : Int) ≠ 0 by decide)]
  · have h9 := r2 h0
    rw [PK.thn_bad h0, h9, if_pos h0, if_pos h0]
end RG
end Go.Proofs.YtmldnaadjhnfcaaGreatDoor
namespace Go.Proofs.YtmldnaadjhnfcaaGreatDoor
open Go.RowKit
attribute [local go_sem ↓] Go.wp_at_zero Go.wp_at_succ

/-- What is read, how far, and a code, as the document's functions hand them on. -/
def iC (U : ByteArray) (x : Int × Int) : Array Value := #[.string U, .int .i64 x.1, .int .i64 x.2]
theorem iC_one (U : ByteArray) (x : Int × Int) : (iC U x).all (·.oneCell') = true := by simp [iC, Value.oneCell']
theorem i_info : (Tryz.prog.info? 83).map (·.size) = some 3 := by kernel_rfl
theorem wpl_load_i {ops : Array Oper} {rest : List Oper} {op : Oper} {a : Act} {w : World} {Q : Exit → Act → World → Prop} (hgd : op.guard = none) (x : Operand) (ho : op.op = .load 83 x)
    (n : Nat) (hx : a.eval x = .pointer (some ⟨n, 0, none⟩)) {U : ByteArray} {o : Int × Int} (hb : w.heap[n]? = some (.cells (iC U o) 83 (0, 0)))
    (h : wpList Tryz.prog ops Q rest (a.put op.dst (.agg (iC U o))) w) : wpList Tryz.prog ops Q (op :: rest) a w :=
  wpList_load_mid hgd 83 x ho n 0 hx (iC U o).toList _ (fun j v hv => by rw [Nat.zero_add, cell_heap hb, ← hv]; simp) Tryz.underlying83 rfl (by kernel_rfl) h
theorem load_i_var {w : World} {g : Nat} {U : ByteArray} {o : Int × Int} (h : w.heap[g]? = some (.cells (iC U o) 83 (0, 0))) :
    (loadVar 83 ⟨g, 0, none⟩).run Tryz.prog w = .ok (.agg (iC U o)) w :=
  run_loadVar_mid _ g 0 83 (iC U o).toList _ (fun j v hv => by rw [Nat.zero_add, cell_heap h, ← hv]; simp) Tryz.underlying83 rfl (by kernel_rfl)
/-- The two boxes of such a function: its argument's and its answer's. -/
structure IB (w : World) (U : ByteArray) (x : Int × Int) (V : ByteArray) (r : Int × Int) (W : World) : Prop where
  box : W.heap[w.heap.size]? = some (.cells (iC U x) 83 (0, 0))
  res : W.heap[w.heap.size + 1]? = some (.cells (iC V r) 83 (0, 0))
  below : Below w.heap.size w W
theorem IB.next {w W W' : World} {U V : ByteArray} {x r : Int × Int} (h : IB w U x V r W) (hb : Below W.heap.size W W') : IB w U x V r W' :=
  ⟨(hb.block _ (lt_heap h.box)).trans h.box, (hb.block _ (lt_heap h.res)).trans h.res, h.below.trans (hb.mono h.below.size)⟩
theorem IB.setO {w W : World} {U V : ByteArray} {x r : Int × Int} (h : IB w U x V r W) (U' : ByteArray) (x' : Int × Int) : IB w U' x' V r (W.setRow w.heap.size (iC U' x')) :=
  ⟨setRow_heap h.box, (setRow_other _ (by omega)).trans h.res, below_setRow h.below (Nat.le_refl _) _⟩
theorem IB.setR {w W : World} {U V : ByteArray} {x r : Int × Int} (h : IB w U x V r W) (V' : ByteArray) (r' : Int × Int) : IB w U x V' r' (W.setRow (w.heap.size + 1) (iC V' r')) :=
  ⟨(setRow_other _ (by omega)).trans h.box, setRow_heap h.res, below_setRow h.below (by omega) _⟩
theorem IB.setAt {w W : World} {U V : ByteArray} {x r : Int × Int} (h : IB w U x V r W) (a : Int) : IB w U (a, x.2) V r (W.setCell ⟨w.heap.size, 1, none⟩ (.int .i64 a)) :=
  ⟨set_block h.box rfl, (Below.heap_setCell _ _ _ _ (show w.heap.size + 1 ≠ w.heap.size by omega)).trans h.res, h.below.setCell (p := ⟨w.heap.size, 1, none⟩) (Nat.le_refl _) _⟩
theorem IB.setC {w W : World} {U V : ByteArray} {x r : Int × Int} (h : IB w U x V r W) (c : Int) : IB w U (x.1, c) V r (W.setCell ⟨w.heap.size, 2, none⟩ (.int .i64 c)) :=
  ⟨set_block h.box rfl, (Below.heap_setCell _ _ _ _ (show w.heap.size + 1 ≠ w.heap.size by omega)).trans h.res, h.below.setCell (p := ⟨w.heap.size, 2, none⟩) (Nat.le_refl _) _⟩
theorem IB.start (w : World) (U : ByteArray) (x : Int × Int) : IB w U x ⟨#[]⟩ (0, 0) ((w.alloc (.cells (iC U x) 83)).alloc (.cells (iC ⟨#[]⟩ (0, 0)) 83)) := by
  have sz : (w.alloc (.cells (iC U x) 83)).heap.size = w.heap.size + 1 := by simp
  refine ⟨(Below.heap_alloc _ _ _ (by omega)).trans (heap_alloc_new w _), by rw [← sz]; exact heap_alloc_new _ _, ((Below.refl _ _).alloc (Nat.le_refl _) _).alloc (by omega) _⟩
theorem IB.facts {w W : World} {U V : ByteArray} {x r : Int × Int} (h : IB w U x V r W) : (W.cell? ⟨w.heap.size, 0, none⟩ = some (.string U) ∧ W.cell? ⟨w.heap.size, 1, none⟩ = some (.int .i64 x.1) ∧ W.cell? ⟨w.heap.size, 2, none⟩ = some (.int .i64 x.2)) ∧ W.frozen? ⟨w.heap.size, 1, none⟩ = false ∧ W.frozen? ⟨w.heap.size, 2, none⟩ = false :=
  ⟨⟨(cell_heap (i := 0) h.box).trans rfl, (cell_heap (i := 1) h.box).trans rfl, (cell_heap (i := 2) h.box).trans rfl⟩, frozen_heap h.box, frozen_heap h.box⟩

set_option maxRecDepth 100000 in
set_option maxHeartbeats 1000000 in
theorem dfailed_any (U : ByteArray) (x : Int × Int) (c : Int) (w : World) :
    Calls Tryz.prog 55 #[.agg (iC U x), .int .i64 c] w fun e w' => e = .returned (.agg (iC U (RG.fl x c))) ∧ Below w.heap.size w w' := by
  obtain ⟨p, c0⟩ := x
  unfold RG.fl
  dsimp only
  by_cases h0 : c0 = 0
  · subst h0
    rw [if_pos rfl]
    go_enter Tryz.func55, Tryz.ntmps55
    go_upto_region 1 with fail
    change Code.wp _ _ _ _ ((w.alloc (.cells (iC U (p, 0)) 83)).alloc (.cells (iC ⟨#[]⟩ (0, 0)) 83))
    have H := IB.start w U (p, 0)
    generalize (w.alloc (.cells (iC U (p, 0)) 83)).alloc (.cells (iC ⟨#[]⟩ (0, 0)) 83) = W at *
    obtain ⟨⟨x0, x1, x2⟩, x3, x4⟩ := H.facts
    have HN := Lib.hid (H.setC c)
    have HR := Lib.hid ((H.setC c).setR U (p, c))
    clear H
    go_wp2_with (first
      | refine wpl_load_i (by rfl) (.tmp 2) (by rfl) w.heap.size (by rfl) HN.out.box ?_
      | refine wpList_store_row (by rfl) 83 (.tmp 4) (.tmp 10) (by rfl) (w.heap.size + 1) (iC U (p, c)) (by rfl) (by rfl) 83 (iC ⟨#[]⟩ (0, 0)) HN.out.res i_info rfl (iC_one _ _) ?_)
    refine bodyPost_ret (v := .agg (iC U (p, c))) ?_ rfl ⟨rfl, HR.out.below⟩
    have hl := load_i_var HR.out.res
    simp [results, Tryz.results55]
    exact hl
  · have h0' : (c0 == 0) = false := by rw [beq_eq_false_iff_ne]; exact h0
    rw [if_neg h0]
    go_enter Tryz.func55, Tryz.ntmps55
    go_upto_region 1 with fail
    change Code.wp _ _ _ _ ((w.alloc (.cells (iC U (p, c0)) 83)).alloc (.cells (iC ⟨#[]⟩ (0, 0)) 83))
    have H := IB.start w U (p, c0)
    generalize (w.alloc (.cells (iC U (p, c0)) 83)).alloc (.cells (iC ⟨#[]⟩ (0, 0)) 83) = W at *
    obtain ⟨⟨x0, x1, x2⟩, x3, x4⟩ := H.facts
    have HN := Lib.hid H
    have HR := Lib.hid (H.setR U (p, c0))
    clear H
    go_wp2_with (first
      | refine wpl_load_i (by rfl) (.tmp 2) (by rfl) w.heap.size (by rfl) HN.out.box ?_
      | refine wpList_store_row (by rfl) 83 (.tmp 4) (.tmp 10) (by rfl) (w.heap.size + 1) (iC U (p, c0)) (by rfl) (by rfl) 83 (iC ⟨#[]⟩ (0, 0)) HN.out.res i_info rfl (iC_one _ _) ?_)
    refine bodyPost_ret (v := .agg (iC U (p, c0))) ?_ rfl ⟨rfl, HR.out.below⟩
    have hl := load_i_var HR.out.res
    simp [results, Tryz.results55]
    exact hl

set_option maxRecDepth 100000 in
set_option maxHeartbeats 2000000 in
theorem dreadnum_any (U : ByteArray) (hU : U.size ≤ maxLen) (x : Int × Int) (wd : Int) (w : World) :
    Calls Tryz.prog 54 #[.agg (iC U x), .int .i64 wd] w fun e w' => e = .returned (.tuple #[.agg (iC U (RG.rN U wd x).1), .int .i64 (RG.rN U wd x).2]) ∧ Below w.heap.size w w' := by
  obtain ⟨p, c0⟩ := x
  have C1 := Lib.hid (refread_any U p wd hU)
  unfold RG.rN
  dsimp only
  by_cases h0 : c0 = 0
  · subst h0
    rw [if_neg (fun h => h rfl)]
    generalize VP.rd U p wd = Y at *
    obtain ⟨n, a, c⟩ := Y
    dsimp only at C1 ⊢
    by_cases hc : c = 0
    · subst hc
      rw [if_neg (fun h => h rfl)]
      go_enter Tryz.func54, Tryz.ntmps54
      go_upto_region 1 with fail
      change Code.wp _ _ _ _ ((w.alloc (.cells (iC U (p, 0)) 83)).alloc (.cells (iC ⟨#[]⟩ (0, 0)) 83))
      have H := IB.start w U (p, 0)
      generalize (w.alloc (.cells (iC U (p, 0)) 83)).alloc (.cells (iC ⟨#[]⟩ (0, 0)) 83) = W at *
      obtain ⟨⟨x0, x1, x2⟩, x3, x4⟩ := H.facts
      have HN := Lib.hid (H.setAt a)
      have HR := Lib.hid ((H.setAt a).setR U (a, 0))
      clear H
      go_wp2_with fail
      refine (C1.out _).mono ?_
      rintro e w' ⟨rfl, rfl⟩
      go_wp2_with (first
        | refine wpl_load_i (by rfl) (.tmp 2) (by rfl) w.heap.size (by rfl) HN.out.box ?_
        | refine wpList_store_row (by rfl) 83 (.tmp 4) (.tmp 30) (by rfl) (w.heap.size + 1) (iC U (a, 0)) (by rfl) (by rfl) 83 (iC ⟨#[]⟩ (0, 0)) HN.out.res i_info rfl (iC_one _ _) ?_)
      refine bodyPost_ret (v := .tuple #[.agg (iC U (a, 0)), .int .i64 n]) ?_ rfl ⟨rfl, HR.out.below⟩
      simp only [results, Tryz.results54]
      simp
      exact read_two (load_i_var HR.out.res)
    · have hc' : (c != 0) = true := by rw [bne_iff_ne]; exact hc
      rw [if_pos hc]
      have C2 := Lib.hid (dfailed_any U (p, 0) 129)
      generalize RG.fl (p, 0) 129 = x9 at *
      go_enter Tryz.func54, Tryz.ntmps54
      go_upto_region 1 with fail
      change Code.wp _ _ _ _ ((w.alloc (.cells (iC U (p, 0)) 83)).alloc (.cells (iC ⟨#[]⟩ (0, 0)) 83))
      have H := IB.start w U (p, 0)
      generalize (w.alloc (.cells (iC U (p, 0)) 83)).alloc (.cells (iC ⟨#[]⟩ (0, 0)) 83) = W at *
      obtain ⟨⟨x0, x1, x2⟩, x3, x4⟩ := H.facts
      have HN := Lib.hid H
      clear H
      go_wp2_with fail
      refine (C1.out _).mono ?_
      rintro e w' ⟨rfl, rfl⟩
      go_wp2_with (refine wpl_load_i (by rfl) (.tmp 2) (by rfl) w.heap.size (by rfl) HN.out.box ?_)
      refine (C2.out _).mono ?_
      rintro e w2 ⟨rfl, b2⟩
      have H2 := Lib.hid (HN.out.next b2)
      have H3 := Lib.hid ((HN.out.next b2).setO U x9)
      have HR := Lib.hid (((HN.out.next b2).setO U x9).setR U x9)
      clear HN b2 C1 C2 x0 x1 x2 x3 x4
      go_wp2_with (first
        | refine wpList_store_row (by rfl) 83 (.tmp 2) (.tmp 26) (by rfl) w.heap.size (iC U x9) (by rfl) (by rfl) 83 (iC U (p, 0)) H2.out.box i_info rfl (iC_one _ _) ?_
        | refine wpl_load_i (by rfl) (.tmp 2) (by rfl) w.heap.size (by rfl) H3.out.box ?_
        | refine wpList_store_row (by rfl) 83 (.tmp 4) (.tmp 27) (by rfl) (w.heap.size + 1) (iC U x9) (by rfl) (by rfl) 83 (iC ⟨#[]⟩ (0, 0)) H3.out.res i_info rfl (iC_one _ _) ?_)
      refine bodyPost_ret (v := .tuple #[.agg (iC U x9), .int .i64 0]) ?_ rfl ⟨rfl, HR.out.below⟩
      simp only [results, Tryz.results54]
      simp
      exact read_two (load_i_var HR.out.res)
  · have h0' : (c0 != 0) = true := by rw [bne_iff_ne]; exact h0
    rw [if_pos h0]
    go_enter Tryz.func54, Tryz.ntmps54
    go_upto_region 1 with fail
    change Code.wp _ _ _ _ ((w.alloc (.cells (iC U (p, c0)) 83)).alloc (.cells (iC ⟨#[]⟩ (0, 0)) 83))
    have H := IB.start w U (p, c0)
    generalize (w.alloc (.cells (iC U (p, c0)) 83)).alloc (.cells (iC ⟨#[]⟩ (0, 0)) 83) = W at *
    obtain ⟨⟨x0, x1, x2⟩, x3, x4⟩ := H.facts
    have HN := Lib.hid H
    have HR := Lib.hid (H.setR U (p, c0))
    clear H C1
    go_wp2_with (first
      | refine wpl_load_i (by rfl) (.tmp 2) (by rfl) w.heap.size (by rfl) HN.out.box ?_
      | refine wpList_store_row (by rfl) 83 (.tmp 4) (.tmp 12) (by rfl) (w.heap.size + 1) (iC U (p, c0)) (by rfl) (by rfl) 83 (iC ⟨#[]⟩ (0, 0)) HN.out.res i_info rfl (iC_one _ _) ?_)
    refine bodyPost_ret (v := .tuple #[.agg (iC U (p, c0)), .int .i64 0]) ?_ rfl ⟨rfl, HR.out.below⟩
    simp only [results, Tryz.results54]
    simp
    exact read_two (load_i_var HR.out.res)
set_option maxRecDepth 100000 in
set_option maxHeartbeats 2000000 in
theorem dreadtext_any (U : ByteArray) (hU : U.size ≤ 140737488351232) (x : Int × Int) (w : World) :
    Calls Tryz.prog 57 #[.agg (iC U x)] w fun e w' => e = .returned (.tuple #[.agg (iC U (RG.rT U x).1), .string (RG.rT U x).2]) ∧ Below w.heap.size w w' := by
  obtain ⟨p, c0⟩ := x
  have C1 := Lib.hid (reftget_any U p hU)
  unfold RG.rT
  dsimp only
  by_cases h0 : c0 = 0
  · subst h0
    rw [if_neg (fun h => h rfl)]
    generalize TX.getT U p = Y at *
    obtain ⟨n, a, c⟩ := Y
    dsimp only at C1 ⊢
    by_cases hc : c = 0
    · subst hc
      rw [if_neg (fun h => h rfl)]
      go_enter Tryz.func57, Tryz.ntmps57
      go_upto_region 1 with fail
      change Code.wp _ _ _ _ ((w.alloc (.cells (iC U (p, 0)) 83)).alloc (.cells (iC ⟨#[]⟩ (0, 0)) 83))
      have H := IB.start w U (p, 0)
      generalize (w.alloc (.cells (iC U (p, 0)) 83)).alloc (.cells (iC ⟨#[]⟩ (0, 0)) 83) = W at *
      obtain ⟨⟨x0, x1, x2⟩, x3, x4⟩ := H.facts
      have HH := Lib.hid H
      clear H
      go_wp2_with fail
      refine (C1.out _).mono ?_
      rintro e w1 ⟨rfl, b1⟩
      have H1 := HH.out.next b1
      clear x0 x1 x2 x3 x4 b1 C1 HH
      obtain ⟨⟨x0, x1, x2⟩, x3, x4⟩ := H1.facts
      have HN := Lib.hid (H1.setAt a)
      have HR := Lib.hid ((H1.setAt a).setR U (a, 0))
      clear H1
      go_wp2_with (first
        | refine wpl_load_i (by rfl) (.tmp 1) (by rfl) w.heap.size (by rfl) HN.out.box ?_
        | refine wpList_store_row (by rfl) 83 (.tmp 2) (.tmp 27) (by rfl) (w.heap.size + 1) (iC U (a, 0)) (by rfl) (by rfl) 83 (iC ⟨#[]⟩ (0, 0)) HN.out.res i_info rfl (iC_one _ _) ?_)
      refine bodyPost_ret (v := .tuple #[.agg (iC U (a, 0)), .string n]) ?_ rfl ⟨rfl, HR.out.below⟩
      simp only [results, Tryz.results57]
      simp
      exact read_two (load_i_var HR.out.res)
    · have hc' : (c != 0) = true := by rw [bne_iff_ne]; exact hc
      rw [if_pos hc]
      have C2 := Lib.hid (dfailed_any U (p, 0) 129)
      generalize RG.fl (p, 0) 129 = x9 at *
      go_enter Tryz.func57, Tryz.ntmps57
      go_upto_region 1 with fail
      change Code.wp _ _ _ _ ((w.alloc (.cells (iC U (p, 0)) 83)).alloc (.cells (iC ⟨#[]⟩ (0, 0)) 83))
      have H := IB.start w U (p, 0)
      generalize (w.alloc (.cells (iC U (p, 0)) 83)).alloc (.cells (iC ⟨#[]⟩ (0, 0)) 83) = W at *
      obtain ⟨⟨x0, x1, x2⟩, x3, x4⟩ := H.facts
      have HH := Lib.hid H
      clear H
      go_wp2_with fail
      refine (C1.out _).mono ?_
      rintro e w1 ⟨rfl, b1⟩
      have HN := Lib.hid (HH.out.next b1)
      clear x0 x1 x2 x3 x4 b1 C1 HH
      go_wp2_with (refine wpl_load_i (by rfl) (.tmp 1) (by rfl) w.heap.size (by rfl) HN.out.box ?_)
      refine (C2.out _).mono ?_
      rintro e w2 ⟨rfl, b2⟩
      have H2 := Lib.hid (HN.out.next b2)
      have H3 := Lib.hid ((HN.out.next b2).setO U x9)
      have HR := Lib.hid (((HN.out.next b2).setO U x9).setR U x9)
      clear HN b2 C2
      go_wp2_with (first
        | refine wpList_store_row (by rfl) 83 (.tmp 1) (.tmp 23) (by rfl) w.heap.size (iC U x9) (by rfl) (by rfl) 83 (iC U (p, 0)) H2.out.box i_info rfl (iC_one _ _) ?_
        | refine wpl_load_i (by rfl) (.tmp 1) (by rfl) w.heap.size (by rfl) H3.out.box ?_
        | refine wpList_store_row (by rfl) 83 (.tmp 2) (.tmp 24) (by rfl) (w.heap.size + 1) (iC U x9) (by rfl) (by rfl) 83 (iC ⟨#[]⟩ (0, 0)) H3.out.res i_info rfl (iC_one _ _) ?_)
      refine bodyPost_ret (v := .tuple #[.agg (iC U x9), .string ⟨#[]⟩]) ?_ rfl ⟨rfl, HR.out.below⟩
      simp only [results, Tryz.results57]
      simp
      exact read_two (load_i_var HR.out.res)
  · have h0' : (c0 != 0) = true := by rw [bne_iff_ne]; exact h0
    rw [if_pos h0]
    go_enter Tryz.func57, Tryz.ntmps57
    go_upto_region 1 with fail
    change Code.wp _ _ _ _ ((w.alloc (.cells (iC U (p, c0)) 83)).alloc (.cells (iC ⟨#[]⟩ (0, 0)) 83))
    have H := IB.start w U (p, c0)
    generalize (w.alloc (.cells (iC U (p, c0)) 83)).alloc (.cells (iC ⟨#[]⟩ (0, 0)) 83) = W at *
    obtain ⟨⟨x0, x1, x2⟩, x3, x4⟩ := H.facts
    have HN := Lib.hid H
    have HR := Lib.hid (H.setR U (p, c0))
    clear H C1
    go_wp2_with (first
      | refine wpl_load_i (by rfl) (.tmp 1) (by rfl) w.heap.size (by rfl) HN.out.box ?_
      | refine wpList_store_row (by rfl) 83 (.tmp 2) (.tmp 10) (by rfl) (w.heap.size + 1) (iC U (p, c0)) (by rfl) (by rfl) 83 (iC ⟨#[]⟩ (0, 0)) HN.out.res i_info rfl (iC_one _ _) ?_)
    refine bodyPost_ret (v := .tuple #[.agg (iC U (p, c0)), .string ⟨#[]⟩]) ?_ rfl ⟨rfl, HR.out.below⟩
    simp only [results, Tryz.results57]
    simp
    exact read_two (load_i_var HR.out.res)

set_option maxRecDepth 100000 in
set_option maxHeartbeats 2000000 in
theorem dreaddata_any (U : ByteArray) (hU : U.size ≤ 140737488351232) (x : Int × Int) (w : World) :
    Calls Tryz.prog 94 #[.agg (iC U x)] w fun e w' => e = .returned (.tuple #[.agg (iC U (RG.rD U x).1), .string (RG.rD U x).2]) ∧ Below w.heap.size w w' := by
  obtain ⟨p, c0⟩ := x
  have C1 := Lib.hid (refgetdata_any U p (by unfold maxLen; omega))
  unfold RG.rD
  dsimp only
  by_cases h0 : c0 = 0
  · subst h0
    rw [if_neg (fun h => h rfl)]
    generalize VP.dat U p = Y at *
    obtain ⟨n, a, c⟩ := Y
    dsimp only at C1 ⊢
    by_cases hc : c = 0
    · subst hc
      rw [if_neg (fun h => h rfl)]
      go_enter Tryz.func94, Tryz.ntmps94
      go_upto_region 1 with fail
      change Code.wp _ _ _ _ ((w.alloc (.cells (iC U (p, 0)) 83)).alloc (.cells (iC ⟨#[]⟩ (0, 0)) 83))
      have H := IB.start w U (p, 0)
      generalize (w.alloc (.cells (iC U (p, 0)) 83)).alloc (.cells (iC ⟨#[]⟩ (0, 0)) 83) = W at *
      obtain ⟨⟨x0, x1, x2⟩, x3, x4⟩ := H.facts
      have HH := Lib.hid H
      clear H
      go_wp2_with fail
      refine (C1.out _).mono ?_
      rintro e w1 ⟨rfl, b1⟩
      have H1 := HH.out.next b1
      clear x0 x1 x2 x3 x4 b1 C1 HH
      obtain ⟨⟨x0, x1, x2⟩, x3, x4⟩ := H1.facts
      have HN := Lib.hid (H1.setAt a)
      have HR := Lib.hid ((H1.setAt a).setR U (a, 0))
      clear H1
      go_wp2_with (first
        | refine wpl_load_i (by rfl) (.tmp 1) (by rfl) w.heap.size (by rfl) HN.out.box ?_
        | refine wpList_store_row (by rfl) 83 (.tmp 2) (.tmp 27) (by rfl) (w.heap.size + 1) (iC U (a, 0)) (by rfl) (by rfl) 83 (iC ⟨#[]⟩ (0, 0)) HN.out.res i_info rfl (iC_one _ _) ?_)
      refine bodyPost_ret (v := .tuple #[.agg (iC U (a, 0)), .string n]) ?_ rfl ⟨rfl, HR.out.below⟩
      simp only [results, Tryz.results94]
      simp
      exact read_two (load_i_var HR.out.res)
    · have hc' : (c != 0) = true := by rw [bne_iff_ne]; exact hc
      rw [if_pos hc]
      have C2 := Lib.hid (dfailed_any U (p, 0) 129)
      generalize RG.fl (p, 0) 129 = x9 at *
      go_enter Tryz.func94, Tryz.ntmps94
      go_upto_region 1 with fail
      change Code.wp _ _ _ _ ((w.alloc (.cells (iC U (p, 0)) 83)).alloc (.cells (iC ⟨#[]⟩ (0, 0)) 83))
      have H := IB.start w U (p, 0)
      generalize (w.alloc (.cells (iC U (p, 0)) 83)).alloc (.cells (iC ⟨#[]⟩ (0, 0)) 83) = W at *
      obtain ⟨⟨x0, x1, x2⟩, x3, x4⟩ := H.facts
      have HH := Lib.hid H
      clear H
      go_wp2_with fail
      refine (C1.out _).mono ?_
      rintro e w1 ⟨rfl, b1⟩
      have HN := Lib.hid (HH.out.next b1)
      clear x0 x1 x2 x3 x4 b1 C1 HH
      go_wp2_with (refine wpl_load_i (by rfl) (.tmp 1) (by rfl) w.heap.size (by rfl) HN.out.box ?_)
      refine (C2.out _).mono ?_
      rintro e w2 ⟨rfl, b2⟩
      have H2 := Lib.hid (HN.out.next b2)
      have H3 := Lib.hid ((HN.out.next b2).setO U x9)
      have HR := Lib.hid (((HN.out.next b2).setO U x9).setR U x9)
      clear HN b2 C2
      go_wp2_with (first
        | refine wpList_store_row (by rfl) 83 (.tmp 1) (.tmp 23) (by rfl) w.heap.size (iC U x9) (by rfl) (by rfl) 83 (iC U (p, 0)) H2.out.box i_info rfl (iC_one _ _) ?_
        | refine wpl_load_i (by rfl) (.tmp 1) (by rfl) w.heap.size (by rfl) H3.out.box ?_
        | refine wpList_store_row (by rfl) 83 (.tmp 2) (.tmp 24) (by rfl) (w.heap.size + 1) (iC U x9) (by rfl) (by rfl) 83 (iC ⟨#[]⟩ (0, 0)) H3.out.res i_info rfl (iC_one _ _) ?_)
      refine bodyPost_ret (v := .tuple #[.agg (iC U x9), .string ⟨#[]⟩]) ?_ rfl ⟨rfl, HR.out.below⟩
      simp only [results, Tryz.results94]
      simp
      exact read_two (load_i_var HR.out.res)
  · have h0' : (c0 != 0) = true := by rw [bne_iff_ne]; exact h0
    rw [if_pos h0]
    go_enter Tryz.func94, Tryz.ntmps94
    go_upto_region 1 with fail
    change Code.wp _ _ _ _ ((w.alloc (.cells (iC U (p, c0)) 83)).alloc (.cells (iC ⟨#[]⟩ (0, 0)) 83))
    have H := IB.start w U (p, c0)
    generalize (w.alloc (.cells (iC U (p, c0)) 83)).alloc (.cells (iC ⟨#[]⟩ (0, 0)) 83) = W at *
    obtain ⟨⟨x0, x1, x2⟩, x3, x4⟩ := H.facts
    have HN := Lib.hid H
    have HR := Lib.hid (H.setR U (p, c0))
    clear H C1
    go_wp2_with (first
      | refine wpl_load_i (by rfl) (.tmp 1) (by rfl) w.heap.size (by rfl) HN.out.box ?_
      | refine wpList_store_row (by rfl) 83 (.tmp 2) (.tmp 10) (by rfl) (w.heap.size + 1) (iC U (p, c0)) (by rfl) (by rfl) 83 (iC ⟨#[]⟩ (0, 0)) HN.out.res i_info rfl (iC_one _ _) ?_)
    refine bodyPost_ret (v := .tuple #[.agg (iC U (p, c0)), .string ⟨#[]⟩]) ?_ rfl ⟨rfl, HR.out.below⟩
    simp only [results, Tryz.results94]
    simp
    exact read_two (load_i_var HR.out.res)

set_option maxRecDepth 100000 in
set_option maxHeartbeats 2000000 in
theorem dreadid_any (U : ByteArray) (hU : U.size ≤ maxLen) (x : Int × Int) (w : World) :
    Calls Tryz.prog 58 #[.agg (iC U x)] w fun e w' => e = .returned (.tuple #[.agg (iC U (RG.rI U x).1), .int .i64 (RG.rI U x).2]) ∧ Below w.heap.size w w' := by
  have C1 := Lib.hid (dreadnum_any U hU x 2)
  unfold RG.rI
  generalize RG.rN U 2 x = Y at *
  obtain ⟨⟨p, c⟩, n⟩ := Y
  dsimp only at C1 ⊢
  by_cases h : c = 0 ∧ n = 0
  · obtain ⟨rfl, rfl⟩ := h
    rw [if_pos ⟨rfl, rfl⟩]
    have C2 := Lib.hid (dfailed_any U (p, 0) 130)
    generalize RG.fl (p, 0) 130 = x9 at *
    go_enter Tryz.func58, Tryz.ntmps58
    go_upto_region 1 with fail
    change Code.wp _ _ _ _ ((w.alloc (.cells (iC U x) 83)).alloc (.cells (iC ⟨#[]⟩ (0, 0)) 83))
    have H := Lib.hid (IB.start w U x)
    generalize (w.alloc (.cells (iC U x) 83)).alloc (.cells (iC ⟨#[]⟩ (0, 0)) 83) = W at *
    go_wp2_with (refine wpl_load_i (by rfl) (.tmp 1) (by rfl) w.heap.size (by rfl) H.out.box ?_)
    refine (C1.out _).mono ?_
    rintro e w1 ⟨rfl, b1⟩
    have H1 := Lib.hid (H.out.next b1)
    have H2 := Lib.hid ((H.out.next b1).setO U (p, 0))
    obtain ⟨⟨x0, x1, x2⟩, x3, x4⟩ := H2.out.facts
    clear H b1 C1
    go_wp2_with (first
      | refine wpList_store_row (by rfl) 83 (.tmp 1) (.tmp 8) (by rfl) w.heap.size (iC U (p, 0)) (by rfl) (by rfl) 83 (iC U x) H1.out.box i_info rfl (iC_one _ _) ?_
      | refine wpl_load_i (by rfl) (.tmp 1) (by rfl) w.heap.size (by rfl) H2.out.box ?_)
    refine (C2.out _).mono ?_
    rintro e w2 ⟨rfl, b2⟩
    have H3 := Lib.hid (H2.out.next b2)
    have H4 := Lib.hid ((H2.out.next b2).setO U x9)
    have HR := Lib.hid (((H2.out.next b2).setO U x9).setR U x9)
    clear H1 H2 b2 C2 x0 x1 x2 x3 x4
    go_wp2_with (first
      | refine wpList_store_row (by rfl) 83 (.tmp 1) (.tmp 18) (by rfl) w.heap.size (iC U x9) (by rfl) (by rfl) 83 (iC U (p, 0)) H3.out.box i_info rfl (iC_one _ _) ?_
      | refine wpl_load_i (by rfl) (.tmp 1) (by rfl) w.heap.size (by rfl) H4.out.box ?_
      | refine wpList_store_row (by rfl) 83 (.tmp 2) (.tmp 19) (by rfl) (w.heap.size + 1) (iC U x9) (by rfl) (by rfl) 83 (iC ⟨#[]⟩ (0, 0)) H4.out.res i_info rfl (iC_one _ _) ?_)
    refine bodyPost_ret (v := .tuple #[.agg (iC U x9), .int .i64 0]) ?_ rfl ⟨rfl, HR.out.below⟩
    simp only [results, Tryz.results58]
    simp
    exact read_two (load_i_var HR.out.res)
  · rw [if_neg h]
    by_cases hc : c = 0
    · subst hc
      have hn : (n == 0) = false := by rw [beq_eq_false_iff_ne]; exact fun e => h ⟨rfl, e⟩
      clear h
      go_enter Tryz.func58, Tryz.ntmps58
      go_upto_region 1 with fail
      change Code.wp _ _ _ _ ((w.alloc (.cells (iC U x) 83)).alloc (.cells (iC ⟨#[]⟩ (0, 0)) 83))
      have H := Lib.hid (IB.start w U x)
      generalize (w.alloc (.cells (iC U x) 83)).alloc (.cells (iC ⟨#[]⟩ (0, 0)) 83) = W at *
      go_wp2_with (refine wpl_load_i (by rfl) (.tmp 1) (by rfl) w.heap.size (by rfl) H.out.box ?_)
      refine (C1.out _).mono ?_
      rintro e w1 ⟨rfl, b1⟩
      have H1 := Lib.hid (H.out.next b1)
      have H2 := Lib.hid ((H.out.next b1).setO U (p, 0))
      have HR := Lib.hid (((H.out.next b1).setO U (p, 0)).setR U (p, 0))
      obtain ⟨⟨x0, x1, x2⟩, x3, x4⟩ := H2.out.facts
      clear H b1 C1
      go_wp2_with (first
        | refine wpList_store_row (by rfl) 83 (.tmp 1) (.tmp 8) (by rfl) w.heap.size (iC U (p, 0)) (by rfl) (by rfl) 83 (iC U x) H1.out.box i_info rfl (iC_one _ _) ?_
        | refine wpl_load_i (by rfl) (.tmp 1) (by rfl) w.heap.size (by rfl) H2.out.box ?_
        | refine wpList_store_row (by rfl) 83 (.tmp 2) (.tmp 19) (by rfl) (w.heap.size + 1) (iC U (p, 0)) (by rfl) (by rfl) 83 (iC ⟨#[]⟩ (0, 0)) H2.out.res i_info rfl (iC_one _ _) ?_)
      refine bodyPost_ret (v := .tuple #[.agg (iC U (p, 0)), .int .i64 n]) ?_ rfl ⟨rfl, HR.out.below⟩
      simp only [results, Tryz.results58]
      simp
      exact read_two (load_i_var HR.out.res)
    · have hc' : (c == 0) = false := by rw [beq_eq_false_iff_ne]; exact hc
      clear h
      go_enter Tryz.func58, Tryz.ntmps58
      go_upto_region 1 with fail
      change Code.wp _ _ _ _ ((w.alloc (.cells (iC U x) 83)).alloc (.cells (iC ⟨#[]⟩ (0, 0)) 83))
      have H := Lib.hid (IB.start w U x)
      generalize (w.alloc (.cells (iC U x) 83)).alloc (.cells (iC ⟨#[]⟩ (0, 0)) 83) = W at *
      go_wp2_with (refine wpl_load_i (by rfl) (.tmp 1) (by rfl) w.heap.size (by rfl) H.out.box ?_)
      refine (C1.out _).mono ?_
      rintro e w1 ⟨rfl, b1⟩
      have H1 := Lib.hid (H.out.next b1)
      have H2 := Lib.hid ((H.out.next b1).setO U (p, c))
      have HR := Lib.hid (((H.out.next b1).setO U (p, c)).setR U (p, c))
      obtain ⟨⟨x0, x1, x2⟩, x3, x4⟩ := H2.out.facts
      clear H b1 C1
      go_wp2_with (first
        | refine wpList_store_row (by rfl) 83 (.tmp 1) (.tmp 8) (by rfl) w.heap.size (iC U (p, c)) (by rfl) (by rfl) 83 (iC U x) H1.out.box i_info rfl (iC_one _ _) ?_
        | refine wpl_load_i (by rfl) (.tmp 1) (by rfl) w.heap.size (by rfl) H2.out.box ?_
        | refine wpList_store_row (by rfl) 83 (.tmp 2) (.tmp 19) (by rfl) (w.heap.size + 1) (iC U (p, c)) (by rfl) (by rfl) 83 (iC ⟨#[]⟩ (0, 0)) H2.out.res i_info rfl (iC_one _ _) ?_)
      refine bodyPost_ret (v := .tuple #[.agg (iC U (p, c)), .int .i64 n]) ?_ rfl ⟨rfl, HR.out.below⟩
      simp only [results, Tryz.results58]
      simp
      exact read_two (load_i_var HR.out.res)
set_option maxHeartbeats 400000 in
theorem disset_any (n b : Int) (h0 : 0 ≤ n) (h1 : n ≤ 255) (hb : 1 ≤ b) (hb1 : b ≤ 128) (w : World) :
    Calls Tryz.prog 24 #[.int .i64 n, .int .i64 b] w fun e w' => e = .returned (.bool (n / b % 2 == 1)) ∧ Below w.heap.size w w' := by
  have hd := Int.ediv_le_self b h0
  have hd0 : 0 ≤ n / b := Int.ediv_nonneg h0 (by omega)
  have hne : (b == 0) = false := by rw [beq_eq_false_iff_ne]; omega
  have ht : n.tdiv b = n / b := Int.tdiv_eq_ediv_of_nonneg h0
  go_enter Tryz.func24, Tryz.ntmps24
  go_wp2_with fail
  refine bodyPost_ret (v := .bool (n / b % 2 == 1)) ?_ rfl ⟨rfl, Below.refl _ _⟩
  simp [results, Tryz.results24]
end Go.Proofs.YtmldnaadjhnfcaaGreatDoor
namespace Go.Proofs.YtmldnaadjhnfcaaGreatDoor
open Go.RowKit

set_option maxHeartbeats 1000000 in
theorem twice_any (A : Option Addr) (cap : Nat) (l : List Pr) (k : Nat) (id : Int) (w : World) (hl : l.length ≤ 1000) (hk : k ≤ l.length) (h : Props w A l) :
    Calls Tryz.prog 117 #[.slice A l.length cap, .int .i64 k, .int .i64 id] w fun e w' => e = .returned (.bool (PR.dup (l.take k) id)) ∧ w = w' := by
  by_cases h38 : (id == 38) = true
  · have hid : id = 38 := by simpa using h38
    subst hid
    rw [dup_38]
    clear h
    go_enter Tryz.func117, Tryz.ntmps117
    go_wp2
    go_ret
    exact ⟨rfl, rfl⟩
  · have h38' : (id == 38) = false := by simpa using h38
    rw [dup_ix h38']
    have H := Lib.hid h
    have hkl : (l.take k).length = k := by simp; omega
    have Hkl := Lib.hid hkl
    clear h h38 hkl
    go_enter Tryz.func117, Tryz.ntmps117
    go_wp2
    go_loop [7] (fun i => ∃ j : Nat, i = .int .i64 j ∧ j ≤ k ∧ Hid (ix id j ((l.take k).drop j) = ix id 0 (l.take k))) (fun i => k - (intOf i).toNat)
    case atStart => exact ⟨0, rfl, by omega, Lib.hid rfl⟩
    case round =>
      obtain ⟨j, rfl, hj, hj1⟩ := hrel
      by_cases hlt : j < k
      · obtain ⟨p, hp⟩ : ∃ p, l[j]? = some p := ⟨l[j]'(by omega), List.getElem?_eq_getElem _⟩
        have hp2 : (l.take k)[j]? = some p := by rw [List.getElem?_take, if_pos hlt]; exact hp
        obtain ⟨g, o, rfl, hg, r0, r1, r2, r3⟩ := H.out j p hp
        have i0 : (0 : Int) ≤ (j : Int) := by omega
        have i1 : (j : Int) < (l.length : Int) := by omega
        have i2 : (j : Int) < (k : Int) := by omega
        by_cases he : (p.id == id) = true
        · have E1 : Hid (decide (0 ≤ ix id 0 (l.take k)) = true) := Lib.hid (by rw [← hj1.out, ix_yes hp2 he]; simp)
          clear hp hp2 r1 r2 r3
          go_wp2
          go_ret
          exact ⟨by rw [E1.out]; rfl, rfl⟩
        · have he' : (p.id == id) = false := by simpa using he
          have E1 := Lib.hid (ix_no hp2 he')
          clear hp hp2 he r1 r2 r3
          go_wp2
          go_round
          case rel => exact ⟨j + 1, by go_num, by omega, Lib.hid (by rw [← E1.out]; exact hj1.out)⟩
          case measure => simp [intOf]; omega
      · have hjk : j = k := by omega
        subst hjk
        have E1 : Hid (decide (0 ≤ ix id 0 (l.take j)) = false) := Lib.hid (by
          have h1 := hj1.out
          have h2 := ix_end id (l.take j)
          rw [Hkl.out] at h2
          rw [← h1, h2]; rfl)
        go_wp2
        go_ret
        exact ⟨by rw [E1.out]; rfl, rfl⟩

theorem zero_of {P : Prop} [Decidable P] (h : ¬ P) (a b : Int) : (if P then a else b) = b := if_neg h

end Go.Proofs.YtmldnaadjhnfcaaGreatDoor
namespace Go.Proofs.YtmldnaadjhnfcaaGreatDoor
open Go.RowKit

def RetR (w : World) (x : Pr × Int × Int) (e : Ending) (w' : World) : Prop :=
  e = .returned (.tuple #[.agg #[.int .i64 x.1.id, .int .i64 x.1.n, .string x.1.s, .string x.1.t], .int .i64 x.2.1, .bool (x.2.2 == 0)]) ∧ Below w.heap.size w w'
theorem RetR.mk {w w' : World} {x : Pr × Int × Int} {a b c d : Int} {s t : ByteArray} (h : x = (⟨a, b, s, t⟩, c, d)) (hb : Below w.heap.size w w') : RetR w x (.returned (.tuple #[.agg #[.int .i64 a, .int .i64 b, .string s, .string t], .int .i64 c, .bool (d == 0)])) w' := by
  subst h; exact ⟨rfl, hb⟩

set_option maxRecDepth 100000 in
set_option maxHeartbeats 8000000 in
theorem rread_any (s : ByteArray) (at_ id : Int) (hs : s.size ≤ 140737488351232) (h0 : PR.kd id ≠ 0) (w : World) :
    Calls Tryz.prog 118 #[.string s, .int .i64 at_, .agg #[.int .i64 id, .int .i64 0, .string ⟨#[]⟩, .string ⟨#[]⟩]] w (RetR w (PR.rdv s at_ id)) := by
  have hsm : s.size ≤ maxLen := by unfold maxLen; omega
  have CK := Lib.hid (rkind_any id)
  have hk := kd_parts _ (PR.kd_le id)
  have C4 := Lib.hid (fun W => refget_any s at_ hsm W)
  have C5 := Lib.hid (fun W => refgetdata_any s at_ hsm W)
  have C6 := Lib.hid (fun a W => reftget_any s a hs W)
  have C8 := Lib.hid (fun wk W => refread_any s at_ wk hsm W)
  have hv : PR.rdv s at_ id = PR.rdv s at_ id := rfl
  conv at hv => rhs; unfold PR.rdv
  have H0 : Hid (Below w.heap.size w ((w.alloc (.cells #[.int .i64 id, .int .i64 0, .string ⟨#[]⟩, .string ⟨#[]⟩] 134)).alloc (.cells #[.int .i64 0, .int .i64 0, .string ⟨#[]⟩, .string ⟨#[]⟩] 134))) := ((Below.refl w.heap.size w).alloc (Nat.le_refl _) _).alloc (by simp) _
  have h9 : Hid (((w.alloc (.cells #[.int .i64 id, .int .i64 0, .string ⟨#[]⟩, .string ⟨#[]⟩] 134)).alloc (.cells #[.int .i64 0, .int .i64 0, .string ⟨#[]⟩, .string ⟨#[]⟩] 134)).heap[w.heap.size]? = some (.cells #[.int .i64 id, .int .i64 0, .string ⟨#[]⟩, .string ⟨#[]⟩] 134 (0, 0))) := (Below.heap_alloc _ _ _ (by simp)).trans (heap_alloc_new w _)
  have h6 : Hid (((w.alloc (.cells #[.int .i64 id, .int .i64 0, .string ⟨#[]⟩, .string ⟨#[]⟩] 134)).alloc (.cells #[.int .i64 0, .int .i64 0, .string ⟨#[]⟩, .string ⟨#[]⟩] 134)).heap[w.heap.size + 1]? = some (.cells #[.int .i64 0, .int .i64 0, .string ⟨#[]⟩, .string ⟨#[]⟩] 134 (0, 0))) := by
    have := heap_alloc_new (w.alloc (.cells #[.int .i64 id, .int .i64 0, .string ⟨#[]⟩, .string ⟨#[]⟩] 134)) (.cells #[.int .i64 0, .int .i64 0, .string ⟨#[]⟩, .string ⟨#[]⟩] 134)
    rwa [show (w.alloc (.cells #[.int .i64 id, .int .i64 0, .string ⟨#[]⟩, .string ⟨#[]⟩] 134)).heap.size = w.heap.size + 1 by simp] at this
  have hsz : w.heap.size + 2 ≤ ((w.alloc (.cells #[.int .i64 id, .int .i64 0, .string ⟨#[]⟩, .string ⟨#[]⟩] 134)).alloc (.cells #[.int .i64 0, .int .i64 0, .string ⟨#[]⟩, .string ⟨#[]⟩] 134)).heap.size := by simp
  clear hsm
  generalize PR.kd id = k at *
  rcases hk with rfl | rfl | rfl | rfl | hk
  · simp only [if_true] at hv
    generalize VP.get s at_ = R at *
    obtain ⟨a, t, c⟩ := R
    simp only at C4 hv
    have HV := Lib.hid hv
    clear hv
    go_enter Tryz.func118, Tryz.ntmps118
    go_wp2_with fail
    refine (CK.out _).mono ?_
    rintro e w1 ⟨rfl, b1⟩
    have B1 : Hid (Below w.heap.size w w1) := H0.out.trans (b1.mono (by omega))
    have hs1 : w.heap.size + 2 ≤ w1.heap.size := by have := b1.size; omega
    have b6 : w1.heap[w.heap.size + 1]? = some (.cells #[.int .i64 0, .int .i64 0, .string ⟨#[]⟩, .string ⟨#[]⟩] 134 (0, 0)) := (b1.block _ (by omega)).trans h6.out
    have b9 : w1.heap[w.heap.size]? = some (.cells #[.int .i64 id, .int .i64 0, .string ⟨#[]⟩, .string ⟨#[]⟩] 134 (0, 0)) := (b1.block _ (by omega)).trans h9.out
    have H6 := Lib.hid b6
    have H9 := Lib.hid b9
    have z0 : w1.cell? ⟨w.heap.size + 1, 0, none⟩ = some (.int .i64 0) := by rw [cell_heap b6]; rfl
    have z1 : w1.cell? ⟨w.heap.size + 1, 1, none⟩ = some (.int .i64 0) := by rw [cell_heap b6]; rfl
    have z2 : w1.cell? ⟨w.heap.size + 1, 2, none⟩ = some (.string ⟨#[]⟩) := by rw [cell_heap b6]; rfl
    have z3 : w1.cell? ⟨w.heap.size + 1, 3, none⟩ = some (.string ⟨#[]⟩) := by rw [cell_heap b6]; rfl
    have f0 : w1.frozen? ⟨w.heap.size + 1, 0, none⟩ = false := frozen_heap b6
    have f1 : w1.frozen? ⟨w.heap.size + 1, 1, none⟩ = false := frozen_heap b6
    have f2 : w1.frozen? ⟨w.heap.size + 1, 2, none⟩ = false := frozen_heap b6
    have f3 : w1.frozen? ⟨w.heap.size + 1, 3, none⟩ = false := frozen_heap b6
    have p0 : w1.cell? ⟨w.heap.size, 0, none⟩ = some (.int .i64 id) := by rw [cell_heap b9]; rfl
    have p1 : w1.cell? ⟨w.heap.size, 1, none⟩ = some (.int .i64 0) := by rw [cell_heap b9]; rfl
    have p2 : w1.cell? ⟨w.heap.size, 2, none⟩ = some (.string ⟨#[]⟩) := by rw [cell_heap b9]; rfl
    have p3 : w1.cell? ⟨w.heap.size, 3, none⟩ = some (.string ⟨#[]⟩) := by rw [cell_heap b9]; rfl
    have g1 : w1.frozen? ⟨w.heap.size, 1, none⟩ = false := frozen_heap b9
    have g2 : w1.frozen? ⟨w.heap.size, 2, none⟩ = false := frozen_heap b9
    have g3 : w1.frozen? ⟨w.heap.size, 3, none⟩ = false := frozen_heap b9
    clear b1 b6 b9
    go_wp2_with fail
    refine (C4.out _).mono ?_
    rintro e w2 ⟨rfl, rfl⟩
    have hB := B1
    go_wp2
    refine bodyPost_ret (v := .tuple #[.agg #[.int .i64 id, .int .i64 a, .string ⟨#[]⟩, .string ⟨#[]⟩], .int .i64 t, .bool (c == 0)]) (by simp [results, Tryz.results118, go_sem, z0, z1, z2, z3]) rfl (RetR.mk HV.out ?_)
    (repeat (refine Below.setCell ?_ (by first | (simp; done) | (simp; omega) | omega) _)); exact hB.out
  · simp only [show ((5 : Int) = 4) = False by decide, if_true, if_false] at hv
    generalize VP.dat s at_ = R at *
    obtain ⟨a, t, c⟩ := R
    simp only at C5 hv
    have HV := Lib.hid hv
    clear hv
    go_enter Tryz.func118, Tryz.ntmps118
    go_wp2_with fail
    refine (CK.out _).mono ?_
    rintro e w1 ⟨rfl, b1⟩
    have B1 : Hid (Below w.heap.size w w1) := H0.out.trans (b1.mono (by omega))
    have hs1 : w.heap.size + 2 ≤ w1.heap.size := by have := b1.size; omega
    have b6 : w1.heap[w.heap.size + 1]? = some (.cells #[.int .i64 0, .int .i64 0, .string ⟨#[]⟩, .string ⟨#[]⟩] 134 (0, 0)) := (b1.block _ (by omega)).trans h6.out
    have b9 : w1.heap[w.heap.size]? = some (.cells #[.int .i64 id, .int .i64 0, .string ⟨#[]⟩, .string ⟨#[]⟩] 134 (0, 0)) := (b1.block _ (by omega)).trans h9.out
    have H6 := Lib.hid b6
    have H9 := Lib.hid b9
    have z0 : w1.cell? ⟨w.heap.size + 1, 0, none⟩ = some (.int .i64 0) := by rw [cell_heap b6]; rfl
    have z1 : w1.cell? ⟨w.heap.size + 1, 1, none⟩ = some (.int .i64 0) := by rw [cell_heap b6]; rfl
    have z2 : w1.cell? ⟨w.heap.size + 1, 2, none⟩ = some (.string ⟨#[]⟩) := by rw [cell_heap b6]; rfl
    have z3 : w1.cell? ⟨w.heap.size + 1, 3, none⟩ = some (.string ⟨#[]⟩) := by rw [cell_heap b6]; rfl
    have f0 : w1.frozen? ⟨w.heap.size + 1, 0, none⟩ = false := frozen_heap b6
    have f1 : w1.frozen? ⟨w.heap.size + 1, 1, none⟩ = false := frozen_heap b6
    have f2 : w1.frozen? ⟨w.heap.size + 1, 2, none⟩ = false := frozen_heap b6
    have f3 : w1.frozen? ⟨w.heap.size + 1, 3, none⟩ = false := frozen_heap b6
    have p0 : w1.cell? ⟨w.heap.size, 0, none⟩ = some (.int .i64 id) := by rw [cell_heap b9]; rfl
    have p1 : w1.cell? ⟨w.heap.size, 1, none⟩ = some (.int .i64 0) := by rw [cell_heap b9]; rfl
    have p2 : w1.cell? ⟨w.heap.size, 2, none⟩ = some (.string ⟨#[]⟩) := by rw [cell_heap b9]; rfl
    have p3 : w1.cell? ⟨w.heap.size, 3, none⟩ = some (.string ⟨#[]⟩) := by rw [cell_heap b9]; rfl
    have g1 : w1.frozen? ⟨w.heap.size, 1, none⟩ = false := frozen_heap b9
    have g2 : w1.frozen? ⟨w.heap.size, 2, none⟩ = false := frozen_heap b9
    have g3 : w1.frozen? ⟨w.heap.size, 3, none⟩ = false := frozen_heap b9
    clear b1 b6 b9
    go_wp2_with fail
    refine (C5.out _).mono ?_
    rintro e w2 ⟨rfl, b2⟩
    have hB : Hid (Below w.heap.size w w2) := B1.out.trans (b2.mono B1.out.size)
    have b6 : w2.heap[w.heap.size + 1]? = some (.cells #[.int .i64 0, .int .i64 0, .string ⟨#[]⟩, .string ⟨#[]⟩] 134 (0, 0)) := (b2.block _ (by omega)).trans H6.out
    have b9 : w2.heap[w.heap.size]? = some (.cells #[.int .i64 id, .int .i64 0, .string ⟨#[]⟩, .string ⟨#[]⟩] 134 (0, 0)) := (b2.block _ (by omega)).trans H9.out
    have z0 : w2.cell? ⟨w.heap.size + 1, 0, none⟩ = some (.int .i64 0) := by rw [cell_heap b6]; rfl
    have z1 : w2.cell? ⟨w.heap.size + 1, 1, none⟩ = some (.int .i64 0) := by rw [cell_heap b6]; rfl
    have z2 : w2.cell? ⟨w.heap.size + 1, 2, none⟩ = some (.string ⟨#[]⟩) := by rw [cell_heap b6]; rfl
    have z3 : w2.cell? ⟨w.heap.size + 1, 3, none⟩ = some (.string ⟨#[]⟩) := by rw [cell_heap b6]; rfl
    have f0 : w2.frozen? ⟨w.heap.size + 1, 0, none⟩ = false := frozen_heap b6
    have f1 : w2.frozen? ⟨w.heap.size + 1, 1, none⟩ = false := frozen_heap b6
    have f2 : w2.frozen? ⟨w.heap.size + 1, 2, none⟩ = false := frozen_heap b6
    have f3 : w2.frozen? ⟨w.heap.size + 1, 3, none⟩ = false := frozen_heap b6
    have p0 : w2.cell? ⟨w.heap.size, 0, none⟩ = some (.int .i64 id) := by rw [cell_heap b9]; rfl
    have p1 : w2.cell? ⟨w.heap.size, 1, none⟩ = some (.int .i64 0) := by rw [cell_heap b9]; rfl
    have p2 : w2.cell? ⟨w.heap.size, 2, none⟩ = some (.string ⟨#[]⟩) := by rw [cell_heap b9]; rfl
    have p3 : w2.cell? ⟨w.heap.size, 3, none⟩ = some (.string ⟨#[]⟩) := by rw [cell_heap b9]; rfl
    have g1 : w2.frozen? ⟨w.heap.size, 1, none⟩ = false := frozen_heap b9
    have g2 : w2.frozen? ⟨w.heap.size, 2, none⟩ = false := frozen_heap b9
    have g3 : w2.frozen? ⟨w.heap.size, 3, none⟩ = false := frozen_heap b9
    clear b2 b6 b9
    go_wp2
    refine bodyPost_ret (v := .tuple #[.agg #[.int .i64 id, .int .i64 0, .string a, .string ⟨#[]⟩], .int .i64 t, .bool (c == 0)]) (by simp [results, Tryz.results118, go_sem, z0, z1, z2, z3]) rfl (RetR.mk HV.out ?_)
    (repeat (refine Below.setCell ?_ (by first | (simp; done) | (simp; omega) | omega) _)); exact hB.out
  · simp only [show ((6 : Int) = 4) = False by decide, show ((6 : Int) = 5) = False by decide, if_true, if_false] at hv
    have C6i := Lib.hid (C6.out at_)
    generalize TX.getT s at_ = R at *
    obtain ⟨a, t, c⟩ := R
    simp only at C6i hv
    have HV := Lib.hid hv
    clear hv
    go_enter Tryz.func118, Tryz.ntmps118
    go_wp2_with fail
    refine (CK.out _).mono ?_
    rintro e w1 ⟨rfl, b1⟩
    have B1 : Hid (Below w.heap.size w w1) := H0.out.trans (b1.mono (by omega))
    have hs1 : w.heap.size + 2 ≤ w1.heap.size := by have := b1.size; omega
    have b6 : w1.heap[w.heap.size + 1]? = some (.cells #[.int .i64 0, .int .i64 0, .string ⟨#[]⟩, .string ⟨#[]⟩] 134 (0, 0)) := (b1.block _ (by omega)).trans h6.out
    have b9 : w1.heap[w.heap.size]? = some (.cells #[.int .i64 id, .int .i64 0, .string ⟨#[]⟩, .string ⟨#[]⟩] 134 (0, 0)) := (b1.block _ (by omega)).trans h9.out
    have H6 := Lib.hid b6
    have H9 := Lib.hid b9
    have z0 : w1.cell? ⟨w.heap.size + 1, 0, none⟩ = some (.int .i64 0) := by rw [cell_heap b6]; rfl
    have z1 : w1.cell? ⟨w.heap.size + 1, 1, none⟩ = some (.int .i64 0) := by rw [cell_heap b6]; rfl
    have z2 : w1.cell? ⟨w.heap.size + 1, 2, none⟩ = some (.string ⟨#[]⟩) := by rw [cell_heap b6]; rfl
    have z3 : w1.cell? ⟨w.heap.size + 1, 3, none⟩ = some (.string ⟨#[]⟩) := by rw [cell_heap b6]; rfl
    have f0 : w1.frozen? ⟨w.heap.size + 1, 0, none⟩ = false := frozen_heap b6
    have f1 : w1.frozen? ⟨w.heap.size + 1, 1, none⟩ = false := frozen_heap b6
    have f2 : w1.frozen? ⟨w.heap.size + 1, 2, none⟩ = false := frozen_heap b6
    have f3 : w1.frozen? ⟨w.heap.size + 1, 3, none⟩ = false := frozen_heap b6
    have p0 : w1.cell? ⟨w.heap.size, 0, none⟩ = some (.int .i64 id) := by rw [cell_heap b9]; rfl
    have p1 : w1.cell? ⟨w.heap.size, 1, none⟩ = some (.int .i64 0) := by rw [cell_heap b9]; rfl
    have p2 : w1.cell? ⟨w.heap.size, 2, none⟩ = some (.string ⟨#[]⟩) := by rw [cell_heap b9]; rfl
    have p3 : w1.cell? ⟨w.heap.size, 3, none⟩ = some (.string ⟨#[]⟩) := by rw [cell_heap b9]; rfl
    have g1 : w1.frozen? ⟨w.heap.size, 1, none⟩ = false := frozen_heap b9
    have g2 : w1.frozen? ⟨w.heap.size, 2, none⟩ = false := frozen_heap b9
    have g3 : w1.frozen? ⟨w.heap.size, 3, none⟩ = false := frozen_heap b9
    clear b1 b6 b9
    go_wp2_with fail
    refine (C6i.out _).mono ?_
    rintro e w2 ⟨rfl, b2⟩
    have hB : Hid (Below w.heap.size w w2) := B1.out.trans (b2.mono B1.out.size)
    have b6 : w2.heap[w.heap.size + 1]? = some (.cells #[.int .i64 0, .int .i64 0, .string ⟨#[]⟩, .string ⟨#[]⟩] 134 (0, 0)) := (b2.block _ (by omega)).trans H6.out
    have b9 : w2.heap[w.heap.size]? = some (.cells #[.int .i64 id, .int .i64 0, .string ⟨#[]⟩, .string ⟨#[]⟩] 134 (0, 0)) := (b2.block _ (by omega)).trans H9.out
    have z0 : w2.cell? ⟨w.heap.size + 1, 0, none⟩ = some (.int .i64 0) := by rw [cell_heap b6]; rfl
    have z1 : w2.cell? ⟨w.heap.size + 1, 1, none⟩ = some (.int .i64 0) := by rw [cell_heap b6]; rfl
    have z2 : w2.cell? ⟨w.heap.size + 1, 2, none⟩ = some (.string ⟨#[]⟩) := by rw [cell_heap b6]; rfl
    have z3 : w2.cell? ⟨w.heap.size + 1, 3, none⟩ = some (.string ⟨#[]⟩) := by rw [cell_heap b6]; rfl
    have f0 : w2.frozen? ⟨w.heap.size + 1, 0, none⟩ = false := frozen_heap b6
    have f1 : w2.frozen? ⟨w.heap.size + 1, 1, none⟩ = false := frozen_heap b6
    have f2 : w2.frozen? ⟨w.heap.size + 1, 2, none⟩ = false := frozen_heap b6
    have f3 : w2.frozen? ⟨w.heap.size + 1, 3, none⟩ = false := frozen_heap b6
    have p0 : w2.cell? ⟨w.heap.size, 0, none⟩ = some (.int .i64 id) := by rw [cell_heap b9]; rfl
    have p1 : w2.cell? ⟨w.heap.size, 1, none⟩ = some (.int .i64 0) := by rw [cell_heap b9]; rfl
    have p2 : w2.cell? ⟨w.heap.size, 2, none⟩ = some (.string ⟨#[]⟩) := by rw [cell_heap b9]; rfl
    have p3 : w2.cell? ⟨w.heap.size, 3, none⟩ = some (.string ⟨#[]⟩) := by rw [cell_heap b9]; rfl
    have g1 : w2.frozen? ⟨w.heap.size, 1, none⟩ = false := frozen_heap b9
    have g2 : w2.frozen? ⟨w.heap.size, 2, none⟩ = false := frozen_heap b9
    have g3 : w2.frozen? ⟨w.heap.size, 3, none⟩ = false := frozen_heap b9
    clear b2 b6 b9
    go_wp2
    refine bodyPost_ret (v := .tuple #[.agg #[.int .i64 id, .int .i64 0, .string a, .string ⟨#[]⟩], .int .i64 t, .bool (c == 0)]) (by simp [results, Tryz.results118, go_sem, z0, z1, z2, z3]) rfl (RetR.mk HV.out ?_)
    (repeat (refine Below.setCell ?_ (by first | (simp; done) | (simp; omega) | omega) _)); exact hB.out
  · simp only [show ((7 : Int) = 4) = False by decide, show ((7 : Int) = 5) = False by decide, show ((7 : Int) = 6) = False by decide, if_true, if_false] at hv
    have C6i := Lib.hid (C6.out at_)
    have C6j := Lib.hid (C6.out (TX.getT s at_).2.1)
    generalize TX.getT s (TX.getT s at_).2.1 = R2 at *
    generalize TX.getT s at_ = R at *
    obtain ⟨a, t, c⟩ := R
    obtain ⟨a2, t2, c2⟩ := R2
    simp only at C6i C6j hv
    by_cases hc : c = 0
    · subst hc
      simp only [ne_eq, not_true_eq_false, if_false] at hv
      have HV := Lib.hid hv
      clear hv
      go_enter Tryz.func118, Tryz.ntmps118
      go_wp2_with fail
      refine (CK.out _).mono ?_
      rintro e w1 ⟨rfl, b1⟩
      have B1 : Hid (Below w.heap.size w w1) := H0.out.trans (b1.mono (by omega))
      have hs1 : w.heap.size + 2 ≤ w1.heap.size := by have := b1.size; omega
      have b6 : w1.heap[w.heap.size + 1]? = some (.cells #[.int .i64 0, .int .i64 0, .string ⟨#[]⟩, .string ⟨#[]⟩] 134 (0, 0)) := (b1.block _ (by omega)).trans h6.out
      have b9 : w1.heap[w.heap.size]? = some (.cells #[.int .i64 id, .int .i64 0, .string ⟨#[]⟩, .string ⟨#[]⟩] 134 (0, 0)) := (b1.block _ (by omega)).trans h9.out
      have H6 := Lib.hid b6
      have H9 := Lib.hid b9
      have z0 : w1.cell? ⟨w.heap.size + 1, 0, none⟩ = some (.int .i64 0) := by rw [cell_heap b6]; rfl
      have z1 : w1.cell? ⟨w.heap.size + 1, 1, none⟩ = some (.int .i64 0) := by rw [cell_heap b6]; rfl
      have z2 : w1.cell? ⟨w.heap.size + 1, 2, none⟩ = some (.string ⟨#[]⟩) := by rw [cell_heap b6]; rfl
      have z3 : w1.cell? ⟨w.heap.size + 1, 3, none⟩ = some (.string ⟨#[]⟩) := by rw [cell_heap b6]; rfl
      have f0 : w1.frozen? ⟨w.heap.size + 1, 0, none⟩ = false := frozen_heap b6
      have f1 : w1.frozen? ⟨w.heap.size + 1, 1, none⟩ = false := frozen_heap b6
      have f2 : w1.frozen? ⟨w.heap.size + 1, 2, none⟩ = false := frozen_heap b6
      have f3 : w1.frozen? ⟨w.heap.size + 1, 3, none⟩ = false := frozen_heap b6
      have p0 : w1.cell? ⟨w.heap.size, 0, none⟩ = some (.int .i64 id) := by rw [cell_heap b9]; rfl
      have p1 : w1.cell? ⟨w.heap.size, 1, none⟩ = some (.int .i64 0) := by rw [cell_heap b9]; rfl
      have p2 : w1.cell? ⟨w.heap.size, 2, none⟩ = some (.string ⟨#[]⟩) := by rw [cell_heap b9]; rfl
      have p3 : w1.cell? ⟨w.heap.size, 3, none⟩ = some (.string ⟨#[]⟩) := by rw [cell_heap b9]; rfl
      have g1 : w1.frozen? ⟨w.heap.size, 1, none⟩ = false := frozen_heap b9
      have g2 : w1.frozen? ⟨w.heap.size, 2, none⟩ = false := frozen_heap b9
      have g3 : w1.frozen? ⟨w.heap.size, 3, none⟩ = false := frozen_heap b9
      clear b1 b6 b9
      go_wp2_with fail
      refine (C6i.out _).mono ?_
      rintro e w2 ⟨rfl, b2⟩
      have hB2 : Hid (Below w.heap.size w w2) := B1.out.trans (b2.mono B1.out.size)
      have hs2 : w.heap.size + 2 ≤ w2.heap.size := by have := b2.size; omega
      have K6 : Hid (w2.heap[w.heap.size + 1]? = some (.cells #[.int .i64 0, .int .i64 0, .string ⟨#[]⟩, .string ⟨#[]⟩] 134 (0, 0))) := (b2.block _ (by omega)).trans H6.out
      have K9 : Hid (w2.heap[w.heap.size]? = some (.cells #[.int .i64 id, .int .i64 0, .string ⟨#[]⟩, .string ⟨#[]⟩] 134 (0, 0))) := (b2.block _ (by omega)).trans H9.out
      have b6 : w2.heap[w.heap.size + 1]? = some (.cells #[.int .i64 0, .int .i64 0, .string ⟨#[]⟩, .string ⟨#[]⟩] 134 (0, 0)) := (b2.block _ (by omega)).trans H6.out
      have b9 : w2.heap[w.heap.size]? = some (.cells #[.int .i64 id, .int .i64 0, .string ⟨#[]⟩, .string ⟨#[]⟩] 134 (0, 0)) := (b2.block _ (by omega)).trans H9.out
      have z0 : w2.cell? ⟨w.heap.size + 1, 0, none⟩ = some (.int .i64 0) := by rw [cell_heap b6]; rfl
      have z1 : w2.cell? ⟨w.heap.size + 1, 1, none⟩ = some (.int .i64 0) := by rw [cell_heap b6]; rfl
      have z2 : w2.cell? ⟨w.heap.size + 1, 2, none⟩ = some (.string ⟨#[]⟩) := by rw [cell_heap b6]; rfl
      have z3 : w2.cell? ⟨w.heap.size + 1, 3, none⟩ = some (.string ⟨#[]⟩) := by rw [cell_heap b6]; rfl
      have f0 : w2.frozen? ⟨w.heap.size + 1, 0, none⟩ = false := frozen_heap b6
      have f1 : w2.frozen? ⟨w.heap.size + 1, 1, none⟩ = false := frozen_heap b6
      have f2 : w2.frozen? ⟨w.heap.size + 1, 2, none⟩ = false := frozen_heap b6
      have f3 : w2.frozen? ⟨w.heap.size + 1, 3, none⟩ = false := frozen_heap b6
      have p0 : w2.cell? ⟨w.heap.size, 0, none⟩ = some (.int .i64 id) := by rw [cell_heap b9]; rfl
      have p1 : w2.cell? ⟨w.heap.size, 1, none⟩ = some (.int .i64 0) := by rw [cell_heap b9]; rfl
      have p2 : w2.cell? ⟨w.heap.size, 2, none⟩ = some (.string ⟨#[]⟩) := by rw [cell_heap b9]; rfl
      have p3 : w2.cell? ⟨w.heap.size, 3, none⟩ = some (.string ⟨#[]⟩) := by rw [cell_heap b9]; rfl
      have g1 : w2.frozen? ⟨w.heap.size, 1, none⟩ = false := frozen_heap b9
      have g2 : w2.frozen? ⟨w.heap.size, 2, none⟩ = false := frozen_heap b9
      have g3 : w2.frozen? ⟨w.heap.size, 3, none⟩ = false := frozen_heap b9
      clear b2 b6 b9
      go_wp2_with fail
      refine (C6j.out _).mono ?_
      rintro e w3 ⟨rfl, b3⟩
      have hB : Hid (Below w.heap.size w w3) := hB2.out.trans (b3.mono hB2.out.size)
      have b6 : w3.heap[w.heap.size + 1]? = some (.cells #[.int .i64 0, .int .i64 0, .string ⟨#[]⟩, .string ⟨#[]⟩] 134 (0, 0)) := (b3.block _ (by omega)).trans K6.out
      have b9 : w3.heap[w.heap.size]? = some (.cells #[.int .i64 id, .int .i64 0, .string ⟨#[]⟩, .string ⟨#[]⟩] 134 (0, 0)) := (b3.block _ (by omega)).trans K9.out
      have z0 : w3.cell? ⟨w.heap.size + 1, 0, none⟩ = some (.int .i64 0) := by rw [cell_heap b6]; rfl
      have z1 : w3.cell? ⟨w.heap.size + 1, 1, none⟩ = some (.int .i64 0) := by rw [cell_heap b6]; rfl
      have z2 : w3.cell? ⟨w.heap.size + 1, 2, none⟩ = some (.string ⟨#[]⟩) := by rw [cell_heap b6]; rfl
      have z3 : w3.cell? ⟨w.heap.size + 1, 3, none⟩ = some (.string ⟨#[]⟩) := by rw [cell_heap b6]; rfl
      have f0 : w3.frozen? ⟨w.heap.size + 1, 0, none⟩ = false := frozen_heap b6
      have f1 : w3.frozen? ⟨w.heap.size + 1, 1, none⟩ = false := frozen_heap b6
      have f2 : w3.frozen? ⟨w.heap.size + 1, 2, none⟩ = false := frozen_heap b6
      have f3 : w3.frozen? ⟨w.heap.size + 1, 3, none⟩ = false := frozen_heap b6
      have p0 : w3.cell? ⟨w.heap.size, 0, none⟩ = some (.int .i64 id) := by rw [cell_heap b9]; rfl
      have p1 : w3.cell? ⟨w.heap.size, 1, none⟩ = some (.int .i64 0) := by rw [cell_heap b9]; rfl
      have p2 : w3.cell? ⟨w.heap.size, 2, none⟩ = some (.string ⟨#[]⟩) := by rw [cell_heap b9]; rfl
      have p3 : w3.cell? ⟨w.heap.size, 3, none⟩ = some (.string ⟨#[]⟩) := by rw [cell_heap b9]; rfl
      have g1 : w3.frozen? ⟨w.heap.size, 1, none⟩ = false := frozen_heap b9
      have g2 : w3.frozen? ⟨w.heap.size, 2, none⟩ = false := frozen_heap b9
      have g3 : w3.frozen? ⟨w.heap.size, 3, none⟩ = false := frozen_heap b9
      clear b3 b6 b9
      go_wp2
      refine bodyPost_ret (v := .tuple #[.agg #[.int .i64 id, .int .i64 0, .string a, .string a2], .int .i64 t2, .bool (c2 == 0)]) (by simp [results, Tryz.results118, go_sem, z0, z1, z2, z3]) rfl (RetR.mk HV.out ?_)
      (repeat (refine Below.setCell ?_ (by first | (simp; done) | (simp; omega) | omega) _)); exact hB.out
    · have hne : (c != 0) = true := by rw [bne_iff_ne]; exact hc
      have hfl : (c == 0) = false := by rw [beq_eq_false_iff_ne]; exact hc
      simp only [ne_eq, hc, not_false_eq_true, if_true] at hv
      have HV := Lib.hid hv
      have HF := Lib.hid hfl
      clear hv hc hfl
      go_enter Tryz.func118, Tryz.ntmps118
      go_wp2_with fail
      refine (CK.out _).mono ?_
      rintro e w1 ⟨rfl, b1⟩
      have B1 : Hid (Below w.heap.size w w1) := H0.out.trans (b1.mono (by omega))
      have hs1 : w.heap.size + 2 ≤ w1.heap.size := by have := b1.size; omega
      have b6 : w1.heap[w.heap.size + 1]? = some (.cells #[.int .i64 0, .int .i64 0, .string ⟨#[]⟩, .string ⟨#[]⟩] 134 (0, 0)) := (b1.block _ (by omega)).trans h6.out
      have b9 : w1.heap[w.heap.size]? = some (.cells #[.int .i64 id, .int .i64 0, .string ⟨#[]⟩, .string ⟨#[]⟩] 134 (0, 0)) := (b1.block _ (by omega)).trans h9.out
      have H6 := Lib.hid b6
      have H9 := Lib.hid b9
      have z0 : w1.cell? ⟨w.heap.size + 1, 0, none⟩ = some (.int .i64 0) := by rw [cell_heap b6]; rfl
      have z1 : w1.cell? ⟨w.heap.size + 1, 1, none⟩ = some (.int .i64 0) := by rw [cell_heap b6]; rfl
      have z2 : w1.cell? ⟨w.heap.size + 1, 2, none⟩ = some (.string ⟨#[]⟩) := by rw [cell_heap b6]; rfl
      have z3 : w1.cell? ⟨w.heap.size + 1, 3, none⟩ = some (.string ⟨#[]⟩) := by rw [cell_heap b6]; rfl
      have f0 : w1.frozen? ⟨w.heap.size + 1, 0, none⟩ = false := frozen_heap b6
      have f1 : w1.frozen? ⟨w.heap.size + 1, 1, none⟩ = false := frozen_heap b6
      have f2 : w1.frozen? ⟨w.heap.size + 1, 2, none⟩ = false := frozen_heap b6
      have f3 : w1.frozen? ⟨w.heap.size + 1, 3, none⟩ = false := frozen_heap b6
      have p0 : w1.cell? ⟨w.heap.size, 0, none⟩ = some (.int .i64 id) := by rw [cell_heap b9]; rfl
      have p1 : w1.cell? ⟨w.heap.size, 1, none⟩ = some (.int .i64 0) := by rw [cell_heap b9]; rfl
      have p2 : w1.cell? ⟨w.heap.size, 2, none⟩ = some (.string ⟨#[]⟩) := by rw [cell_heap b9]; rfl
      have p3 : w1.cell? ⟨w.heap.size, 3, none⟩ = some (.string ⟨#[]⟩) := by rw [cell_heap b9]; rfl
      have g1 : w1.frozen? ⟨w.heap.size, 1, none⟩ = false := frozen_heap b9
      have g2 : w1.frozen? ⟨w.heap.size, 2, none⟩ = false := frozen_heap b9
      have g3 : w1.frozen? ⟨w.heap.size, 3, none⟩ = false := frozen_heap b9
      clear b1 b6 b9
      go_wp2_with fail
      refine (C6i.out _).mono ?_
      rintro e w2 ⟨rfl, b2⟩
      have hB : Hid (Below w.heap.size w w2) := B1.out.trans (b2.mono B1.out.size)
      have b6 : w2.heap[w.heap.size + 1]? = some (.cells #[.int .i64 0, .int .i64 0, .string ⟨#[]⟩, .string ⟨#[]⟩] 134 (0, 0)) := (b2.block _ (by omega)).trans H6.out
      have b9 : w2.heap[w.heap.size]? = some (.cells #[.int .i64 id, .int .i64 0, .string ⟨#[]⟩, .string ⟨#[]⟩] 134 (0, 0)) := (b2.block _ (by omega)).trans H9.out
      have z0 : w2.cell? ⟨w.heap.size + 1, 0, none⟩ = some (.int .i64 0) := by rw [cell_heap b6]; rfl
      have z1 : w2.cell? ⟨w.heap.size + 1, 1, none⟩ = some (.int .i64 0) := by rw [cell_heap b6]; rfl
      have z2 : w2.cell? ⟨w.heap.size + 1, 2, none⟩ = some (.string ⟨#[]⟩) := by rw [cell_heap b6]; rfl
      have z3 : w2.cell? ⟨w.heap.size + 1, 3, none⟩ = some (.string ⟨#[]⟩) := by rw [cell_heap b6]; rfl
      have f0 : w2.frozen? ⟨w.heap.size + 1, 0, none⟩ = false := frozen_heap b6
      have f1 : w2.frozen? ⟨w.heap.size + 1, 1, none⟩ = false := frozen_heap b6
      have f2 : w2.frozen? ⟨w.heap.size + 1, 2, none⟩ = false := frozen_heap b6
      have f3 : w2.frozen? ⟨w.heap.size + 1, 3, none⟩ = false := frozen_heap b6
      have p0 : w2.cell? ⟨w.heap.size, 0, none⟩ = some (.int .i64 id) := by rw [cell_heap b9]; rfl
      have p1 : w2.cell? ⟨w.heap.size, 1, none⟩ = some (.int .i64 0) := by rw [cell_heap b9]; rfl
      have p2 : w2.cell? ⟨w.heap.size, 2, none⟩ = some (.string ⟨#[]⟩) := by rw [cell_heap b9]; rfl
      have p3 : w2.cell? ⟨w.heap.size, 3, none⟩ = some (.string ⟨#[]⟩) := by rw [cell_heap b9]; rfl
      have g1 : w2.frozen? ⟨w.heap.size, 1, none⟩ = false := frozen_heap b9
      have g2 : w2.frozen? ⟨w.heap.size, 2, none⟩ = false := frozen_heap b9
      have g3 : w2.frozen? ⟨w.heap.size, 3, none⟩ = false := frozen_heap b9
      clear b2 b6 b9
      go_wp2
      refine bodyPost_ret (v := .tuple #[.agg #[.int .i64 id, .int .i64 0, .string ⟨#[]⟩, .string ⟨#[]⟩], .int .i64 0, .bool false]) (by simp [results, Tryz.results118, go_sem, z0, z1, z2, z3]) rfl ?_
      rw [← HF.out]
      refine RetR.mk HV.out ?_
      (repeat (refine Below.setCell ?_ (by first | (simp; done) | (simp; omega) | omega) _)); exact hB.out
  · have hk3 : k = 1 ∨ k = 2 ∨ k = 3 := by omega
    have C9 := Lib.hid (rwidth_any k hk3)
    rw [if_neg (by omega), if_neg (by omega), if_neg (by omega), if_neg (by omega)] at hv
    have e4 : (k == 4) = false := by rw [beq_eq_false_iff_ne]; omega
    have e5 : (k == 5) = false := by rw [beq_eq_false_iff_ne]; omega
    have e6 : (k == 6) = false := by rw [beq_eq_false_iff_ne]; omega
    have e7 : (k == 7) = false := by rw [beq_eq_false_iff_ne]; omega
    have C8k := Lib.hid (C8.out (PR.wd k))
    clear hk hk3 h0 C4 C5 C6 C8
    generalize PR.wd k = wk at *
    generalize VP.rd s at_ wk = R at *
    obtain ⟨a, t, c⟩ := R
    simp only at C8k hv
    have HV := Lib.hid hv
    clear hv
    go_enter Tryz.func118, Tryz.ntmps118
    go_wp2_with fail
    refine (CK.out _).mono ?_
    rintro e w1 ⟨rfl, b1⟩
    have B1 : Hid (Below w.heap.size w w1) := H0.out.trans (b1.mono (by omega))
    have hs1 : w.heap.size + 2 ≤ w1.heap.size := by have := b1.size; omega
    have b6 : w1.heap[w.heap.size + 1]? = some (.cells #[.int .i64 0, .int .i64 0, .string ⟨#[]⟩, .string ⟨#[]⟩] 134 (0, 0)) := (b1.block _ (by omega)).trans h6.out
    have b9 : w1.heap[w.heap.size]? = some (.cells #[.int .i64 id, .int .i64 0, .string ⟨#[]⟩, .string ⟨#[]⟩] 134 (0, 0)) := (b1.block _ (by omega)).trans h9.out
    have H6 := Lib.hid b6
    have H9 := Lib.hid b9
    have z0 : w1.cell? ⟨w.heap.size + 1, 0, none⟩ = some (.int .i64 0) := by rw [cell_heap b6]; rfl
    have z1 : w1.cell? ⟨w.heap.size + 1, 1, none⟩ = some (.int .i64 0) := by rw [cell_heap b6]; rfl
    have z2 : w1.cell? ⟨w.heap.size + 1, 2, none⟩ = some (.string ⟨#[]⟩) := by rw [cell_heap b6]; rfl
    have z3 : w1.cell? ⟨w.heap.size + 1, 3, none⟩ = some (.string ⟨#[]⟩) := by rw [cell_heap b6]; rfl
    have f0 : w1.frozen? ⟨w.heap.size + 1, 0, none⟩ = false := frozen_heap b6
    have f1 : w1.frozen? ⟨w.heap.size + 1, 1, none⟩ = false := frozen_heap b6
    have f2 : w1.frozen? ⟨w.heap.size + 1, 2, none⟩ = false := frozen_heap b6
    have f3 : w1.frozen? ⟨w.heap.size + 1, 3, none⟩ = false := frozen_heap b6
    have p0 : w1.cell? ⟨w.heap.size, 0, none⟩ = some (.int .i64 id) := by rw [cell_heap b9]; rfl
    have p1 : w1.cell? ⟨w.heap.size, 1, none⟩ = some (.int .i64 0) := by rw [cell_heap b9]; rfl
    have p2 : w1.cell? ⟨w.heap.size, 2, none⟩ = some (.string ⟨#[]⟩) := by rw [cell_heap b9]; rfl
    have p3 : w1.cell? ⟨w.heap.size, 3, none⟩ = some (.string ⟨#[]⟩) := by rw [cell_heap b9]; rfl
    have g1 : w1.frozen? ⟨w.heap.size, 1, none⟩ = false := frozen_heap b9
    have g2 : w1.frozen? ⟨w.heap.size, 2, none⟩ = false := frozen_heap b9
    have g3 : w1.frozen? ⟨w.heap.size, 3, none⟩ = false := frozen_heap b9
    clear b1 b6 b9
    go_wp2_with fail
    refine (C9.out _).mono ?_
    rintro e w2 ⟨rfl, rfl⟩
    go_wp2_with fail
    refine (C8k.out _).mono ?_
    rintro e w2 ⟨rfl, rfl⟩
    have hB := B1
    go_wp2
    refine bodyPost_ret (v := .tuple #[.agg #[.int .i64 id, .int .i64 a, .string ⟨#[]⟩, .string ⟨#[]⟩], .int .i64 t, .bool (c == 0)]) (by simp [results, Tryz.results118, go_sem, z0, z1, z2, z3]) rfl (RetR.mk HV.out ?_)
    (repeat (refine Below.setCell ?_ (by first | (simp; done) | (simp; omega) | omega) _)); exact hB.out
end Go.Proofs.YtmldnaadjhnfcaaGreatDoor
namespace Go.Proofs.YtmldnaadjhnfcaaGreatDoor
open Go.RowKit
attribute [local go_sem ↓] Go.wp_at_zero Go.wp_at_succ

theorem ppInfo : (Tryz.prog.info? 135).map (fun i => (i.zero, i.size, i.bytes)) = some (some (.agg #[.int .i64 0, .int .i64 0, .string ⟨#[]⟩, .string ⟨#[]⟩]), 4, 48) := by kernel_rfl
theorem rpInfo : (Tryz.prog.info? 134).map (fun i => (i.zero, i.size, i.bytes)) = some (some (.agg #[.int .i64 0, .int .i64 0, .string ⟨#[]⟩, .string ⟨#[]⟩]), 4, 48) := by kernel_rfl
theorem heap_alloc_at {w : World} {o : Obj} {k : Nat} (h : k = w.heap.size) : (w.alloc o).heap[k]? = some o := by subst h; exact heap_alloc_new w o
/-- Four cells of a block. -/
def S4 (b : Nat) (a0 a1 a2 a3 : Value) (w : World) : Prop := w.cell? ⟨b, 0, none⟩ = some a0 ∧ w.cell? ⟨b, 1, none⟩ = some a1 ∧ w.cell? ⟨b, 2, none⟩ = some a2 ∧ w.cell? ⟨b, 3, none⟩ = some a3
theorem S4.alloc {b : Nat} {a0 a1 a2 a3 : Value} {w : World} (h : S4 b a0 a1 a2 a3 w) (hb : b < w.heap.size) (o : Obj) : S4 b a0 a1 a2 a3 (w.alloc o) :=
  ⟨(World.cell?_alloc_lt _ _ _ hb).trans h.1, (World.cell?_alloc_lt _ _ _ hb).trans h.2.1, (World.cell?_alloc_lt _ _ _ hb).trans h.2.2.1, (World.cell?_alloc_lt _ _ _ hb).trans h.2.2.2⟩
theorem S4.grown {b : Nat} {a0 a1 a2 a3 : Value} {w w' : World} {row : Option Nat} (h : S4 b a0 a1 a2 a3 w) (hg : w.grownBy w' row) (hb : b < w.heap.size) (hne : some b ≠ row) : S4 b a0 a1 a2 a3 w' :=
  ⟨(hg.cell_far _ hb hne).trans h.1, (hg.cell_far _ hb hne).trans h.2.1, (hg.cell_far _ hb hne).trans h.2.2.1, (hg.cell_far _ hb hne).trans h.2.2.2⟩

/-- Two rows of the same properties. -/
def Rows2 (N : Nat) (w : World) (a b : Value) (l : List Pr) : Prop :=
  w.ownsRow N 135 4 a l.length (flatP l) ∧ w.ownsRow N 134 4 b l.length (flatP l)
theorem Rows2.below {N : Nat} {w w' : World} {a b : Value} {l : List Pr} (h : Rows2 N w a b l) (hb : Below w.heap.size w w') : Rows2 N w' a b l := ⟨own_below h.1 hb, own_below h.2 hb⟩

section
variable {N : Nat} {wc wa w1 wb w2 : World} {a b : Value} {l : List Pr}
theorem Rows2.kept1 (h : Rows2 N wc a b l) (hg : wa.grownBy w1 a.ownBlock) (ha : Below wc.heap.size wc wa) : w1.ownsRow N 134 4 b l.length (flatP l) :=
  (own_below h.2 ha).kept hg (rows_apart (own_below h.2 ha) (own_below h.1 ha) (by decide))
theorem Rows2.blk1 (h : Rows2 N wc a b l) (hg : wa.grownBy w1 a.ownBlock) {k : Nat} {o : Obj} (hb : wc.heap.size ≤ k) (hh : wa.heap[k]? = some o) : w1.heap[k]? = some o :=
  (hg.block k (lt_heap hh) (fun e => by have := (h.1.lt k e.symm).2; omega)).trans hh
theorem Rows2.step (h : Rows2 N wc a b l) (p : Pr) (hN : N ≤ wc.heap.size) {v1 v2 : Value}
    (ha : Below wc.heap.size wc wa) (q1 : wa.grownBy w1 a.ownBlock) (o1 : w1.ownsRow N 135 4 v1 (l.length + 1) (flatP l ++ [.int .i64 p.id, .int .i64 p.n, .string p.s, .string p.t]))
    (hb : Below w1.heap.size w1 wb) (q2 : wb.grownBy w2 b.ownBlock) (o2 : w2.ownsRow N 134 4 v2 (l.length + 1) (flatP l ++ [.int .i64 p.id, .int .i64 p.n, .string p.s, .string p.t])) :
    Rows2 N w2 v1 v2 (l ++ [p]) ∧ Below N wc w2 := by
  have k1 := h.kept1 q1 ha
  have sa := ha.size; have s1 := q1.size; have sb := hb.size
  have e1 := own_below o1 hb
  have e2 := e1.kept q2 (rows_apart e1 (own_below k1 hb) (by decide))
  refine ⟨⟨?_, ?_⟩, ?_⟩
  · rw [flatP_snoc]; simpa using e2
  · rw [flatP_snoc]; simpa using o2
  · have b1 := (ha.mono hN).grown q1 (by omega) (fun k hk => ((own_below h.1 ha).lt k hk).1)
    exact (b1.trans (hb.mono (by omega))).grown q2 (by omega) (fun k hk => ((own_below k1 hb).lt k hk).1)
end

/-- What the law's helper answers: the rows of the first 80. -/
def PropsP (w : World) (l : List Pr) (e : Ending) (w' : World) : Prop :=
  ∃ a b, e = .returned (.tuple #[a, b]) ∧ Rows2 w.heap.size w' a b (l.take 80) ∧ Below w.heap.size w w'
theorem ptake_at {l : List Pr} {k : Nat} {v : Pr} (h : l[k]? = some v) : l.take (k + 1) = l.take k ++ [v] := by
  obtain ⟨hk, he⟩ := List.getElem?_eq_some_iff.1 h
  rw [List.take_succ_eq_append_getElem hk, he]

end Go.Proofs.YtmldnaadjhnfcaaGreatDoor
