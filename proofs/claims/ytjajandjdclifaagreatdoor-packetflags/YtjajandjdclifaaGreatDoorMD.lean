/- What speaks against a length.; The reader: a whole packet.; packet.begin: what a packet's first byte tells.; packet.Get's function that reads a whole packet.; packet.caught: what a reading makes, or the code by which it left.; A number is read back from its bytes, and bytes that are read are just those of the number. No program is named here.; Packets out of bytes: the plain side.; stream.first, and stream.through with whatever function it hands the packets to.; packet.Get.; stream.through, with whatever function it hands the packets to.; A stream's reader: a strings.Builder in a struct, that is written on behind its own String.; A stream's reader: what its builder holds, as a string.; The function that Feed hands a packet's bytes to.; A region that draws its order and whose last operations write what its first ones load: loads are taken first as long as the last ones wait. -/
import Derived.Test.YtjajandjdclifaaGreatDoorMC
import Derived.Laws.Tables
import Derived.Deep.MidRow
import Derived.Deep.CutBlock
import Derived.Defers
import Derived.Recover
import Derived.Test.YtjajandjdclifaaGreatDoorVarPure
import Derived.Laws.BytesArg
import Derived.Test.YtjajandjdclifaaGreatDoorMA
import Derived.Laws.DeepStrings4
import Derived.Lib.Hide
import Derived.Below
import Derived.WalkMore
import Derived.Test.YtjajandjdclifaaGreatDoorPkWr
import Derived.Lib.FrozenHead
import Derived.Deep.RegionHeld3
import Derived.Deep.AppendLies
namespace Go.Proofs.YtjajandjdclifaaGreatDoor
open Go.RowKit
attribute [local go_sem ↓] Go.wp_at_zero Go.wp_at_succ

namespace PK
def lenC (n m : Int) : Int := if 65536 < n then 149 else if m < n then 242 else if n < m then 129 else 0
end PK
theorem lencode_any (n m : Int) (w : World) : Calls Tryz.prog 30 #[.int .i64 n, .int .i64 m] w fun e w' => e = .returned (.int .u8 (PK.lenC n m)) ∧ w = w' := by
  obtain ⟨X, hX⟩ : ∃ X, X = PK.lenC n m := ⟨_, rfl⟩
  rw [← hX]
  unfold PK.lenC at hX
  have HX := Lib.hid hX
  clear hX
  by_cases h1 : 65536 < n
  · have E : Hid (X = 149) := Lib.hid (by rw [HX.out, if_pos h1])
    clear HX
    go_enter Tryz.func30, Tryz.ntmps30
    go_wp2
    go_ret
    exact ⟨by rw [E.out]; rfl, rfl⟩
  · by_cases h2 : m < n
    · have E : Hid (X = 242) := Lib.hid (by rw [HX.out, if_neg h1, if_pos h2])
      clear HX
      go_enter Tryz.func30, Tryz.ntmps30
      go_wp2
      go_ret
      exact ⟨by rw [E.out]; rfl, rfl⟩
    · by_cases h3 : n < m
      · have E : Hid (X = 129) := Lib.hid (by rw [HX.out, if_neg h1, if_neg h2, if_pos h3])
        clear HX
        go_enter Tryz.func30, Tryz.ntmps30
        go_wp2
        go_ret
        exact ⟨by rw [E.out]; rfl, rfl⟩
      · have E : Hid (X = 0) := Lib.hid (by rw [HX.out, if_neg h1, if_neg h2, if_neg h3])
        clear HX
        go_enter Tryz.func30, Tryz.ntmps30
        go_wp2
        go_ret
        exact ⟨by rw [E.out]; rfl, rfl⟩
end Go.Proofs.YtjajandjdclifaaGreatDoor
namespace Go.Proofs.YtjajandjdclifaaGreatDoor
open Go.RowKit
attribute [local go_sem ↓] Go.wp_at_zero Go.wp_at_succ

namespace PK
def rdWhole (s : ByteArray) (a : Int) (P : Pk) : Pk × Int := ((partsK P.kind s a P).1, thn (partsK P.kind s a P).2.2 (if (partsK P.kind s a P).2.1 = (s.size : Int) then 0 else 129))
def zeroPk : Pk := ⟨0, false, false, 0, 0, ⟨#[]⟩, ⟨#[]⟩, 0, [], [], ⟨#[]⟩, false, 0, false, ⟨#[]⟩, ⟨#[]⟩, 0, false, [], false, false, ⟨#[]⟩, ⟨#[]⟩, false, [], []⟩
end PK
/-- The cells of a packet without rows. -/
def pkNil (P : Pk) : Array Value := pkCells P (.slice none 0 0) (.slice none 0 0) (.slice none 0 0) (.slice none 0 0) (.slice none 0 0)
/-- What the reader's whole answers. -/
def WhP (r : Nat) (w : World) (X : Pk × Int) (e : Ending) (w' : World) : Prop :=
  (X.2 = 0 → ∃ vc vp vw vs vf, e = .returned (.agg (pkCells X.1 vc vp vw vs vf)) ∧ Own5 w.heap.size X.1 vc vp vw vs vf w' ∧ Gr r w w') ∧ (X.2 ≠ 0 → e = leftBy X.2 ∧ Gr r w w')
theorem Gr.of_g2 {r p : Nat} {w W W' : World} (h : Gr r w W) (hp : w.heap.size ≤ p) (g : G2 r p W W') : Gr r w W' :=
  ⟨g.os.trans h.os, g.tape.trans h.tape, g.output.trans h.output, Nat.le_trans h.size g.size, fun i hi hne => (g.block i (Nat.lt_of_lt_of_le hi h.size) (fun e => hne (by rw [e])) (by omega)).trans (h.block i hi hne)⟩
theorem setRow_heap {w : World} {g : Nat} {old cs : Array Value} {t : TypeId} (h : w.heap[g]? = some (.cells old t (0, 0))) : (w.setRow g cs).heap[g]? = some (.cells cs t (0, 0)) := by
  simp [World.setRow, Array.getElem?_modify, h]
theorem setRow_other {w : World} {g i : Nat} (cs : Array Value) (h : i ≠ g) : (w.setRow g cs).heap[i]? = w.heap[i]? := by
  simp [World.setRow, Array.getElem?_modify, Ne.symm h]
theorem Gr.setRow {r g : Nat} {w w' : World} (h : Gr r w w') (hg : w.heap.size ≤ g) (cs : Array Value) : Gr r w (w'.setRow g cs) :=
  ⟨h.os, h.tape, h.output, by simp [World.setRow]; exact h.size, fun i hi hne => (setRow_other cs (by omega)).trans (h.block i hi hne)⟩
theorem own_setRow {w : World} {g B : Nat} {e : TypeId} {k : Nat} {v : Value} {n : Nat} {xs : List Value} (cs : Array Value) (h : w.ownsRow B e k v n xs) (hne : v.ownBlock ≠ some g) : (w.setRow g cs).ownsRow B e k v n xs :=
  h.kept (row := some g) ⟨rfl, rfl, rfl, by simp [World.setRow], fun i _ hi => setRow_other cs (fun e => hi (by rw [e]))⟩ (.inr hne)
theorem Own5.below {B C : Nat} {P : Pk} {vc vp vw vs vf : Value} {w w' : World} (h : Own5 C P vc vp vw vs vf w) (hb : Below w.heap.size w w') (hC : B ≤ C) : Own5 B P vc vp vw vs vf w' :=
  ⟨own_base' (own_gr h.codes (Gr.of_below (r := w.heap.size) hb) (fun hv => Nat.lt_irrefl _ (h.codes.lt _ hv).2)) hC, own_base' (own_gr h.props (Gr.of_below (r := w.heap.size) hb) (fun hv => Nat.lt_irrefl _ (h.props.lt _ hv).2)) hC, own_base' (own_gr h.wprops (Gr.of_below (r := w.heap.size) hb) (fun hv => Nat.lt_irrefl _ (h.wprops.lt _ hv).2)) hC, own_base' (own_gr h.subs (Gr.of_below (r := w.heap.size) hb) (fun hv => Nat.lt_irrefl _ (h.subs.lt _ hv).2)) hC, own_base' (own_gr h.filters (Gr.of_below (r := w.heap.size) hb) (fun hv => Nat.lt_irrefl _ (h.filters.lt _ hv).2)) hC⟩
theorem pk_one (P : Pk) {B : Nat} {vc vp vw vs vf : Value} {w : World} (h : Own5 B P vc vp vw vs vf w) : (pkCells P vc vp vw vs vf).all (·.oneCell') = true := by
  obtain ⟨A1, n1, rfl⟩ := own_form h.codes
  obtain ⟨A2, n2, rfl⟩ := own_form h.props
  obtain ⟨A3, n3, rfl⟩ := own_form h.wprops
  obtain ⟨A4, n4, rfl⟩ := own_form h.subs
  obtain ⟨A5, n5, rfl⟩ := own_form h.filters
  simp [pkCells, Value.oneCell']
theorem pk_size (P : Pk) (vc vp vw vs vf : Value) : (pkCells P vc vp vw vs vf).size = 26 := rfl
theorem pk_info : (Tryz.prog.info? 31).map (·.size) = some 26 := by kernel_rfl

set_option maxRecDepth 100000 in
set_option maxHeartbeats 2000000 in
theorem rwhole_any (r : Nat) (s : ByteArray) (a : Int) (P : Pk) (w : World) (hk1 : 1 ≤ P.kind) (hk2 : P.kind ≤ 15) (hB : Bare P) (h : RdAt r s a w) (hs : s.size ≤ 140737488351232) (hT : ∀ W, Gr r w W → Tabs W) :
    Calls Tryz.prog 33 #[.pointer (some ⟨r, 0, none⟩), .agg (pkNil P)] w (WhP r w (PK.rdWhole s a P)) := by
  have b1 := (Below.refl w.heap.size w).alloc (Nat.le_refl _) (.cells (pkNil P) 31)
  have b2 := (Below.refl (w.alloc (.cells (pkNil P) 31)).heap.size (w.alloc (.cells (pkNil P) 31))).alloc (Nat.le_refl _) (.cells (pkNil PK.zeroPk) 31)
  have hsz : (w.alloc (.cells (pkNil P) 31)).heap.size = w.heap.size + 1 := by simp
  have B1 : (w.alloc (.cells (pkNil P) 31)).heap[w.heap.size]? = some (.cells (pkNil P) 31 (0, 0)) := heap_alloc_new w _
  have B2 : ((w.alloc (.cells (pkNil P) 31)).alloc (.cells (pkNil PK.zeroPk) 31)).heap[w.heap.size + 1]? = some (.cells (pkNil PK.zeroPk) 31 (0, 0)) := by rw [← hsz]; exact heap_alloc_new _ _
  have hlt := lt_heap h
  have R0 := (h.below b1).below b2
  have P0 : PbAt w.heap.size P (.slice none 0 0) (.slice none 0 0) (.slice none 0 0) (.slice none 0 0) (.slice none 0 0) ((w.alloc (.cells (pkNil P) 31)).alloc (.cells (pkNil PK.zeroPk) 31)) := (b2.block _ (lt_heap B1)).trans B1
  have G0 : Gr r w ((w.alloc (.cells (pkNil P) 31)).alloc (.cells (pkNil PK.zeroPk) 31)) := (Gr.of_below b1).trans (Gr.of_below b2)
  have C1 := Lib.hid (rparts_any r w.heap.size s a P _ hk1 hk2 hB R0 P0 hs (fun W hg => hT W (G0.of_g2 (Nat.le_refl _) hg)) (by omega))
  have CE : Hid (∀ a W, RdAt r s a W → Calls Tryz.prog 61 #[.pointer (some ⟨r, 0, none⟩)] W fun e w' => e = .returned (.bool (a == (s.size : Int))) ∧ Below W.heap.size W w') := fun a W hW => ended_any r s a W hW
  have CL := Lib.hid leave_any
  have HG0 := Lib.hid G0
  have HB2 := Lib.hid B2
  obtain ⟨X, hX⟩ : ∃ X, X = PK.rdWhole s a P := ⟨_, rfl⟩
  rw [← hX]
  unfold PK.rdWhole at hX
  generalize PK.partsK P.kind s a P = Y at *
  obtain ⟨Q, a1, c1⟩ := Y
  simp only at hX
  have HX := Lib.hid hX
  obtain ⟨cs, hcs⟩ : ∃ cs, cs = pkNil P := ⟨_, rfl⟩
  clear b1 b2 B1 B2 R0 P0 G0 hX h hT hk1 hk2 hB
  go_enter Tryz.func33, Tryz.ntmps33
  go_wp2_with fail
  refine C1.out.mono ?_
  rintro e w1 hR
  by_cases h1 : c1 = 0
  · obtain ⟨vc, vp, vw, vs, vf, rfl, o1, r1, p1, g1⟩ := hR.1 h1
    simp only at o1 r1 p1
    have G1 : Hid (Gr r w w1) := Lib.hid (HG0.out.of_g2 (Nat.le_refl _) g1)
    have z1 : w1.heap[w.heap.size + 1]? = some (.cells (pkNil PK.zeroPk) 31 (0, 0)) := (g1.block _ (lt_heap HB2.out) (by omega) (by omega)).trans HB2.out
    have D1 := CE.out a1 w1 r1
    have O1 := Lib.hid o1
    have P1 := Lib.hid p1
    have Z1 := Lib.hid z1
    have X1 := HX.out
    rw [PK.thn_ok h1] at X1
    have HX1 := Lib.hid X1
    clear hR r1 g1 o1 p1 z1 C1 HX X1 h1 CE
    by_cases h2 : a1 = (s.size : Int)
    · have e2 : (a1 == (s.size : Int)) = true := by simp [h2]
      rw [e2] at D1
      have E1 := Lib.hid D1
      have EX : Hid (X = (Q, 0)) := Lib.hid (by rw [HX1.out, if_pos h2])
      clear D1 e2 h2 HX1
      go_wp2_with fail
      refine E1.out.mono ?_
      rintro e w2 ⟨rfl, b2⟩
      have P2 := Lib.hid ((b2.block _ (lt_heap P1.out)).trans P1.out)
      have Z2 := Lib.hid ((b2.block _ (lt_heap Z1.out)).trans Z1.out)
      have G2' : Hid (Gr r w w2) := Lib.hid (G1.out.trans (Gr.of_below b2))
      have hsz2 : w.heap.size ≤ ((w.alloc (.cells (pkNil P) 31)).alloc (.cells (pkNil PK.zeroPk) 31)).heap.size := HG0.out.size
      have hz2 : w.heap.size + 1 < ((w.alloc (.cells (pkNil P) 31)).alloc (.cells (pkNil PK.zeroPk) 31)).heap.size := lt_heap HB2.out
      have o2 := O1.out.below b2 (Nat.le_refl _)
      have O2 := Lib.hid o2
      have W1 := Lib.hid (pk_one Q o2)
      clear b2 o2
      go_wp2_with (first
        | refine wpl_load_pk (by rfl) (.tmp 3) (by rfl) w.heap.size (by rfl) P2.out ?_
        | refine wpList_store_row (by rfl) 31 (.tmp 4) (.tmp 11) (by rfl) (w.heap.size + 1) (pkCells Q vc vp vw vs vf) (by rfl) (by rfl) 31 (pkNil PK.zeroPk) Z2.out pk_info rfl W1.out ?_)
      have Z3 := setRow_heap (cs := pkCells Q vc vp vw vs vf) Z2.out
      refine bodyPost_ret (v := .agg (pkCells Q vc vp vw vs vf)) ?_ rfl ?_
      · have hl : (loadVar 31 ⟨w.heap.size + 1, 0, none⟩).run Tryz.prog (w2.setRow (w.heap.size + 1) (pkCells Q vc vp vw vs vf)) = .ok (.agg (pkCells Q vc vp vw vs vf)) (w2.setRow (w.heap.size + 1) (pkCells Q vc vp vw vs vf)) :=
          run_loadVar_mid _ (w.heap.size + 1) 0 31 (pkCells Q vc vp vw vs vf).toList _ (fun j v hv => by rw [Nat.zero_add, cell_heap Z3, ← hv]; simp) Tryz.underlying31 rfl (by kernel_rfl)
        simp [results, Tryz.results33, Act.put]
        exact hl
      · rw [EX.out]
        refine ⟨fun _ => ⟨_, _, _, _, _, rfl, ?_, G2'.out.setRow (by omega) _⟩, fun h => absurd rfl h⟩
        have n5 := fun {e : TypeId} {k : Nat} {v : Value} {n : Nat} {xs : List Value} (ho : w2.ownsRow ((w.alloc (.cells (pkNil P) 31)).alloc (.cells (pkNil PK.zeroPk) 31)).heap.size e k v n xs) => own_base' (own_setRow (g := w.heap.size + 1) (pkCells Q vc vp vw vs vf) ho (row_ne ho hz2)) hsz2
        exact ⟨n5 O2.out.codes, n5 O2.out.props, n5 O2.out.wprops, n5 O2.out.subs, n5 O2.out.filters⟩
    · have e2 : (a1 == (s.size : Int)) = false := by rw [beq_eq_false_iff_ne]; exact h2
      rw [e2] at D1
      have E1 := Lib.hid D1
      have EX : Hid (X = (Q, 129)) := Lib.hid (by rw [HX1.out, if_neg h2])
      clear D1 e2 h2 HX1
      go_wp2_with fail
      refine E1.out.mono ?_
      rintro e w2 ⟨rfl, b2⟩
      have G2' : Hid (Gr r w w2) := Lib.hid (G1.out.trans (Gr.of_below b2))
      clear b2
      go_wp2_with fail
      refine (CL.out _ _).mono ?_
      rintro e w' ⟨rfl, rfl⟩
      exact ⟨rfl, by rw [EX.out]; exact ⟨fun h => absurd h (show (129 : Int) ≠ 0 by decide), fun _ => ⟨rfl, G2'.out⟩⟩⟩
  · obtain ⟨rfl, g1⟩ := hR.2 h1
    have EX : X = (Q, c1) := by rw [HX.out, PK.thn_bad h1]
    exact ⟨rfl, by rw [EX]; exact ⟨fun h => absurd h h1, fun _ => ⟨rfl, HG0.out.of_g2 (Nat.le_refl _) g1⟩⟩⟩
end Go.Proofs.YtjajandjdclifaaGreatDoor
namespace Go.Proofs.YtjajandjdclifaaGreatDoor
open Go.RowKit
attribute [local go_sem ↓] Go.wp_at_zero Go.wp_at_succ

namespace PK
/-- A packet of which nothing is known but its first byte. -/
def barePk (k : Int) (d r : Bool) (q : Int) : Pk := ⟨k, d, r, q, 0, ⟨#[]⟩, ⟨#[]⟩, 0, [], [], ⟨#[]⟩, false, 0, false, ⟨#[]⟩, ⟨#[]⟩, 0, false, [], false, false, ⟨#[]⟩, ⟨#[]⟩, false, [], []⟩
/-- What a first byte tells of a packet. -/
def begPk (n : Int) : Pk := if n / 16 = 3 then barePk 3 (bits .and .i64 (n % 16) 8 != 0) (bits .and .i64 (n % 16) 1 != 0) (bits .and .i64 (n % 16 / 2) 3) else barePk (n / 16) false false 0
def begOk (n : Int) : Bool := if n / 16 = 3 then canPub (begPk n) else isK (n / 16) && (n % 16 == fixN (n / 16))
end PK
theorem pkNil_one (P : Pk) : (pkNil P).all (·.oneCell') = true := by simp [pkNil, pkCells, Value.oneCell']
theorem below_setRow {n g : Nat} {w w' : World} (h : Below n w w') (hg : n ≤ g) (cs : Array Value) : Below n w (w'.setRow g cs) :=
  ⟨h.os, h.tape, h.output, by simp [World.setRow]; exact h.size, fun i hi => (setRow_other cs (by omega)).trans (h.block i hi)⟩
theorem load_pk_var {w : World} {g : Nat} {P : Pk} {vc vp vw vs vf : Value} (h : w.heap[g]? = some (.cells (pkCells P vc vp vw vs vf) 31 (0, 0))) :
    (loadVar 31 ⟨g, 0, none⟩).run Tryz.prog w = .ok (.agg (pkCells P vc vp vw vs vf)) w :=
  run_loadVar_mid _ g 0 31 (pkCells P vc vp vw vs vf).toList _ (fun j v hv => by rw [Nat.zero_add, cell_heap h, ← hv]; simp) Tryz.underlying31 rfl (by kernel_rfl)
theorem read_two {P : Program} {W : World} {g : Nat} {T : TypeId} {x y : Value} (hl : (loadVar T ⟨g, 0, none⟩).run P W = .ok x W) :
    ((Sem.run P (asAddr (.pointer (some ⟨g, 0, none⟩))) W).andThen fun a w' => (Sem.run P (loadVar T a) w').andThen fun a w' => Result.ok (Value.tuple #[a, y]) w') = .ok (Value.tuple #[x, y]) W := by
  show ((Sem.run P (loadVar T ⟨g, 0, none⟩) W).andThen _) = _
  rw [hl]
  rfl
theorem step_load_pk {ops : Array Oper} {o : Oper} {a : Act} {w : World} {K : Act → World → Prop} {Q : Exit → Act → World → Prop} {E : Prop} (hgd : o.guard = none) (x : Operand) (ho : o.op = .load 31 x)
    (n : Nat) (hx : a.eval x = .pointer (some ⟨n, 0, none⟩)) {p : Pk} {vc vp vw vs vf : Value} (hb : w.heap[n]? = some (.cells (pkCells p vc vp vw vs vf) 31 (0, 0)))
    (h : K (a.put o.dst (.agg (pkCells p vc vp vw vs vf))) w) : if Region.wanted o (yielded ops a.tmps) = true then Oper.wp Tryz.prog o a w K Q else E := by
  rw [if_pos (by simp [Region.wanted, hgd])]
  exact wp_load_mid 31 x ho n 0 hx (pkCells p vc vp vw vs vf).toList _ (fun j v hv => by rw [Nat.zero_add, cell_heap hb, ← hv]; simp) Tryz.underlying31 rfl (by kernel_rfl) h
theorem step_store_pk {ops : Array Oper} {o : Oper} {a : Act} {w : World} {K : Act → World → Prop} {Q : Exit → Act → World → Prop} {E : Prop} (hgd : o.guard = none) (x y : Operand) (ho : o.op = .store 31 x y)
    (g : Nat) (cells : Array Value) (hx : a.eval x = .pointer (some ⟨g, 0, none⟩)) (hy : a.eval y = .agg cells)
    {t : TypeId} {old : Array Value} (hg : w.heap[g]? = some (.cells old t (0, 0))) (hi : (Tryz.prog.info? 31).map (·.size) = some cells.size)
    (hold : old.size = cells.size) (h1 : cells.all (·.oneCell') = true)
    (h : K (a.put o.dst undef) (w.setRow g cells)) : if Region.wanted o (yielded ops a.tmps) = true then Oper.wp Tryz.prog o a w K Q else E := by
  rw [if_pos (by simp [Region.wanted, hgd])]
  exact wp_store_row 31 x y ho g cells hx hy t old hg hi hold h1 h
theorem and15 (n : Int) (h0 : 0 ≤ n) (h1 : n ≤ 255) : bits .and .u8 n 15 = n % 16 := by
  obtain ⟨k, rfl⟩ := Int.eq_ofNat_of_zero_le h0
  have h : ∀ k : Fin 256, bits .and .u8 ((k.val : Nat) : Int) 15 = ((k.val : Nat) : Int) % 16 := by decide +kernel
  exact h ⟨k, by omega⟩

set_option maxRecDepth 100000 in
set_option maxHeartbeats 2000000 in
theorem begin_other (n : Int) (h0 : 0 ≤ n) (h1 : n ≤ 255) (h3 : n / 16 ≠ 3) (w : World) :
    Calls Tryz.prog 28 #[.int .u8 n] w fun e w' => e = .returned (.tuple #[.agg (pkNil (PK.begPk n)), .bool (PK.begOk n)]) ∧ Below w.heap.size w w' := by
  have hA := and15 n h0 h1
  have E1 : Hid (PK.begPk n = PK.barePk (n / 16) false false 0) := Lib.hid (by unfold PK.begPk; rw [if_neg h3])
  have E2 : Hid (PK.begOk n = (PK.isK (n / 16) && (n % 16 == PK.fixN (n / 16)))) := Lib.hid (by unfold PK.begOk; rw [if_neg h3])
  have hne : (n / 16 != 3) = true := by rw [bne_iff_ne]; exact h3
  have CK := Lib.hid iskind_any
  have CF := Lib.hid fixed_flags
  have Z : Hid ((w.alloc (.cells (pkNil PK.zeroPk) 31)).heap[w.heap.size]? = some (.cells (pkNil PK.zeroPk) 31 (0, 0))) := Lib.hid (heap_alloc_new w _)
  have hk0 : 0 ≤ n / 16 := by omega
  have hk1 : n / 16 ≤ 15 := by omega
  have hf0 : 0 ≤ n % 16 := by omega
  have hf1 : n % 16 ≤ 15 := by omega
  have O1 := Lib.hid (pkNil_one (PK.barePk (n / 16) false false 0))
  have HB : Hid (Below w.heap.size w (w.alloc (.cells (pkNil PK.zeroPk) 31))) := Lib.hid ((Below.refl _ _).alloc (Nat.le_refl _) _)
  rw [E1.out, E2.out]
  clear h3 E1 E2
  cases hq : PK.isK (n / 16)
  · go_enter Tryz.func28, Tryz.ntmps28
    go_wp2_with fail
    refine (CK.out _ _).mono ?_
    rintro e w' ⟨rfl, rfl⟩
    rw [hq]
    go_wp2_with (refine wpList_store_row (by rfl) 31 (.tmp 2) (.tmp 16) (by rfl) w.heap.size (pkNil (PK.barePk (n / 16) false false 0)) (by rfl) (by rfl) 31 (pkNil PK.zeroPk) Z.out pk_info rfl O1.out ?_)
    have Z3 : Hid (((w.alloc (.cells (pkNil PK.zeroPk) 31)).setRow w.heap.size (pkNil (PK.barePk (n / 16) false false 0))).heap[w.heap.size]? = some (.cells (pkNil (PK.barePk (n / 16) false false 0)) 31 (0, 0))) := Lib.hid (setRow_heap Z.out)
    have B3 : Hid (Below w.heap.size w ((w.alloc (.cells (pkNil PK.zeroPk) 31)).setRow w.heap.size (pkNil (PK.barePk (n / 16) false false 0)))) := Lib.hid (below_setRow HB.out (Nat.le_refl _) _)
    have hl := load_pk_var (P := PK.barePk (n / 16) false false 0) (vc := .slice none 0 0) (vp := .slice none 0 0) (vw := .slice none 0 0) (vs := .slice none 0 0) (vf := .slice none 0 0) Z3.out
    refine bodyPost_ret (v := .tuple #[.agg (pkNil (PK.barePk (n / 16) false false 0)), .bool false]) ?_ rfl ⟨rfl, B3.out⟩
    simp only [results, Tryz.results28]
    simp
    exact read_two hl
  · have Hq := Lib.hid hq
    clear hq
    go_enter Tryz.func28, Tryz.ntmps28
    go_wp2_with fail
    refine (CK.out _ _).mono ?_
    rintro e w' ⟨rfl, rfl⟩
    rw [Hq.out]
    go_wp2_with fail
    refine (CF.out _ _).mono ?_
    rintro e w' ⟨rfl, rfl⟩
    go_wp2_with (refine wpList_store_row (by rfl) 31 (.tmp 2) (.tmp 16) (by rfl) w.heap.size (pkNil (PK.barePk (n / 16) false false 0)) (by rfl) (by rfl) 31 (pkNil PK.zeroPk) Z.out pk_info rfl O1.out ?_)
    have Z3 : Hid (((w.alloc (.cells (pkNil PK.zeroPk) 31)).setRow w.heap.size (pkNil (PK.barePk (n / 16) false false 0))).heap[w.heap.size]? = some (.cells (pkNil (PK.barePk (n / 16) false false 0)) 31 (0, 0))) := Lib.hid (setRow_heap Z.out)
    have B3 : Hid (Below w.heap.size w ((w.alloc (.cells (pkNil PK.zeroPk) 31)).setRow w.heap.size (pkNil (PK.barePk (n / 16) false false 0)))) := Lib.hid (below_setRow HB.out (Nat.le_refl _) _)
    have hl := load_pk_var (P := PK.barePk (n / 16) false false 0) (vc := .slice none 0 0) (vp := .slice none 0 0) (vw := .slice none 0 0) (vs := .slice none 0 0) (vf := .slice none 0 0) Z3.out
    refine bodyPost_ret (v := .tuple #[.agg (pkNil (PK.barePk (n / 16) false false 0)), .bool (n % 16 == PK.fixN (n / 16))]) ?_ rfl ⟨by simp, B3.out⟩
    simp only [results, Tryz.results28]
    simp
    exact read_two hl
set_option maxRecDepth 100000 in
set_option maxHeartbeats 2000000 in
theorem begin_pub (n : Int) (h0 : 0 ≤ n) (h1 : n ≤ 255) (h3 : n / 16 = 3) (w : World) :
    Calls Tryz.prog 28 #[.int .u8 n] w fun e w' => e = .returned (.tuple #[.agg (pkNil (PK.begPk n)), .bool (PK.begOk n)]) ∧ Below w.heap.size w w' := by
  have hA := and15 n h0 h1
  have hf0 : 0 ≤ n % 16 := by omega
  have hf1 : n % 16 ≤ 15 := by omega
  have E1 : Hid (PK.begPk n = PK.barePk 3 (bits .and .i64 (n % 16) 8 != 0) (bits .and .i64 (n % 16) 1 != 0) (bits .and .i64 (n % 16 / 2) 3)) := Lib.hid (by unfold PK.begPk; rw [if_pos h3])
  have E2 : Hid (PK.begOk n = PK.canPub (PK.begPk n)) := Lib.hid (by unfold PK.begOk; rw [if_pos h3])
  rw [E2.out, E1.out]
  clear E2 E1
  have Z : Hid ((w.alloc (.cells (pkNil PK.zeroPk) 31)).heap[w.heap.size]? = some (.cells (pkNil PK.zeroPk) 31 (0, 0))) := Lib.hid (heap_alloc_new w _)
  have HB : Hid (Below w.heap.size w (w.alloc (.cells (pkNil PK.zeroPk) 31))) := Lib.hid ((Below.refl _ _).alloc (Nat.le_refl _) _)
  have O1 := Lib.hid (pkNil_one (PK.barePk 3 (bits .and .i64 (n % 16) 8 != 0) (bits .and .i64 (n % 16) 1 != 0) (bits .and .i64 (n % 16 / 2) 3)))
  have CP := Lib.hid (canpub_any (PK.barePk 3 (bits .and .i64 (n % 16) 8 != 0) (bits .and .i64 (n % 16) 1 != 0) (bits .and .i64 (n % 16 / 2) 3)) (.slice none 0 0) (.slice none 0 0) (.slice none 0 0) (.slice none 0 0) (.slice none 0 0))
  have Z2 : Hid (((w.alloc (.cells (pkNil PK.zeroPk) 31)).alloc (.cells (pkNil PK.zeroPk) 31)).heap[w.heap.size + 1]? = some (.cells (pkNil PK.zeroPk) 31 (0, 0))) := Lib.hid (by
    rw [show w.heap.size + 1 = (w.alloc (.cells (pkNil PK.zeroPk) 31)).heap.size by simp]; exact heap_alloc_new _ _)
  have Z1 : Hid (((w.alloc (.cells (pkNil PK.zeroPk) 31)).alloc (.cells (pkNil PK.zeroPk) 31)).heap[w.heap.size]? = some (.cells (pkNil PK.zeroPk) 31 (0, 0))) := Lib.hid ((Below.heap_alloc _ _ _ (lt_heap Z.out)).trans Z.out)
  have HB2 : Hid (Below w.heap.size w ((w.alloc (.cells (pkNil PK.zeroPk) 31)).alloc (.cells (pkNil PK.zeroPk) 31))) := Lib.hid (HB.out.alloc (by simp) _)
  generalize e8 : (bits .and .i64 (n % 16) 8 != 0) = b8 at *
  generalize e1 : (bits .and .i64 (n % 16) 1 != 0) = b1 at *
  generalize e3 : bits .and .i64 (n % 16 / 2) 3 = q3 at *
  clear Z HB
  go_enter Tryz.func28, Tryz.ntmps28
  go_upto_region 5 with (refine wpList_store_row (by rfl) 31 (.tmp 6) (.tmp 35) (by rfl) (w.heap.size + 1) (pkNil (PK.barePk 3 b8 b1 q3)) (by rfl) (by rfl) 31 (pkNil PK.zeroPk) Z2.out pk_info rfl O1.out ?_)
  obtain ⟨wA, hwA⟩ : ∃ wA, wA = ((w.alloc (.cells (pkNil PK.zeroPk) 31)).alloc (.cells (pkNil PK.zeroPk) 31)).setRow (w.heap.size + 1) (pkNil (PK.barePk 3 b8 b1 q3)) := ⟨_, rfl⟩
  have X1 : wA.heap[w.heap.size + 1]? = some (.cells (pkNil (PK.barePk 3 b8 b1 q3)) 31 (0, 0)) := by rw [hwA]; exact setRow_heap Z2.out
  have X0 : wA.heap[w.heap.size]? = some (.cells (pkNil PK.zeroPk) 31 (0, 0)) := by rw [hwA]; exact (setRow_other _ (by omega)).trans Z1.out
  have HBA : Hid (Below w.heap.size w wA) := Lib.hid (by rw [hwA]; exact below_setRow HB2.out (by omega) _)
  have hsA := HBA.out.size
  change Code.wp _ _ _ _ (((w.alloc (.cells (pkNil PK.zeroPk) 31)).alloc (.cells (pkNil PK.zeroPk) 31)).setRow (w.heap.size + 1) (pkNil (PK.barePk 3 b8 b1 q3)))
  rw [← hwA]
  clear hwA Z2 Z1 HB2
  -- REGION5
  refine wp_region_any (by kernel_rfl) ?_
  change wpAny _ _ _ _ _ _ _ (World.drew _)
  refine wpAny_ready (rs := [0, 1]) (by kernel_rfl) (by simp) ?_
  refine AllReady.cons rfl (fun K hK => ?_) (AllReady.cons rfl (fun K hK => ?_) AllReady.nil)
  · skip
    refine step_load_pk (by rfl) (.tmp 6) (by rfl) (w.heap.size + 1) (by rfl) X1 ?_
    refine hK _ _ ?_
    clear hK K
    refine wpAny_ready (rs := [1]) (by kernel_rfl) (by simp) (AllReady.cons rfl (fun K hK => ?_) AllReady.nil)
    refine step_load_pk (by rfl) (.tmp 6) (by rfl) (w.heap.size + 1) (by rfl) X1 ?_
    refine hK _ _ ?_
    clear hK K
    refine wpAny_ready (rs := [2]) (by kernel_rfl) (by simp) (AllReady.cons rfl (fun K hK => ?_) AllReady.nil)
    go_simp
    refine (CP.out _).mono ?_
    rintro e w1 ⟨rfl, bb⟩
    dsimp only
    have hb1 : Below wA.heap.size wA w1 := below_of_drew bb
    have Y0 := (hb1.block _ (lt_heap X0)).trans X0
    have Y1 := (hb1.block _ (lt_heap X1)).trans X1
    refine hK _ _ ?_
    clear hK K
    refine wpAny_ready (rs := [3]) (by kernel_rfl) (by simp) (AllReady.cons rfl (fun K hK => ?_) AllReady.nil)
    refine step_store_pk (by rfl) (.tmp 2) (.tmp 36) (by rfl) w.heap.size (pkNil (PK.barePk 3 b8 b1 q3)) (by rfl) (by rfl) Y0 pk_info rfl O1.out ?_
    refine hK _ _ ?_
    clear hK K
    refine wpAny_ready (rs := [4]) (by kernel_rfl) (by simp) (AllReady.cons rfl (fun K hK => ?_) AllReady.nil)
    go_simp
    refine hK _ _ ?_
    clear hK K
    refine wpAny_done (by kernel_rfl) ?_ _
    have Z3 : Hid ((w1.setRow w.heap.size (pkNil (PK.barePk 3 b8 b1 q3))).heap[w.heap.size]? = some (.cells (pkNil (PK.barePk 3 b8 b1 q3)) 31 (0, 0))) := Lib.hid (setRow_heap Y0)
    have B3 : Hid (Below w.heap.size w (w1.setRow w.heap.size (pkNil (PK.barePk 3 b8 b1 q3)))) := Lib.hid (below_setRow (HBA.out.trans (hb1.mono hsA)) (Nat.le_refl _) _)
    have hl := load_pk_var (P := (PK.barePk 3 b8 b1 q3)) (vc := .slice none 0 0) (vp := .slice none 0 0) (vw := .slice none 0 0) (vs := .slice none 0 0) (vf := .slice none 0 0) Z3.out
    clear Y0 Y1 X0 X1 bb hb1
    go_wp2_with fail
    refine bodyPost_ret (v := .tuple #[.agg (pkNil (PK.barePk 3 b8 b1 q3)), .bool (PK.canPub (PK.barePk 3 b8 b1 q3))]) ?_ rfl ⟨rfl, B3.out⟩
    simp only [results, Tryz.results28]
    simp
    exact read_two hl
  · skip
    refine step_load_pk (by rfl) (.tmp 6) (by rfl) (w.heap.size + 1) (by rfl) X1 ?_
    refine hK _ _ ?_
    clear hK K
    refine wpAny_ready (rs := [0, 2]) (by kernel_rfl) (by simp) ?_
    refine AllReady.cons rfl (fun K hK => ?_) (AllReady.cons rfl (fun K hK => ?_) AllReady.nil)
    · skip
      refine step_load_pk (by rfl) (.tmp 6) (by rfl) (w.heap.size + 1) (by rfl) X1 ?_
      refine hK _ _ ?_
      clear hK K
      refine wpAny_ready (rs := [2]) (by kernel_rfl) (by simp) (AllReady.cons rfl (fun K hK => ?_) AllReady.nil)
      go_simp
      refine (CP.out _).mono ?_
      rintro e w1 ⟨rfl, bb⟩
      dsimp only
      have hb1 : Below wA.heap.size wA w1 := below_of_drew bb
      have Y0 := (hb1.block _ (lt_heap X0)).trans X0
      have Y1 := (hb1.block _ (lt_heap X1)).trans X1
      refine hK _ _ ?_
      clear hK K
      refine wpAny_ready (rs := [3]) (by kernel_rfl) (by simp) (AllReady.cons rfl (fun K hK => ?_) AllReady.nil)
      refine step_store_pk (by rfl) (.tmp 2) (.tmp 36) (by rfl) w.heap.size (pkNil (PK.barePk 3 b8 b1 q3)) (by rfl) (by rfl) Y0 pk_info rfl O1.out ?_
      refine hK _ _ ?_
      clear hK K
      refine wpAny_ready (rs := [4]) (by kernel_rfl) (by simp) (AllReady.cons rfl (fun K hK => ?_) AllReady.nil)
      go_simp
      refine hK _ _ ?_
      clear hK K
      refine wpAny_done (by kernel_rfl) ?_ _
      have Z3 : Hid ((w1.setRow w.heap.size (pkNil (PK.barePk 3 b8 b1 q3))).heap[w.heap.size]? = some (.cells (pkNil (PK.barePk 3 b8 b1 q3)) 31 (0, 0))) := Lib.hid (setRow_heap Y0)
      have B3 : Hid (Below w.heap.size w (w1.setRow w.heap.size (pkNil (PK.barePk 3 b8 b1 q3)))) := Lib.hid (below_setRow (HBA.out.trans (hb1.mono hsA)) (Nat.le_refl _) _)
      have hl := load_pk_var (P := (PK.barePk 3 b8 b1 q3)) (vc := .slice none 0 0) (vp := .slice none 0 0) (vw := .slice none 0 0) (vs := .slice none 0 0) (vf := .slice none 0 0) Z3.out
      clear Y0 Y1 X0 X1 bb hb1
      go_wp2_with fail
      refine bodyPost_ret (v := .tuple #[.agg (pkNil (PK.barePk 3 b8 b1 q3)), .bool (PK.canPub (PK.barePk 3 b8 b1 q3))]) ?_ rfl ⟨rfl, B3.out⟩
      simp only [results, Tryz.results28]
      simp
      exact read_two hl
    · skip
      go_simp
      refine (CP.out _).mono ?_
      rintro e w1 ⟨rfl, bb⟩
      dsimp only
      have hb1 : Below wA.heap.size wA w1 := below_of_drew bb
      have Y0 := (hb1.block _ (lt_heap X0)).trans X0
      have Y1 := (hb1.block _ (lt_heap X1)).trans X1
      refine hK _ _ ?_
      clear hK K
      refine wpAny_ready (rs := [0]) (by kernel_rfl) (by simp) (AllReady.cons rfl (fun K hK => ?_) AllReady.nil)
      refine step_load_pk (by rfl) (.tmp 6) (by rfl) (w.heap.size + 1) (by rfl) Y1 ?_
      refine hK _ _ ?_
      clear hK K
      refine wpAny_ready (rs := [3]) (by kernel_rfl) (by simp) (AllReady.cons rfl (fun K hK => ?_) AllReady.nil)
      refine step_store_pk (by rfl) (.tmp 2) (.tmp 36) (by rfl) w.heap.size (pkNil (PK.barePk 3 b8 b1 q3)) (by rfl) (by rfl) Y0 pk_info rfl O1.out ?_
      refine hK _ _ ?_
      clear hK K
      refine wpAny_ready (rs := [4]) (by kernel_rfl) (by simp) (AllReady.cons rfl (fun K hK => ?_) AllReady.nil)
      go_simp
      refine hK _ _ ?_
      clear hK K
      refine wpAny_done (by kernel_rfl) ?_ _
      have Z3 : Hid ((w1.setRow w.heap.size (pkNil (PK.barePk 3 b8 b1 q3))).heap[w.heap.size]? = some (.cells (pkNil (PK.barePk 3 b8 b1 q3)) 31 (0, 0))) := Lib.hid (setRow_heap Y0)
      have B3 : Hid (Below w.heap.size w (w1.setRow w.heap.size (pkNil (PK.barePk 3 b8 b1 q3)))) := Lib.hid (below_setRow (HBA.out.trans (hb1.mono hsA)) (Nat.le_refl _) _)
      have hl := load_pk_var (P := (PK.barePk 3 b8 b1 q3)) (vc := .slice none 0 0) (vp := .slice none 0 0) (vw := .slice none 0 0) (vs := .slice none 0 0) (vf := .slice none 0 0) Z3.out
      clear Y0 Y1 X0 X1 bb hb1
      go_wp2_with fail
      refine bodyPost_ret (v := .tuple #[.agg (pkNil (PK.barePk 3 b8 b1 q3)), .bool (PK.canPub (PK.barePk 3 b8 b1 q3))]) ?_ rfl ⟨rfl, B3.out⟩
      simp only [results, Tryz.results28]
      simp
      exact read_two hl
end Go.Proofs.YtjajandjdclifaaGreatDoor
namespace Go.Proofs.YtjajandjdclifaaGreatDoor
open Go.RowKit
attribute [local go_sem ↓] Go.wp_at_zero Go.wp_at_succ

theorem WhP.mono {r : Nat} {w W : World} {X : Pk × Int} {e : Ending} {w' : World} (hg : Gr r w W) (h : WhP r W X e w') : WhP r w X e w' := by
  refine ⟨fun h0 => ?_, fun h0 => ?_⟩
  · obtain ⟨vc, vp, vw, vs, vf, he, ho, hg'⟩ := h.1 h0
    have b := fun {e : TypeId} {k : Nat} {v : Value} {n : Nat} {xs : List Value} (ho : w'.ownsRow W.heap.size e k v n xs) => own_base' ho hg.size
    exact ⟨vc, vp, vw, vs, vf, he, ⟨b ho.codes, b ho.props, b ho.wprops, b ho.subs, b ho.filters⟩, hg.trans hg'⟩
  · obtain ⟨he, hg'⟩ := h.2 h0
    exact ⟨he, hg.trans hg'⟩

set_option maxRecDepth 100000 in
set_option maxHeartbeats 2000000 in
theorem getfn_any (r pb : Nat) (s : ByteArray) (a : Int) (P : Pk) (w : World) (hk1 : 1 ≤ P.kind) (hk2 : P.kind ≤ 15) (hB : Bare P) (h : RdAt r s a w) (hp : w.heap[pb]? = some (.cells (pkNil P) 31 (0, 0))) (hs : s.size ≤ 140737488351232) (hT : ∀ W, Gr r w W → Tabs W) :
    Calls Tryz.prog 32 #[.pointer (some ⟨r, 0, none⟩), .pointer (some ⟨pb, 0, none⟩)] w (WhP r w (PK.rdWhole s a P)) := by
  have b1 := (Below.refl w.heap.size w).alloc (Nat.le_refl _) (.cells (pkNil PK.zeroPk) 31)
  have B1 : (w.alloc (.cells (pkNil PK.zeroPk) 31)).heap[w.heap.size]? = some (.cells (pkNil PK.zeroPk) 31 (0, 0)) := heap_alloc_new w _
  have G0 : Gr r w (w.alloc (.cells (pkNil PK.zeroPk) 31)) := Gr.of_below b1
  have P1 := Lib.hid ((b1.block _ (lt_heap hp)).trans hp)
  have hlt := lt_heap h
  have C1 := Lib.hid (rwhole_any r s a P _ hk1 hk2 hB (h.below b1) hs (fun W hg => hT W (G0.trans hg)))
  have HG0 := Lib.hid G0
  have HB1 := Lib.hid B1
  have hsz : (w.alloc (.cells (pkNil PK.zeroPk) 31)).heap.size = w.heap.size + 1 := by simp
  have HSZ := Lib.hid hsz
  generalize PK.rdWhole s a P = X at *
  clear b1 B1 G0 hp h hT hk1 hk2 hB hsz
  go_enter Tryz.func32, Tryz.ntmps32
  go_wp2_with (refine wpl_load_pk (by rfl) (.tmp 1) (by rfl) pb (by rfl) P1.out ?_)
  refine C1.out.mono ?_
  rintro e w1 hR
  by_cases h1 : X.2 = 0
  · obtain ⟨vc, vp, vw, vs, vf, rfl, o1, g1⟩ := hR.1 h1
    have Z1 := Lib.hid ((g1.block _ (lt_heap HB1.out) (fun e => by injection e with e; omega)).trans HB1.out)
    have G1 := Lib.hid (HG0.out.trans g1)
    have O1 := Lib.hid o1
    have W1 := Lib.hid (pk_one X.1 o1)
    clear hR o1 g1 C1
    go_wp2_with (refine wpList_store_row (by rfl) 31 (.tmp 2) (.tmp 4) (by rfl) w.heap.size (pkCells X.1 vc vp vw vs vf) (by rfl) (by rfl) 31 (pkNil PK.zeroPk) Z1.out pk_info rfl W1.out ?_)
    have Z3 := setRow_heap (cs := pkCells X.1 vc vp vw vs vf) Z1.out
    refine bodyPost_ret (v := .agg (pkCells X.1 vc vp vw vs vf)) ?_ rfl ?_
    · have hl : (loadVar 31 ⟨w.heap.size, 0, none⟩).run Tryz.prog (w1.setRow w.heap.size (pkCells X.1 vc vp vw vs vf)) = .ok (.agg (pkCells X.1 vc vp vw vs vf)) (w1.setRow w.heap.size (pkCells X.1 vc vp vw vs vf)) :=
        run_loadVar_mid _ w.heap.size 0 31 (pkCells X.1 vc vp vw vs vf).toList _ (fun j v hv => by rw [Nat.zero_add, cell_heap Z3, ← hv]; simp) Tryz.underlying31 rfl (by kernel_rfl)
      simp [results, Tryz.results32, Act.put]
      exact hl
    · refine ⟨fun _ => ⟨_, _, _, _, _, rfl, ?_, G1.out.setRow (Nat.le_refl _) _⟩, fun h => absurd h1 h⟩
      have hz := HSZ.out
      have n5 := fun {e : TypeId} {k : Nat} {v : Value} {n : Nat} {xs : List Value} (ho : w1.ownsRow (w.alloc (.cells (pkNil PK.zeroPk) 31)).heap.size e k v n xs) => own_base' (C := w.heap.size) (own_setRow (g := w.heap.size) (pkCells X.1 vc vp vw vs vf) ho (row_ne ho (by omega))) (by omega)
      exact ⟨n5 O1.out.codes, n5 O1.out.props, n5 O1.out.wprops, n5 O1.out.subs, n5 O1.out.filters⟩
  · obtain ⟨rfl, g1⟩ := hR.2 h1
    exact ⟨rfl, fun h => absurd h h1, fun _ => ⟨rfl, HG0.out.trans g1⟩⟩
end Go.Proofs.YtjajandjdclifaaGreatDoor
namespace Go.Proofs.YtjajandjdclifaaGreatDoor
open Go.RowKit
attribute [local go_sem ↓] Go.wp_at_zero Go.wp_at_succ

theorem caught_world {p q : Nat} {cs : Array Value} {x c : Int} {w : World} (hpq : p ≠ q) (hp : w.heap[p]? = some (.cells cs 31 (0, 0))) (hq : w.heap[q]? = some (.cells #[.int .u8 x] 23 (0, 0))) (o : Obj) :
    ((((w.setRow p (pkNil PK.zeroPk)).setCell ⟨q, 0, none⟩ (.int .u8 128)).setCell ⟨q, 0, none⟩ (.int .u8 c)).alloc o).heap[p]? = some (.cells (pkNil PK.zeroPk) 31 (0, 0)) ∧
    ((((w.setRow p (pkNil PK.zeroPk)).setCell ⟨q, 0, none⟩ (.int .u8 128)).setCell ⟨q, 0, none⟩ (.int .u8 c)).alloc o).heap[q]? = some (.cells #[.int .u8 c] 23 (0, 0)) ∧
    G2 p q w ((((w.setRow p (pkNil PK.zeroPk)).setCell ⟨q, 0, none⟩ (.int .u8 128)).setCell ⟨q, 0, none⟩ (.int .u8 c)).alloc o) := by
  have e1 : (w.setRow p (pkNil PK.zeroPk)).heap[q]? = some (.cells #[.int .u8 x] 23 (0, 0)) := (setRow_other _ (Ne.symm hpq)).trans hq
  have e2 := one_setCell (u := .int .u8 128) e1
  have e3 := one_setCell (u := .int .u8 c) e2
  have hz : (((w.setRow p (pkNil PK.zeroPk)).setCell ⟨q, 0, none⟩ (.int .u8 128)).setCell ⟨q, 0, none⟩ (.int .u8 c)).heap.size = w.heap.size := by simp [World.setCell, World.setRow]
  have other : ∀ i, i ≠ q → (((w.setRow p (pkNil PK.zeroPk)).setCell ⟨q, 0, none⟩ (.int .u8 128)).setCell ⟨q, 0, none⟩ (.int .u8 c)).heap[i]? = (w.setRow p (pkNil PK.zeroPk)).heap[i]? := fun i hi => (Below.heap_setCell _ _ _ _ (fun e => hi (by simpa using e))).trans (Below.heap_setCell _ _ _ _ (fun e => hi (by simpa using e)))
  refine ⟨(Below.heap_alloc _ _ _ (by rw [hz]; exact lt_heap hp)).trans ((other p hpq).trans (setRow_heap hp)), (Below.heap_alloc _ _ _ (by rw [hz]; exact lt_heap hq)).trans e3, rfl, rfl, rfl, by simp, fun i hi h1 h2 => (Below.heap_alloc _ _ _ (by rw [hz]; exact hi)).trans ((other i h2).trans (setRow_other _ h1))⟩
theorem taU (v : Value) (xT : TypeId) (w : World) : (Instr.typeAssert (.iface 146 v) xT 146 true).run Tryz.prog w = .ok (.tuple #[v, .bool true]) w := by kernel_rfl

set_option maxRecDepth 100000 in
set_option maxHeartbeats 2000000 in
theorem catch_left (p q : Nat) (cs : Array Value) (x c : Int) (older : List PanicEntry) (w : World) (hpq : p ≠ q) (hcs : cs.size = 26) (hp : w.heap[p]? = some (.cells cs 31 (0, 0))) (hq : w.heap[q]? = some (.cells #[.int .u8 x] 23 (0, 0))) :
    CallsD Tryz.prog 59 #[.pointer (some ⟨p, 0, none⟩), .pointer (some ⟨q, 0, none⟩)] (.panicking ({ v := .iface 146 (.agg #[.int .u8 c]), recovered := false } :: older)) w fun e u' w' =>
      e = .returned (.tuple #[]) ∧ u' = .panicking ({ v := .iface 146 (.agg #[.int .u8 c]), recovered := true } :: older) ∧
        w'.heap[p]? = some (.cells (pkNil PK.zeroPk) 31 (0, 0)) ∧ w'.heap[q]? = some (.cells #[.int .u8 c] 23 (0, 0)) ∧ G2 p q w w' := by
  refine callsD_of_wpS Tryz.func59 rfl fun c₀ cs₀ hu => ?_
  apply wpS_seq
  apply wpS_region
  simp [wpOpsS, go_sem, recoverD, hu, Tryz.ntmps59, Exit.thenS]
  refine wpS_of_wp ?_
  have hta := taU (.agg #[.int .u8 c]) 20
  have hlq := lt_heap hq
  have hs1 : (w.setRow p (pkNil PK.zeroPk)).heap.size = w.heap.size := by simp [World.setRow]
  have Q0 := Lib.hid (setRow_heap (cs := pkNil PK.zeroPk) hp)
  have q1 : (w.setRow p (pkNil PK.zeroPk)).cell? ⟨q, 0, none⟩ = some (.int .u8 x) := by rw [cell_heap ((setRow_other _ (Ne.symm hpq)).trans hq)]; rfl
  have f1 : (w.setRow p (pkNil PK.zeroPk)).frozen? ⟨q, 0, none⟩ = false := frozen_heap ((setRow_other _ (Ne.symm hpq)).trans hq)
  have O1 := Lib.hid (pkNil_one PK.zeroPk)
  change Code.wp _ _ _ { tmps := #[.pointer (some ⟨p, 0, none⟩), .pointer (some ⟨q, 0, none⟩), .iface 146 (.agg #[.int .u8 c]), undef, undef, .iface 146 (.agg #[.int .u8 c]), undef, undef, undef, undef, undef, undef, undef, undef, undef, undef, undef], defers := [] } w
  go_wp2_with (refine wpList_store_row (by rfl) 31 (.tmp 0) (.tmp 8) (by rfl) p (pkNil PK.zeroPk) (by rfl) (by rfl) 31 cs hp pk_info hcs O1.out ?_)
  obtain ⟨r1, r2, r3⟩ := caught_world (c := c) (x := x) hpq hp hq (.cells #[.int .u8 c] 146)
  generalize ((((w.setRow p (pkNil PK.zeroPk)).setCell ⟨q, 0, none⟩ (.int .u8 128)).setCell ⟨q, 0, none⟩ (.int .u8 c)).alloc (.cells #[.int .u8 c] 146)) = W' at r1 r2 r3 ⊢
  simp [bodyPostS, results, Tryz.results59, r1, r2, r3]

set_option maxRecDepth 100000 in
theorem catch_none (p q : Nat) (w : World) :
    CallsD Tryz.prog 59 #[.pointer (some ⟨p, 0, none⟩), .pointer (some ⟨q, 0, none⟩)] .returning w fun e u' w' => e = .returned (.tuple #[]) ∧ u' = .returning ∧ w' = w := by
  refine callsD_of_wpS Tryz.func59 rfl fun c₀ cs hu => ?_
  apply wpS_seq
  apply wpS_region
  simp [wpOpsS, go_sem, recoverD, hu, Tryz.ntmps59, Exit.thenS]
  refine wpS_of_wp ?_
  change Code.wp _ _ _ { tmps := #[.pointer (some ⟨p, 0, none⟩), .pointer (some ⟨q, 0, none⟩), .nilIface, undef, undef, .nilIface, undef, undef, undef, undef, undef, undef, undef, undef, undef, undef, undef], defers := [] } w
  go_wp2
  cases c₀
  simp_all [bodyPostS, results, Tryz.results59]
theorem load_code_var {w : World} {q : Nat} {c : Int} (h : w.heap[q]? = some (.cells #[.int .u8 c] 23 (0, 0))) :
    (loadVar 23 ⟨q, 0, none⟩).run Tryz.prog w = .ok (.int .u8 c) w := by
  have hc : w.cell? ⟨q, 0, none⟩ = some (.int .u8 c) := by rw [cell_heap h]; rfl
  simp [go_sem, hc]
set_option maxRecDepth 100000 in
theorem read_both {w : World} {p q : Nat} {P : Pk} {vc vp vw vs vf : Value} {c : Int} (hp : w.heap[p]? = some (.cells (pkCells P vc vp vw vs vf) 31 (0, 0))) (hq : w.heap[q]? = some (.cells #[.int .u8 c] 23 (0, 0))) :
    ((Sem.run Tryz.prog (asAddr (.pointer (some ⟨p, 0, none⟩))) w).andThen fun a w' => (Sem.run Tryz.prog (loadVar 31 a) w').andThen fun a w' =>
      (Sem.run Tryz.prog (asAddr (.pointer (some ⟨q, 0, none⟩))) w').andThen fun a_1 w' => (Sem.run Tryz.prog (loadVar 23 a_1) w').andThen fun a_2 w' => Result.ok (Value.tuple #[a, a_2]) w') = .ok (.tuple #[.agg (pkCells P vc vp vw vs vf), .int .u8 c]) w := by
  show ((Sem.run Tryz.prog (loadVar 31 ⟨p, 0, none⟩) w).andThen _) = _
  rw [load_pk_var hp]
  show ((Sem.run Tryz.prog (loadVar 23 ⟨q, 0, none⟩) w).andThen _) = _
  rw [load_code_var hq]
  rfl
/-- What caught answers. -/
def CaP (r : Nat) (w : World) (X : Pk × Int) (e : Ending) (w' : World) : Prop :=
  (X.2 = 0 → ∃ vc vp vw vs vf, e = .returned (.tuple #[.agg (pkCells X.1 vc vp vw vs vf), .int .u8 0]) ∧ Own5 w.heap.size X.1 vc vp vw vs vf w' ∧ Gr r w w') ∧ (X.2 ≠ 0 → e = .returned (.tuple #[.agg (pkNil PK.zeroPk), .int .u8 X.2]) ∧ Gr r w w')

set_option maxRecDepth 100000 in
set_option maxHeartbeats 2000000 in
theorem caught_any (r : Nat) (cap : Array Value) (X : Pk × Int) (w : World) (hr : r < w.heap.size)
    (hC : ∀ W, Below w.heap.size w W → Calls Tryz.prog 32 cap W (WhP r W X)) :
    Calls Tryz.prog 31 #[.func (.func 32) #[] cap] w (CaP r w X) := by
  have hmf : ∀ (fn : Fn) (first cap : Array Value) (w : World), (Instr.makeFunc fn first cap).run Tryz.prog w = .ok (.func fn first cap) w := fun _ _ _ _ => rfl
  have b1 := (Below.refl w.heap.size w).alloc (Nat.le_refl _) (.cells (pkNil PK.zeroPk) 31)
  have hsz : (w.alloc (.cells (pkNil PK.zeroPk) 31)).heap.size = w.heap.size + 1 := by simp
  have b2 := b1.alloc (by omega) (.cells #[.int .u8 0] 23)
  have P1 : (w.alloc (.cells (pkNil PK.zeroPk) 31)).heap[w.heap.size]? = some (.cells (pkNil PK.zeroPk) 31 (0, 0)) := heap_alloc_new w _
  have P2 : ((w.alloc (.cells (pkNil PK.zeroPk) 31)).alloc (.cells #[.int .u8 0] 23)).heap[w.heap.size]? = some (.cells (pkNil PK.zeroPk) 31 (0, 0)) := (Below.heap_alloc _ _ _ (lt_heap P1)).trans P1
  have Q2 : ((w.alloc (.cells (pkNil PK.zeroPk) 31)).alloc (.cells #[.int .u8 0] 23)).heap[w.heap.size + 1]? = some (.cells #[.int .u8 0] 23 (0, 0)) := by rw [← hsz]; exact heap_alloc_new _ _
  have C1 := Lib.hid (hC _ b2)
  have hs2 : ((w.alloc (.cells (pkNil PK.zeroPk) 31)).alloc (.cells #[.int .u8 0] 23)).heap.size = w.heap.size + 2 := by simp
  have HB2 := Lib.hid b2
  have HP2 := Lib.hid P2
  have HQ2 := Lib.hid Q2
  have HS2 := Lib.hid hs2
  clear b1 b2 P1 P2 Q2 hs2 hsz hC
  go_enter_defers Tryz.func31, Tryz.ntmps31
  go_wp2_with fail
  refine C1.out.mono ?_
  rintro e w1 hR
  by_cases h1 : X.2 = 0
  · obtain ⟨vc, vp, vw, vs, vf, rfl, o1, g1⟩ := hR.1 h1
    have p1 := (g1.block _ (lt_heap HP2.out) (fun e => by injection e with e; omega)).trans HP2.out
    have q1 := (g1.block _ (lt_heap HQ2.out) (fun e => by injection e with e; omega)).trans HQ2.out
    have W1 := Lib.hid (pk_one X.1 o1)
    have HPP := Lib.hid p1
    have c1 : (w1.setRow w.heap.size (pkCells X.1 vc vp vw vs vf)).cell? ⟨w.heap.size + 1, 0, none⟩ = some (.int .u8 0) := by rw [cell_heap ((setRow_other _ (by omega)).trans q1)]; rfl
    have f1 : (w1.setRow w.heap.size (pkCells X.1 vc vp vw vs vf)).frozen? ⟨w.heap.size + 1, 0, none⟩ = false := frozen_heap ((setRow_other _ (by omega)).trans q1)
    clear hR C1
    go_wp2_with (refine wpList_store_row (by rfl) 31 (.tmp 2) (.tmp 6) (by rfl) w.heap.size (pkCells X.1 vc vp vw vs vf) (by rfl) (by rfl) 31 (pkNil PK.zeroPk) HPP.out pk_info rfl W1.out ?_)
    refine leaves_cons (f := 59) (args := #[.pointer (some ⟨w.heap.size, 0, none⟩), .pointer (some ⟨w.heap.size + 1, 0, none⟩)]) (by simp) (by simp [go_sem]) ?_
    refine (catch_none _ _ _).mono ?_
    rintro e u' w'' ⟨rfl, rfl, rfl⟩
    simp [Leaves, settle, results, Tryz.results31]
    have hp' := setRow_heap (cs := pkCells X.1 vc vp vw vs vf) HPP.out
    have hq' := one_setCell (u := .int .u8 0) ((setRow_other (g := w.heap.size) (pkCells X.1 vc vp vw vs vf) (by omega)).trans q1)
    refine ⟨_, read_both ((Below.heap_setCell _ _ _ _ (fun e => by simp at e)).trans hp') hq', fun _ => ⟨_, _, _, _, _, rfl, ?_, ?_⟩, fun h => absurd h1 h⟩
    · have hz := HS2.out
      have n5 := fun {e : TypeId} {k : Nat} {v : Value} {n : Nat} {xs : List Value} (ho : w1.ownsRow ((w.alloc (.cells (pkNil PK.zeroPk) 31)).alloc (.cells #[.int .u8 0] 23)).heap.size e k v n xs) => own_base' (C := w.heap.size) (ownsRow_setCell_other (own_setRow (g := w.heap.size) (pkCells X.1 vc vp vw vs vf) ho (row_ne ho (by omega))) (a := ⟨w.heap.size + 1, 0, none⟩) (row_ne (r := w.heap.size + 1) ho (by omega)) (.int .u8 0)) (by omega)
      exact ⟨n5 o1.codes, n5 o1.props, n5 o1.wprops, n5 o1.subs, n5 o1.filters⟩
    · exact (((Gr.of_below HB2.out).trans g1).setRow (Nat.le_refl _) _).setNew (by omega) 0 _
  · obtain ⟨rfl, g1⟩ := hR.2 h1
    have p1 := (g1.block _ (lt_heap HP2.out) (fun e => by injection e with e; omega)).trans HP2.out
    have q1 := (g1.block _ (lt_heap HQ2.out) (fun e => by injection e with e; omega)).trans HQ2.out
    change bodyPostD _ _ _ (Exit.panic [{ v := .iface 146 (.agg #[.int .u8 X.2]), recovered := false }]) _ _
    refine leaves_cons (f := 59) (args := #[.pointer (some ⟨w.heap.size, 0, none⟩), .pointer (some ⟨w.heap.size + 1, 0, none⟩)]) (by simp) (by simp [go_sem]) ?_
    refine (catch_left w.heap.size (w.heap.size + 1) (pkNil PK.zeroPk) 0 X.2 [] w1 (by omega) rfl p1 q1).mono ?_
    rintro e u' w'' ⟨rfl, rfl, r1, r2, r3⟩
    simp [Leaves, settle, results, Tryz.results31]
    refine ⟨_, read_both (P := PK.zeroPk) (vc := .slice none 0 0) (vp := .slice none 0 0) (vw := .slice none 0 0) (vs := .slice none 0 0) (vf := .slice none 0 0) r1 r2, fun h => absurd h h1, fun _ => ⟨rfl, ?_⟩⟩
    have g0 := (Gr.of_below (r := r) HB2.out).trans g1
    exact ⟨r3.os.trans g0.os, r3.tape.trans g0.tape, r3.output.trans g0.output, Nat.le_trans g0.size r3.size, fun i hi hne => (r3.block i (Nat.lt_of_lt_of_le hi g0.size) (by omega) (by omega)).trans (g0.block i hi hne)⟩
end Go.Proofs.YtjajandjdclifaaGreatDoor
namespace Go.Proofs.YtjajandjdclifaaGreatDoor
namespace VP

theorem str_at (xs : List Int) (i : Nat) (h : i < (strOfNums xs).size) (h' : i < xs.length) (h0 : 0 ≤ xs[i]) (h1 : xs[i] < 256) : (((strOfNums xs)[i]'h).toNat : Int) = xs[i] := by
  have e : (strOfNums xs)[i]'h = UInt8.ofNat (xs[i]).toNat := by
    show (strOfNums xs).data[i] = _
    simp [strOfNums]
  rw [e, UInt8.toNat_ofNat']
  omega

theorem got1 (s : ByteArray) (k : Nat) (a : Int) (h : k < s.size) (b0 : ((s[k]'(by omega)).toNat : Int) = a) (hl : a < 128) (hz : sz (0 + a) = 1) :
    get s k = (0 + a, (k : Int) + 1, 0) := by
  rw [get_in s k (by omega)]
  rw [last0 s k _ h (by omega) (by rw [b0]; exact hz), b0]

theorem got2 (s : ByteArray) (k : Nat) (a b : Int) (h : k + 1 < s.size) (b0 : ((s[k]'(by omega)).toNat : Int) = a) (b1 : ((s[k + 1]'(by omega)).toNat : Int) = b) (h0 : 128 ≤ a) (hl : b < 128) (hz : sz (0 + (a - 128) + b * 128) = 2) :
    get s k = (0 + (a - 128) + b * 128, (k : Int) + 1 + 1, 0) := by
  rw [get_in s k (by omega)]
  rw [more0 s k _ (by omega) (by omega), b0]
  rw [last1 s k _ h (by omega) (by rw [b1]; exact hz), b1]

theorem got3 (s : ByteArray) (k : Nat) (a b c : Int) (h : k + 2 < s.size) (b0 : ((s[k]'(by omega)).toNat : Int) = a) (b1 : ((s[k + 1]'(by omega)).toNat : Int) = b) (b2 : ((s[k + 2]'(by omega)).toNat : Int) = c) (h0 : 128 ≤ a) (h1 : 128 ≤ b) (hl : c < 128) (hz : sz (0 + (a - 128) + (b - 128) * 128 + c * 16384) = 3) :
    get s k = (0 + (a - 128) + (b - 128) * 128 + c * 16384, (k : Int) + 2 + 1, 0) := by
  rw [get_in s k (by omega)]
  rw [more0 s k _ (by omega) (by omega), b0]
  rw [more1 s k _ (by omega) (by omega), b1]
  rw [last2 s k _ h (by omega) (by rw [b2]; exact hz), b2]

theorem got4 (s : ByteArray) (k : Nat) (a b c d : Int) (h : k + 3 < s.size) (b0 : ((s[k]'(by omega)).toNat : Int) = a) (b1 : ((s[k + 1]'(by omega)).toNat : Int) = b) (b2 : ((s[k + 2]'(by omega)).toNat : Int) = c) (b3 : ((s[k + 3]'(by omega)).toNat : Int) = d) (h0 : 128 ≤ a) (h1 : 128 ≤ b) (h2 : 128 ≤ c) (hl : d < 128) (hz : sz (0 + (a - 128) + (b - 128) * 128 + (c - 128) * 16384 + d * 2097152) = 4) :
    get s k = (0 + (a - 128) + (b - 128) * 128 + (c - 128) * 16384 + d * 2097152, (k : Int) + 3 + 1, 0) := by
  rw [get_in s k (by omega)]
  rw [more0 s k _ (by omega) (by omega), b0]
  rw [more1 s k _ (by omega) (by omega), b1]
  rw [more2 s k _ (by omega) (by omega), b2]
  rw [last3 s k _ h (by omega) (by rw [b3]; exact hz), b3]

theorem get_put1 {n : Int} (h : 0 ≤ n) (h' : n < 128) : get (strOfNums (putL n)) 0 = (n, 1, 0) := by
  rw [putL_1 h h']
  generalize hs : strOfNums [n] = s
  have hz : s.size = 1 := by rw [← hs, strOfNums_size]; rfl
  have b0 : ((s[0]'(by omega)).toNat : Int) = n := by subst hs; exact str_at _ 0 (by omega) (by simp) (by simp; omega) (by simp; omega)
  have e : 0 + n = n := by omega
  have g := got1 s 0 (n) (by omega) (by simpa using b0) (by omega) (by rw [e]; exact sz_1 h h')
  rw [e] at g
  simpa using g

theorem get_put2 {n : Int} (h : 128 ≤ n) (h' : n < 16384) : get (strOfNums (putL n)) 0 = (n, 2, 0) := by
  rw [putL_2 h h']
  generalize hs : strOfNums [n % 128 + 128, n / 128] = s
  have hz : s.size = 2 := by rw [← hs, strOfNums_size]; rfl
  have b0 : ((s[0]'(by omega)).toNat : Int) = n % 128 + 128 := by subst hs; exact str_at _ 0 (by omega) (by simp) (by simp; omega) (by simp; omega)
  have b1 : ((s[1]'(by omega)).toNat : Int) = n / 128 := by subst hs; exact str_at _ 1 (by omega) (by simp) (by simp; omega) (by simp; omega)
  have e : 0 + ((n % 128 + 128) - 128) + n / 128 * 128 = n := by omega
  have g := got2 s 0 (n % 128 + 128) (n / 128) (by omega) (by simpa using b0) (by simpa using b1) (by omega) (by omega) (by rw [e]; exact sz_2 h h')
  rw [e] at g
  simpa using g

theorem get_put3 {n : Int} (h : 16384 ≤ n) (h' : n < 2097152) : get (strOfNums (putL n)) 0 = (n, 3, 0) := by
  rw [putL_3 h h']
  generalize hs : strOfNums [n % 128 + 128, n / 128 % 128 + 128, n / 16384] = s
  have hz : s.size = 3 := by rw [← hs, strOfNums_size]; rfl
  have b0 : ((s[0]'(by omega)).toNat : Int) = n % 128 + 128 := by subst hs; exact str_at _ 0 (by omega) (by simp) (by simp; omega) (by simp; omega)
  have b1 : ((s[1]'(by omega)).toNat : Int) = n / 128 % 128 + 128 := by subst hs; exact str_at _ 1 (by omega) (by simp) (by simp; omega) (by simp; omega)
  have b2 : ((s[2]'(by omega)).toNat : Int) = n / 16384 := by subst hs; exact str_at _ 2 (by omega) (by simp) (by simp; omega) (by simp; omega)
  have e : 0 + ((n % 128 + 128) - 128) + ((n / 128 % 128 + 128) - 128) * 128 + n / 16384 * 16384 = n := by omega
  have g := got3 s 0 (n % 128 + 128) (n / 128 % 128 + 128) (n / 16384) (by omega) (by simpa using b0) (by simpa using b1) (by simpa using b2) (by omega) (by omega) (by omega) (by rw [e]; exact sz_3 h h')
  rw [e] at g
  simpa using g

theorem get_put4 {n : Int} (h : 2097152 ≤ n) (h' : n ≤ 268435455) : get (strOfNums (putL n)) 0 = (n, 4, 0) := by
  rw [putL_4 h h']
  generalize hs : strOfNums [n % 128 + 128, n / 128 % 128 + 128, n / 16384 % 128 + 128, n / 2097152] = s
  have hz : s.size = 4 := by rw [← hs, strOfNums_size]; rfl
  have b0 : ((s[0]'(by omega)).toNat : Int) = n % 128 + 128 := by subst hs; exact str_at _ 0 (by omega) (by simp) (by simp; omega) (by simp; omega)
  have b1 : ((s[1]'(by omega)).toNat : Int) = n / 128 % 128 + 128 := by subst hs; exact str_at _ 1 (by omega) (by simp) (by simp; omega) (by simp; omega)
  have b2 : ((s[2]'(by omega)).toNat : Int) = n / 16384 % 128 + 128 := by subst hs; exact str_at _ 2 (by omega) (by simp) (by simp; omega) (by simp; omega)
  have b3 : ((s[3]'(by omega)).toNat : Int) = n / 2097152 := by subst hs; exact str_at _ 3 (by omega) (by simp) (by simp; omega) (by simp; omega)
  have e : 0 + ((n % 128 + 128) - 128) + ((n / 128 % 128 + 128) - 128) * 128 + ((n / 16384 % 128 + 128) - 128) * 16384 + n / 2097152 * 2097152 = n := by omega
  have g := got4 s 0 (n % 128 + 128) (n / 128 % 128 + 128) (n / 16384 % 128 + 128) (n / 2097152) (by omega) (by simpa using b0) (by simpa using b1) (by simpa using b2) (by simpa using b3) (by omega) (by omega) (by omega) (by omega) (by rw [e]; exact sz_4 h h')
  rw [e] at g
  simpa using g

theorem putL_len {n : Int} (h : 0 ≤ n) (h' : n ≤ 268435455) : ((putL n).length : Int) = sz n := by
  rcases (show (n < 128) ∨ (128 ≤ n ∧ n < 16384) ∨ (16384 ≤ n ∧ n < 2097152) ∨ (2097152 ≤ n) from by omega) with g | ⟨g, g'⟩ | ⟨g, g'⟩ | g
  · rw [putL_1 h g, sz_1 h g]; rfl
  · rw [putL_2 g g', sz_2 g g']; rfl
  · rw [putL_3 g g', sz_3 g g']; rfl
  · rw [putL_4 g h', sz_4 g h']; rfl

theorem get_put {n : Int} (h : 0 ≤ n) (h' : n ≤ 268435455) : get (strOfNums (putL n)) 0 = (n, ((putL n).length : Int), 0) := by
  rw [putL_len h h']
  rcases (show (n < 128) ∨ (128 ≤ n ∧ n < 16384) ∨ (16384 ≤ n ∧ n < 2097152) ∨ (2097152 ≤ n) from by omega) with g | ⟨g, g'⟩ | ⟨g, g'⟩ | g
  · rw [get_put1 h g, sz_1 h g]
  · rw [get_put2 g g', sz_2 g g']
  · rw [get_put3 g g', sz_3 g g']
  · rw [get_put4 g h', sz_4 g h']

theorem sz_inv1 {x : Int} (h : sz x = 1) : 0 ≤ x ∧ x < 128 := by unfold sz at h; repeat' split at h; all_goals omega
theorem sz_inv2 {x : Int} (h : sz x = 2) : 128 ≤ x ∧ x < 16384 := by unfold sz at h; repeat' split at h; all_goals omega
theorem sz_inv3 {x : Int} (h : sz x = 3) : 16384 ≤ x ∧ x < 2097152 := by unfold sz at h; repeat' split at h; all_goals omega
theorem sz_inv4 {x : Int} (h : sz x = 4) : 2097152 ≤ x ∧ x ≤ 268435455 := by unfold sz at h; repeat' split at h; all_goals omega

theorem byte_lt (s : ByteArray) (k : Nat) (h : k < s.size) : ((s[k]'h).toNat : Int) < 256 := by
  have := (s[k]'h).toNat_lt
  omega

/-- What it is that a number was read of: its bytes, and no others. -/
def Read (s : ByteArray) (k : Nat) : Prop :=
  ∃ (x : Int) (m : Nat), 1 ≤ m ∧ k + m ≤ s.size ∧ 0 ≤ x ∧ x ≤ 268435455 ∧ (putL x).length = m ∧ get s k = (x, (k : Int) + m, 0) ∧
    ∀ i (h : k + i < s.size) (h' : i < (putL x).length), ((s[k + i]'h).toNat : Int) = (putL x)[i]

theorem read_got1 (s : ByteArray) (k : Nat) (a : Int) (h : k < s.size) (b0 : ((s[k]'(by omega)).toNat : Int) = a) (_h0 : 0 ≤ a) (hl : a < 128) (hz : sz (0 + a) = 1) : Read s k := by
  obtain ⟨r0, r1⟩ := sz_inv1 hz
  have hp := putL_1 r0 r1
  refine ⟨0 + a, 1, by omega, by omega, by omega, by omega, by rw [hp]; rfl, ?_, ?_⟩
  · rw [got1 s k a h b0 hl hz]
    simp
    try omega
  · intro j hj hj'
    simp only [hp]
    rw [hp] at hj'
    match j, hj' with
    | 0, _ => simp only [Nat.add_zero]; simp; omega

theorem read_got2 (s : ByteArray) (k : Nat) (a b : Int) (h : k + 1 < s.size) (b0 : ((s[k]'(by omega)).toNat : Int) = a) (b1 : ((s[k + 1]'(by omega)).toNat : Int) = b) (h0 : 128 ≤ a) (g0 : a < 256) (_h1 : 0 ≤ b) (hl : b < 128) (hz : sz (0 + (a - 128) + b * 128) = 2) : Read s k := by
  obtain ⟨r0, r1⟩ := sz_inv2 hz
  have hp := putL_2 r0 r1
  refine ⟨0 + (a - 128) + b * 128, 2, by omega, by omega, by omega, by omega, by rw [hp]; rfl, ?_, ?_⟩
  · rw [got2 s k a b h b0 b1 h0 hl hz]
    simp
    try omega
  · intro j hj hj'
    simp only [hp]
    rw [hp] at hj'
    match j, hj' with
    | 0, _ => simp only [Nat.add_zero]; simp; omega
    | 1, _ => simp; omega

theorem read_got3 (s : ByteArray) (k : Nat) (a b c : Int) (h : k + 2 < s.size) (b0 : ((s[k]'(by omega)).toNat : Int) = a) (b1 : ((s[k + 1]'(by omega)).toNat : Int) = b) (b2 : ((s[k + 2]'(by omega)).toNat : Int) = c) (h0 : 128 ≤ a) (g0 : a < 256) (h1 : 128 ≤ b) (g1 : b < 256) (_h2 : 0 ≤ c) (hl : c < 128) (hz : sz (0 + (a - 128) + (b - 128) * 128 + c * 16384) = 3) : Read s k := by
  obtain ⟨r0, r1⟩ := sz_inv3 hz
  have hp := putL_3 r0 r1
  refine ⟨0 + (a - 128) + (b - 128) * 128 + c * 16384, 3, by omega, by omega, by omega, by omega, by rw [hp]; rfl, ?_, ?_⟩
  · rw [got3 s k a b c h b0 b1 b2 h0 h1 hl hz]
    simp
    try omega
  · intro j hj hj'
    simp only [hp]
    rw [hp] at hj'
    match j, hj' with
    | 0, _ => simp only [Nat.add_zero]; simp; omega
    | 1, _ => simp; omega
    | 2, _ => simp; omega

theorem read_got4 (s : ByteArray) (k : Nat) (a b c d : Int) (h : k + 3 < s.size) (b0 : ((s[k]'(by omega)).toNat : Int) = a) (b1 : ((s[k + 1]'(by omega)).toNat : Int) = b) (b2 : ((s[k + 2]'(by omega)).toNat : Int) = c) (b3 : ((s[k + 3]'(by omega)).toNat : Int) = d) (h0 : 128 ≤ a) (g0 : a < 256) (h1 : 128 ≤ b) (g1 : b < 256) (h2 : 128 ≤ c) (g2 : c < 256) (_h3 : 0 ≤ d) (hl : d < 128) (hz : sz (0 + (a - 128) + (b - 128) * 128 + (c - 128) * 16384 + d * 2097152) = 4) : Read s k := by
  obtain ⟨r0, r1⟩ := sz_inv4 hz
  have hp := putL_4 r0 r1
  refine ⟨0 + (a - 128) + (b - 128) * 128 + (c - 128) * 16384 + d * 2097152, 4, by omega, by omega, by omega, by omega, by rw [hp]; rfl, ?_, ?_⟩
  · rw [got4 s k a b c d h b0 b1 b2 b3 h0 h1 h2 hl hz]
    simp
    try omega
  · intro j hj hj'
    simp only [hp]
    rw [hp] at hj'
    match j, hj' with
    | 0, _ => simp only [Nat.add_zero]; simp; omega
    | 1, _ => simp; omega
    | 2, _ => simp; omega
    | 3, _ => simp; omega

theorem get_inv (s : ByteArray) (k : Nat) (hk : k ≤ s.size) (hc : (get s k).2.2 = 0) : Read s k := by
  have hg := get_in s k hk
  by_cases l0 : k < s.size
  · have w0 := byte_lt s k l0
    by_cases c0 : ((s[k]'l0).toNat : Int) < 128
    · refine read_got1 s k _ l0 rfl (by omega) c0 ?_
      exact sz_1 (by omega) (by omega)
    · rw [more0 s k 0 l0 c0] at hg
      by_cases l1 : k + 1 < s.size
      · have w1 := byte_lt s (k + 1) l1
        by_cases c1 : ((s[k + 1]'l1).toNat : Int) < 128
        · by_cases hz : sz (0 + (((s[k]'l0).toNat : Int) - 128) + ((s[k + 1]'l1).toNat : Int) * 128) = 2
          · exact read_got2 s k _ _ l1 rfl rfl (by omega) w0 (by omega) c1 hz
          · rw [bad1 s k _ l1 c1 hz] at hg; rw [hg] at hc; exact absurd hc (by decide)
        · rw [more1 s k _ l1 c1] at hg
          by_cases l2 : k + 2 < s.size
          · have w2 := byte_lt s (k + 2) l2
            by_cases c2 : ((s[k + 2]'l2).toNat : Int) < 128
            · by_cases hz : sz (0 + (((s[k]'l0).toNat : Int) - 128) + (((s[k + 1]'l1).toNat : Int) - 128) * 128 + ((s[k + 2]'l2).toNat : Int) * 16384) = 3
              · exact read_got3 s k _ _ _ l2 rfl rfl rfl (by omega) w0 (by omega) w1 (by omega) c2 hz
              · rw [bad2 s k _ l2 c2 hz] at hg; rw [hg] at hc; exact absurd hc (by decide)
            · rw [more2 s k _ l2 c2] at hg
              by_cases l3 : k + 3 < s.size
              · have w3 := byte_lt s (k + 3) l3
                by_cases c3 : ((s[k + 3]'l3).toNat : Int) < 128
                · by_cases hz : sz (0 + (((s[k]'l0).toNat : Int) - 128) + (((s[k + 1]'l1).toNat : Int) - 128) * 128 + (((s[k + 2]'l2).toNat : Int) - 128) * 16384 + ((s[k + 3]'l3).toNat : Int) * 2097152) = 4
                  · exact read_got4 s k _ _ _ _ l3 rfl rfl rfl rfl (by omega) w0 (by omega) w1 (by omega) w2 (by omega) c3 hz
                  · rw [bad3 s k _ l3 c3 hz] at hg; rw [hg] at hc; exact absurd hc (by decide)
                · rw [more3 s k _ l3 c3, getG_0] at hg; rw [hg] at hc; exact absurd hc (by decide)
              · rw [ends3 s k _ l3] at hg; rw [hg] at hc; exact absurd hc (by decide)
          · rw [ends2 s k _ l2] at hg; rw [hg] at hc; exact absurd hc (by decide)
      · rw [ends1 s k _ l1] at hg; rw [hg] at hc; exact absurd hc (by decide)
  · rw [ends0 s k _ l0] at hg; rw [hg] at hc; exact absurd hc (by decide)

theorem extract_eq (s : ByteArray) (m : Nat) (xs : List Int) (hm : xs.length = m) (hs : m ≤ s.size) (hb : ∀ i (h : i < s.size) (h' : i < xs.length), ((s[i]'h).toNat : Int) = xs[i]) : s.extract 0 m = strOfNums xs := by
  apply ByteArray.ext
  apply Array.ext
  · simp [strOfNums, hm]; omega
  · intro i h1 h2
    have hi : i < xs.length := by simpa [strOfNums] using h2
    have hx := hb i (by omega) hi
    have hx' : xs[i].toNat = (s[i]'(by omega)).toNat := by omega
    simp only [strOfNums, ByteArray.data_extract]
    simp only [Array.getElem_extract, List.getElem_toArray, List.getElem_map, Nat.zero_add, hx', UInt8.ofNat_toNat]
    rfl

theorem read_back (s : ByteArray) (hc : (get s 0).2.2 = 0) : ∃ (x : Int) (m : Nat), 1 ≤ m ∧ m ≤ s.size ∧ 0 ≤ x ∧ x ≤ 268435455 ∧ get s 0 = (x, (m : Int), 0) ∧ s.extract 0 m = strOfNums (putL x) := by
  obtain ⟨x, m, h1, h2, h3, h4, h5, h6, h7⟩ := get_inv s 0 (Nat.zero_le _) hc
  refine ⟨x, m, h1, by omega, h3, h4, by simpa using h6, ?_⟩
  exact extract_eq s m (putL x) h5 (by omega) (fun i h h' => by have := h7 i (by omega) h'; simpa using this)

end VP
end Go.Proofs.YtjajandjdclifaaGreatDoor
namespace Go.Proofs.YtjajandjdclifaaGreatDoor
namespace ST
/-- How many bytes the packet has that stands whole at the beginning of s, and the code. -/
def first (s : ByteArray) (most : Int) : Int × Int :=
  if s.size = 0 then (0, 242) else if (VP.get s 1).2.2 ≠ 0 then (0, (VP.get s 1).2.2) else
  if most < (VP.get s 1).2.1 + (VP.get s 1).1 then (0, 149) else
  if (s.size : Int) < (VP.get s 1).2.1 + (VP.get s 1).1 then (0, 242) else ((VP.get s 1).2.1 + (VP.get s 1).1, 0)
theorem get1 (s : ByteArray) (h : s.size ≠ 0) (hc : (VP.get s 1).2.2 = 0) : ∃ n b : Nat, VP.get s 1 = ((n : Int), (b : Int), 0) ∧ n ≤ 268435455 ∧ 2 ≤ b ∧ b ≤ s.size := by
  obtain ⟨x, m, h1, h2, h3, h4, _, h6, _⟩ := VP.get_inv s 1 (by omega) hc
  obtain ⟨n, rfl⟩ := Int.eq_ofNat_of_zero_le h3
  exact ⟨n, 1 + m, by rw [show ((1 : Int)) = ((1 : Nat) : Int) from rfl, h6]; simp, by omega, by omega, by omega⟩
theorem first_ok (s : ByteArray) (most : Int) (h : (first s most).2 = 0) : ∃ k : Nat, first s most = ((k : Int), 0) ∧ 2 ≤ k ∧ k ≤ s.size := by
  unfold first at h ⊢
  by_cases h0 : s.size = 0
  · rw [if_pos h0] at h; exact absurd h (by decide)
  rw [if_neg h0] at h ⊢
  by_cases h1 : (VP.get s 1).2.2 ≠ 0
  · rw [if_pos h1] at h; exact absurd h h1
  rw [if_neg h1] at h ⊢
  obtain ⟨n, b, hg, hn, hb1, hb2⟩ := get1 s h0 (Classical.not_not.1 h1)
  rw [hg] at h ⊢
  simp only at h ⊢
  by_cases h2 : most < (b : Int) + n
  · rw [if_pos h2] at h; exact absurd h (by decide)
  rw [if_neg h2] at h ⊢
  by_cases h3 : (s.size : Int) < (b : Int) + n
  · rw [if_pos h3] at h; exact absurd h (by decide)
  rw [if_neg h3]
  exact ⟨b + n, by simp, by omega, by omega⟩
/-- The packets from a place on whose f is no code; the place behind them, and the code. -/
def thr (s : ByteArray) (most : Int) (f : ByteArray → Int) : Nat → Nat → List ByteArray × Nat × Int
  | 0, a => ([], a, 0)
  | u + 1, a =>
    if (first (s.extract a s.size) most).2 = 0 then
      if f (s.extract a (a + (first (s.extract a s.size) most).1.toNat)) = 0 then
        (s.extract a (a + (first (s.extract a s.size) most).1.toNat) :: (thr s most f u (a + (first (s.extract a s.size) most).1.toNat)).1, (thr s most f u (a + (first (s.extract a s.size) most).1.toNat)).2)
      else ([], a, f (s.extract a (a + (first (s.extract a s.size) most).1.toNat)))
    else ([], a, if (first (s.extract a s.size) most).2 = 242 then 0 else (first (s.extract a s.size) most).2)
/-- What a loop has done of them. -/
def Thr (s : ByteArray) (most : Int) (f : ByteArray → Int) (l : List ByteArray) (a : Nat) : Prop :=
  ∃ u, s.size < a + u ∧ a ≤ s.size ∧ 2 * l.length ≤ a ∧ thr s most f (s.size + 1) 0 = (l ++ (thr s most f u a).1, (thr s most f u a).2)
theorem Thr.start (s : ByteArray) (most : Int) (f : ByteArray → Int) : Thr s most f [] 0 := ⟨s.size + 1, by omega, by omega, by simp, by simp⟩
theorem Thr.step {s : ByteArray} {most : Int} {f : ByteArray → Int} {l : List ByteArray} {a k : Nat} (h : Thr s most f l a) (hf : first (s.extract a s.size) most = ((k : Int), 0)) (hk : 2 ≤ k) (hk2 : a + k ≤ s.size) (h0 : f (s.extract a (a + k)) = 0) : Thr s most f (l ++ [s.extract a (a + k)]) (a + k) := by
  obtain ⟨u, h1, h2, h3, h4⟩ := h
  obtain ⟨v, rfl⟩ : ∃ v, u = v + 1 := ⟨u - 1, by omega⟩
  refine ⟨v, by omega, hk2, by simp; omega, ?_⟩
  rw [h4, thr, hf]
  simp [h0]
theorem Thr.left {s : ByteArray} {most : Int} {f : ByteArray → Int} {l : List ByteArray} {a k : Nat} (h : Thr s most f l a) (hf : first (s.extract a s.size) most = ((k : Int), 0)) (h0 : f (s.extract a (a + k)) ≠ 0) : thr s most f (s.size + 1) 0 = (l, a, f (s.extract a (a + k))) := by
  obtain ⟨u, h1, h2, h3, h4⟩ := h
  obtain ⟨v, rfl⟩ : ∃ v, u = v + 1 := ⟨u - 1, by omega⟩
  rw [h4, thr, hf]
  simp [h0]
theorem Thr.stop {s : ByteArray} {most : Int} {f : ByteArray → Int} {l : List ByteArray} {a : Nat} (h : Thr s most f l a) (hf : (first (s.extract a s.size) most).2 ≠ 0) : thr s most f (s.size + 1) 0 = (l, a, if (first (s.extract a s.size) most).2 = 242 then 0 else (first (s.extract a s.size) most).2) := by
  obtain ⟨u, h1, h2, h3, h4⟩ := h
  obtain ⟨v, rfl⟩ : ∃ v, u = v + 1 := ⟨u - 1, by omega⟩
  rw [h4, thr, if_neg hf]
  simp
theorem Thr.size {s : ByteArray} {most : Int} {f : ByteArray → Int} {l : List ByteArray} {a : Nat} (h : Thr s most f l a) : a ≤ s.size ∧ 2 * l.length ≤ a := by
  obtain ⟨u, h1, h2, h3, h4⟩ := h
  exact ⟨h2, h3⟩
end ST
end Go.Proofs.YtjajandjdclifaaGreatDoor
namespace Go.Proofs.YtjajandjdclifaaGreatDoor
open Go.RowKit

theorem empty_list {s : ByteArray} (h : s.size = 0) : s = ⟨#[]⟩ := by
  cases s with | mk d => cases d with | mk l => cases l with
    | nil => rfl
    | cons a b => simp [ByteArray.size] at h
theorem nonempty_list {s : ByteArray} (h : s.size ≠ 0) : (s.toList == []) = false := by
  rw [beq_eq_false_iff_ne]
  intro e
  rw [ByteArray.toList_eq] at e
  apply h
  cases s with | mk d => cases d with | mk l => cases l with
    | nil => rfl
    | cons a b => simp at e
theorem st_from (s : ByteArray) (k : Nat) (h : k ≤ s.size) (w : World) :
    (Instr.slice 9 (.string s) (some (.int .i64 (k : Int))) none none).run Tryz.prog w = .ok (.string (s.extract k s.size)) w := by
  rw [run_slice_string_from_if w 9 s .i64 _ Tryz.underlying9, if_pos (by omega)]
  rfl
theorem st_upto (s : ByteArray) (k : Nat) (h : k ≤ s.size) (w : World) :
    (Instr.slice 9 (.string s) none (some (.int .i64 (k : Int))) none).run Tryz.prog w = .ok (.string (s.extract 0 k)) w := by
  rw [run_slice_string_to_if w 9 s .i64 _ Tryz.underlying9, if_pos (by omega)]
  rfl
theorem st_part (s : ByteArray) (a k : Nat) (h : a + k ≤ s.size) (w : World) :
    (Instr.slice 9 (.string s) (some (.int .i64 (a : Int))) (some (.int .i64 ((a : Int) + (k : Int)))) none).run Tryz.prog w = .ok (.string (s.extract a (a + k))) w := by
  rw [run_slice_string_if w 9 s .i64 .i64 _ _ Tryz.underlying9, if_pos (by omega), if_pos (by omega)]
  have e1 : ((a : Int)).toNat = a := by omega
  have e2 : ((a : Int) + (k : Int)).toNat = a + k := by omega
  rw [e1, e2]

set_option maxRecDepth 100000 in
set_option maxHeartbeats 1000000 in
theorem first_any (s : ByteArray) (most : Int) (hs : s.size ≤ 140737488351232) (w : World) :
    Calls Tryz.prog 90 #[.string s, .int .i64 most] w fun e w' => e = .returned (.tuple #[.int .i64 (ST.first s most).1, .int .u8 (ST.first s most).2]) ∧ w = w' := by
  by_cases h0 : s.size = 0
  · have e : ST.first s most = (0, 242) := by unfold ST.first; rw [if_pos h0]
    rw [e]
    obtain rfl := empty_list h0
    go_enter Tryz.func90, Tryz.ntmps90
    go_wp2
    go_ret2
    exact ⟨rfl, rfl⟩
  have hne := nonempty_list h0
  have C := Lib.hid (get_any s 1 (by unfold maxLen; omega))
  by_cases h1 : (VP.get s 1).2.2 ≠ 0
  · have e : ST.first s most = (0, (VP.get s 1).2.2) := by unfold ST.first; rw [if_neg h0, if_pos h1]
    rw [e]
    generalize VP.get s 1 = X at *
    obtain ⟨n, b, c⟩ := X
    simp only at C h1 ⊢
    have hc : (c != 0) = true := by rw [bne_iff_ne]; exact h1
    go_enter Tryz.func90, Tryz.ntmps90
    go_wp2_with fail
    refine (C.out _).mono ?_
    rintro e w' ⟨rfl, rfl⟩
    go_wp2
    go_ret2
    exact ⟨rfl, rfl⟩
  obtain ⟨n, b, hg, hn, hb1, hb2⟩ := ST.get1 s h0 (Classical.not_not.1 h1)
  have e : ST.first s most = if most < (b : Int) + n then (0, 149) else if (s.size : Int) < (b : Int) + n then (0, 242) else ((b : Int) + n, 0) := by unfold ST.first; rw [if_neg h0, if_neg h1, hg]
  rw [e]
  rw [hg] at C
  simp only at C
  clear hg h1 e h0
  by_cases h2 : most < (b : Int) + n
  · rw [if_pos h2]
    go_enter Tryz.func90, Tryz.ntmps90
    go_wp2_with fail
    refine (C.out _).mono ?_
    rintro e w' ⟨rfl, rfl⟩
    go_wp2
    go_ret2
    exact ⟨rfl, rfl⟩
  rw [if_neg h2]
  by_cases h3 : (s.size : Int) < (b : Int) + n
  · rw [if_pos h3]
    go_enter Tryz.func90, Tryz.ntmps90
    go_wp2_with fail
    refine (C.out _).mono ?_
    rintro e w' ⟨rfl, rfl⟩
    go_wp2
    go_ret2
    exact ⟨rfl, rfl⟩
  rw [if_neg h3]
  go_enter Tryz.func90, Tryz.ntmps90
  go_wp2_with fail
  refine (C.out _).mono ?_
  rintro e w' ⟨rfl, rfl⟩
  go_wp2
  go_ret2
  exact ⟨rfl, rfl⟩
end Go.Proofs.YtjajandjdclifaaGreatDoor
namespace Go.Proofs.YtjajandjdclifaaGreatDoor
open Go.RowKit
attribute [local go_sem ↓] Go.wp_at_zero Go.wp_at_succ

namespace PK
/-- The first byte. -/
def b0 (s : ByteArray) : Int := if h : 0 < s.size then ((s[0]'h).toNat : Int) else 0
/-- What speaks against a packet's length. -/
def hdC (s : ByteArray) : Int := if (VP.get s 1).2.2 = 0 then lenC (VP.get s 1).1 ((s.size : Int) - (VP.get s 1).2.1) else (VP.get s 1).2.2
/-- The packet that bytes are, and the code. -/
def getPk (s : ByteArray) : Pk × Int :=
  if s.size = 0 then (zeroPk, 242) else if begOk (b0 s) = false then (zeroPk, 129) else if hdC s ≠ 0 then (zeroPk, hdC s)
  else if (rdWhole s (VP.get s 1).2.1 (begPk (b0 s))).2 ≠ 0 then (zeroPk, (rdWhole s (VP.get s 1).2.1 (begPk (b0 s))).2) else ((rdWhole s (VP.get s 1).2.1 (begPk (b0 s))).1, 0)
end PK
/-- What Get answers. -/
def GtP (w : World) (X : Pk × Int) (e : Ending) (w' : World) : Prop :=
  (X.2 = 0 → ∃ vc vp vw vs vf, e = .returned (.tuple #[.agg (pkCells X.1 vc vp vw vs vf), .int .u8 0]) ∧ Own5 w.heap.size X.1 vc vp vw vs vf w') ∧ (X.2 ≠ 0 → e = .returned (.tuple #[.agg (pkNil PK.zeroPk), .int .u8 X.2])) ∧ Below w.heap.size w w'
theorem GtP.bad {w w' : World} {c : Int} (hc : c ≠ 0) (hb : Below w.heap.size w w') : GtP w (PK.zeroPk, c) (.returned (.tuple #[.agg (pkNil PK.zeroPk), .int .u8 c])) w' :=
  ⟨fun h => absurd h hc, fun _ => rfl, hb⟩
theorem below_of_gr {n r : Nat} {w W W' : World} (h : Below n w W) (hn : n ≤ W.heap.size) (hr : n ≤ r) (g : Gr r W W') : Below n w W' :=
  h.trans ⟨g.os, g.tape, g.output, g.size, fun i hi => g.block i (by omega) (fun e => by injection e with e; omega)⟩
theorem pbegin_any (n : Int) (h0 : 0 ≤ n) (h1 : n ≤ 255) (w : World) :
    Calls Tryz.prog 28 #[.int .u8 n] w fun e w' => e = .returned (.tuple #[.agg (pkNil (PK.begPk n)), .bool (PK.begOk n)]) ∧ Below w.heap.size w w' := by
  by_cases h3 : n / 16 = 3
  · exact begin_pub n h0 h1 h3 w
  · exact begin_other n h0 h1 h3 w
theorem beg_kind (n : Int) (h : PK.begOk n = true) : 1 ≤ (PK.begPk n).kind ∧ (PK.begPk n).kind ≤ 15 ∧ Bare (PK.begPk n) := by
  by_cases h3 : n / 16 = 3
  · unfold PK.begPk; rw [if_pos h3]
    exact ⟨(by decide : (1 : Int) ≤ 3), (by decide : (3 : Int) ≤ 15), ⟨rfl, rfl, rfl, rfl, rfl, rfl⟩⟩
  · unfold PK.begOk at h
    rw [if_neg h3] at h
    unfold PK.begPk; rw [if_neg h3]
    simp [PK.isK] at h
    exact ⟨h.1.1, h.1.2, ⟨rfl, rfl, rfl, rfl, rfl, rfl⟩⟩

set_option maxRecDepth 100000 in
set_option maxHeartbeats 4000000 in
theorem get_pk_any (s : ByteArray) (hs : s.size ≤ 140737488351232) (w : World) (hT : ∀ W, Below w.heap.size w W → Tabs W) :
    Calls Tryz.prog 12 #[.string s] w (GtP w (PK.getPk s)) := by
  have Z : Hid ((w.alloc (.cells (pkNil PK.zeroPk) 31)).heap[w.heap.size]? = some (.cells (pkNil PK.zeroPk) 31 (0, 0))) := Lib.hid (heap_alloc_new w _)
  have HB : Hid (Below w.heap.size w (w.alloc (.cells (pkNil PK.zeroPk) 31))) := Lib.hid ((Below.refl _ _).alloc (Nat.le_refl _) _)
  have O1 := Lib.hid (pkNil_one PK.zeroPk)
  have fin : ∀ (W : World) (c : Int), Below w.heap.size w W → W.heap[w.heap.size]? = some (.cells (pkNil PK.zeroPk) 31 (0, 0)) → c ≠ 0 →
      ((Sem.run Tryz.prog (asAddr (.pointer (some ⟨w.heap.size, 0, none⟩))) (W.setRow w.heap.size (pkNil PK.zeroPk))).andThen fun a w' => (Sem.run Tryz.prog (loadVar 31 a) w').andThen fun a w' => Result.ok (Value.tuple #[a, .int .u8 c]) w') = .ok (Value.tuple #[.agg (pkNil PK.zeroPk), .int .u8 c]) (W.setRow w.heap.size (pkNil PK.zeroPk)) ∧ GtP w (PK.zeroPk, c) (.returned (.tuple #[.agg (pkNil PK.zeroPk), .int .u8 c])) (W.setRow w.heap.size (pkNil PK.zeroPk)) :=
    fun W c hb hz hc => ⟨read_two (load_pk_var (P := PK.zeroPk) (vc := .slice none 0 0) (vp := .slice none 0 0) (vw := .slice none 0 0) (vs := .slice none 0 0) (vf := .slice none 0 0) (setRow_heap hz)), GtP.bad hc (below_setRow hb (Nat.le_refl _) _)⟩
  have FIN := Lib.hid fin
  clear fin
  obtain ⟨X, hX⟩ : ∃ X, X = PK.getPk s := ⟨_, rfl⟩
  rw [← hX]
  unfold PK.getPk at hX
  by_cases h0 : s.size = 0
  · rw [if_pos h0] at hX
    subst hX
    obtain rfl := empty_list h0
    go_enter Tryz.func12, Tryz.ntmps12
    go_wp2_with (refine wpList_store_row (by rfl) 31 (.tmp 2) (.tmp 12) (by rfl) w.heap.size (pkNil PK.zeroPk) (by rfl) (by rfl) 31 (pkNil PK.zeroPk) Z.out pk_info rfl O1.out ?_)
    obtain ⟨f1, f2⟩ := FIN.out _ 242 HB.out Z.out (by decide)
    refine bodyPost_ret (v := .tuple #[.agg (pkNil PK.zeroPk), .int .u8 242]) ?_ rfl f2
    simp only [results, Tryz.results12]
    simp
    exact f1
  rw [if_neg h0] at hX
  have hne := nonempty_list h0
  have hpos : 0 < s.size := by omega
  have hn : PK.b0 s = ((s[0]'hpos).toNat : Int) := by unfold PK.b0; rw [dif_pos hpos]
  have hn1 := VP.byte_lt s 0 hpos
  have hnn : 0 ≤ PK.b0 s ∧ PK.b0 s ≤ 255 := by rw [hn]; omega
  have CB : Hid (∀ W, Calls Tryz.prog 28 #[.int .u8 ((s[0]'hpos).toNat : Int)] W fun e w' => e = .returned (.tuple #[.agg (pkNil (PK.begPk (PK.b0 s))), .bool (PK.begOk (PK.b0 s))]) ∧ Below W.heap.size W w') := Lib.hid (fun W => by
    have := pbegin_any (PK.b0 s) hnn.1 hnn.2 W
    rwa [show Value.int .u8 (PK.b0 s) = .int .u8 ((s[0]'hpos).toNat : Int) from by rw [hn]] at this)
  have HK := Lib.hid (beg_kind (PK.b0 s))
  generalize PK.begPk (PK.b0 s) = P at *
  generalize PK.begOk (PK.b0 s) = ok at *
  clear hn hnn
  have HX := Lib.hid hX
  clear hX
  cases ok
  · have EX : Hid (X = (PK.zeroPk, 129)) := Lib.hid (by rw [HX.out, if_pos rfl])
    clear HX HK
    go_enter Tryz.func12, Tryz.ntmps12
    go_wp2_with fail
    refine (CB.out _).mono ?_
    rintro e w1 ⟨rfl, b1⟩
    have z1 := (b1.block _ (lt_heap Z.out)).trans Z.out
    have hw1 := HB.out.trans (b1.mono HB.out.size)
    have Z1 : Hid ((w1.alloc (.cells (pkNil PK.zeroPk) 31)).heap[w1.heap.size]? = some (.cells (pkNil PK.zeroPk) 31 (0, 0))) := Lib.hid (heap_alloc_new w1 _)
    have OP := Lib.hid (pkNil_one P)
    have hlt := lt_heap z1
    have Z2 : Hid (((w1.alloc (.cells (pkNil PK.zeroPk) 31)).setRow w1.heap.size (pkNil P)).heap[w.heap.size]? = some (.cells (pkNil PK.zeroPk) 31 (0, 0))) := Lib.hid ((setRow_other _ (by omega)).trans ((Below.heap_alloc _ _ _ hlt).trans z1))
    have B2 : Hid (Below w.heap.size w ((w1.alloc (.cells (pkNil PK.zeroPk) 31)).setRow w1.heap.size (pkNil P))) := Lib.hid (below_setRow (hw1.alloc (by omega) _) (by omega) _)
    clear b1 z1 hw1 CB
    go_wp2_with (first
      | refine wpList_store_row (by rfl) 31 (.tmp 4) (.tmp 17) (by rfl) w1.heap.size (pkNil P) (by rfl) (by rfl) 31 (pkNil PK.zeroPk) Z1.out pk_info rfl OP.out ?_
      | refine wpList_store_row (by rfl) 31 (.tmp 2) (.tmp 21) (by rfl) w.heap.size (pkNil PK.zeroPk) (by rfl) (by rfl) 31 (pkNil PK.zeroPk) Z2.out pk_info rfl O1.out ?_)
    obtain ⟨f1, f2⟩ := FIN.out _ 129 B2.out Z2.out (by decide)
    rw [EX.out]
    refine bodyPost_ret (v := .tuple #[.agg (pkNil PK.zeroPk), .int .u8 129]) ?_ rfl f2
    simp only [results, Tryz.results12]
    simp
    exact f1
  · obtain ⟨hk1, hk2, hB⟩ := HK.out rfl
    have HK1 := Lib.hid hk1; have HK2 := Lib.hid hk2; have HBa := Lib.hid hB
    have CG := Lib.hid (get_any s 1 (by unfold maxLen; omega))
    have CL := Lib.hid lencode_any
    clear HK hk1 hk2 hB
    go_enter Tryz.func12, Tryz.ntmps12
    go_wp2_with fail
    refine (CB.out _).mono ?_
    rintro e w1 ⟨rfl, b1⟩
    have z1 := (b1.block _ (lt_heap Z.out)).trans Z.out
    have hw1 := HB.out.trans (b1.mono HB.out.size)
    have Z1 : Hid ((w1.alloc (.cells (pkNil PK.zeroPk) 31)).heap[w1.heap.size]? = some (.cells (pkNil PK.zeroPk) 31 (0, 0))) := Lib.hid (heap_alloc_new w1 _)
    have OP := Lib.hid (pkNil_one P)
    have hlt := lt_heap z1
    go_upto_region 4 with (refine wpList_store_row (by rfl) 31 (.tmp 4) (.tmp 17) (by rfl) w1.heap.size (pkNil P) (by rfl) (by rfl) 31 (pkNil PK.zeroPk) Z1.out pk_info rfl OP.out ?_)
    obtain ⟨wA, hwA⟩ : ∃ wA, wA = (w1.alloc (.cells (pkNil PK.zeroPk) 31)).setRow w1.heap.size (pkNil P) := ⟨_, rfl⟩
    have Z2 : Hid (wA.heap[w.heap.size]? = some (.cells (pkNil PK.zeroPk) 31 (0, 0))) := Lib.hid (by rw [hwA]; exact (setRow_other _ (by omega)).trans ((Below.heap_alloc _ _ _ hlt).trans z1))
    have B2 : Hid (Below w.heap.size w wA) := Lib.hid (by rw [hwA]; exact below_setRow (hw1.alloc (by omega) _) (by omega) _)
    have P2 : Hid (wA.heap[w1.heap.size]? = some (.cells (pkNil P) 31 (0, 0))) := Lib.hid (by rw [hwA]; exact setRow_heap Z1.out)
    change Code.wp _ _ _ _ ((w1.alloc (.cells (pkNil PK.zeroPk) 31)).setRow w1.heap.size (pkNil P))
    rw [← hwA]
    have hsA : w1.heap.size < wA.heap.size := lt_heap P2.out
    clear hwA Z1 b1 z1 hw1 CB OP
    by_cases hc : (VP.get s 1).2.2 = 0
    · obtain ⟨m, b, hg, hm, hb1, hb2⟩ := ST.get1 s h0 hc
      have hd : PK.hdC s = PK.lenC (m : Int) ((s.size : Int) - (b : Int)) := by unfold PK.hdC; rw [if_pos hc, hg]
      rw [hg] at CG
      have EX : Hid (X = if PK.lenC (m : Int) ((s.size : Int) - (b : Int)) ≠ 0 then (PK.zeroPk, PK.lenC (m : Int) ((s.size : Int) - (b : Int))) else if (PK.rdWhole s (b : Int) P).2 ≠ 0 then (PK.zeroPk, (PK.rdWhole s (b : Int) P).2) else ((PK.rdWhole s (b : Int) P).1, 0)) := Lib.hid (by rw [HX.out, if_neg (by decide), hd, hg])
      simp only at CG
      clear hc hd hg HX
      have DL := Lib.hid (CL.out (m : Int) ((s.size : Int) - (b : Int)))
      generalize PK.lenC (m : Int) ((s.size : Int) - (b : Int)) = c at *
      clear CL
      by_cases hc : c = 0
      · subst hc
        have EX2 : Hid (X = if (PK.rdWhole s (b : Int) P).2 ≠ 0 then (PK.zeroPk, (PK.rdWhole s (b : Int) P).2) else ((PK.rdWhole s (b : Int) P).1, 0)) := Lib.hid (by rw [EX.out, if_neg (by decide)])
        have hsz3 : (wA.alloc (.cells #[.string s, .int .i64 (b : Int)] 98)).heap.size = wA.heap.size + 1 := by simp
        have B3 : Below w.heap.size w (wA.alloc (.cells #[.string s, .int .i64 (b : Int)] 98)) := B2.out.alloc (by omega) _
        have R3 : RdAt wA.heap.size s (b : Int) (wA.alloc (.cells #[.string s, .int .i64 (b : Int)] 98)) := heap_alloc_new wA _
        have P3 := (Below.heap_alloc wA (.cells #[.string s, .int .i64 (b : Int)] 98) _ hsA).trans P2.out
        have Z3 := Lib.hid ((Below.heap_alloc wA (.cells #[.string s, .int .i64 (b : Int)] 98) _ (lt_heap Z2.out)).trans Z2.out)
        have CC := Lib.hid (caught_any wA.heap.size #[.pointer (some ⟨wA.heap.size, 0, none⟩), .pointer (some ⟨w1.heap.size, 0, none⟩)] (PK.rdWhole s (b : Int) P) _ (by omega)
          (fun W hW => getfn_any wA.heap.size w1.heap.size s (b : Int) P W HK1.out HK2.out HBa.out (R3.below hW) ((hW.block _ (lt_heap P3)).trans P3) hs
            (fun W' hg => hT W' (below_of_gr (B3.trans (hW.mono B3.size)) (by have := hW.size; omega) (by omega) hg))))
        have HB3 := Lib.hid B3
        have HSZ := Lib.hid hsz3
        generalize PK.rdWhole s (b : Int) P = Y at *
        have hmf : ∀ (fn : Fn) (first cap : Array Value) (w : World), (Instr.makeFunc fn first cap).run Tryz.prog w = .ok (.func fn first cap) w := fun _ _ _ _ => rfl
        clear EX B3 R3 P3 hT P2 Z2 B2 hsz3
        go_wp2_with fail
        refine (CG.out _).mono ?_
        rintro e w' ⟨rfl, rfl⟩
        go_wp2_with fail
        refine (DL.out _).mono ?_
        rintro e w' ⟨rfl, rfl⟩
        go_wp2_with fail
        refine CC.out.mono ?_
        rintro e w4 hR
        by_cases h1 : Y.2 = 0
        · obtain ⟨vc, vp, vw, vs, vf, rfl, o1, g1⟩ := hR.1 h1
          have z4 := Lib.hid ((g1.block _ (lt_heap Z3.out) (fun e => by injection e with e; omega)).trans Z3.out)
          have W1 := Lib.hid (pk_one Y.1 o1)
          have B4 := Lib.hid (below_of_gr HB3.out HB3.out.size (by omega) g1)
          have O4 := Lib.hid o1
          have EX3 : Hid (X = (Y.1, 0)) := Lib.hid (by rw [EX2.out, if_neg (by simp [h1])])
          clear hR o1 g1 CC CG DL EX2 h1 Z3
          go_wp2_with (refine wpList_store_row (by rfl) 31 (.tmp 2) (.tmp 45) (by rfl) w.heap.size (pkCells Y.1 vc vp vw vs vf) (by rfl) (by rfl) 31 (pkNil PK.zeroPk) z4.out pk_info rfl W1.out ?_)
          rw [EX3.out]
          refine bodyPost_ret (v := .tuple #[.agg (pkCells Y.1 vc vp vw vs vf), .int .u8 0]) ?_ rfl ⟨fun _ => ⟨_, _, _, _, _, rfl, ?_⟩, fun h => absurd rfl h, below_setRow B4.out (Nat.le_refl _) _⟩
          · simp only [results, Tryz.results12]
            simp
            exact read_two (load_pk_var (setRow_heap z4.out))
          · have hz := HSZ.out
            have n5 := fun {e : TypeId} {k : Nat} {v : Value} {n : Nat} {xs : List Value} (ho : w4.ownsRow (wA.alloc (.cells #[.string s, .int .i64 (b : Int)] 98)).heap.size e k v n xs) => own_base' (C := w.heap.size) (own_setRow (g := w.heap.size) (pkCells Y.1 vc vp vw vs vf) ho (row_ne ho (by omega))) (by omega)
            exact ⟨n5 O4.out.codes, n5 O4.out.props, n5 O4.out.wprops, n5 O4.out.subs, n5 O4.out.filters⟩
        · obtain ⟨rfl, g1⟩ := hR.2 h1
          have z4 := Lib.hid ((g1.block _ (lt_heap Z3.out) (fun e => by injection e with e; omega)).trans Z3.out)
          have B4 := Lib.hid (below_of_gr HB3.out HB3.out.size (by omega) g1)
          have EX3 : Hid (X = (PK.zeroPk, Y.2)) := Lib.hid (by rw [EX2.out, if_pos h1])
          have H1 := Lib.hid h1
          clear hR g1 CC CG DL EX2 h1 Z3
          go_wp2_with (refine wpList_store_row (by rfl) 31 (.tmp 2) (.tmp 45) (by rfl) w.heap.size (pkNil PK.zeroPk) (by rfl) (by rfl) 31 (pkNil PK.zeroPk) z4.out pk_info rfl O1.out ?_)
          obtain ⟨f1, f2⟩ := FIN.out _ Y.2 B4.out z4.out H1.out
          rw [EX3.out]
          refine bodyPost_ret (v := .tuple #[.agg (pkNil PK.zeroPk), .int .u8 Y.2]) ?_ rfl f2
          simp only [results, Tryz.results12]
          simp
          exact f1
      · have e2 : (c != 0) = true := by rw [bne_iff_ne]; exact hc
        have EX2 : Hid (X = (PK.zeroPk, c)) := Lib.hid (by rw [EX.out, if_pos hc])
        have HC := Lib.hid hc
        clear EX hc
        go_wp2_with fail
        refine (CG.out _).mono ?_
        rintro e w' ⟨rfl, rfl⟩
        go_wp2_with fail
        refine (DL.out _).mono ?_
        rintro e w' ⟨rfl, rfl⟩
        go_wp2_with (refine wpList_store_row (by rfl) 31 (.tmp 2) (.tmp 38) (by rfl) w.heap.size (pkNil PK.zeroPk) (by rfl) (by rfl) 31 (pkNil PK.zeroPk) Z2.out pk_info rfl O1.out ?_)
        obtain ⟨f1, f2⟩ := FIN.out _ c B2.out Z2.out HC.out
        rw [EX2.out]
        refine bodyPost_ret (v := .tuple #[.agg (pkNil PK.zeroPk), .int .u8 c]) ?_ rfl f2
        simp only [results, Tryz.results12]
        simp
        exact f1
    · have hd : PK.hdC s = (VP.get s 1).2.2 := by unfold PK.hdC; rw [if_neg hc]
      have EX : Hid (X = (PK.zeroPk, (VP.get s 1).2.2)) := Lib.hid (by rw [HX.out, if_neg (by decide), hd, if_pos hc])
      generalize VP.get s 1 = Y at *
      obtain ⟨n, b, c⟩ := Y
      simp only at CG EX hc
      have e1 : (c == 0) = false := by rw [beq_eq_false_iff_ne]; exact hc
      have e2 : (c != 0) = true := by rw [bne_iff_ne]; exact hc
      clear hd HX
      have HC := Lib.hid hc
      clear hc
      go_wp2_with fail
      refine (CG.out _).mono ?_
      rintro e w' ⟨rfl, rfl⟩
      go_wp2_with (refine wpList_store_row (by rfl) 31 (.tmp 2) (.tmp 38) (by rfl) w.heap.size (pkNil PK.zeroPk) (by rfl) (by rfl) 31 (pkNil PK.zeroPk) Z2.out pk_info rfl O1.out ?_)
      obtain ⟨f1, f2⟩ := FIN.out _ c B2.out Z2.out HC.out
      rw [EX.out]
      refine bodyPost_ret (v := .tuple #[.agg (pkNil PK.zeroPk), .int .u8 c]) ?_ rfl f2
      simp only [results, Tryz.results12]
      simp
      exact f1
end Go.Proofs.YtjajandjdclifaaGreatDoor
namespace Go.Proofs.YtjajandjdclifaaGreatDoor
open Go.RowKit

set_option maxRecDepth 100000 in
set_option maxHeartbeats 2000000 in
/-- Inv l W: what holds behind the packets l. -/
theorem through_any (K : FuncId) (cap : Array Value) (f : ByteArray → Int) (Inv : List ByteArray → World → Prop) (s : ByteArray) (most : Int) (hs : s.size ≤ 140737488351232)
    (hK : ∀ (args : Array Value) (W : World), (callFunc K args).run Tryz.prog W = .ok (.enter K args) W)
    (hC : ∀ (l : List ByteArray) (a k : Nat) (W : World), Inv l W → 2 * l.length ≤ a → 2 ≤ k → a + k ≤ s.size → Calls Tryz.prog K (#[.string (s.extract a (a + k))] ++ cap) W fun e W' => e = .returned (.int .u8 (f (s.extract a (a + k)))) ∧ (f (s.extract a (a + k)) = 0 → Inv (l ++ [s.extract a (a + k)]) W') ∧ (f (s.extract a (a + k)) ≠ 0 → Inv l W'))
    (w : World) (h0 : Inv [] w) :
    Calls Tryz.prog 48 #[.string s, .int .i64 most, .func (.func K) #[] cap] w fun e w' =>
      e = .returned (.tuple #[.int .i64 (ST.thr s most f (s.size + 1) 0).2.1, .int .u8 (ST.thr s most f (s.size + 1) 0).2.2]) ∧ Inv (ST.thr s most f (s.size + 1) 0).1 w' := by
  have HC := Lib.hid hC
  have HI := Lib.hid h0
  have HT := Lib.hid (ST.Thr.start s most f)
  obtain ⟨R, hR⟩ : ∃ R, R = ST.thr s most f (s.size + 1) 0 := ⟨_, rfl⟩
  rw [← hR]
  have HR := Lib.hid hR
  clear hC h0 hR
  go_enter Tryz.func48, Tryz.ntmps48
  go_wp2
  go_step3
  go_wp2
  go_step3
  go_wp2
  go_loopw [8] (fun i wr => ∃ (a : Nat) (l : List ByteArray), i = .int .i64 a ∧ a ≤ s.size ∧ Hid (ST.Thr s most f l a ∧ Inv l wr)) (fun i _ => s.size - (intOf i).toNat)
  case atStart => exact ⟨0, [], rfl, by omega, Lib.hid ⟨HT.out, HI.out⟩⟩
  case round =>
    obtain ⟨a, l, rfl, ha, hrl⟩ := hrel
    obtain ⟨ht, hi⟩ := hrl.out
    have hsl := st_from s a ha
    have CF := Lib.hid (first_any (s.extract a s.size) most (by rw [ByteArray.size_extract]; omega))
    have h2 := ht.size.2
    by_cases hf : (ST.first (s.extract a s.size) most).2 = 0
    · obtain ⟨k, hk, hk1, hk2⟩ := ST.first_ok _ _ hf
      rw [ByteArray.size_extract] at hk2
      rw [hk] at CF
      simp only at CF
      have hak : a + k ≤ s.size := by omega
      have hsp := st_part s a k hak
      have D := Lib.hid (HC.out l a k wr hi h2 hk1 hak)
      have HT2 := Lib.hid (fun h => ht.step hk hk1 hak h)
      have HL2 := Lib.hid (fun h => ht.left hk h)
      generalize f (s.extract a (a + k)) = c at *
      clear hf hk ht hi hrl hk2
      by_cases hc : c = 0
      · subst hc
        go_wp2_with fail
        refine (CF.out _).mono ?_
        rintro e w' ⟨rfl, rfl⟩
        go_wp2_with fail
        refine D.out.mono ?_
        rintro e w' ⟨rfl, hi, _⟩
        have HN : Hid (ST.Thr s most f (l ++ [s.extract a (a + k)]) (a + k) ∧ Inv (l ++ [s.extract a (a + k)]) w') := Lib.hid ⟨HT2.out trivial, hi trivial⟩
        clear D HT2 HL2 hi CF HC HI HT
        go_wp2
        go_roundw
        case rel => exact ⟨a + k, _, by go_num, by omega, HN⟩
        case measure => simp [intOf]; omega
      · have hne : (c != 0) = true := by rw [bne_iff_ne]; exact hc
        go_wp2_with fail
        refine (CF.out _).mono ?_
        rintro e w' ⟨rfl, rfl⟩
        go_wp2_with fail
        refine D.out.mono ?_
        rintro e w' ⟨rfl, _, hi⟩
        have HE : Hid (R = (l, a, c)) := Lib.hid (by rw [HR.out]; exact HL2.out hc)
        have HN : Hid (Inv l w') := Lib.hid (hi hc)
        clear D HT2 HL2 hi CF HC HI HT hc
        go_wp2
        try rw [Exit.noGoto_ret]
        go_ret2
        rw [HE.out]
        exact ⟨rfl, HN.out⟩
    · have HL := Lib.hid (ht.stop hf)
      have HN := Lib.hid hi
      generalize ST.first (s.extract a s.size) most = X at *
      obtain ⟨k, c⟩ := X
      simp only at CF hf HL
      have hne : (c == 0) = false := by rw [beq_eq_false_iff_ne]; exact hf
      clear ht hi hrl HC HI HT
      by_cases h242 : c = 242
      · subst h242
        go_wp2_with fail
        refine (CF.out _).mono ?_
        rintro e w' ⟨rfl, rfl⟩
        go_wp2
        try rw [Exit.noGoto_ret]
        go_ret2
        rw [HR.out, HL.out]
        exact ⟨rfl, HN.out⟩
      · have h2 : (c == 242) = false := by rw [beq_eq_false_iff_ne]; exact h242
        have HL2 : Hid (R = (l, a, c)) := Lib.hid (by rw [HR.out, HL.out, if_neg h242])
        clear HL HR h242 hf
        go_wp2_with fail
        refine (CF.out _).mono ?_
        rintro e w' ⟨rfl, rfl⟩
        go_wp2
        try rw [Exit.noGoto_ret]
        go_ret2
        rw [HL2.out]
        exact ⟨rfl, HN.out⟩
end Go.Proofs.YtjajandjdclifaaGreatDoor
namespace Go.Proofs.YtjajandjdclifaaGreatDoor
open Go.RowKit

/-- The reader in block r: the most, the bytes l that are left, the code c; 'p': whether its builder was used. -/
def FdAt (r : Nat) (m : Int) (p : Value) (l : List UInt8) (c : Int) (w : World) : Prop :=
  ∃ v, w.heap[r]? = some (.cells #[.int .i64 m, p, v, .int .u8 c] 128 (0, 0)) ∧ w.ownsRowF r 5 1 v l.length (Lib.byteCells l) ∧ v.ownBlock ≠ some r
def Fd (r : Nat) (m : Int) (l : List UInt8) (c : Int) (w : World) : Prop := FdAt r m (.pointer none) l c w ∨ FdAt r m (.pointer (some ⟨r, 1, none⟩)) l c w
theorem FdAt.lt {r : Nat} {m : Int} {p : Value} {l : List UInt8} {c : Int} {w : World} (h : FdAt r m p l c w) : r < w.heap.size := by
  obtain ⟨v, h1, _⟩ := h; exact lt_heap h1
theorem Fd.lt {r : Nat} {m : Int} {l : List UInt8} {c : Int} {w : World} (h : Fd r m l c w) : r < w.heap.size := by
  rcases h with h | h <;> exact h.lt
theorem ownF_below {B : Nat} {e : TypeId} {k : Nat} {v : Value} {n : Nat} {xs : List Value} {w w' : World} (h : w.ownsRowF B e k v n xs) (hb : Below w.heap.size w w') : w'.ownsRowF B e k v n xs :=
  h.kept (row := none) ⟨hb.os, hb.tape, hb.output, hb.size, fun i hi _ => hb.block i hi⟩ (by cases hv : v.ownBlock <;> simp)
theorem FdAt.below {r : Nat} {m : Int} {p : Value} {l : List UInt8} {c : Int} {w w' : World} (h : FdAt r m p l c w) (hb : Below w.heap.size w w') : FdAt r m p l c w' := by
  obtain ⟨v, h1, h2, h3⟩ := h
  exact ⟨v, (hb.block r (lt_heap h1)).trans h1, ownF_below h2 hb, h3⟩
theorem Fd.below {r : Nat} {m : Int} {l : List UInt8} {c : Int} {w w' : World} (h : Fd r m l c w) (hb : Below w.heap.size w w') : Fd r m l c w' := by
  rcases h with h | h
  · exact .inl (h.below hb)
  · exact .inr (h.below hb)
theorem ownF_set {w : World} {b j : Nat} {B : Nat} {e : TypeId} {k : Nat} {v u : Value} {n : Nat} {xs : List Value} (h : w.ownsRowF B e k v n xs) (hne : v.ownBlock ≠ some b) : (w.setCell ⟨b, j, none⟩ u).ownsRowF B e k v n xs :=
  h.kept (row := some b) ⟨rfl, rfl, rfl, by simp [World.setCell], fun i _ hi => Below.heap_setCell _ _ _ _ (fun e => hi (by simp [e]))⟩ (.inr hne)
theorem ownF_row {w : World} {B : Nat} {e : TypeId} {k : Nat} {v : Value} {n : Nat} {xs : List Value} (h : w.ownsRowF B e k v n xs) : ∀ g, v.ownBlock = some g → ∃ c fz, w.heap[g]? = some (.cells c e fz) := by
  intro g hg
  rcases h.2 with ⟨rfl, _⟩ | ⟨g', c, u, fz, rfl, _, hh, _⟩
  · cases hg
  · simp only [Value.ownBlock, Option.some.injEq] at hg
    subst hg
    exact ⟨_, _, hh⟩
theorem ownF_form {B : Nat} {e : TypeId} {k : Nat} {v : Value} {n : Nat} {xs : List Value} {w : World} (h : w.ownsRowF B e k v n xs) : ∃ A cap, v = .slice A n cap := by
  rcases h.2 with ⟨rfl, rfl⟩ | ⟨g, cap, cur, fz, rfl, _⟩
  · exact ⟨_, _, rfl⟩
  · exact ⟨_, _, rfl⟩
theorem fbldLies : liesAt Tryz.prog Tryz.prog.depth 128 (4 / Tryz.prog.cellsOf 128) 1 118 1 = true := by kernel_rfl

set_option maxHeartbeats 1000000 in
set_option maxRecDepth 100000 in
theorem fcopy_used (r : Nat) (w : World) (h0 : w.cell? ⟨r, 1, none⟩ = some (.pointer (some ⟨r, 1, none⟩))) :
    Calls Tryz.prog 89 #[.pointer (some ⟨r, 1, none⟩)] w fun e w' => e = .returned (.tuple #[]) ∧ w = w' := by
  obtain ⟨j, hj, _⟩ := bldInfo
  have hn := Lib.run_neq_ptr_same (P := Tryz.prog) w ⟨r, 1, none⟩ Tryz.underlying116 hj
  clear hj
  go_enter Tryz.func89, Tryz.ntmps89
  go_wp2
  go_end0
  exact ⟨rfl, rfl⟩
set_option maxHeartbeats 1000000 in
set_option maxRecDepth 100000 in
theorem fcopy_fresh (r : Nat) (w : World) (h0 : w.cell? ⟨r, 1, none⟩ = some (.pointer none)) (hsh : w.shape? r = some (128, 4)) (hfz : w.frozen? ⟨r, 1, none⟩ = false) :
    Calls Tryz.prog 89 #[.pointer (some ⟨r, 1, none⟩)] w fun e w' => e = .returned (.tuple #[]) ∧ w.setCell ⟨r, 1, none⟩ (.pointer (some ⟨r, 1, none⟩)) = w' := by
  obtain ⟨j, hj, hjs⟩ := bldInfo
  have r1 := Lib.run_to_unsafe (P := Tryz.prog) w ⟨r, 1, none⟩ Tryz.underlying116 Tryz.underlying196 hj (by rw [hjs]; decide) hsh (show (1 : Nat) < 4 by decide)
  have r2 := Lib.run_from_unsafe (P := Tryz.prog) w ⟨r, 1, none⟩ Tryz.underlying196 Tryz.underlying116 hj hsh fbldLies
  clear hj hjs hsh
  go_enter Tryz.func89, Tryz.ntmps89
  go_wp2
  rw [run_callFunc_extern Tryz.func119 (by kernel_rfl) (by kernel_rfl) (by kernel_rfl) (e := Extern.AbiNoEscape.same) (by kernel_rfl)]
  rw [Lib.run_noEscape]
  simp only [Result.andThen]
  rw [Oper.upon_value]
  go_wp2
  go_end0
  exact ⟨rfl, rfl⟩
theorem fcopy_any (r : Nat) (m : Int) (l : List UInt8) (c : Int) (w : World) (h : Fd r m l c w) :
    Calls Tryz.prog 89 #[.pointer (some ⟨r, 1, none⟩)] w fun e w' => e = .returned (.tuple #[]) ∧ FdAt r m (.pointer (some ⟨r, 1, none⟩)) l c w' ∧ Kp r w w' := by
  rcases h with ⟨v, h1, h2, h3⟩ | ⟨v, h1, h2, h3⟩
  · refine (fcopy_fresh r w (by rw [cell_heap h1]; rfl) (by simp [World.shape?, h1]) (frozen_heap h1)).mono ?_
    rintro e w' ⟨rfl, rfl⟩
    exact ⟨rfl, ⟨v, set_block h1 rfl, ownF_set h2 h3, h3⟩, (Kp.refl r w).setCell 1 _⟩
  · refine (fcopy_used r w (by rw [cell_heap h1]; rfl)).mono ?_
    rintro e w' ⟨rfl, rfl⟩
    exact ⟨rfl, ⟨v, h1, h2, h3⟩, Kp.refl r w⟩

set_option maxHeartbeats 2000000 in
set_option maxRecDepth 100000 in
theorem fwrite_any (r : Nat) (m : Int) (l : List UInt8) (c : Int) (s : ByteArray) (w : World) (h : Fd r m l c w) (hn : l.length + s.size ≤ 140737488355328) :
    Calls Tryz.prog 47 #[.pointer (some ⟨r, 1, none⟩), .string s] w fun e w' => e = .returned (.tuple #[.int .i64 s.size, .nilIface]) ∧ Fd r m (l ++ s.data.toList) c w' ∧ Kp r w w' := by
  have C := Lib.hid (fcopy_any r m l c w h)
  obtain ⟨i0, hi, hz0, hz1, hz2⟩ := info_parts byteInfo
  have Hi := Lib.hid hi; have Hz0 := Lib.hid hz0; have Hz1 := Lib.hid hz1; have Hz2 := Lib.hid hz2
  clear hi hz0 hz1 hz2 h
  go_enter Tryz.func47, Tryz.ntmps47
  go_wp2_with fail
  refine C.out.mono ?_
  rintro e w1 ⟨rfl, ⟨v, h1, h2, h3⟩, k1⟩
  obtain ⟨ao, cap, rfl⟩ := ownF_form h2
  have hlt := lt_heap h1
  obtain ⟨v', w2, hr, ho, hg, _⟩ := Lib.run_append_own_stringF (P := Tryz.prog) w1 r 45 9 45 5 i0 Tryz.underlying45 Tryz.underlying9 Hi.out Hz0.out Hz1.out Hz2.out _ _ _ h2 s (by unfold maxLen; omega) hn (Nat.le_of_lt hlt)
  have hb2 : w2.heap[r]? = some (.cells #[.int .i64 m, .pointer (some ⟨r, 1, none⟩), .slice ao l.length cap, .int .u8 c] 128 (0, 0)) := (hg.block r hlt (fun e => h3 e.symm)).trans h1
  have k2 : Kp r w w2 := k1.trans ⟨(Below.refl r w1).grown hg (Nat.le_of_lt hlt) (fun k hk => (h2.lt k hk).1), (Lib.OthersKept.refl _ _ _).grown hg (ownF_row h2)⟩
  have hne := Lib.ownBlock_neF ho hb2 (by decide)
  have HW : Hid (Fd r m (l ++ s.data.toList) c (w2.setCell ⟨r, 2, none⟩ v')) := .inr ⟨v', set_block hb2 rfl, by
    refine ownF_set ?_ hne
    rw [byteCells_app] at ho
    have e : (l ++ s.data.toList).length = l.length + s.size := by rw [List.length_append]; congr 1
    rw [e]; exact ho, hne⟩
  have HK : Hid (Kp r w (w2.setCell ⟨r, 2, none⟩ v')) := k2.setCell 2 _
  have c0 : w1.cell? ⟨r, 1, none⟩ = some (.pointer (some ⟨r, 1, none⟩)) := by rw [cell_heap h1]; rfl
  have c1 : w1.cell? ⟨r, 2, none⟩ = some (.slice ao l.length cap) := by rw [cell_heap h1]; rfl
  have d1 : w2.cell? ⟨r, 2, none⟩ = some (.slice ao l.length cap) := by rw [cell_heap hb2]; rfl
  have f1 : w2.frozen? ⟨r, 2, none⟩ = false := frozen_heap hb2
  obtain ⟨A2, cap2, rfl⟩ := ownF_form ho
  clear C h1 h2 h3 k1 ho hg hb2 k2 hne Hi Hz0 Hz1 Hz2
  go_wp2_with (at_builtin; refine wpList_run (by rfl) (.tmp 12) (.tmp 13) _ _ (by rfl) (by rfl) (by rfl) hr ?_; clear hr)
  go_ret2
  exact ⟨rfl, HW.out, HK.out⟩

set_option maxHeartbeats 1000000 in
set_option maxRecDepth 100000 in
theorem freset_any (r : Nat) (m : Int) (l : List UInt8) (c : Int) (w : World) (h : Fd r m l c w) :
    Calls Tryz.prog 50 #[.pointer (some ⟨r, 1, none⟩)] w fun e w' => e = .returned (.tuple #[]) ∧ Fd r m [] c w' ∧ Kp r w w' := by
  obtain ⟨p, v, h1, h2, h3⟩ : ∃ p, FdAt r m p l c w := by
    rcases h with h | h
    · exact ⟨_, h⟩
    · exact ⟨_, h⟩
  have HB1 := set_block (j := 1) (u := .pointer none) (cs' := #[.int .i64 m, .pointer none, v, .int .u8 c]) h1 rfl
  have HB2 := set_block (j := 2) (u := .slice none 0 0) (cs' := #[.int .i64 m, .pointer none, .slice none 0 0, .int .u8 c]) HB1 rfl
  have HW : Hid (Fd r m [] c ((w.setCell ⟨r, 1, none⟩ (.pointer none)).setCell ⟨r, 2, none⟩ (.slice none 0 0))) := .inl ⟨_, HB2, World.ownsRowF_nil _ _ _ _, by simp [Value.ownBlock]⟩
  have HK : Hid (Kp r w ((w.setCell ⟨r, 1, none⟩ (.pointer none)).setCell ⟨r, 2, none⟩ (.slice none 0 0))) := ((Kp.refl r w).setCell 1 _).setCell 2 _
  have c1 : w.cell? ⟨r, 1, none⟩ = some p := by rw [cell_heap h1]; rfl
  have c2 : w.cell? ⟨r, 2, none⟩ = some v := by rw [cell_heap h1]; rfl
  have f1 : w.frozen? ⟨r, 1, none⟩ = false := frozen_heap h1
  have f2 : w.frozen? ⟨r, 2, none⟩ = false := frozen_heap h1
  clear h h1 h2 h3 HB1 HB2
  go_enter Tryz.func50, Tryz.ntmps50
  go_wp2
  go_end0
  exact ⟨rfl, HW.out, HK.out⟩
end Go.Proofs.YtjajandjdclifaaGreatDoor
namespace Go.Proofs.YtjajandjdclifaaGreatDoor
open Go.RowKit

theorem freeze_other {w : World} {g k n : Nat} (h : k ≠ g) : (w.freeze ⟨g, 0, none⟩ n).heap[k]? = w.heap[k]? := by
  unfold World.freeze
  split
  · rfl
  · simp [Array.getElem?_modify, Ne.symm h]
theorem freeze_self {w : World} {g n m : Nat} {cur : Array Value} {e : TypeId} {fz : Nat × Nat} (h : w.heap[g]? = some (.cells cur e fz)) (hf : fz.2 ≤ m) (hn : n ≤ m) : ∃ fz', (w.freeze ⟨g, 0, none⟩ n).heap[g]? = some (.cells cur e fz') ∧ fz'.2 ≤ m := by
  obtain ⟨lo, hi⟩ := fz
  unfold World.freeze
  split
  · exact ⟨_, h, hf⟩
  · simp [Array.getElem?_modify, h]
    simp only at hf
    split
    · simp; omega
    · simp; omega
theorem freeze_size {w : World} {g n : Nat} : (w.freeze ⟨g, 0, none⟩ n).heap.size = w.heap.size := by
  unfold World.freeze
  split
  · rfl
  · simp
theorem Kp.freeze {r g n : Nat} {w : World} {cur : Array Value} {fz : Nat × Nat} (hr : r ≤ g) (h : w.heap[g]? = some (.cells cur 5 fz)) : Kp r w (w.freeze ⟨g, 0, none⟩ n) :=
  ⟨Lib.below_freeze (Below.refl r w) (p := ⟨g, 0, none⟩) hr n, fun k o hk hb he => by
    by_cases e : k = g
    · subst e; rw [h] at hk; injection hk with hk; exact absurd hk.symm (he _ _)
    · exact (freeze_other e).trans hk⟩
theorem Kp.drew {b : Nat} {w w' : World} (h : Kp b w.drew w') : Kp b w w' := ⟨⟨h.1.os, h.1.tape, h.1.output, h.1.size, h.1.block⟩, h.2⟩

set_option maxHeartbeats 2000000 in
set_option maxRecDepth 100000 in
theorem fstr_any (r : Nat) (m : Int) (x : UInt8) (t : List UInt8) (c : Int) (w : World) (h : Fd r m (x :: t) c w) :
    Calls Tryz.prog 46 #[.pointer (some ⟨r, 1, none⟩)] w fun e w' => e = .returned (.string ⟨(x :: t).toArray⟩) ∧ Fd r m (x :: t) c w' ∧ Kp r w w' := by
  obtain ⟨p, hp, v, h1, h2, h3⟩ : ∃ p, (p = .pointer none ∨ p = .pointer (some ⟨r, 1, none⟩)) ∧ FdAt r m p (x :: t) c w := by
    rcases h with h | h
    · exact ⟨_, .inl rfl, h⟩
    · exact ⟨_, .inr rfl, h⟩
  obtain ⟨g, cap, cur, fz, rfl, hbg, hg, hfz, hnc, hcm, hcs, htake⟩ : ∃ g cap cur fz, v = .slice (some ⟨g, 0, none⟩) (x :: t).length cap ∧ r ≤ g ∧ w.heap[g]? = some (.cells cur 5 fz) ∧ fz.2 ≤ (x :: t).length * 1 ∧ (x :: t).length ≤ cap ∧ cap ≤ maxLen ∧ cur.size = cap * 1 ∧ cur.toList.take ((x :: t).length * 1) = Lib.byteCells (x :: t) := by
    rcases h2.2 with ⟨_, hz⟩ | ⟨g, cap, cur, fz, hv, rr⟩
    · simp at hz
    · exact ⟨g, cap, cur, fz, hv, rr⟩
  have hl0 : 0 < (x :: t).length := by simp
  have hrg : r ≠ g := fun e => h3 (by simp [Value.ownBlock, e])
  have c1 : w.cell? ⟨r, 2, none⟩ = some (.slice (some ⟨g, 0, none⟩) (x :: t).length cap) := by rw [cell_heap h1]; rfl
  have hSD : (Builtin.unsafeSliceData_ #[45] 175 #[.slice (some ⟨g, 0, none⟩) (x :: t).length cap]).run Tryz.prog w.drew = .ok (.pointer (some ⟨g, 0, none⟩)) w.drew := Lib.run_unsafeSliceData_row _ _ _ _ _ _ (by omega)
  have hUS : (Builtin.unsafeString_ #[175, 3] 9 #[.pointer (some ⟨g, 0, none⟩), .int .i64 (x :: t).length]).run Tryz.prog w.drew = .ok (.string ⟨(x :: t).toArray⟩) (w.drew.freeze ⟨g, 0, none⟩ (x :: t).length) := by
    refine Lib.run_unsafeString_row w.drew 175 3 9 5 Tryz.underlying175 (by kernel_rfl) g cur.size (by have hg' : w.drew.heap[g]? = some (.cells cur 5 fz) := hg; simp [World.shape?, hg']) (x :: t) (by simp) (by omega) (by unfold maxLen at hcm; omega) ?_
    intro j y hy
    exact h2.cells (g := g) rfl j (.int .u8 y.toNat) (by rw [Lib.byteCells, List.getElem?_map, hy]; rfl)
  have HF : Hid (Fd r m (x :: t) c (w.drew.freeze ⟨g, 0, none⟩ (x :: t).length)) := Lib.hid (by
    obtain ⟨fz', e1, e2⟩ := freeze_self (n := (x :: t).length) (m := (x :: t).length * 1) (show w.drew.heap[g]? = some (.cells cur 5 fz) from hg) hfz (by omega)
    have e3 : (w.drew.freeze ⟨g, 0, none⟩ (x :: t).length).heap[r]? = some (.cells #[.int .i64 m, p, .slice (some ⟨g, 0, none⟩) (x :: t).length cap, .int .u8 c] 128 (0, 0)) := (freeze_other hrg).trans h1
    have e4 : FdAt r m p (x :: t) c (w.drew.freeze ⟨g, 0, none⟩ (x :: t).length) := ⟨_, e3, ⟨h2.1, .inr ⟨g, cap, cur, fz', rfl, hbg, e1, e2, hnc, hcm, hcs, htake⟩⟩, h3⟩
    rcases hp with rfl | rfl
    · exact .inl e4
    · exact .inr e4)
  have HK : Hid (Kp r w (w.drew.freeze ⟨g, 0, none⟩ (x :: t).length)) := Lib.hid (Kp.drew (Kp.freeze hbg (show w.drew.heap[g]? = some (.cells cur 5 fz) from hg)))
  generalize x :: t = l at *
  clear h h1 h2 h3 hg hcs htake hnc hcm hl0 hfz hp
  go_enter Tryz.func46, Tryz.ntmps46
  go_wp2
  go_region
  all_goals
    go_wp2
    go_ret
    exact ⟨rfl, HF.out, HK.out⟩

set_option maxHeartbeats 2000000 in
set_option maxRecDepth 100000 in
theorem fstr_empty (r : Nat) (m : Int) (c : Int) (w : World) (h : Fd r m [] c w) :
    Calls Tryz.prog 46 #[.pointer (some ⟨r, 1, none⟩)] w fun e w' => e = .returned (.string ⟨#[]⟩) ∧ Fd r m [] c w' ∧ Kp r w w' := by
  have hlt := h.lt
  have HH := Lib.hid h
  obtain ⟨p, v, h1, h2, h3⟩ : ∃ p, FdAt r m p [] c w := by
    rcases h with h | h
    · exact ⟨_, h⟩
    · exact ⟨_, h⟩
  have hUS := us_none
  have fin : ∀ w', Below w.heap.size w w' → Fd r m [] c w' ∧ Kp r w w' := fun w' hb => ⟨HH.out.below hb, Kp.of_below (Nat.le_of_lt hlt) hb⟩
  have FIN := Lib.hid fin
  clear fin
  rcases h2.2 with ⟨rfl, _⟩ | ⟨g, cap, cur, fz, rfl, hbg, hg, _, _, _, _, _⟩
  · have c1 : w.cell? ⟨r, 2, none⟩ = some (.slice none 0 0) := by rw [cell_heap h1]; rfl
    have hSD : (Builtin.unsafeSliceData_ #[45] 175 #[.slice none 0 0]).run Tryz.prog w.drew = .ok (.pointer none) w.drew := rfl
    clear h h1 h2 h3
    go_enter Tryz.func46, Tryz.ntmps46
    go_wp2
    go_region
    all_goals
      go_wp2
      go_ret
      exact ⟨rfl, FIN.out _ (Below.drew (Below.refl _ w))⟩
  · have c1 : w.cell? ⟨r, 2, none⟩ = some (.slice (some ⟨g, 0, none⟩) 0 cap) := by rw [cell_heap h1]; rfl
    by_cases hc0 : cap = 0
    · subst hc0
      have hSD : (Builtin.unsafeSliceData_ #[45] 175 #[.slice (some ⟨g, 0, none⟩) 0 0]).run Tryz.prog w.drew = .ok (.pointer (some ⟨w.drew.heap.size, 0, none⟩)) (w.drew.alloc (.view ⟨g, 0, none⟩ 5)) :=
        Lib.run_unsafeSliceData_zero w.drew _ _ 5 Tryz.underlying175 ⟨g, 0, none⟩ 0 (5, cur.size) (by have hg' : w.drew.heap[g]? = some (.cells cur 5 fz) := hg; simp [World.shape?, hg'])
      have c3 : (w.alloc (.view ⟨g, 0, none⟩ 5)).drew.cell? ⟨r, 2, none⟩ = some (.slice (some ⟨g, 0, none⟩) 0 0) := by
        have e : (w.alloc (.view ⟨g, 0, none⟩ 5)).drew.heap[r]? = some (.cells #[.int .i64 m, p, .slice (some ⟨g, 0, none⟩) 0 0, .int .u8 c] 128 (0, 0)) := (heap_alloc_old w _ hlt).trans h1
        rw [cell_heap e]; rfl
      clear h h1 h2 h3 hg
      go_enter Tryz.func46, Tryz.ntmps46
      go_wp2
      go_region
      all_goals
        go_wp2
        go_ret
        exact ⟨rfl, FIN.out _ ((Below.drew (Below.refl _ w)).alloc (Nat.le_refl _) _)⟩
    · have hSD : (Builtin.unsafeSliceData_ #[45] 175 #[.slice (some ⟨g, 0, none⟩) 0 cap]).run Tryz.prog w.drew = .ok (.pointer (some ⟨g, 0, none⟩)) w.drew := Lib.run_unsafeSliceData_row _ _ _ _ _ _ hc0
      clear h h1 h2 h3 hg hc0
      go_enter Tryz.func46, Tryz.ntmps46
      go_wp2
      go_region
      all_goals
        go_wp2
        go_ret
        exact ⟨rfl, FIN.out _ (Below.drew (Below.refl _ w))⟩
theorem fstring_any (r : Nat) (m : Int) (l : List UInt8) (c : Int) (w : World) (h : Fd r m l c w) :
    Calls Tryz.prog 46 #[.pointer (some ⟨r, 1, none⟩)] w fun e w' => e = .returned (.string ⟨l.toArray⟩) ∧ Fd r m l c w' ∧ Kp r w w' := by
  cases l with
  | nil => exact fstr_empty r m c w h
  | cons x t => exact fstr_any r m x t c w h
end Go.Proofs.YtjajandjdclifaaGreatDoor
namespace Go.Proofs.YtjajandjdclifaaGreatDoor
open Go.RowKit
attribute [local go_sem ↓] Go.wp_at_zero Go.wp_at_succ

/-- A packet and the values of its five rows. -/
structure Pv where
  p : Pk
  vc : Value
  vp : Value
  vw : Value
  vs : Value
  vf : Value
def Pv.cells (x : Pv) : List Value := (pkCells x.p x.vc x.vp x.vw x.vs x.vf).toList
def Pv.Own (x : Pv) (B : Nat) (w : World) : Prop := Own5 B x.p x.vc x.vp x.vw x.vs x.vf w
/-- A row of packets. -/
structure PkRow (B : Nat) (v : Value) (L : List Pv) (w : World) : Prop where
  row : w.ownsRow B 31 26 v L.length (L.flatMap Pv.cells)
  own : ∀ x ∈ L, x.Own B w
theorem own5_kept {B : Nat} {P : Pk} {vc vp vw vs vf : Value} {w w' : World} {row : Option Nat} (h : Own5 B P vc vp vw vs vf w) (hg : w.grownBy w' row) (hr : ∀ g, row = some g → ∃ c fz, w.heap[g]? = some (.cells c 31 fz)) : Own5 B P vc vp vw vs vf w' := by
  have key : ∀ {e : TypeId} {k : Nat} {v : Value} {n : Nat} {xs : List Value}, e ≠ 31 → w.ownsRow B e k v n xs → w'.ownsRow B e k v n xs := fun {e k v n xs} he ho => by
    refine ho.kept hg ?_
    cases hv : v.ownBlock with
    | none => exact .inl rfl
    | some g =>
      refine .inr (fun e' => ?_)
      obtain ⟨c, fz, h1⟩ := hr g e'.symm
      obtain ⟨c2, fz2, h2⟩ := own_row ho g hv
      rw [h1] at h2
      simp at h2
      exact he h2.2.1.symm
  exact ⟨key (by decide) h.codes, key (by decide) h.props, key (by decide) h.wprops, key (by decide) h.subs, key (by decide) h.filters⟩
theorem own5_base {B C : Nat} {P : Pk} {vc vp vw vs vf : Value} {w : World} (h : Own5 B P vc vp vw vs vf w) (hC : C ≤ B) : Own5 C P vc vp vw vs vf w :=
  ⟨own_base' h.codes hC, own_base' h.props hC, own_base' h.wprops hC, own_base' h.subs hC, own_base' h.filters hC⟩
theorem own5_below {B : Nat} {P : Pk} {vc vp vw vs vf : Value} {w w' : World} (h : Own5 B P vc vp vw vs vf w) (hb : Below w.heap.size w w') : Own5 B P vc vp vw vs vf w' :=
  ⟨own_below h.codes hb, own_below h.props hb, own_below h.wprops hb, own_below h.subs hb, own_below h.filters hb⟩
theorem own5_set {B b j : Nat} {P : Pk} {vc vp vw vs vf u : Value} {w : World} (h : Own5 B P vc vp vw vs vf w) (hb : b < B) : Own5 B P vc vp vw vs vf (w.setCell ⟨b, j, none⟩ u) :=
  ⟨own_set h.codes (row_ne h.codes hb), own_set h.props (row_ne h.props hb), own_set h.wprops (row_ne h.wprops hb), own_set h.subs (row_ne h.subs hb), own_set h.filters (row_ne h.filters hb)⟩
theorem PkRow.below {B : Nat} {v : Value} {L : List Pv} {w w' : World} (h : PkRow B v L w) (hb : Below w.heap.size w w') : PkRow B v L w' := ⟨own_below h.row hb, fun x hx => own5_below (h.own x hx) hb⟩
theorem PkRow.base {B C : Nat} {v : Value} {L : List Pv} {w : World} (h : PkRow B v L w) (hC : C ≤ B) : PkRow C v L w := ⟨own_base' h.row hC, fun x hx => own5_base (h.own x hx) hC⟩
theorem PkRow.set {B b j : Nat} {v u : Value} {L : List Pv} {w : World} (h : PkRow B v L w) (hb : b < B) : PkRow B v L (w.setCell ⟨b, j, none⟩ u) := ⟨own_set h.row (row_ne h.row hb), fun x hx => own5_set (h.own x hx) hb⟩
theorem pkInfo : ∃ z n, (Tryz.prog.info? 31).map (fun i => (i.zero, i.size, i.bytes)) = some (some z, 26, n) ∧ z.cells.size = 26 ∧ n ≤ 1000 := ⟨.agg (pkNil PK.zeroPk), 328, by kernel_rfl, rfl, by decide⟩

theorem fill_pk26 (P : Pk) (vc vp vw vs vf : Value) : Array.foldl (fun (cs : Array Value) (x : Value × Nat) => cs.setIfInBounds x.2 x.1) #[.int .i64 0, .bool false, .bool false, .int .i64 0, .int .i64 0, .string ⟨#[]⟩, .string ⟨#[]⟩, .int .u8 0, .slice none 0 0, .slice none 0 0, .string ⟨#[]⟩, .bool false, .int .i64 0, .bool false, .string ⟨#[]⟩, .string ⟨#[]⟩, .int .i64 0, .bool false, .slice none 0 0, .bool false, .bool false, .string ⟨#[]⟩, .string ⟨#[]⟩, .bool false, .slice none 0 0, .slice none 0 0] (pkCells P vc vp vw vs vf).zipIdx 0 26 = pkCells P vc vp vw vs vf := by
  kernel_rfl

/-- What Feed's function keeps: the packets so far, in a row that the variable in block p holds. -/
def FoI (p : Nat) (w : World) (l : List ByteArray) (W : World) : Prop :=
  ∃ v L, W.heap[p]? = some (.cells #[v] 65 (0, 0)) ∧ PkRow (p + 1) v L W ∧ L.map Pv.p = l.map (fun b => (PK.getPk b).1) ∧ p + 1 ≤ W.heap.size ∧ Below p w W
theorem FoI.below {p : Nat} {w W W' : World} {l : List ByteArray} (h : FoI p w l W) (hb : Below W.heap.size W W') : FoI p w l W' := by
  obtain ⟨v, L, h1, h2, h3, h4, h5⟩ := h
  exact ⟨v, L, (hb.block _ (lt_heap h1)).trans h1, h2.below hb, h3, Nat.le_trans h4 hb.size, h5.trans (hb.mono (by omega))⟩

set_option maxRecDepth 100000 in
set_option maxHeartbeats 1000000 in
theorem feed1_any (p : Nat) (w : World) (l : List ByteArray) (b : ByteArray) (hb : b.size ≤ 140737488351232) (hl : l.length < 1000000) (hT : ∀ W, Below p w W → Tabs W) (W : World) (h : FoI p w l W) :
    Calls Tryz.prog 49 #[.string b, .pointer (some ⟨p, 0, none⟩)] W fun e W' => e = .returned (.int .u8 (PK.getPk b).2) ∧ ((PK.getPk b).2 = 0 → FoI p w (l ++ [b]) W') ∧ ((PK.getPk b).2 ≠ 0 → FoI p w l W') := by
  obtain ⟨v, L, hv, hrow, hLl, hp1, hbe⟩ := id h
  have HF := Lib.hid h
  have CG := Lib.hid (get_pk_any b hb W (fun W' hW => hT W' (hbe.trans (hW.mono (by omega)))))
  obtain ⟨P, hP⟩ : ∃ P, P = (PK.getPk b).1 := ⟨_, rfl⟩
  have HPE := Lib.hid hP
  unfold GtP at CG
  rw [← hP] at CG
  generalize (PK.getPk b).2 = c at *
  clear hP h hT
  have HV := Lib.hid hv
  have HR := Lib.hid hrow
  have HL := Lib.hid hLl
  have HB := Lib.hid hbe
  have hLn : L.length = l.length := by have := congrArg List.length hLl; simpa using this
  clear hv hrow hLl hbe
  by_cases hc : c = 0
  · subst hc
    go_enter Tryz.func49, Tryz.ntmps49
    go_wp2_with fail
    refine CG.out.mono ?_
    rintro e w1 ⟨h1, _, b1⟩
    obtain ⟨vc, vp, vw, vs, vf, rfl, o1⟩ := h1 trivial
    have W1 := Lib.hid (pk_one P o1)
    have Z1 : Hid ((w1.alloc (.cells (pkNil PK.zeroPk) 31)).heap[w1.heap.size]? = some (.cells (pkNil PK.zeroPk) 31 (0, 0))) := Lib.hid (heap_alloc_new w1 _)
    go_upto_region 2 with (refine wpList_store_row (by rfl) 31 (.tmp 4) (.tmp 9) (by rfl) w1.heap.size (pkCells P vc vp vw vs vf) (by rfl) (by rfl) 31 (pkNil PK.zeroPk) Z1.out pk_info rfl W1.out ?_)
    obtain ⟨wA, hwA⟩ : ∃ wA, wA = (w1.alloc (.cells (pkNil PK.zeroPk) 31)).setRow w1.heap.size (pkCells P vc vp vw vs vf) := ⟨_, rfl⟩
    have PA : Hid (wA.heap[w1.heap.size]? = some (.cells (pkCells P vc vp vw vs vf) 31 (0, 0))) := Lib.hid (by rw [hwA]; exact setRow_heap Z1.out)
    have bA : Below w1.heap.size w1 wA := by rw [hwA]; exact below_setRow ((Below.refl _ _).alloc (Nat.le_refl _) _) (Nat.le_refl _) _
    change Code.wp _ _ _ _ ((w1.alloc (.cells (pkNil PK.zeroPk) 31)).setRow w1.heap.size (pkCells P vc vp vw vs vf))
    rw [← hwA]
    have hWA : Below W.heap.size W wA := b1.trans (bA.mono b1.size)
    have vA := (hWA.block _ (lt_heap HV.out)).trans HV.out
    have rA := HR.out.below hWA
    have oA := own5_base (own5_below o1 bA) hp1
    obtain ⟨z, nb, hinf, hzs, hnb⟩ := pkInfo
    obtain ⟨i0, hi0, hz0, hz1, hz2⟩ := info_parts hinf
    have hpA : p + 1 ≤ wA.heap.size := Nat.le_trans hp1 hWA.size
    obtain ⟨v2, w2, hr2, hown2, hg2, hb2⟩ := app1 Tryz.underlying65 hi0 hz0 hz1 hz2 hzs (by decide) hnb (p + 1) v L.length _ wA rA.row hpA (pkCells P vc vp vw vs vf) rfl (fun u hu => by have := W1.out; rw [Array.all_eq_true'] at this; exact this u (by simpa using hu)) (by omega)
    have hp2 := (hg2.block p (by omega) (fun e => by have := (rA.row.lt _ e.symm).1; omega)).trans vA
    obtain ⟨A2, c2, rfl⟩ := own_form hown2
    have q0 : wA.cell? ⟨p, 0, none⟩ = some v := by rw [cell_heap vA]; rfl
    have q2 : w2.cell? ⟨p, 0, none⟩ = some v := by rw [cell_heap hp2]; rfl
    have f2 : w2.frozen? ⟨p, 0, none⟩ = false := frozen_heap hp2
    have HN : Hid (FoI p w (l ++ [b]) (w2.setCell ⟨p, 0, none⟩ (.slice A2 (L.length + 1) c2))) := Lib.hid (by
      have hrr : ∀ g, v.ownBlock = some g → ∃ c fz, wA.heap[g]? = some (.cells c 31 fz) := own_row rA.row
      refine ⟨_, L ++ [⟨P, vc, vp, vw, vs, vf⟩], one_setCell hp2, PkRow.set ⟨by simpa [Pv.cells] using hown2, fun x hx => ?_⟩ (by omega), by rw [List.map_append, List.map_append, HL.out, HPE.out]; rfl, by simp [World.setCell]; have := hg2.size; omega, ?_⟩
      · rcases List.mem_append.1 hx with hx | hx
        · exact own5_kept (rA.own x hx) hg2 hrr
        · simp at hx; subst hx; exact own5_kept oA hg2 hrr
      · have h5 := ((HB.out.trans (hWA.mono (by omega))).trans (hb2.mono (Nat.le_succ p)))
        exact ⟨h5.os, h5.tape, h5.output, by simp [World.setCell]; exact h5.size, fun i hi => (Below.heap_setCell _ _ _ _ (fun e => by simp at e; omega)).trans (h5.block i hi)⟩)
    have hcz : (pkCells P vc vp vw vs vf).size = 26 := rfl
    clear hLn
    clear hwA Z1 b1 bA hWA vA rA oA o1 hinf hzs hnb hi0 hz0 hz1 hz2 hown2 hg2 hb2 hp2 HB HR HL HV CG HF
    go_wp2_with (first
      | refine wpl_load_pk (by rfl) (.tmp 4) (by rfl) w1.heap.size (by rfl) PA.out ?_
      | (at_builtin; simp only [fill_pk26]; refine wpList_run (by rfl) (.tmp 13) (.tmp 15) _ _ (by rfl) (by rfl) (by rfl) hr2 ?_; clear hr2))
    go_ret
    exact ⟨rfl, fun _ => HN.out, fun h => absurd rfl h⟩
  · have e1 : (c == 0) = false := by rw [beq_eq_false_iff_ne]; exact hc
    have HC := Lib.hid hc
    clear hc
    go_enter Tryz.func49, Tryz.ntmps49
    go_wp2_with fail
    refine CG.out.mono ?_
    rintro e w1 ⟨_, h1, b1⟩
    obtain rfl := h1 HC.out
    have O1 := Lib.hid (pkNil_one PK.zeroPk)
    have Z1 : Hid ((w1.alloc (.cells (pkNil PK.zeroPk) 31)).heap[w1.heap.size]? = some (.cells (pkNil PK.zeroPk) 31 (0, 0))) := Lib.hid (heap_alloc_new w1 _)
    have HN : Hid (FoI p w l ((w1.alloc (.cells (pkNil PK.zeroPk) 31)).setRow w1.heap.size (pkNil PK.zeroPk))) := Lib.hid (HF.out.below (b1.trans ((below_setRow ((Below.refl _ _).alloc (Nat.le_refl _) _) (Nat.le_refl _) _ : Below w1.heap.size w1 _).mono b1.size)))
    clear b1 h1 HF CG HV HR HL HB
    go_wp2_with (refine wpList_store_row (by rfl) 31 (.tmp 4) (.tmp 9) (by rfl) w1.heap.size (pkNil PK.zeroPk) (by rfl) (by rfl) 31 (pkNil PK.zeroPk) Z1.out pk_info rfl O1.out ?_)
    go_ret
    exact ⟨rfl, fun h => absurd h HC.out, fun _ => HN.out⟩
end Go.Proofs.YtjajandjdclifaaGreatDoor
namespace Go.Proofs.YtjajandjdclifaaGreatDoor
open Go.RowKit

section
variable {P : Program} {ops : Array Oper} {Q : Exit → Act → World → Prop} {md : Region.Mode} {S : World → Prop} {T : Nat}

/-- Whatever order is picked, and S holds behind each operation below T. -/
def wpAnyT (P : Program) (md : Region.Mode) (ops : Array Oper) (Q : Exit → Act → World → Prop) (S : World → Prop) (T : Nat) : Nat → Array Bool → Act → World → Prop
  | 0, listed, a, w => Region.ready md ops listed = [] ∧ Q .normal a w
  | fuel + 1, listed, a, w => (Region.ready md ops listed = [] → Q .normal a w) ∧
    ∀ i ∈ Region.ready md ops listed, wpOp P ops Q i (fun a' w' => (i < T → S w') ∧ wpAnyT P md ops Q S T fuel (listed.setIfInBounds i true) a' w') a w
theorem wpAny_of_T : ∀ (fuel : Nat) (listed : Array Bool) (a : Act) (w : World), wpAnyT P md ops Q S T fuel listed a w → wpAny P md ops Q fuel listed a w
  | 0, _, _, _, h => h
  | fuel + 1, _, _, _, h => ⟨h.1, fun i hi => wpOp_mono (fun a' w' h' => wpAny_of_T fuel _ a' w' h'.2) (h.2 i hi)⟩
/-- Number j waits for number i. -/
def waitsB (md : Region.Mode) (ops : Array Oper) (j i : Nat) : Bool :=
  match ops[j]? with
  | some o => o.after.any fun e => Region.binds md e && e.on == i
  | none => false
theorem waitsB_spec {j i : Nat} {oj : Oper} (h : waitsB md ops j i = true) (hj : ops[j]? = some oj) : ∃ e ∈ oj.after, Region.binds md e = true ∧ e.on = i := by
  unfold waitsB at h
  rw [hj] at h
  obtain ⟨e, he, hb⟩ := Array.any_eq_true'.1 h
  simp only [Bool.and_eq_true, beq_iff_eq] at hb
  exact ⟨e, he, hb⟩
/-- Number c is i or waits for it, by way of others too. -/
def reachB (md : Region.Mode) (ops : Array Oper) (i : Nat) : Nat → Nat → Bool
  | 0, c => c == i
  | f + 1, c => c == i || match ops[c]? with
    | some o => o.after.any fun e => Region.binds md e && reachB md ops i f e.on
    | none => false
/-- All from T on wait for number c, which waits for i. -/
def gateB (md : Region.Mode) (ops : Array Oper) (T c i : Nat) : Bool := reachB md ops i 4 c && (List.range ops.size).all fun j => decide (j < T) || waitsB md ops j c
/-- Whoever has come up, those that it waits for have. -/
def Closed (md : Region.Mode) (ops : Array Oper) (listed : Array Bool) : Prop := ∀ j oj, ops[j]? = some oj → listed.getD j false = true → ∀ e ∈ oj.after, Region.binds md e = true → listed.getD e.on false = true
def closedB (md : Region.Mode) (ops : Array Oper) (listed : Array Bool) : Bool := (List.range ops.size).all fun j => !listed.getD j false || match ops[j]? with
  | some o => o.after.all fun e => !Region.binds md e || listed.getD e.on false
  | none => true
theorem closedB_spec {listed : Array Bool} (h : closedB md ops listed = true) : Closed md ops listed := fun j oj hj hl e he hb => by
  unfold closedB at h
  rw [List.all_eq_true] at h
  have h1 := h j (List.mem_range.2 (Array.getElem?_eq_some_iff.1 hj).1)
  rw [hl, hj] at h1
  simp only [Bool.not_true, Bool.false_or] at h1
  have h2 := Array.all_eq_true'.1 h1 e he
  rw [hb] at h2
  simpa using h2
theorem Closed.set {listed : Array Bool} (h : Closed md ops listed) {i : Nat} (hi : i ∈ Region.ready md ops listed) : Closed md ops (listed.setIfInBounds i true) := fun j oj hj hl e he hb => by
  obtain ⟨_, oi, hoi, hall⟩ := mem_ready.1 hi
  by_cases hij : i = j
  · subst hij
    have : oj = oi := Option.some.inj (hj.symm.trans hoi)
    subst this
    exact getD_set_true (hall e he hb)
  · rw [getD_set_ne false hij] at hl
    exact getD_set_true (h j oj hj hl e he hb)
theorem reach_unlisted {listed : Array Bool} (h : Closed md ops listed) {i : Nat} (hi : listed.getD i false = false) : ∀ (f c : Nat), reachB md ops i f c = true → listed.getD c false = false
  | 0, c, hr => by
    unfold reachB at hr
    rw [beq_iff_eq] at hr
    subst hr
    exact hi
  | f + 1, c, hr => by
    unfold reachB at hr
    rw [Bool.or_eq_true] at hr
    rcases hr with hr | hr
    · rw [beq_iff_eq] at hr
      subst hr
      exact hi
    · cases hc : ops[c]? with
      | none => rw [hc] at hr; cases hr
      | some o =>
        rw [hc] at hr
        obtain ⟨e, he, hb⟩ := Array.any_eq_true'.1 hr
        rw [Bool.and_eq_true] at hb
        have h1 := reach_unlisted h hi f e.on hb.2
        cases hl : listed.getD c false with
        | false => rfl
        | true =>
          have h2 := h c o hc hl e he hb.1
          rw [h1] at h2
          cases h2
theorem ready_waits {listed : Array Bool} {j i : Nat} (hj : j ∈ Region.ready md ops listed) (hw : waitsB md ops j i = true) : listed.getD i false = true := by
  obtain ⟨_, oj, hoj, hall⟩ := mem_ready.1 hj
  obtain ⟨e, he, hb, hon⟩ := waitsB_spec hw hoj
  rw [← hon]
  exact hall e he hb
theorem unlisted {listed : Array Bool} {i : Nat} (h : listed.getD i true = false) : listed.getD i false = false := by
  rcases Nat.lt_or_ge i listed.size with h' | h'
  · simp [h'] at h ⊢; exact h
  · simp [Array.getElem?_eq_none h'] at h

theorem wpAnyT_first {i c : Nat} {oi : Oper} {v : Value} (hi : ops[i]? = some oi) (hsel : ∀ (j : Nat) (o : Oper) cs b, ops[j]? = some o → o.op ≠ .select cs b)
    (hQ : ∀ c a w, Q (.panic c) (a.put oi.dst v) w → Q (.panic c) a w) (hg : gateB md ops T c i = true) :
    ∀ (fuel : Nat) (listed : Array Bool) (a : Act) (w : World),
      (∀ j oj, ops[j]? = some oj → j ≠ i → listed.getD j true = false → (∀ e ∈ oj.after, Region.binds md e = true → e.on ≠ i) → oi.apart ops oj = true) →
      i ∈ Region.ready md ops listed → Closed md ops listed → YieldsIf P ops S oi v a → S w →
      wpAnyT P md ops Q S T fuel (listed.setIfInBounds i true) (a.put oi.dst v) w → wpAnyT P md ops Q S T (fuel + 1) listed a w := by
  unfold gateB at hg
  rw [Bool.and_eq_true, List.all_eq_true] at hg
  obtain ⟨hg1, hg2⟩ := hg
  intro fuel
  induction fuel with
  | zero =>
    intro listed a w _ hr _ hy hS H
    refine ⟨fun h => (by rw [h] at hr; cases hr), fun j hj => ?_⟩
    by_cases hji : j = i
    · subst hji; exact hy.wpOp hi hS ⟨fun _ => hS, H⟩
    · have := ready_mono hj hji
      rw [H.1] at this
      cases this
  | succ fuel ih =>
    intro listed a w hfree hr hcu hy hS H
    refine ⟨fun h => (by rw [h] at hr; cases hr), fun j hj => ?_⟩
    by_cases hji : j = i
    · subst hji; exact hy.wpOp hi hS ⟨fun _ => hS, H⟩
    · have h1 := H.2 j (ready_mono hj hji)
      obtain ⟨hjun, oj, hoj, hall⟩ := mem_ready.1 hj
      have h0 := unlisted (mem_ready.1 hr).1
      have hnot : ∀ e ∈ oj.after, Region.binds md e = true → e.on ≠ i := fun e he hb heq => by
        have h1 := hall e he hb
        rw [heq, h0] at h1
        cases h1
      have hjT : j < T := by
        have h3 := hg2 j (List.mem_range.2 (Array.getElem?_eq_some_iff.1 hoj).1)
        rw [Bool.or_eq_true, decide_eq_true_eq] at h3
        rcases h3 with h3 | h3
        · exact h3
        · have := ready_waits hj h3
          rw [reach_unlisted hcu h0 _ _ hg1] at this
          cases this
      have h2 := wpOp_putIf hoj (hfree j oj hoj hji hjun hnot) (fun cs b => hsel i oi cs b hi) (fun cs b => hsel j oj cs b hoj) hQ hy h1
      have hfree' : ∀ k ok, ops[k]? = some ok → k ≠ i → (listed.setIfInBounds j true).getD k true = false →
          (∀ e ∈ ok.after, Region.binds md e = true → e.on ≠ i) → oi.apart ops ok = true := fun k ok hk hki hun hno => by
        refine hfree k ok hk hki ?_ hno
        by_cases hjk : j = k
        · subst hjk; exact hjun
        · rw [getD_set_ne true hjk] at hun; exact hun
      refine wpOp_mono (fun a' w' h3 => ⟨h3.2.1, ih (listed.setIfInBounds j true) a' w' hfree' (ready_mono hr (Ne.symm hji)) (hcu.set hj) h3.1 (h3.2.1 hjT) ?_⟩) h2
      rw [Array.setIfInBounds_comm _ _ hji]
      exact h3.2.2
/-- Take number i first. -/
theorem wpAnyT_take (i c : Nat) {oi : Oper} {v : Value} {fuel : Nat} {listed : Array Bool} {a : Act} {w : World} (hi : ops[i]? = some oi) (hgd : oi.guard = none)
    (hs : Region.noSelect ops = true) (hf : Region.free md ops listed i = true) (hr : (Region.ready md ops listed).contains i = true) (hg : gateB md ops T c i = true) (hcu : closedB md ops listed = true)
    (hQ : ∀ c a w, Q (.panic c) (a.put oi.dst v) w → Q (.panic c) a w) (hy : ∀ w, S w → (execOp a.eval oi).run P w = .ok (.value v) w) (hS : S w)
    (h : wpAnyT P md ops Q S T fuel (listed.setIfInBounds i true) (a.put oi.dst v) w) : wpAnyT P md ops Q S T (fuel + 1) listed a w :=
  wpAnyT_first hi (Region.noSelect_spec hs) hQ hg fuel listed a w (Region.free_spec hi hf) (by simpa using hr) (closedB_spec hcu) (.inl ⟨by simp [Region.wanted, hgd], hy⟩) hS h
/-- One of those that may come up is carried out. -/
theorem opT {i : Nat} {o : Oper} {K : Act → World → Prop} {a : Act} {w w' : World} {v : Value} (ho : ops[i]? = some o) (hgd : o.guard = none) (hrun : (execOp a.eval o).run P w = .ok (.value v) w') (h : K (a.put o.dst v) w') : wpOp P ops Q i K a w := by
  unfold wpOp
  simp only [ho]
  rw [if_pos (by simp [Region.wanted, hgd])]
  refine .inl ?_
  unfold Oper.wp
  rw [hrun]
  exact h
theorem opT_skip {i : Nat} {o : Oper} {K : Act → World → Prop} {a : Act} {w w' : World} (ho : ops[i]? = some o) (hgd : o.guard = none) (hd : o.dst = none) (hrun : (execOp a.eval o).run P w = .ok .skip w') (h : K a w') : wpOp P ops Q i K a w := by
  unfold wpOp
  simp only [ho]
  rw [if_pos (by simp [Region.wanted, hgd])]
  refine .inl ?_
  unfold Oper.wp
  rw [hrun]
  show K (a.put o.dst undef) w'
  rw [hd]
  exact h
theorem wpAnyT_one (i : Nat) {fuel : Nat} {listed : Array Bool} {a : Act} {w : World} (hr : Region.ready md ops listed = [i])
    (h : wpOp P ops Q i (fun a' w' => (i < T → S w') ∧ wpAnyT P md ops Q S T fuel (listed.setIfInBounds i true) a' w') a w) : wpAnyT P md ops Q S T (fuel + 1) listed a w :=
  ⟨fun h0 => (by rw [hr] at h0; cases h0), fun j hj => (by rw [hr] at hj; simp at hj; subst hj; exact h)⟩
theorem wpAnyT_two (i k : Nat) {fuel : Nat} {listed : Array Bool} {a : Act} {w : World} (hr : Region.ready md ops listed = [i, k])
    (h : wpOp P ops Q i (fun a' w' => (i < T → S w') ∧ wpAnyT P md ops Q S T fuel (listed.setIfInBounds i true) a' w') a w)
    (h' : wpOp P ops Q k (fun a' w' => (k < T → S w') ∧ wpAnyT P md ops Q S T fuel (listed.setIfInBounds k true) a' w') a w) : wpAnyT P md ops Q S T (fuel + 1) listed a w := by
  refine ⟨fun h0 => (by rw [hr] at h0; cases h0), fun j hj => ?_⟩
  rw [hr] at hj
  simp at hj
  rcases hj with rfl | rfl
  · exact h
  · exact h'
theorem wpAnyT_done {listed : Array Bool} {a : Act} {w : World} (hr : Region.ready md ops listed = []) (h : Q .normal a w) : wpAnyT P md ops Q S T 0 listed a w := ⟨hr, h⟩
theorem wp_region_T {id : Nat} {a : Act} {w : World} (hm : P.follows .mixedOrders = true) (h : wpAnyT P .any ops Q S T ops.size (Array.replicate ops.size false) a w.drew) : (Code.region id ops true).wp P Q a w :=
  wp_region_any hm (wpAny_of_T _ _ _ _ h)
end

/-- A region of a body. -/
def findR (k : Nat) : Code → Option (Array Oper)
  | .region n o _ => match n == k with
    | true => some o
    | false => none
  | .loop c => findR k c
  | .seq a b => match findR k a with
    | some o => some o
    | none => findR k b
  | .block _ c => findR k c
  | .scope c => findR k c
  | .cond _ a b => match findR k a with
    | some o => some o
    | none => findR k b
  | _ => none

theorem ev_same {a : Act} {d : Nat} {v : Value} (h : d < a.tmps.size) : (a.put (some d) v).eval (.tmp d) = v := by
  show ((a.tmps.setIfInBounds d v).getD d undef) = v
  simp [h]
theorem ev_ne {a : Act} {d e : Nat} {v : Value} (h : d ≠ e) : (a.put (some d) v).eval (.tmp e) = a.eval (.tmp e) := by
  show ((a.tmps.setIfInBounds d v).getD e undef) = a.tmps.getD e undef
  rw [Array.getD_eq_getD_getElem?, Array.getD_eq_getD_getElem?, Array.getElem?_setIfInBounds_ne h]
theorem put_sz {a : Act} {d : Nat} {v : Value} : (a.put (some d) v).tmps.size = a.tmps.size := by
  show (a.tmps.setIfInBounds d v).size = _
  simp
theorem pc {a : Act} {d e : Nat} {u v : Value} (h : d ≠ e) : (a.put (some d) u).put (some e) v = (a.put (some e) v).put (some d) u := by
  show Act.mk ((a.tmps.setIfInBounds d u).setIfInBounds e v) _ = Act.mk ((a.tmps.setIfInBounds e v).setIfInBounds d u) _
  rw [Array.setIfInBounds_comm _ _ h]
  rfl

/-- An append, run. -/
theorem run_app {P : Program} {o : Oper} {a : Act} {s x : Operand} {t1 t2 : TypeId} {v u v' : Value} {w w' : World} (ho : o.op = .call { callee := .builtin .append, args := #[s, x], argTypes := #[t1, t2] }) (hs : a.eval s = v) (hx : a.eval x = u)
    (hr : (Builtin.append_ #[t1, t2] o.type #[v, u]).run P w = .ok v' w') : (execOp a.eval o).run P w = .ok (.value v') w' := by
  unfold execOp
  simp only [ho, resolve, invoke, builtin, Sem.run_bind, Sem.run_pure, Result.andThen_ok, List.map_toArray, List.map_cons, List.map_nil, hs, hx, hr]

/-- One element more behind a row of the call's own; the element lies in a block of its own. -/
theorem app_at {t ty e : TypeId} {z : Value} {size bytes : Nat} (ht : Tryz.prog.underlying t = some (.slice e)) (hinf : (Tryz.prog.info? e).map (fun i => (i.zero, i.size, i.bytes)) = some (some z, size, bytes)) (hzs : z.cells.size = size) (hsz : 0 < size) (hby : bytes ≤ 1000)
    {N : Nat} {v : Value} {n : Nat} {xs : List Value} {w : World} (hown : w.ownsRow N e size v n xs) {p : Nat} {cs : Array Value} {fz : Nat × Nat} (hb : w.heap[p]? = some (.cells cs e fz)) (hcs : cs.size = size) (h1 : ∀ u ∈ cs.toList, u.oneCell' = true) (hn : n < 1000) (hN : N ≤ w.heap.size) :
    ∃ g cap w', (Builtin.append_ #[t, t] ty #[v, .slice (some ⟨p, 0, none⟩) 1 1]).run Tryz.prog w = .ok (.slice (some ⟨g, 0, none⟩) (n + 1) cap) w' ∧
      w'.ownsRow N e size (.slice (some ⟨g, 0, none⟩) (n + 1) cap) (n + 1) (xs ++ cs.toList) ∧ w.grownBy w' v.ownBlock ∧ (v.ownBlock = some g ∨ g = w.heap.size) ∧ g < w'.heap.size := by
  obtain ⟨i, hi, hz, hz1, hz2⟩ := info_parts hinf
  exact run_append_lies w t ty N e i z size bytes ht hi hz hz1 hz2 hzs hsz v n xs hown ⟨p, 0, none⟩ 1 1 cs.toList (by simp [hcs]) (World.news_of_block hb) h1 (by omega) (by unfold maxLen; omega) (by have := Nat.mul_le_mul (show n + 1 ≤ 1000 by omega) hby; omega) hN _ rfl

/-- Two rows that were appended to, one behind the other. -/
def AppP (N : Nat) (wc : World) (eA eB : TypeId) (kA kB : Nat) (va vb : Value) (n : Nat) (xs ys csA csB : List Value) (v1 v2 : Value) (w2 : World) : Prop :=
  ∃ wa w1 wb g1 c1 g2 c2, v1 = .slice (some ⟨g1, 0, none⟩) (n + 1) c1 ∧ v2 = .slice (some ⟨g2, 0, none⟩) (n + 1) c2 ∧
    Below wc.heap.size wc wa ∧ wa.grownBy w1 va.ownBlock ∧ w1.ownsRow N eA kA v1 (n + 1) (xs ++ csA) ∧ (va.ownBlock = some g1 ∨ wc.heap.size ≤ g1) ∧
    Below w1.heap.size w1 wb ∧ wb.grownBy w2 vb.ownBlock ∧ w2.ownsRow N eB kB v2 (n + 1) (ys ++ csB) ∧ (vb.ownBlock = some g2 ∨ w1.heap.size ≤ g2)
theorem blk_grown {w w' : World} {v : Value} {N : Nat} {e : TypeId} {k n : Nat} {xs : List Value} (hg : w.grownBy w' v.ownBlock) {wc : World} (ho : wc.ownsRow N e k v n xs) {b : Nat} {o : Obj} (hb : wc.heap.size ≤ b) (hh : w.heap[b]? = some o) : w'.heap[b]? = some o :=
  (hg.block b (lt_heap hh) (fun e => by have := (ho.lt b e.symm).2; omega)).trans hh
theorem blk_far {w w' : World} {v : Value} {N : Nat} {e : TypeId} {k n : Nat} {xs : List Value} (hg : w.grownBy w' v.ownBlock) {wc : World} (ho : wc.ownsRow N e k v n xs) {b : Nat} {o : Obj} (hb : b < N) (hh : w.heap[b]? = some o) : w'.heap[b]? = some o :=
  (hg.block b (lt_heap hh) (fun e => by have := (ho.lt b e.symm).1; omega)).trans hh
end Go.Proofs.YtjajandjdclifaaGreatDoor
