/- The errors that steps make. -/
import Derived.Test.YteacjahncngoiaaDoorFaMadeP
import Derived.Deep.RegionHeld3
import Derived.Deep.DrawnRows
import Derived.Deep.DeepCutAuto
import Derived.Deep.CutRange
import Derived.Deep.CutBlock
namespace Go.Proofs.YteacjahncngoiaaDoor
open Go.RowKit FA
attribute [local go_sem ↓] Go.wp_at_zero Go.wp_at_succ

theorem slice_upto (s : ByteArray) (k : Nat) (h : k ≤ s.size) (w : World) :
    (Instr.slice 9 (.string s) none (some (.int .i64 (k : Int))) none).run Tryd.prog w = .ok (.string (s.extract 0 k)) w := by
  rw [run_slice_string_to_if w 9 s .i64 _ Tryd.underlying9, if_pos (by omega)]
  rfl

theorem heap_alloc2 (w : World) (o1 o2 : Obj) : ((w.alloc o1).alloc o2).heap[w.heap.size + 1]? = some o2 := by
  have := heap_alloc_new (w.alloc o1) o2
  rwa [show (w.alloc o1).heap.size = w.heap.size + 1 by simp] at this

def resBlk : Obj := .cells #[.int .i64 0, .int .i64 0, .string ⟨#[]⟩, .slice none 0 0] 27

theorem rnew_x (c : Nat) (s : ByteArray) (w : World) : Calls Tryd.prog 31 #[.int .i64 c, .string s] w fun en w' => en = .returned (.agg #[.int .i64 1, .int .i64 c, .string s, .slice none 0 0]) ∧ Below w.heap.size w w' := by
  refine (rnew_any c s w).mono ?_
  rintro en w' ⟨y, rfl, h2, h3⟩
  obtain rfl : y = .slice none 0 0 := h2
  exact ⟨rfl, h3⟩

theorem errnew_l (s : ByteArray) (w : World) : Calls Tryd.prog 29 #[.string s] w fun en w' => en = .returned (.iface 93 (.pointer (some ⟨w.heap.size, 0, none⟩))) ∧ w.heap.size < w'.heap.size ∧ w'.heap[w.heap.size]? = some (.cells #[.string s] 95 (0, 0)) ∧ Below w.heap.size w w' := by
  refine (errnew_w s w).mono ?_
  rintro en w' ⟨rfl, rfl⟩
  exact ⟨rfl, by simp, heap_alloc_new w _, (Below.refl _ _).alloc (Nat.le_refl _) _⟩

/-- Behind the switch: an error, its record in the block behind wr's, its size. -/
def SwRel (N : Nat) (wr : World) (errs refs sizes : Value) (s9 s11 : Value) (wc : World) : Prop :=
  ∃ (x : Option E) (y : Value) (z : Nat), s9 = .int .i64 z ∧ RepQO wc (Free N wc errs refs sizes) x s11 ∧ RepRQO wc (Free N wc errs refs sizes) x y ∧ 1 ≤ z ∧ z ≤ 10000 ∧ szO x ≤ z ∧ GoodO x ∧
    wc.heap[wr.heap.size + 1]? = some (.cells #[.int .i64 (kindO x), .int .i64 (cdO x), .string (whO x), y] 27 (0, 0)) ∧ Below wr.heap.size wr wc

theorem set4_at {w : World} {b : Nat} {t : TypeId} {o0 o1 o2 o3 a0 a1 a2 a3 : Value} (h : w.heap[b]? = some (.cells #[o0, o1, o2, o3] t (0, 0))) :
    ((((w.setCell ⟨b, 0, none⟩ a0).setCell ⟨b, 1, none⟩ a1).setCell ⟨b, 2, none⟩ a2).setCell ⟨b, 3, none⟩ a3).heap[b]? = some (.cells #[a0, a1, a2, a3] t (0, 0)) := by
  simp [World.setCell, Array.getElem?_modify, h]
theorem set4_far {w : World} {b k : Nat} {a0 a1 a2 a3 : Value} (h : k ≠ b) :
    ((((w.setCell ⟨b, 0, none⟩ a0).setCell ⟨b, 1, none⟩ a1).setCell ⟨b, 2, none⟩ a2).setCell ⟨b, 3, none⟩ a3).heap[k]? = w.heap[k]? := by
  rw [Below.heap_setCell _ _ _ _ h, Below.heap_setCell _ _ _ _ h, Below.heap_setCell _ _ _ _ h, Below.heap_setCell _ _ _ _ h]

theorem set4_cell {w : World} {b : Nat} {a0 a1 a2 a3 : Value} {p : Addr} (h : p.block ≠ b) :
    ((((w.setCell ⟨b, 0, none⟩ a0).setCell ⟨b, 1, none⟩ a1).setCell ⟨b, 2, none⟩ a2).setCell ⟨b, 3, none⟩ a3).cell? p = w.cell? p := World.cell?_of_block (w := w) (set4_far h)

/-- The record is laid into its variable: behind it the switch's relation holds. -/
theorem sw_store {N : Nat} {wr w1 : World} {errs refs sizes v y o0 o1 o2 o3 : Value} {x : Option E} {z : Nat}
    (hblk : w1.heap[wr.heap.size + 1]? = some (.cells #[o0, o1, o2, o3] 27 (0, 0))) (hb : Below wr.heap.size wr w1)
    (hx : RepQO w1 (fun k => Free N w1 errs refs sizes k ∧ k ≠ wr.heap.size + 1) x v) (hy : RepRQO w1 (fun k => Free N w1 errs refs sizes k ∧ k ≠ wr.heap.size + 1) x y)
    (h1 : 1 ≤ z) (h2 : z ≤ 10000) (h3 : szO x ≤ z) (hg : GoodO x) {kk cc : Int} {ww : ByteArray} (hkk : kk = kindO x) (hcc : cc = cdO x) (hww : ww = whO x) :
    SwRel N wr errs refs sizes (.int .i64 z) v ((((w1.setCell ⟨wr.heap.size + 1, 0, none⟩ (.int .i64 kk)).setCell ⟨wr.heap.size + 1, 1, none⟩ (.int .i64 cc)).setCell ⟨wr.heap.size + 1, 2, none⟩ (.string ww)).setCell ⟨wr.heap.size + 1, 3, none⟩ y) := by
  subst hkk hcc hww
  have hm : Moves w1 ((((w1.setCell ⟨wr.heap.size + 1, 0, none⟩ (.int .i64 (kindO x))).setCell ⟨wr.heap.size + 1, 1, none⟩ (.int .i64 (cdO x))).setCell ⟨wr.heap.size + 1, 2, none⟩ (.string (whO x))).setCell ⟨wr.heap.size + 1, 3, none⟩ y)
      (fun k => Free N w1 errs refs sizes k ∧ k ≠ wr.heap.size + 1) (Free N ((((w1.setCell ⟨wr.heap.size + 1, 0, none⟩ (.int .i64 (kindO x))).setCell ⟨wr.heap.size + 1, 1, none⟩ (.int .i64 (cdO x))).setCell ⟨wr.heap.size + 1, 2, none⟩ (.string (whO x))).setCell ⟨wr.heap.size + 1, 3, none⟩ y) errs refs sizes) :=
    fun k hk => ⟨⟨by have := hk.1.1; simpa [World.setCell] using this, hk.1.2⟩, set4_far hk.2⟩
  exact ⟨x, y, z, rfl, hx.move hm, hy.move hm, h1, h2, h3, hg, set4_at hblk,
    (((hb.setCell (p := ⟨wr.heap.size + 1, 0, none⟩) (by simp) _).setCell (p := ⟨wr.heap.size + 1, 1, none⟩) (by simp) _).setCell (p := ⟨wr.heap.size + 1, 2, none⟩) (by simp) _).setCell (p := ⟨wr.heap.size + 1, 3, none⟩) (by simp) _⟩

theorem Made.fresh {N : Nat} {wr w1 : World} {errs refs sizes : Value} {ps qs : List (Option E × Value)} {zs : List Nat} (h : Made N wr errs refs sizes ps qs zs) {k : Nat} (h1 : wr.heap.size ≤ k) (h2 : k < w1.heap.size) (h0 : N ≤ wr.heap.size) : Free N w1 errs refs sizes k := by
  refine ⟨h2, fun e => ?_, fun e => ?_, fun e => ?_, by omega⟩
  · have := (h.hE.lt k e).2; omega
  · have := (h.hR.lt k e).2; omega
  · have := (h.hZ.lt k e).2; omega

theorem heap_alloc_at {w : World} {o : Obj} {k : Nat} (h : k = w.heap.size) : (w.alloc o).heap[k]? = some o := by subst h; exact heap_alloc_new w o

/-- Four cells of a block. -/
def S4 (b : Nat) (a0 a1 a2 a3 : Value) (w : World) : Prop := w.cell? ⟨b, 0, none⟩ = some a0 ∧ w.cell? ⟨b, 1, none⟩ = some a1 ∧ w.cell? ⟨b, 2, none⟩ = some a2 ∧ w.cell? ⟨b, 3, none⟩ = some a3
theorem S4.alloc {b : Nat} {a0 a1 a2 a3 : Value} {w : World} (h : S4 b a0 a1 a2 a3 w) (hb : b < w.heap.size) (o : Obj) : S4 b a0 a1 a2 a3 (w.alloc o) :=
  ⟨(World.cell?_alloc_lt _ _ _ hb).trans h.1, (World.cell?_alloc_lt _ _ _ hb).trans h.2.1, (World.cell?_alloc_lt _ _ _ hb).trans h.2.2.1, (World.cell?_alloc_lt _ _ _ hb).trans h.2.2.2⟩
theorem S4.grown {b : Nat} {a0 a1 a2 a3 : Value} {w w' : World} {row : Option Nat} (h : S4 b a0 a1 a2 a3 w) (hg : w.grownBy w' row) (hb : b < w.heap.size) (hne : some b ≠ row) : S4 b a0 a1 a2 a3 w' :=
  ⟨(hg.cell_far _ hb hne).trans h.1, (hg.cell_far _ hb hne).trans h.2.1, (hg.cell_far _ hb hne).trans h.2.2.1, (hg.cell_far _ hb hne).trans h.2.2.2⟩

section
variable {N : Nat} {wc wa w1 wb w2 wd w3 : World} {errs refs sizes : Value} {ps qs : List (Option E × Value)} {zs : List Nat}
theorem Made.kept1 (h : Made N wc errs refs sizes ps qs zs) (hg : wa.grownBy w1 errs.ownBlock) (ha : Below wc.heap.size wc wa) :
    w1.ownsRow N 27 4 refs ps.length (flat qs) ∧ w1.ownsRow N 3 1 sizes ps.length (zs.map fun z : Nat => .int .i64 (z : Int)) :=
  ⟨(own_below h.hR ha).kept hg (rows_apart (own_below h.hR ha) (own_below h.hE ha) (by decide)), (own_below h.hZ ha).kept hg (rows_apart (own_below h.hZ ha) (own_below h.hE ha) (by decide))⟩
theorem Made.kept2 (h : Made N wc errs refs sizes ps qs zs) (hg : wa.grownBy w1 errs.ownBlock) (ha : Below wc.heap.size wc wa) (hg2 : wb.grownBy w2 refs.ownBlock) (hb : Below w1.heap.size w1 wb) :
    w2.ownsRow N 3 1 sizes ps.length (zs.map fun z : Nat => .int .i64 (z : Int)) := by
  obtain ⟨k1, k2⟩ := h.kept1 hg ha
  exact (own_below k2 hb).kept hg2 (rows_apart (own_below k2 hb) (own_below k1 hb) (by decide))
theorem Made.blk1 (h : Made N wc errs refs sizes ps qs zs) (hg : wa.grownBy w1 errs.ownBlock) {b : Nat} {o : Obj} (hb : wc.heap.size ≤ b) (hh : wa.heap[b]? = some o) : w1.heap[b]? = some o :=
  (hg.block b (lt_heap hh) (fun e => by have := (h.hE.lt b e.symm).2; omega)).trans hh
theorem Made.blk2 (h : Made N wc errs refs sizes ps qs zs) (hg2 : wb.grownBy w2 refs.ownBlock) {b : Nat} {o : Obj} (hb : wc.heap.size ≤ b) (hh : wb.heap[b]? = some o) : w2.heap[b]? = some o :=
  (hg2.block b (lt_heap hh) (fun e => by have := (h.hR.lt b e.symm).2; omega)).trans hh

theorem Made.step (h : Made N wc errs refs sizes ps qs zs) {x : Option E} {v y : Value} {z : Nat} (hx : RepQO wc (Free N wc errs refs sizes) x v) (hy : RepRQO wc (Free N wc errs refs sizes) x y)
    (hs : szO x ≤ z ∧ 1 ≤ z ∧ z ≤ 1000 ∧ GoodO x) (hN : N ≤ wc.heap.size) {g1 c1 g2 c2 g3 c3 h1 h2 h3 : Nat}
    (ha : Below wc.heap.size wc wa) (q1 : wa.grownBy w1 errs.ownBlock) (o1 : w1.ownsRow N 24 1 (.slice (some ⟨g1, 0, none⟩) (ps.length + 1) c1) (ps.length + 1) (ps.map Prod.snd ++ [v])) (t1 : errs.ownBlock = some g1 ∨ g1 = h1) (hh1 : wc.heap.size ≤ h1)
    (hb : Below w1.heap.size w1 wb) (q2 : wb.grownBy w2 refs.ownBlock) (o2 : w2.ownsRow N 27 4 (.slice (some ⟨g2, 0, none⟩) (ps.length + 1) c2) (ps.length + 1) (flat qs ++ [.int .i64 (kindO x), .int .i64 (cdO x), .string (whO x), y])) (t2 : refs.ownBlock = some g2 ∨ g2 = h2) (hh2 : wc.heap.size ≤ h2)
    (hd : Below w2.heap.size w2 wd) (q3 : wd.grownBy w3 sizes.ownBlock) (o3 : w3.ownsRow N 3 1 (.slice (some ⟨g3, 0, none⟩) (ps.length + 1) c3) (ps.length + 1) ((zs.map fun z : Nat => .int .i64 (z : Int)) ++ [.int .i64 (z : Int)])) (t3 : sizes.ownBlock = some g3 ∨ g3 = h3) (hh3 : wc.heap.size ≤ h3) :
    Made N w3 (.slice (some ⟨g1, 0, none⟩) (ps.length + 1) c1) (.slice (some ⟨g2, 0, none⟩) (ps.length + 1) c2) (.slice (some ⟨g3, 0, none⟩) (ps.length + 1) c3) (ps ++ [(x, v)]) (qs ++ [(x, y)]) (zs ++ [z]) ∧ Below N wc w3 := by
  obtain ⟨k1, k2⟩ := h.kept1 q1 ha
  have k3 := h.kept2 q1 ha q2 hb
  have sa := ha.size; have s1 := q1.size; have sb := hb.size; have s2 := q2.size; have sd := hd.size; have s3 := q3.size
  have e1 := own_below o1 hb
  have e2 := e1.kept q2 (rows_apart e1 (own_below k1 hb) (by decide))
  have e3 := own_below e2 hd
  have e4 := e3.kept q3 (rows_apart e3 (own_below k3 hd) (by decide))
  have r3 := own_below o2 hd
  have r4 := r3.kept q3 (rows_apart r3 (own_below k3 hd) (by decide))
  have hm : Moves wc w3 (Free N wc errs refs sizes) (Free N w3 (.slice (some ⟨g1, 0, none⟩) (ps.length + 1) c1) (.slice (some ⟨g2, 0, none⟩) (ps.length + 1) c2) (.slice (some ⟨g3, 0, none⟩) (ps.length + 1) c3)) := by
    intro k hk
    obtain ⟨f0, f1, f2, f3, f4⟩ := hk
    refine ⟨⟨by omega, ?_, ?_, ?_, f4⟩, ?_⟩
    · intro e
      have e' : g1 = k := by simpa [Value.ownBlock] using e
      rcases t1 with t | t
      · exact f1 (by rw [t, e'])
      · omega
    · intro e
      have e' : g2 = k := by simpa [Value.ownBlock] using e
      rcases t2 with t | t
      · exact f2 (by rw [t, e'])
      · omega
    · intro e
      have e' : g3 = k := by simpa [Value.ownBlock] using e
      rcases t3 with t | t
      · exact f3 (by rw [t, e'])
      · omega
    · exact (q3.block k (by omega) (fun e => f3 e.symm)).trans ((hd.block k (by omega)).trans ((q2.block k (by omega) (fun e => f2 e.symm)).trans ((hb.block k (by omega)).trans ((q1.block k (by omega) (fun e => f1 e.symm)).trans (ha.block k f0)))))
  refine ⟨⟨by simpa using e4, ?_, by simpa using o3, by simp [h.same], by simp [h.zlen], ?_, ?_, ?_⟩, ?_⟩
  · rw [flat_snoc]; simpa using r4
  · intro p hp
    rcases List.mem_append.1 hp with hp | hp
    · exact (h.reps p hp).move hm
    · simp at hp; subst hp; exact hx.move hm
  · intro q hq
    rcases List.mem_append.1 hq with hq | hq
    · exact (h.recs q hq).move hm
    · simp at hq; subst hq; exact hy.move hm
  · intro i p z' hp hz
    rcases Nat.lt_or_ge i ps.length with hi | hi
    · rw [List.getElem?_append_left hi] at hp
      rw [List.getElem?_append_left (by have := h.zlen; omega)] at hz
      exact h.small i p z' hp hz
    · rw [List.getElem?_append_right hi] at hp
      rw [List.getElem?_append_right (by have := h.zlen; omega)] at hz
      rw [h.zlen] at hz
      have hi0 : i - ps.length = 0 := by
        have := (List.getElem?_eq_some_iff.1 hp).1
        simp at this; omega
      rw [hi0] at hp hz
      simp at hp hz
      subst hp hz
      exact hs
  · have b1 := (ha.mono hN).grown q1 (by omega) (fun k hk => ((own_below h.hE ha).lt k hk).1)
    have b2 := (b1.trans (hb.mono (by omega))).grown q2 (by omega) (fun k hk => ((own_below k1 hb).lt k hk).1)
    exact (b2.trans (hd.mono (by omega))).grown q3 (by omega) (fun k hk => ((own_below k3 hd).lt k hk).1)
end

set_option maxRecDepth 100000 in
set_option maxHeartbeats 200000000 in
theorem made_any (w : World) (A : Option Addr) (cap : Nat) (l : List St) (hl : l.length ≤ maxLen) (hs : Steps w A l) (hT : Tabs w) (hcap : l.length ≤ cap) :
    Calls Tryd.prog 9 #[.slice A l.length cap] w (MadeP w) := by
  unfold maxLen at hl
  have Hs := Lib.hid hs
  have HT := Lib.hid hT
  clear hs hT
  go_enter Tryd.func9, Tryd.ntmps9
  go_wp2
  go_loopw [22, 4, 5, 6] (fun i errs refs sizes wr => ∃ (k : Nat) (ps qs : List (Option E × Value)) (zs : List Nat), i = .int .i64 k ∧ k ≤ min l.length 40 ∧ Hid (ps.length = k) ∧ Hid (Made (w.heap.size + 1) wr errs refs sizes ps qs zs) ∧ Hid (Below (w.heap.size + 1) (w.alloc resBlk) wr))
    (fun i _ _ _ _ => l.length - (intOf i).toNat)
  case atStart => exact ⟨0, [], [], [], rfl, by omega, Lib.hid rfl, Lib.hid ⟨own_nil _ _ _ _, own_nil _ _ _ _, own_nil _ _ _ _, rfl, rfl, fun _ h => (by cases h), fun _ h => (by cases h), fun _ _ _ h => by simp at h⟩, Lib.hid (Below.refl _ _)⟩
  case round =>
    obtain ⟨k, ps, qs, zs, rfl, hk, hlen, HM, hbr⟩ := hrel
    have hsr : w.heap.size + 1 ≤ wr.heap.size := by have := hbr.out.size; simpa using this
    have hbw : Hid (Below w.heap.size w wr) := ((Below.refl w.heap.size w).alloc (Nat.le_refl _) _).trans (hbr.out.mono (by omega))
    by_cases hlt : k < min l.length 40
    · obtain ⟨x, hx⟩ : ∃ x, l[k]? = some x := ⟨l[k], List.getElem?_eq_getElem (by omega)⟩
      obtain ⟨g, o, rfl, hg, r0, r1, r2, r3, w0_, w1_, w2_, w3_⟩ := Hs.out k x hx
      obtain ⟨what, c, s, more⟩ := x
      simp only at r0 r1 r2 r3 w0_ w1_ w2_ w3_
      have q0 : wr.cell? ⟨g, o + k * 4, none⟩ = some (.int .i64 what) := by rw [hbw.out.cell (by simp; omega)]; exact r0
      have q1 : wr.cell? ⟨g, o + k * 4 + 1, none⟩ = some (.int .u8 c) := by rw [hbw.out.cell (by simp; omega)]; exact r1
      have q2 : wr.cell? ⟨g, o + k * 4 + 2, none⟩ = some (.string s) := by rw [hbw.out.cell (by simp; omega)]; exact r2
      have q3 : wr.cell? ⟨g, o + k * 4 + 3, none⟩ = some (.int .i64 more) := by rw [hbw.out.cell (by simp; omega)]; exact r3
      have hsl := slice_upto s (min s.size 50) (by omega)
      obtain ⟨Ae, capE, rfl⟩ := own_form HM.out.hE
      obtain ⟨Ar, capR, rfl⟩ := own_form HM.out.hR
      obtain ⟨Az, capZ, rfl⟩ := own_form HM.out.hZ
      clear r0 r1 r2 r3 hx
      go_upto_block 1 with fail
      go_cut [4, 5, 6] (fun e r s wd => Hid (∃ ps' qs' zs', ps'.length = ps.length + 1 ∧ Made (w.heap.size + 1) wd e r s ps' qs' zs' ∧ Below (w.heap.size + 1) (w.alloc resBlk) wd))
      case first =>
        go_upto_block 2 with fail
        go_cut [9, 11] (fun s9 s11 wc => Hid (SwRel (w.heap.size + 1) wr (.slice Ae ps.length capE) (.slice Ar ps.length capR) (.slice Az ps.length capZ) s9 s11 wc))
        case first =>
          have h50 : (s.extract 0 (min (s.size : Int) 50).toNat).size ≤ 50 := by rw [ByteArray.size_extract]; omega
          generalize s.extract 0 (min (s.size : Int) 50).toNat = s1 at *
          generalize what.tmod 5 = r at *
          have hb2 : Hid (Below wr.heap.size wr ((wr.alloc (.cells #[.int .i64 what, .int .u8 c, .string s1, .int .i64 more] 60)).alloc resBlk)) := ((Below.refl wr.heap.size wr).alloc (Nat.le_refl _) _).alloc (by simp; done) _
          have rest0 : Hid (SwRel (w.heap.size + 1) wr (.slice Ae ps.length capE) (.slice Ar ps.length capR) (.slice Az ps.length capZ) (.int .i64 1) .nilIface ((wr.alloc (.cells #[.int .i64 what, .int .u8 c, .string s1, .int .i64 more] 60)).alloc resBlk)) :=
            ⟨none, .slice none 0 0, 1, rfl, rfl, rfl, by omega, by omega, by simp [szO], trivial, heap_alloc2 wr _ _, hb2.out⟩
          have HX : Hid (((wr.alloc (.cells #[.int .i64 what, .int .u8 c, .string s1, .int .i64 more] 60)).alloc resBlk).heap[wr.heap.size]? = some (.cells #[.int .i64 what, .int .u8 c, .string s1, .int .i64 more] 60 (0, 0))) := (Below.heap_alloc _ _ _ (by simp)).trans (heap_alloc_new wr _)
          have HR : Hid (((wr.alloc (.cells #[.int .i64 what, .int .u8 c, .string s1, .int .i64 more] 60)).alloc resBlk).heap[wr.heap.size + 1]? = some (.cells #[.int .i64 0, .int .i64 0, .string ⟨#[]⟩, .slice none 0 0] 27 (0, 0))) := heap_alloc2 wr _ _
          have HZ : wr.heap.size + 2 ≤ ((wr.alloc (.cells #[.int .i64 what, .int .u8 c, .string s1, .int .i64 more] 60)).alloc resBlk).heap.size := by simp
          unfold resBlk at rest0 hb2 HX HR HZ
          generalize ((wr.alloc (.cells #[.int .i64 what, .int .u8 c, .string s1, .int .i64 more] 60)).alloc (.cells #[.int .i64 0, .int .i64 0, .string ⟨#[]⟩, .slice none 0 0] 27)) = W1 at *
          have x0 : W1.cell? ⟨wr.heap.size, 0, none⟩ = some (.int .i64 what) := by rw [cell_heap HX.out]; rfl
          have x1 : W1.cell? ⟨wr.heap.size, 1, none⟩ = some (.int .u8 c) := by rw [cell_heap HX.out]; rfl
          have x2 : W1.cell? ⟨wr.heap.size, 2, none⟩ = some (.string s1) := by rw [cell_heap HX.out]; rfl
          have x3 : W1.cell? ⟨wr.heap.size, 3, none⟩ = some (.int .i64 more) := by rw [cell_heap HX.out]; rfl
          clear hsl q0 q1 q2 q3
          by_cases h1 : r = 1 ∨ r = -1
          · have hTr := HT.out.below hbw.out
            by_cases hn0 : ps.length = 0
            · have hn1 : decide (0 < ps.length) = false := by simp [hn0]
              have e1 : (r == 1) = true ∨ ((r == 1) = false ∧ (r == -1) = true) := by
                rcases h1 with h1 | h1
                · exact .inl (by simp [h1])
                · exact .inr ⟨by rw [beq_eq_false_iff_ne]; omega, by simp [h1]⟩
              clear h1 hn0 hTr
              rcases e1 with e1 | ⟨e1, e2⟩ <;>
              · go_wp2_with fail
                go_meet
                exact rest0
            · obtain ⟨m, hm⟩ : ∃ m, ps.length = m + 1 := ⟨ps.length - 1, by omega⟩
              have hn1 : decide (0 < ps.length) = true := by simp; omega
              have hm40 : m < 40 := by have := hlen.out; omega
              obtain ⟨p, hp⟩ : ∃ p, ps[m]? = some p := ⟨ps[m], List.getElem?_eq_getElem (by omega)⟩
              obtain ⟨q, hq⟩ : ∃ q, qs[m]? = some q := ⟨qs[m]'(by have := congrArg List.length HM.out.same; simp at this; omega), List.getElem?_eq_getElem _⟩
              obtain ⟨z, hz⟩ : ∃ z, zs[m]? = some z := ⟨zs[m]'(by have := HM.out.zlen; omega), List.getElem?_eq_getElem _⟩
              have hpq : q.1 = p.1 := by
                have h1 : (qs.map Prod.fst)[m]? = some q.1 := by simp [hq]
                rw [HM.out.same] at h1
                simpa [hp] using h1.symm
              obtain ⟨hs1, hs2, hs3, hs4⟩ := HM.out.small m p z hp hz
              obtain ⟨ge, ce, hve, _, hge⟩ := HM.out.hE.form (by omega)
              obtain ⟨gr, cr, hvr, _, hgr⟩ := HM.out.hR.form (by omega)
              obtain ⟨gz, cz, hvz, _, hgz⟩ := HM.out.hZ.form (by omega)
              injection hve with hve _ hce
              injection hvr with hvr _ hcr
              injection hvz with hvz _ hcz
              subst hve hvr hvz
              obtain ⟨x, v⟩ := p
              obtain ⟨x', y⟩ := q
              simp only at hpq hs1 hs4
              subst hpq
              have ce0 : W1.cell? ⟨ge, m, none⟩ = some v := by
                rw [hb2.out.cell (by simp; omega), ← add0]; exact HM.out.hE.cells (g := ge) rfl m v (by simp [hp])
              obtain ⟨l0, l1, l2, l3⟩ := flat_at qs m _ hq
              have cr0 : W1.cell? ⟨gr, m * 4, none⟩ = some (.int .i64 (kindO x')) := by rw [hb2.out.cell (by simp; omega), ← add0]; exact HM.out.hR.cells (g := gr) rfl _ _ l0
              have cr1 : W1.cell? ⟨gr, m * 4 + 1, none⟩ = some (.int .i64 (cdO x')) := by rw [hb2.out.cell (by simp; omega), ← add0]; exact HM.out.hR.cells (g := gr) rfl _ _ l1
              have cr2 : W1.cell? ⟨gr, m * 4 + 2, none⟩ = some (.string (whO x')) := by rw [hb2.out.cell (by simp; omega), ← add0]; exact HM.out.hR.cells (g := gr) rfl _ _ l2
              have cr3 : W1.cell? ⟨gr, m * 4 + 3, none⟩ = some y := by rw [hb2.out.cell (by simp; omega), ← add0]; exact HM.out.hR.cells (g := gr) rfl _ _ l3
              have cz0 : W1.cell? ⟨gz, m, none⟩ = some (.int .i64 z) := by rw [hb2.out.cell (by simp; omega), ← add0]; exact HM.out.hZ.cells (g := gz) rfl m _ (by simp [hz])
              have hrx : RepQO W1 (Free (w.heap.size + 1) W1 (.slice (some ⟨ge, 0, none⟩) ps.length capE) (.slice (some ⟨gr, 0, none⟩) ps.length capR) (.slice (some ⟨gz, 0, none⟩) ps.length capZ)) x' v :=
                (HM.out.reps _ (List.mem_of_getElem? hp)).move (fun b hq => ⟨⟨by have := hq.1; omega, hq.2⟩, hb2.out.block b hq.1⟩)
              have hry : RepRQO W1 (Free (w.heap.size + 1) W1 (.slice (some ⟨ge, 0, none⟩) ps.length capE) (.slice (some ⟨gr, 0, none⟩) ps.length capR) (.slice (some ⟨gz, 0, none⟩) ps.length capZ)) x' y :=
                (HM.out.recs _ (List.mem_of_getElem? hq)).move (fun b hq => ⟨⟨by have := hq.1; omega, hq.2⟩, hb2.out.block b hq.1⟩)
              have Hrx0 := Lib.hid (HM.out.reps _ (List.mem_of_getElem? hp))
              have Hry0 := Lib.hid (HM.out.recs _ (List.mem_of_getElem? hq))
              have hT1 : Tabs W1 := hTr.below hb2.out
              have e1 : (r == 1) = true ∨ ((r == 1) = false ∧ (r == -1) = true) := by
                rcases h1 with h1 | h1
                · exact .inl (by simp [h1])
                · exact .inr ⟨by rw [beq_eq_false_iff_ne]; omega, by simp [h1]⟩
              have Hrx := Lib.hid hrx
              have Hry := Lib.hid hry
              have HT1 := Lib.hid hT1
              have Hs4 := Lib.hid hs4
              clear h1 hn0 hTr hp hq hz l0 l1 l2 l3 hrx hry hT1 hs4 hce hcr hcz
              generalize ps.length = n at *
              subst hm
              cases x' with
              | none =>
                -- BEGIN one_none
                as_aux_lemma =>
                  obtain rfl : v = .nilIface := Hrx.out
                  obtain rfl : y = .slice none 0 0 := Hry.out
                  change W1.cell? ⟨gr, m * 4, none⟩ = some (.int .i64 0) at cr0
                  change W1.cell? ⟨gr, m * 4 + 1, none⟩ = some (.int .i64 0) at cr1
                  change W1.cell? ⟨gr, m * 4 + 2, none⟩ = some (.string ⟨#[]⟩) at cr2
                  have i0 : (0 : Int) ≤ (m : Int) := by omega
                  have i1 : (m : Int) < (m : Int) + 1 := by omega
                  have i2 : IntKind.i64.wrap (m : Int) = m := by rw [IntKind.wrap_i64]; omega
                  go_upto_if 50 with fail
                  go_cut [50] (fun b wc => b = .bool true ∧ W1 = wc)
                  case first =>
                    rcases e1 with e1 | ⟨e1, e2⟩ <;>
                    · go_wp2_with fail
                      go_meet
                      exact ⟨rfl, rfl⟩
                  case rest =>
                    obtain ⟨rfl, rfl⟩ := hcut
                    go_wp2_with fail
                    go_region_held3 (fun w' => w'.cell? ⟨wr.heap.size, 2, none⟩ = some (.string s1) ∧ w'.cell? ⟨ge, m, none⟩ = some .nilIface ∧ w'.cell? ⟨gr, m * 4, none⟩ = some (.int .i64 0) ∧ w'.cell? ⟨gr, m * 4 + 1, none⟩ = some (.int .i64 0) ∧ w'.cell? ⟨gr, m * 4 + 2, none⟩ = some (.string ⟨#[]⟩) ∧ w'.cell? ⟨gr, m * 4 + 3, none⟩ = some (.slice none 0 0))
                      (first | exact ⟨x2, ce0, cr0, cr1, cr2, cr3⟩ | exact ⟨k2, ke, kr0, kr1, kr2, kr3⟩ | exact ⟨(set4_cell (by simp)).trans k2, (set4_cell (by simp; omega)).trans ke, (set4_cell (by simp; omega)).trans kr0, (set4_cell (by simp; omega)).trans kr1, (set4_cell (by simp; omega)).trans kr2, (set4_cell (by simp; omega)).trans kr3⟩)
                      (first
                        | (go_at_call 21
                           refine (wrap_none s1 _).mono ?_
                           rintro en w1 ⟨rfl, rfl⟩)
                        | (go_at_call 27
                           refine (rwrap_none s1 _).mono ?_
                           rintro en w2 ⟨rfl, hb1⟩
                           have hW : Below W1.heap.size W1 w2 := (below_of_drew hb1)
                           have k2 : w2.cell? ⟨wr.heap.size, 2, none⟩ = some (.string s1) := by rw [hW.cell (by simp; omega)]; exact x2
                           have ke : w2.cell? ⟨ge, m, none⟩ = some .nilIface := by rw [hW.cell (by simp; omega)]; exact ce0
                           have kr0 : w2.cell? ⟨gr, m * 4, none⟩ = some (.int .i64 0) := by rw [hW.cell (by simp; omega)]; exact cr0
                           have kr1 : w2.cell? ⟨gr, m * 4 + 1, none⟩ = some (.int .i64 0) := by rw [hW.cell (by simp; omega)]; exact cr1
                           have kr2 : w2.cell? ⟨gr, m * 4 + 2, none⟩ = some (.string ⟨#[]⟩) := by rw [hW.cell (by simp; omega)]; exact cr2
                           have kr3 : w2.cell? ⟨gr, m * 4 + 3, none⟩ = some (.slice none 0 0) := by rw [hW.cell (by simp; omega)]; exact cr3
                           have hblk := (hW.block (wr.heap.size + 1) (by omega)).trans HR.out
                           have z0 : w2.cell? ⟨wr.heap.size + 1, 0, none⟩ = some (.int .i64 0) := by rw [cell_heap hblk]; rfl
                           have z1 : w2.cell? ⟨wr.heap.size + 1, 1, none⟩ = some (.int .i64 0) := by rw [cell_heap hblk]; rfl
                           have z2 : w2.cell? ⟨wr.heap.size + 1, 2, none⟩ = some (.string ⟨#[]⟩) := by rw [cell_heap hblk]; rfl
                           have z3 : w2.cell? ⟨wr.heap.size + 1, 3, none⟩ = some (.slice none 0 0) := by rw [cell_heap hblk]; rfl
                           have f0 : w2.frozen? ⟨wr.heap.size + 1, 0, none⟩ = false := frozen_heap hblk
                           have f1 : w2.frozen? ⟨wr.heap.size + 1, 1, none⟩ = false := frozen_heap hblk
                           have f2 : w2.frozen? ⟨wr.heap.size + 1, 2, none⟩ = false := frozen_heap hblk
                           have f3 : w2.frozen? ⟨wr.heap.size + 1, 3, none⟩ = false := frozen_heap hblk
                           have HW := Lib.hid hW
                           have Hblk := Lib.hid hblk
                           clear hb1 hblk hW))
                    go_wp2_with fail
                    go_meet
                    have ez : (1 : Int) + (z : Int) = ((1 + z : Nat) : Int) := by omega
                    rw [ez]
                    exact sw_store (x := none) Hblk.out (hb2.out.trans (HW.out.mono (by omega))) rfl rfl (by omega) (by omega) (by simp [szO]) trivial rfl rfl rfl
                -- END one_none
              | some e =>
                -- BEGIN one_some
                as_aux_lemma =>
                  have hrE : RepQ W1 (Free (w.heap.size + 1) W1 (.slice (some ⟨ge, 0, none⟩) (m + 1) capE) (.slice (some ⟨gr, 0, none⟩) (m + 1) capR) (.slice (some ⟨gz, 0, none⟩) (m + 1) capZ)) e v := Hrx.out
                  have hrR : RepRQ W1 (Free (w.heap.size + 1) W1 (.slice (some ⟨ge, 0, none⟩) (m + 1) capE) (.slice (some ⟨gr, 0, none⟩) (m + 1) capR) (.slice (some ⟨gz, 0, none⟩) (m + 1) capZ)) e y := Hry.out
                  have hE1 : RepE W1 W1.heap.size e v := RepQ.toB Free.lt _ _ hrE
                  have hR1 : RepR W1 W1.heap.size e y := RepRQ.toB Free.lt _ _ hrR
                  obtain ⟨tv, bv, rfl⟩ := RepE.iface hE1
                  obtain ⟨_, Ay, cy, hy, _⟩ := RepR.kids hR1
                  subst hy
                  have hs1' : sz e ≤ z := hs1
                  have C1 := Lib.hid (fun W (hW : Below W1.heap.size W1 W) => wrap_x W1.heap.size s1 e _ W hW.size (RepE.below hW _ _ hE1) (by omega) (HT1.out.below hW))
                  have C2 := Lib.hid (fun W (hW : Below W1.heap.size W1 W) => rwrap_x W1.heap.size s1 e _ W (RepR.below hW _ _ hR1) hW.size (by omega))
                  have HrE' : Hid (RepQ wr (Free (w.heap.size + 1) wr (.slice (some ⟨ge, 0, none⟩) (m + 1) capE) (.slice (some ⟨gr, 0, none⟩) (m + 1) capR) (.slice (some ⟨gz, 0, none⟩) (m + 1) capZ)) e _) := Hrx0.out
                  have HrR' : Hid (RepRQ wr (Free (w.heap.size + 1) wr (.slice (some ⟨ge, 0, none⟩) (m + 1) capE) (.slice (some ⟨gr, 0, none⟩) (m + 1) capR) (.slice (some ⟨gz, 0, none⟩) (m + 1) capZ)) e _) := Hry0.out
                  change W1.cell? ⟨gr, m * 4, none⟩ = some (.int .i64 (kind e)) at cr0
                  change W1.cell? ⟨gr, m * 4 + 1, none⟩ = some (.int .i64 (cd e)) at cr1
                  change W1.cell? ⟨gr, m * 4 + 2, none⟩ = some (.string (wh e)) at cr2
                  have i0 : (0 : Int) ≤ (m : Int) := by omega
                  have i1 : (m : Int) < (m : Int) + 1 := by omega
                  have i2 : IntKind.i64.wrap (m : Int) = m := by rw [IntKind.wrap_i64]; omega
                  clear hrE hrR hE1 hR1 Hrx Hry Hrx0 Hry0 hs1
                  go_upto_if 50 with fail
                  go_cut [50] (fun b wc => b = .bool true ∧ W1 = wc)
                  case first =>
                    rcases e1 with e1 | ⟨e1, e2⟩ <;>
                    · go_wp2_with fail
                      go_meet
                      exact ⟨rfl, rfl⟩
                  case rest =>
                    obtain ⟨rfl, rfl⟩ := hcut
                    go_wp2_with fail
                    go_region_held3 (fun w' => w'.cell? ⟨wr.heap.size, 2, none⟩ = some (.string s1) ∧ w'.cell? ⟨ge, m, none⟩ = some (.iface tv (.pointer (some ⟨bv, 0, none⟩))) ∧ w'.cell? ⟨gr, m * 4, none⟩ = some (.int .i64 (kind e)) ∧ w'.cell? ⟨gr, m * 4 + 1, none⟩ = some (.int .i64 (cd e)) ∧ w'.cell? ⟨gr, m * 4 + 2, none⟩ = some (.string (wh e)) ∧ w'.cell? ⟨gr, m * 4 + 3, none⟩ = some (.slice Ay (kids e).length cy))
                      (first | exact ⟨x2, ce0, cr0, cr1, cr2, cr3⟩ | exact ⟨k2, ke, kr0, kr1, kr2, kr3⟩ | exact ⟨j2, je, jr0, jr1, jr2, jr3⟩ | exact ⟨(set4_cell (by simp)).trans k2, (set4_cell (by simp; omega)).trans ke, (set4_cell (by simp; omega)).trans kr0, (set4_cell (by simp; omega)).trans kr1, (set4_cell (by simp; omega)).trans kr2, (set4_cell (by simp; omega)).trans kr3⟩)
                      (first
                        | (go_at_call 21
                           refine (C1.out _ (Below.refl W1.heap.size W1).drew).mono ?_
                           rintro en w1 ⟨b1, rfl, hb1a, hb1b, hb1c, hb1⟩
                           have hV : Below W1.heap.size W1 w1 := (below_of_drew hb1)
                           have j2 : w1.cell? ⟨wr.heap.size, 2, none⟩ = some (.string s1) := by rw [hV.cell (by simp; omega)]; exact x2
                           have je : w1.cell? ⟨ge, m, none⟩ = some (.iface tv (.pointer (some ⟨bv, 0, none⟩))) := by rw [hV.cell (by simp; omega)]; exact ce0
                           have jr0 : w1.cell? ⟨gr, m * 4, none⟩ = some (.int .i64 (kind e)) := by rw [hV.cell (by simp; omega)]; exact cr0
                           have jr1 : w1.cell? ⟨gr, m * 4 + 1, none⟩ = some (.int .i64 (cd e)) := by rw [hV.cell (by simp; omega)]; exact cr1
                           have jr2 : w1.cell? ⟨gr, m * 4 + 2, none⟩ = some (.string (wh e)) := by rw [hV.cell (by simp; omega)]; exact cr2
                           have jr3 : w1.cell? ⟨gr, m * 4 + 3, none⟩ = some (.slice Ay (kids e).length cy) := by rw [hV.cell (by simp; omega)]; exact cr3
                           have HV := Lib.hid hV
                           have Hb1c := Lib.hid hb1c
                           have hb1a' : W1.heap.size ≤ b1 := hb1a
                           clear hb1 hb1c hV hb1a)
                        | (go_at_call 27
                           refine (C2.out _ HV.out).mono ?_
                           rintro en w2 ⟨g2, rfl, hg2a, hg2b, hrow, hb2'⟩
                           have hb2x : Below w1.heap.size w1 w2 := hb2'
                           have hW : Below W1.heap.size W1 w2 := HV.out.trans (hb2x.mono HV.out.size)
                           have k2 : w2.cell? ⟨wr.heap.size, 2, none⟩ = some (.string s1) := by rw [hW.cell (by simp; omega)]; exact x2
                           have ke : w2.cell? ⟨ge, m, none⟩ = some (.iface tv (.pointer (some ⟨bv, 0, none⟩))) := by rw [hW.cell (by simp; omega)]; exact ce0
                           have kr0 : w2.cell? ⟨gr, m * 4, none⟩ = some (.int .i64 (kind e)) := by rw [hW.cell (by simp; omega)]; exact cr0
                           have kr1 : w2.cell? ⟨gr, m * 4 + 1, none⟩ = some (.int .i64 (cd e)) := by rw [hW.cell (by simp; omega)]; exact cr1
                           have kr2 : w2.cell? ⟨gr, m * 4 + 2, none⟩ = some (.string (wh e)) := by rw [hW.cell (by simp; omega)]; exact cr2
                           have kr3 : w2.cell? ⟨gr, m * 4 + 3, none⟩ = some (.slice Ay (kids e).length cy) := by rw [hW.cell (by simp; omega)]; exact cr3
                           have hblk := (hW.block (wr.heap.size + 1) (by omega)).trans HR.out
                           have z0 : w2.cell? ⟨wr.heap.size + 1, 0, none⟩ = some (.int .i64 0) := by rw [cell_heap hblk]; rfl
                           have z1 : w2.cell? ⟨wr.heap.size + 1, 1, none⟩ = some (.int .i64 0) := by rw [cell_heap hblk]; rfl
                           have z2 : w2.cell? ⟨wr.heap.size + 1, 2, none⟩ = some (.string ⟨#[]⟩) := by rw [cell_heap hblk]; rfl
                           have z3 : w2.cell? ⟨wr.heap.size + 1, 3, none⟩ = some (.slice none 0 0) := by rw [cell_heap hblk]; rfl
                           have f0 : w2.frozen? ⟨wr.heap.size + 1, 0, none⟩ = false := frozen_heap hblk
                           have f1 : w2.frozen? ⟨wr.heap.size + 1, 1, none⟩ = false := frozen_heap hblk
                           have f2 : w2.frozen? ⟨wr.heap.size + 1, 2, none⟩ = false := frozen_heap hblk
                           have f3 : w2.frozen? ⟨wr.heap.size + 1, 3, none⟩ = false := frozen_heap hblk
                           have HW := Lib.hid hW
                           have Hblk := Lib.hid hblk
                           have Hrow := Lib.hid hrow
                           have Hb2x := Lib.hid hb2x
                           have hg2a' : w1.heap.size ≤ g2 := hg2a
                           clear hb2' hblk hW hrow hb2x hg2a))
                    go_wp2_with fail
                    go_meet
                    have ez : (1 : Int) + (z : Int) = ((1 + z : Nat) : Int) := by omega
                    rw [ez]
                    have hlW := HW.out.size
                    have hlV := HV.out.size
                    have hbs := Hb2x.out.size
                    have hblk1 := (Hb2x.out.block b1 hb1b).trans Hb1c.out
                    have hbR : Below wr.heap.size wr w2 := hb2.out.trans (HW.out.mono (by omega))
                    refine sw_store (x := some (.wrap (code e) s1 e)) Hblk.out (hb2.out.trans (HW.out.mono (by omega))) ?_ ?_ (by omega) (by omega) (by simp only [szO, sz]; omega) ⟨code_lt e Hs4.out, h50, rfl, Hs4.out⟩ rfl rfl rfl
                    · simp only [RepQO, RepQ]
                      exact ⟨b1, _, rfl, ⟨HM.out.fresh (by omega) (by omega) hsr, by omega⟩, hblk1, RepQ.move (fun k hk => ⟨⟨⟨by have := hk.1; omega, hk.2⟩, by have := hk.1; omega⟩, hbR.block k hk.1⟩) _ _ HrE'.out⟩
                    · simp only [RepRQO, RepRQ]
                      exact ⟨g2, 1, rfl, ⟨HM.out.fresh (by omega) hg2b hsr, by omega⟩, _, Hrow.out, RepRQ.move (fun k hk => ⟨⟨⟨by have := hk.1; omega, hk.2⟩, by have := hk.1; omega⟩, hbR.block k hk.1⟩) _ _ HrR'.out⟩
                -- END one_some
          · by_cases h2 : r = 2 ∨ r = -2
            ·
              -- BEGIN two
              as_aux_lemma =>
                have hTr := HT.out.below hbw.out
                have HT1 := Lib.hid (hTr.below hb2.out)
                have e0 : (r == 1) = false := by rw [beq_eq_false_iff_ne]; omega
                have e0' : (r == -1) = false := by rw [beq_eq_false_iff_ne]; omega
                have e1 : (r == 2) = true ∨ ((r == 2) = false ∧ (r == -2) = true) := by
                  rcases h2 with h2 | h2
                  · exact .inl (by simp [h2])
                  · exact .inr ⟨by rw [beq_eq_false_iff_ne]; omega, by simp [h2]⟩
                clear h1 h2 hTr
                go_upto_if 78 with fail
                go_cut [78] (fun b wc => b = .bool true ∧ W1 = wc)
                case first =>
                  rcases e1 with e1 | ⟨e1, e2⟩ <;>
                  · go_wp2_with fail
                    go_meet
                    first | exact ⟨rfl, rfl⟩ | exact ⟨congrArg Value.bool e1, rfl⟩ | exact ⟨congrArg Value.bool e2, rfl⟩
                case rest =>
                  obtain ⟨rfl, rfl⟩ := hcut
                  go_upto_region 22 with fail
                  have hl40 : ps.length ≤ 40 := by have := hlen.out; omega
                  obtain ⟨f, ⟨hf, hf3⟩, hfe⟩ : ∃ f : Nat, (f ≤ ps.length ∧ ps.length - f ≤ 3) ∧ wrap64 ((ps.length : Int) - min (ps.length : Int) (max 0 more % 4)) = (f : Int) :=
                    ⟨((ps.length : Int) - min (ps.length : Int) (max 0 more % 4)).toNat, ⟨by omega, by omega⟩, by unfold wrap64; omega⟩
                  rw [hfe]
                  obtain ⟨Ae', hsE, hAe⟩ := from_at (A := Ae) (f := f) (s := 1) (n := ps.length) (cap := capE) (own_cap HM.out.hE) (fun h => by obtain ⟨ge, ce, hve, _⟩ := HM.out.hE.form h; injection hve with hve; exact ⟨ge, hve⟩)
                  obtain ⟨Ar', hsR, hAr⟩ := from_at (A := Ar) (f := f) (s := 4) (n := ps.length) (cap := capR) (own_cap HM.out.hR) (fun h => by obtain ⟨ge, ce, hve, _⟩ := HM.out.hR.form h; injection hve with hve; exact ⟨ge, hve⟩)
                  obtain ⟨Az', hsZ, hAz⟩ := from_at (A := Az) (f := f) (s := 1) (n := ps.length) (cap := capZ) (own_cap HM.out.hZ) (fun h => by obtain ⟨ge, ce, hve, _⟩ := HM.out.hZ.form h; injection hve with hve; exact ⟨ge, hve⟩)
                  have rE := from_e (A := Ae) (cap := capE) hf
                  have rR := from_r (A := Ar) (cap := capR) hf
                  have rZ := from_z (A := Az) (cap := capZ) hf
                  rw [hsE] at rE
                  rw [hsR] at rR
                  rw [hsZ] at rZ
                  clear hsE hsR hsZ hfe
                  obtain ⟨d, hd⟩ : ∃ d, ps.length - f = d := ⟨_, rfl⟩
                  rw [hd] at rE rR rZ
                  have hbd : ∀ j, j ≤ d → ((zs.drop f).take j).sum ≤ 3000 := fun j hj => by
                    have h1 : ∀ L : List Nat, (∀ z ∈ L, z ≤ 1000) → L.sum ≤ 1000 * L.length := fun L => by
                      induction L with
                      | nil => simp
                      | cons a L ih => intro h; have h1 := h a (.head _); have h2 := ih (fun z hz => h z (.tail _ hz)); simp only [List.sum_cons, List.length_cons]; omega
                    have h2 := h1 ((zs.drop f).take j) (fun z hz => by
                      obtain ⟨i, hi⟩ := List.getElem?_of_mem (List.mem_of_mem_drop (List.mem_of_mem_take hz))
                      have hil : i < ps.length := by have := HM.out.zlen; obtain ⟨h, _⟩ := List.getElem?_eq_some_iff.1 hi; omega
                      exact (HM.out.small i ps[i] z (List.getElem?_eq_getElem hil) hi).2.2.1)
                    have h3 : ((zs.drop f).take j).length ≤ j := List.length_take_le _ _
                    omega
                  go_wp2_with fail
                  go_loopw [93, 9] (fun i s wr' => ∃ k : Nat, i = .int .i64 k ∧ k ≤ d ∧ s = .int .i64 (1 + ((zs.drop f).take k).sum : Nat) ∧ W1 = wr') (fun i _ _ => d - (intOf i).toNat)
                  case atStart => exact ⟨0, rfl, by omega, rfl, rfl⟩
                  case round =>
                    obtain ⟨j, rfl, hj, rfl, rfl⟩ := hrel
                    by_cases hjd : j < d
                    · obtain ⟨gz, rfl, rfl⟩ := hAz (by omega)
                      obtain ⟨z, hz⟩ : ∃ z, zs[f + j]? = some z := ⟨zs[f + j]'(by have := HM.out.zlen; omega), List.getElem?_eq_getElem _⟩
                      have hgz := (HM.out.hZ.lt gz rfl).2
                      have cz0 : W1.cell? ⟨gz, f + j, none⟩ = some (.int .i64 z) := by rw [hb2.out.cell (by simpa using hgz), ← add0]; exact HM.out.hZ.cells (g := gz) rfl (f + j) _ (by simp [hz])
                      have hsum : ((zs.drop f).take (j + 1)).sum = ((zs.drop f).take j).sum + z := by
                        rw [List.take_add_one, List.getElem?_drop, hz]; simp
                      have hzz : ((zs.drop f).take j).sum + z ≤ 3000 := by rw [← hsum]; exact hbd (j + 1) (by omega)
                      have c1 : (j : Int) < (d : Int) := by omega
                      have c2 : (0 : Int) ≤ (j : Int) := by omega
                      go_wp2_with fail
                      go_roundw
                      case rel => exact ⟨j + 1, by go_num, by omega, by rw [hsum]; go_num, trivial⟩
                      case measure => simp [intOf]; omega
                    · obtain rfl : j = d := by omega
                      have hzz := hbd j (by omega)
                      by_cases hle : 1 + ((zs.drop f).take j).sum ≤ 1000
                      · have hle1 : decide (((1 + ((zs.drop f).take j).sum : Nat) : Int) ≤ 1000) = true := by simp; omega
                        have hlE : (ps.drop f).length = j := by simp; omega
                        have hlR : (qs.drop f).length = j := by have := congrArg List.length HM.out.same; simp at this ⊢; omega
                        have hlZ : (zs.drop f).length = j := by have := HM.out.zlen; simp; omega
                        have C1 : Hid (∀ W, Below W1.heap.size W1 W → Calls Tryd.prog 25 #[.slice Ae' j (capE - f)] W (JoinX W (ps.drop f))) := fun W hW => by
                          have h1 := join_x Ae' (capE - f) (ps.drop f) W (HM.out.errsAt hAe (hb2.out.trans (hW.mono (by omega)))) (by omega)
                          rwa [hlE] at h1
                        have C2 : Hid (∀ W, Below W1.heap.size W1 W → Calls Tryd.prog 28 #[.slice Ar' j (capR - f)] W (RJoinX W (qs.drop f))) := fun W hW => by
                          have h1 := rjoin_x Ar' (capR - f) (qs.drop f) W (HM.out.recsAt hAr (hb2.out.trans (hW.mono (by omega)))) (by omega)
                          rwa [hlR] at h1
                        have HlE := Lib.hid hlE; have HlR := Lib.hid hlR; have HlZ := Lib.hid hlZ
                        have HAe := Lib.hid hAe; have HAr := Lib.hid hAr
                        clear hlE hlR hlZ hAe hAr hAz rZ hbd
                        go_wp2_with fail
                        go_region_held3 (fun _ => True) (exact trivial)
                          (first
                            | (go_at_call 25
                               refine (C1.out _ (Below.refl W1.heap.size W1).drew).mono ?_
                               rintro en w1 hj1
                               have hV : Below W1.heap.size W1 w1 := below_of_drew hj1.below
                               obtain ⟨v, rfl, hv1, hv2⟩ := joined_e (Q := fun k => Free (w.heap.size + 1) w1 (.slice Ae ps.length capE) (.slice Ar ps.length capR) (.slice Az ps.length capZ) k ∧ k ≠ wr.heap.size + 1) hj1
                                 (fun p hp => (HM.out.reps p (List.mem_of_mem_drop hp)).move (fun k hk => ⟨⟨⟨by have := hk.1; have := hV.size; omega, hk.2⟩, by have := hk.1; omega⟩, (hb2.out.trans (hV.mono (by omega))).block k hk.1⟩))
                                 (fun k h1 h2 => by have h3 : W1.heap.size ≤ k := h1; exact ⟨HM.out.fresh (by omega) h2 hsr, by omega⟩)
                               have HV := Lib.hid hV
                               have Hv1 := Lib.hid hv1
                               clear hj1 hV hv1 hv2)
                            | (go_at_call 28
                               refine (C2.out _ HV.out).mono ?_
                               rintro en w2 hj2
                               have hb2x : Below w1.heap.size w1 w2 := hj2.below
                               have hW : Below W1.heap.size W1 w2 := HV.out.trans (hb2x.mono HV.out.size)
                               obtain ⟨A2, n2, c2, rfl, hr2, hr3, hr4⟩ := joined_r (Q := fun k => Free (w.heap.size + 1) w2 (.slice Ae ps.length capE) (.slice Ar ps.length capR) (.slice Az ps.length capZ) k ∧ k ≠ wr.heap.size + 1) hj2 (by have := HlR.out; omega)
                                 (fun p hp => (HM.out.recs p (List.mem_of_mem_drop hp)).move (fun k hk => ⟨⟨⟨by have := hk.1; have := hW.size; omega, hk.2⟩, by have := hk.1; omega⟩, (hb2.out.trans (hW.mono (by omega))).block k hk.1⟩))
                                 (fun k h1 h2 => by have h3 : w1.heap.size ≤ k := h1; have := HV.out.size; exact ⟨HM.out.fresh (by omega) h2 hsr, by omega⟩)
                               have hblk := (hW.block (wr.heap.size + 1) (by omega)).trans HR.out
                               have z0 : w2.cell? ⟨wr.heap.size + 1, 0, none⟩ = some (.int .i64 0) := by rw [cell_heap hblk]; rfl
                               have z1 : w2.cell? ⟨wr.heap.size + 1, 1, none⟩ = some (.int .i64 0) := by rw [cell_heap hblk]; rfl
                               have z2 : w2.cell? ⟨wr.heap.size + 1, 2, none⟩ = some (.string ⟨#[]⟩) := by rw [cell_heap hblk]; rfl
                               have z3 : w2.cell? ⟨wr.heap.size + 1, 3, none⟩ = some (.slice none 0 0) := by rw [cell_heap hblk]; rfl
                               have f0 : w2.frozen? ⟨wr.heap.size + 1, 0, none⟩ = false := frozen_heap hblk
                               have f1 : w2.frozen? ⟨wr.heap.size + 1, 1, none⟩ = false := frozen_heap hblk
                               have f2 : w2.frozen? ⟨wr.heap.size + 1, 2, none⟩ = false := frozen_heap hblk
                               have f3 : w2.frozen? ⟨wr.heap.size + 1, 3, none⟩ = false := frozen_heap hblk
                               have HW := Lib.hid hW
                               have Hblk := Lib.hid hblk
                               have Hr2 := Lib.hid hr2; have Hr3 := Lib.hid hr3; have Hr4 := Lib.hid hr4
                               have Hb2x := Lib.hid hb2x
                               clear hj2 hblk hW hr2 hr3 hr4 hb2x))
                        go_wp2_with fail
                        go_meet
                        have hqs : joinO ((qs.drop f).map Prod.fst) = joinO ((ps.drop f).map Prod.fst) := by rw [List.map_drop, List.map_drop, HM.out.same]
                        have hr2 := Hr2.out; have hr3 := Hr3.out; have hr4 := Hr4.out
                        have hqs2 : joinO ((qs.map Prod.fst).drop f) = joinO ((ps.drop f).map Prod.fst) := by rw [HM.out.same, List.map_drop]
                        rw [hqs] at hr2 hr3 hr4
                        rw [hqs2, show (1 + ((((zs.drop f).take j).sum : Nat) : Int)) = ((1 + ((zs.drop f).take j).sum : Nat) : Int) by omega]
                        have htk : ((zs.drop f).take j).sum = (zs.drop f).sum := by rw [List.take_of_length_le (by have := HlZ.out; omega)]
                        have hszO : szO (joinO ((ps.drop f).map Prod.fst)) ≤ 1 + (zs.drop f).sum := join_sz (by rw [HlE.out, HlZ.out]) (fun k p z h1 h2 => by rw [List.getElem?_drop] at h1 h2; exact (HM.out.small _ _ _ h1 h2).1)
                        refine sw_store (x := joinO ((ps.drop f).map Prod.fst)) Hblk.out (hb2.out.trans (HW.out.mono (by omega))) (Hv1.out.move fun k hk => ⟨⟨⟨by have := hk.1.1; have := Hb2x.out.size; omega, hk.1.2⟩, hk.2⟩, Hb2x.out.block k hk.1.1⟩) hr2 (by omega) (by omega) (by omega) (join_good fun p hp => ?_) rfl (by rw [hr3]; rfl) hr4.symm
                        obtain ⟨i, hi⟩ := List.getElem?_of_mem (List.mem_of_mem_drop hp)
                        obtain ⟨z, hz⟩ : ∃ z, zs[i]? = some z := ⟨zs[i]'(by have := HM.out.zlen; have := (List.getElem?_eq_some_iff.1 hi).1; omega), List.getElem?_eq_getElem _⟩
                        exact (HM.out.small i p z hi hz).2.2.2
                      · have hle1 : decide (((1 + ((zs.drop f).take j).sum : Nat) : Int) ≤ 1000) = false := by simp; omega
                        go_wp2_with fail
                        go_meet
                        exact ⟨none, .slice none 0 0, 1 + ((zs.drop f).take j).sum, rfl, rfl, rfl, by omega, by omega, by simp [szO], trivial, HR.out, hb2.out⟩
              -- END two
            · by_cases h3 : r = 3 ∨ r = -3
              ·
                -- BEGIN three
                as_aux_lemma =>
                  have e1 : (r == 1) = false := by rw [beq_eq_false_iff_ne]; omega
                  have e2 : (r == -1) = false := by rw [beq_eq_false_iff_ne]; omega
                  have e3 : (r == 2) = false := by rw [beq_eq_false_iff_ne]; omega
                  have e4 : (r == -2) = false := by rw [beq_eq_false_iff_ne]; omega
                  have e5 : (r == 3) = true ∨ ((r == 3) = false ∧ (r == -3) = true) := by
                    rcases h3 with h3 | h3
                    · exact .inl (by simp [h3])
                    · exact .inr ⟨by rw [beq_eq_false_iff_ne]; omega, by simp [h3]⟩
                  clear h1 h2 h3
                  rcases e5 with e5 | ⟨e5, e6⟩ <;>
                  · go_wp2_with fail
                    go_region_held3 (fun w' => w'.cell? ⟨wr.heap.size, 2, none⟩ = some (.string s1)) (first | go_keep | exact k2)
                      (first
                        | (go_at_call 29
                           refine (errnew_l s1 _).mono ?_
                           rintro en w1 ⟨rfl, hl1, hn1, hb1⟩
                           have hW : Below W1.heap.size W1 w1 := (below_of_drew hb1)
                           have k2 : w1.cell? ⟨wr.heap.size, 2, none⟩ = some (.string s1) := by rw [hW.cell (by simp; omega)]; exact x2
                           have hblk := (hW.block (wr.heap.size + 1) (by omega)).trans HR.out
                           have z0 : w1.cell? ⟨wr.heap.size + 1, 0, none⟩ = some (.int .i64 0) := by rw [cell_heap hblk]; rfl
                           have z1 : w1.cell? ⟨wr.heap.size + 1, 1, none⟩ = some (.int .i64 0) := by rw [cell_heap hblk]; rfl
                           have z2 : w1.cell? ⟨wr.heap.size + 1, 2, none⟩ = some (.string ⟨#[]⟩) := by rw [cell_heap hblk]; rfl
                           have z3 : w1.cell? ⟨wr.heap.size + 1, 3, none⟩ = some (.slice none 0 0) := by rw [cell_heap hblk]; rfl
                           have f0 : w1.frozen? ⟨wr.heap.size + 1, 0, none⟩ = false := frozen_heap hblk
                           have f1 : w1.frozen? ⟨wr.heap.size + 1, 1, none⟩ = false := frozen_heap hblk
                           have f2 : w1.frozen? ⟨wr.heap.size + 1, 2, none⟩ = false := frozen_heap hblk
                           have f3 : w1.frozen? ⟨wr.heap.size + 1, 3, none⟩ = false := frozen_heap hblk
                           have HW := Lib.hid hW
                           have Hn1 := Lib.hid hn1
                           have Hblk := Lib.hid hblk
                           clear hb1 hblk hW hn1))
                    go_wp2_with fail
                    go_meet
                    have hl2 : W1.heap.size < w1.heap.size := hl1
                    refine sw_store (z := 1) (x := some (.other s1)) Hblk.out (hb2.out.trans (HW.out.mono (by omega))) ?_ rfl (by omega) (by omega) (by simp [szO, sz]) h50 rfl rfl rfl
                    simp only [RepQO, RepQ]
                    exact ⟨W1.heap.size, rfl, ⟨HM.out.fresh (by omega) hl2 hsr, by omega⟩, Hn1.out⟩
                -- END three
              · have e1 : (r == 1) = false := by rw [beq_eq_false_iff_ne]; omega
                have e2 : (r == -1) = false := by rw [beq_eq_false_iff_ne]; omega
                have e3 : (r == 2) = false := by rw [beq_eq_false_iff_ne]; omega
                have e4 : (r == -2) = false := by rw [beq_eq_false_iff_ne]; omega
                have e5 : (r == 3) = false := by rw [beq_eq_false_iff_ne]; omega
                have e6 : (r == -3) = false := by rw [beq_eq_false_iff_ne]; omega
                by_cases h4 : r = 4 ∨ r = -4
                · have e7 : (r == 4) = true ∨ ((r == 4) = false ∧ (r == -4) = true) := by
                    rcases h4 with h4 | h4
                    · exact .inl (by simp [h4])
                    · exact .inr ⟨by rw [beq_eq_false_iff_ne]; omega, by simp [h4]⟩
                  clear h1 h2 h3 h4
                  rcases e7 with e7 | ⟨e7, e8⟩ <;>
                  · go_wp2_with fail
                    go_meet
                    exact rest0
                ·
                  -- BEGIN default
                  as_aux_lemma =>
                    have e7 : (r == 4) = false := by rw [beq_eq_false_iff_ne]; omega
                    have e8 : (r == -4) = false := by rw [beq_eq_false_iff_ne]; omega
                    clear h1 h2 h3 h4
                    have hwc : IntKind.i64.wrap (c : Int) = c := by rw [IntKind.wrap_i64]; omega
                    go_wp2_with fail
                    go_region_held3 (fun w' => w'.cell? ⟨wr.heap.size, 1, none⟩ = some (.int .u8 c) ∧ w'.cell? ⟨wr.heap.size, 2, none⟩ = some (.string s1)) (first | go_keep | exact ⟨k1, k2⟩)
                      (first
                        | (go_at_call 30; refine (new_w c s1 _).mono ?_; rintro en w1 ⟨rfl, rfl⟩)
                        | (go_at_call 31
                           refine (rnew_x c s1 _).mono ?_
                           rintro en w1 ⟨rfl, hb1⟩
                           have hW : Below W1.heap.size W1 w1 := ((Below.refl W1.heap.size W1).alloc (Nat.le_refl _) _).trans ((below_of_drew hb1).mono (by simp))
                           have k1 : w1.cell? ⟨wr.heap.size, 1, none⟩ = some (.int .u8 c) := by rw [hW.cell (by simp; omega)]; exact x1
                           have k2 : w1.cell? ⟨wr.heap.size, 2, none⟩ = some (.string s1) := by rw [hW.cell (by simp; omega)]; exact x2
                           have hblk := (hW.block (wr.heap.size + 1) (by omega)).trans HR.out
                           have z0 : w1.cell? ⟨wr.heap.size + 1, 0, none⟩ = some (.int .i64 0) := by rw [cell_heap hblk]; rfl
                           have z1 : w1.cell? ⟨wr.heap.size + 1, 1, none⟩ = some (.int .i64 0) := by rw [cell_heap hblk]; rfl
                           have z2 : w1.cell? ⟨wr.heap.size + 1, 2, none⟩ = some (.string ⟨#[]⟩) := by rw [cell_heap hblk]; rfl
                           have z3 : w1.cell? ⟨wr.heap.size + 1, 3, none⟩ = some (.slice none 0 0) := by rw [cell_heap hblk]; rfl
                           have f0 : w1.frozen? ⟨wr.heap.size + 1, 0, none⟩ = false := frozen_heap hblk
                           have f1 : w1.frozen? ⟨wr.heap.size + 1, 1, none⟩ = false := frozen_heap hblk
                           have f2 : w1.frozen? ⟨wr.heap.size + 1, 2, none⟩ = false := frozen_heap hblk
                           have f3 : w1.frozen? ⟨wr.heap.size + 1, 3, none⟩ = false := frozen_heap hblk
                           have Hb1 := Lib.hid hb1
                           have HW := Lib.hid hW
                           have Hblk := Lib.hid hblk
                           clear hb1 hblk hW))
                    clear hwc
                    go_wp2_with fail
                    go_meet
                    have hlz := HW.out.size
                    have hbB := below_of_drew Hb1.out
                    have hl2 : W1.heap.size < w1.heap.size := by have := hbB.size; simp at this; omega
                    refine sw_store (z := 1) (x := some (.leaf c s1)) Hblk.out (hb2.out.trans (HW.out.mono (by omega))) ?_ rfl (by omega) (by omega) (by simp [szO, sz]) ⟨w1_, h50⟩ rfl rfl rfl
                    simp only [RepQO, RepQ]
                    exact ⟨W1.heap.size, rfl, ⟨HM.out.fresh (by omega) hl2 hsr, by omega⟩, (hbB.block _ (by simp)).trans (heap_alloc_new W1 _)⟩
                  -- END default
        case rest =>
          -- BEGIN rest
          as_aux_lemma =>
            obtain ⟨x, y, z, hs9, hx, hy, hz1, hz2, hz3, hg, hblk, hbc⟩ := hcut.out
            subst hs9
            have Hc := hcut
            have Hblk := Lib.hid hblk
            have Hbc := Lib.hid hbc
            have z0 : wc.cell? ⟨wr.heap.size + 1, 0, none⟩ = some (.int .i64 (kindO x)) := by rw [cell_heap hblk]; rfl
            have z1 : wc.cell? ⟨wr.heap.size + 1, 1, none⟩ = some (.int .i64 (cdO x)) := by rw [cell_heap hblk]; rfl
            have z2 : wc.cell? ⟨wr.heap.size + 1, 2, none⟩ = some (.string (whO x)) := by rw [cell_heap hblk]; rfl
            have z3 : wc.cell? ⟨wr.heap.size + 1, 3, none⟩ = some y := by rw [cell_heap hblk]; rfl
            have f0 : wc.frozen? ⟨wr.heap.size + 1, 0, none⟩ = false := frozen_heap hblk
            have f1 : wc.frozen? ⟨wr.heap.size + 1, 1, none⟩ = false := frozen_heap hblk
            have f2 : wc.frozen? ⟨wr.heap.size + 1, 2, none⟩ = false := frozen_heap hblk
            have f3 : wc.frozen? ⟨wr.heap.size + 1, 3, none⟩ = false := frozen_heap hblk
            obtain ⟨Ay, ny, cy, hyy⟩ := RepRQO.shape Free.lt hy
            subst hyy
            clear hx hy hg hblk hbc hcut
            go_upto_if 124 with fail
            go_cut [9, 11] (fun s9 s11 wd => Hid (∃ z' : Nat, z' ≤ 1000 ∧ s9 = .int .i64 z' ∧ SwRel (w.heap.size + 1) wr (.slice Ae ps.length capE) (.slice Ar ps.length capR) (.slice Az ps.length capZ) s9 s11 wd))
            case first =>
              by_cases hzz : z ≤ 1000
              · have hb : decide ((1000 : Int) < (z : Int)) = false := by simp; omega
                go_wp2_with fail
                go_meet
                exact ⟨z, hzz, rfl, Hc.out⟩
              · have hb : decide ((1000 : Int) < (z : Int)) = true := by simp; omega
                go_wp2_with fail
                go_meet
                exact ⟨1, by omega, rfl, sw_store (z := 1) (x := none) Hblk.out Hbc.out rfl rfl (by omega) (by omega) (by simp [szO]) trivial rfl rfl rfl⟩
            case rest =>
              clear Hc Hblk Hbc z0 z1 z2 z3 f0 f1 f2 f3 hz1 hz2 hz3
              obtain ⟨z', hz', hs9, x', y', z2, hs9', hx, hy, hz1, hz2, hz3, hg, hblk, hbc⟩ := hcut.out
              subst hs9
              have hzz : z2 = z' := by injection hs9' with _ h; omega
              subst hzz
              clear hs9' hcut
              have Hblk := Lib.hid hblk
              have Hbc := Lib.hid hbc
              have hsz := hbc.size
              have hlt1 : wr.heap.size + 1 < wc.heap.size := lt_heap hblk
              have z0 : wc.cell? ⟨wr.heap.size + 1, 0, none⟩ = some (.int .i64 (kindO x')) := by rw [cell_heap hblk]; rfl
              have z1 : wc.cell? ⟨wr.heap.size + 1, 1, none⟩ = some (.int .i64 (cdO x')) := by rw [cell_heap hblk]; rfl
              have z2_ : wc.cell? ⟨wr.heap.size + 1, 2, none⟩ = some (.string (whO x')) := by rw [cell_heap hblk]; rfl
              have z3 : wc.cell? ⟨wr.heap.size + 1, 3, none⟩ = some y' := by rw [cell_heap hblk]; rfl
              obtain ⟨Ay', ny', cy', hyy⟩ := RepRQO.shape Free.lt hy
              subst hyy
              have Hx := Lib.hid hx
              have Hy := Lib.hid hy
              have Hg := Lib.hid hg
              have HMc := Lib.hid (HM.out.below hbc)
              obtain ⟨iE, hiE, hE0, hE1, hE2⟩ := info_parts errInfo
              obtain ⟨iR, hiR, hR0, hR1, hR2⟩ := info_parts recInfo
              obtain ⟨iZ, hiZ, hZ0, hZ1, hZ2⟩ := info_parts intInfo
              have hn40 : ps.length < 40 := by have := hlen.out; omega
              have hsh := RepQO.shape Free.lt hx
              have hv : u11 = .nilIface ∨ ∃ t b, u11 = .iface t (.pointer (some ⟨b, 0, none⟩)) := by
                by_cases hxx : x' = none
                · exact .inl (hsh.1 hxx)
                · exact .inr (hsh.2 hxx)
              clear hx hy hg hblk hbc hsh
              have hS0 : S4 (wr.heap.size + 1) (.int .i64 (kindO x')) (.int .i64 (cdO x')) (.string (whO x')) (.slice Ay' ny' cy') wc := ⟨z0, z1, z2_, z3⟩
              rcases hv with rfl | ⟨tv, bv, rfl⟩
              ·
                -- BEGIN reg36n
                as_aux_lemma =>
                  go_upto_region 36 with fail
                  go_region_held3 (fun w' => w'.cell? ⟨wr.heap.size + 1, 0, none⟩ = some (.int .i64 (kindO x')) ∧ w'.cell? ⟨wr.heap.size + 1, 1, none⟩ = some (.int .i64 (cdO x')) ∧ w'.cell? ⟨wr.heap.size + 1, 2, none⟩ = some (.string (whO x')) ∧ w'.cell? ⟨wr.heap.size + 1, 3, none⟩ = some (.slice Ay' ny' cy'))
                    (first
                      | exact hS3
                      | exact hS2
                      | exact hS2.alloc (by first | omega | (simp; omega) | (simp; done)) _
                      | exact hS1
                      | exact hS1.alloc (by first | omega | (simp; omega) | (simp; done)) _
                      | exact (hS1.alloc (by first | omega | (simp; omega) | (simp; done)) _).alloc (by first | omega | (simp; omega) | (simp; done)) _
                      | exact hS0
                      | exact hS0.alloc (by first | omega | (simp; omega) | (simp; done)) _
                      | exact (hS0.alloc (by first | omega | (simp; omega) | (simp; done)) _).alloc (by first | omega | (simp; omega) | (simp; done)) _
                      | exact ((hS0.alloc (by first | omega | (simp; omega) | (simp; done)) _).alloc (by first | omega | (simp; omega) | (simp; done)) _).alloc (by first | omega | (simp; omega) | (simp; done)) _)
                    (first
                      | (refine step_append_lies _ (by rfl) (.tmp 126) (.tmp 128) _ (by rfl) (w.heap.size + 1) 24 iE _ 1 16 Tryd.underlying57 hiE hE0 hE1 hE2 rfl (by omega) (.slice Ae ps.length capE) ps.length (ps.map Prod.snd) (by rfl) (own_below HMc.out.hE (by first | exact ((Below.refl wc.heap.size wc).alloc (Nat.le_refl _) _).drew | exact (((Below.refl wc.heap.size wc).alloc (Nat.le_refl _) _).alloc (by simp; done) _).drew | exact ((((Below.refl wc.heap.size wc).alloc (Nat.le_refl _) _).alloc (by simp; done) _).alloc (by simp; omega) _).drew)) _ 1 1 [.nilIface] (by rfl) (by rfl) (World.news_of_block (cs := #[.nilIface]) (t := 24) (fr := (0, 0)) (by first | exact heap_alloc_at (by first | rfl | omega | (simp; omega) | (simp; done)) | exact (Below.heap_alloc _ _ _ (by first | omega | (simp; omega) | (simp; done))).trans (heap_alloc_at (by first | rfl | omega | (simp; omega) | (simp; done))) | exact (Below.heap_alloc _ _ _ (by first | omega | (simp; omega) | (simp; done))).trans ((Below.heap_alloc _ _ _ (by first | omega | (simp; omega) | (simp; done))).trans (heap_alloc_at (by first | rfl | omega | (simp; omega) | (simp; done)))))) (by simp [Value.oneCell']) (by omega) (by unfold maxLen; omega) (by omega) (by first | omega | (simp; omega) | (simp; done)) _ (by rfl) ?_
                         intro g1 cap1 w1 hown1 hgr1 hat1 hlt1_
                         have hk1 := HMc.out.kept1 hgr1 (by first | exact ((Below.refl wc.heap.size wc).alloc (Nat.le_refl _) _).drew | exact (((Below.refl wc.heap.size wc).alloc (Nat.le_refl _) _).alloc (by simp; done) _).drew | exact ((((Below.refl wc.heap.size wc).alloc (Nat.le_refl _) _).alloc (by simp; done) _).alloc (by simp; omega) _).drew)
                         have hS1 : S4 (wr.heap.size + 1) (.int .i64 (kindO x')) (.int .i64 (cdO x')) (.string (whO x')) (.slice Ay' ny' cy') w1 := S4.grown (by first | exact hS0.alloc (by first | omega | (simp; omega) | (simp; done)) _ | exact (hS0.alloc (by first | omega | (simp; omega) | (simp; done)) _).alloc (by first | omega | (simp; omega) | (simp; done)) _ | exact ((hS0.alloc (by first | omega | (simp; omega) | (simp; done)) _).alloc (by first | omega | (simp; omega) | (simp; done)) _).alloc (by first | omega | (simp; omega) | (simp; done)) _) hgr1 (by first | omega | (simp; omega) | (simp; done)) (fun e => by have := (HM.out.hE.lt _ e.symm).2; omega)
                         have hs1_ := hgr1.size
                         try simp at hs1_)
                      | (refine step_append_lies _ (by rfl) (.tmp 130) (.tmp 132) _ (by rfl) (w.heap.size + 1) 27 iR _ 4 56 Tryd.underlying25 hiR hR0 hR1 hR2 rfl (by omega) (.slice Ar ps.length capR) ps.length (flat qs) (by rfl) (own_below hk1.1 (by first | exact Below.refl w1.heap.size w1 | exact (Below.refl w1.heap.size w1).alloc (Nat.le_refl _) _ | exact ((Below.refl w1.heap.size w1).alloc (Nat.le_refl _) _).alloc (by simp; done) _)) _ 1 1 [.int .i64 (kindO x'), .int .i64 (cdO x'), .string (whO x'), .slice Ay' ny' cy'] (by rfl) (by rfl) (World.news_of_block (cs := #[.int .i64 (kindO x'), .int .i64 (cdO x'), .string (whO x'), .slice Ay' ny' cy']) (t := 27) (fr := (0, 0)) (by first | exact heap_alloc_at (by first | rfl | omega | (simp; omega) | (simp; done)) | exact (Below.heap_alloc _ _ _ (by first | omega | (simp; omega) | (simp; done))).trans (heap_alloc_at (by first | rfl | omega | (simp; omega) | (simp; done))) | exact HMc.out.blk1 hgr1 (by first | omega | (simp; omega) | (simp; done)) (by first | exact heap_alloc_at (by first | rfl | omega | (simp; omega) | (simp; done)) | exact (Below.heap_alloc _ _ _ (by first | omega | (simp; omega) | (simp; done))).trans (heap_alloc_at (by first | rfl | omega | (simp; omega) | (simp; done))) | exact (Below.heap_alloc _ _ _ (by first | omega | (simp; omega) | (simp; done))).trans ((Below.heap_alloc _ _ _ (by first | omega | (simp; omega) | (simp; done))).trans (heap_alloc_at (by first | rfl | omega | (simp; omega) | (simp; done))))) | exact (Below.heap_alloc _ _ _ (by first | omega | (simp; omega) | (simp; done))).trans (HMc.out.blk1 hgr1 (by first | omega | (simp; omega) | (simp; done)) (by first | exact heap_alloc_at (by first | rfl | omega | (simp; omega) | (simp; done)) | exact (Below.heap_alloc _ _ _ (by first | omega | (simp; omega) | (simp; done))).trans (heap_alloc_at (by first | rfl | omega | (simp; omega) | (simp; done))) | exact (Below.heap_alloc _ _ _ (by first | omega | (simp; omega) | (simp; done))).trans ((Below.heap_alloc _ _ _ (by first | omega | (simp; omega) | (simp; done))).trans (heap_alloc_at (by first | rfl | omega | (simp; omega) | (simp; done)))))))) (by simp [Value.oneCell']) (by omega) (by unfold maxLen; omega) (by omega) (by first | omega | (simp; omega) | (simp; done)) _ (by rfl) ?_
                         intro g2 cap2 w2 hown2 hgr2 hat2 hlt2_
                         have hk2 := HMc.out.kept2 hgr1 (by first | exact ((Below.refl wc.heap.size wc).alloc (Nat.le_refl _) _).drew | exact (((Below.refl wc.heap.size wc).alloc (Nat.le_refl _) _).alloc (by simp; done) _).drew | exact ((((Below.refl wc.heap.size wc).alloc (Nat.le_refl _) _).alloc (by simp; done) _).alloc (by simp; omega) _).drew) hgr2 (by first | exact Below.refl w1.heap.size w1 | exact (Below.refl w1.heap.size w1).alloc (Nat.le_refl _) _ | exact ((Below.refl w1.heap.size w1).alloc (Nat.le_refl _) _).alloc (by simp; done) _)
                         have hS2 : S4 (wr.heap.size + 1) (.int .i64 (kindO x')) (.int .i64 (cdO x')) (.string (whO x')) (.slice Ay' ny' cy') w2 := S4.grown (by first | exact hS1 | exact hS1.alloc (by first | omega | (simp; omega) | (simp; done)) _ | exact (hS1.alloc (by first | omega | (simp; omega) | (simp; done)) _).alloc (by first | omega | (simp; omega) | (simp; done)) _) hgr2 (by first | omega | (simp; omega) | (simp; done)) (fun e => by have := (HM.out.hR.lt _ e.symm).2; omega)
                         have hs2_ := hgr2.size
                         try simp at hs2_)
                      | (refine step_append_lies _ (by rfl) (.tmp 134) (.tmp 136) _ (by rfl) (w.heap.size + 1) 3 iZ _ 1 8 Tryd.underlying58 hiZ hZ0 hZ1 hZ2 rfl (by omega) (.slice Az ps.length capZ) ps.length (zs.map fun z : Nat => .int .i64 (z : Int)) (by rfl) (own_below hk2 (by first | exact Below.refl w2.heap.size w2 | exact (Below.refl w2.heap.size w2).alloc (Nat.le_refl _) _)) _ 1 1 [.int .i64 z2] (by rfl) (by rfl) (World.news_of_block (cs := #[.int .i64 (z2 : Int)]) (t := 3) (fr := (0, 0)) (by first | exact heap_alloc_at (by first | rfl | omega | (simp; omega) | (simp; done)) | exact HMc.out.blk2 hgr2 (by first | omega | (simp; omega) | (simp; done)) (by first | exact heap_alloc_at (by first | rfl | omega | (simp; omega) | (simp; done)) | exact (Below.heap_alloc _ _ _ (by first | omega | (simp; omega) | (simp; done))).trans (heap_alloc_at (by first | rfl | omega | (simp; omega) | (simp; done))) | exact HMc.out.blk1 hgr1 (by first | omega | (simp; omega) | (simp; done)) (by first | exact heap_alloc_at (by first | rfl | omega | (simp; omega) | (simp; done)) | exact (Below.heap_alloc _ _ _ (by first | omega | (simp; omega) | (simp; done))).trans (heap_alloc_at (by first | rfl | omega | (simp; omega) | (simp; done))) | exact (Below.heap_alloc _ _ _ (by first | omega | (simp; omega) | (simp; done))).trans ((Below.heap_alloc _ _ _ (by first | omega | (simp; omega) | (simp; done))).trans (heap_alloc_at (by first | rfl | omega | (simp; omega) | (simp; done))))) | exact (Below.heap_alloc _ _ _ (by first | omega | (simp; omega) | (simp; done))).trans (HMc.out.blk1 hgr1 (by first | omega | (simp; omega) | (simp; done)) (by first | exact heap_alloc_at (by first | rfl | omega | (simp; omega) | (simp; done)) | exact (Below.heap_alloc _ _ _ (by first | omega | (simp; omega) | (simp; done))).trans (heap_alloc_at (by first | rfl | omega | (simp; omega) | (simp; done))) | exact (Below.heap_alloc _ _ _ (by first | omega | (simp; omega) | (simp; done))).trans ((Below.heap_alloc _ _ _ (by first | omega | (simp; omega) | (simp; done))).trans (heap_alloc_at (by first | rfl | omega | (simp; omega) | (simp; done))))))))) (by simp [Value.oneCell']) (by omega) (by unfold maxLen; omega) (by omega) (by first | omega | (simp; omega) | (simp; done)) _ (by rfl) ?_
                         intro g3 cap3 w3 hown3 hgr3 hat3 hlt3_
                         have hS3 : S4 (wr.heap.size + 1) (.int .i64 (kindO x')) (.int .i64 (cdO x')) (.string (whO x')) (.slice Ay' ny' cy') w3 := S4.grown (by first | exact hS2 | exact hS2.alloc (by first | omega | (simp; omega) | (simp; done)) _) hgr3 (by first | omega | (simp; omega) | (simp; done)) (fun e => by have := (HM.out.hZ.lt _ e.symm).2; omega)))
                  all_goals
                    go_wp2_with fail
                    go_meet
                    obtain ⟨hM, hB⟩ := HMc.out.step Hx.out Hy.out ⟨hz3, hz1, hz', Hg.out⟩ (by omega) (by first | exact ((Below.refl wc.heap.size wc).alloc (Nat.le_refl _) _).drew | exact (((Below.refl wc.heap.size wc).alloc (Nat.le_refl _) _).alloc (by simp; done) _).drew | exact ((((Below.refl wc.heap.size wc).alloc (Nat.le_refl _) _).alloc (by simp; done) _).alloc (by simp; omega) _).drew) hgr1 hown1 hat1 (by first | omega | (simp; omega) | (simp; done)) (by first | exact Below.refl w1.heap.size w1 | exact (Below.refl w1.heap.size w1).alloc (Nat.le_refl _) _ | exact ((Below.refl w1.heap.size w1).alloc (Nat.le_refl _) _).alloc (by simp; done) _) hgr2 hown2 hat2 (by first | omega | (simp; omega) | (simp; done)) (by first | exact Below.refl w2.heap.size w2 | exact (Below.refl w2.heap.size w2).alloc (Nat.le_refl _) _) hgr3 hown3 hat3 (by first | omega | (simp; omega) | (simp; done))
                    exact ⟨_, _, _, by simp, hM, (hbr.out.trans (Hbc.out.mono hsr)).trans hB⟩
                -- END reg36n
              ·
                -- BEGIN reg36i
                as_aux_lemma =>
                  go_upto_region 36 with fail
                  go_region_held3 (fun w' => w'.cell? ⟨wr.heap.size + 1, 0, none⟩ = some (.int .i64 (kindO x')) ∧ w'.cell? ⟨wr.heap.size + 1, 1, none⟩ = some (.int .i64 (cdO x')) ∧ w'.cell? ⟨wr.heap.size + 1, 2, none⟩ = some (.string (whO x')) ∧ w'.cell? ⟨wr.heap.size + 1, 3, none⟩ = some (.slice Ay' ny' cy'))
                    (first
                      | exact hS3
                      | exact hS2
                      | exact hS2.alloc (by first | omega | (simp; omega) | (simp; done)) _
                      | exact hS1
                      | exact hS1.alloc (by first | omega | (simp; omega) | (simp; done)) _
                      | exact (hS1.alloc (by first | omega | (simp; omega) | (simp; done)) _).alloc (by first | omega | (simp; omega) | (simp; done)) _
                      | exact hS0
                      | exact hS0.alloc (by first | omega | (simp; omega) | (simp; done)) _
                      | exact (hS0.alloc (by first | omega | (simp; omega) | (simp; done)) _).alloc (by first | omega | (simp; omega) | (simp; done)) _
                      | exact ((hS0.alloc (by first | omega | (simp; omega) | (simp; done)) _).alloc (by first | omega | (simp; omega) | (simp; done)) _).alloc (by first | omega | (simp; omega) | (simp; done)) _)
                    (first
                      | (refine step_append_lies _ (by rfl) (.tmp 126) (.tmp 128) _ (by rfl) (w.heap.size + 1) 24 iE _ 1 16 Tryd.underlying57 hiE hE0 hE1 hE2 rfl (by omega) (.slice Ae ps.length capE) ps.length (ps.map Prod.snd) (by rfl) (own_below HMc.out.hE (by first | exact ((Below.refl wc.heap.size wc).alloc (Nat.le_refl _) _).drew | exact (((Below.refl wc.heap.size wc).alloc (Nat.le_refl _) _).alloc (by simp; done) _).drew | exact ((((Below.refl wc.heap.size wc).alloc (Nat.le_refl _) _).alloc (by simp; done) _).alloc (by simp; omega) _).drew)) _ 1 1 [(.iface tv (.pointer (some ⟨bv, 0, none⟩)))] (by rfl) (by rfl) (World.news_of_block (cs := #[(.iface tv (.pointer (some ⟨bv, 0, none⟩)))]) (t := 24) (fr := (0, 0)) (by first | exact heap_alloc_at (by first | rfl | omega | (simp; omega) | (simp; done)) | exact (Below.heap_alloc _ _ _ (by first | omega | (simp; omega) | (simp; done))).trans (heap_alloc_at (by first | rfl | omega | (simp; omega) | (simp; done))) | exact (Below.heap_alloc _ _ _ (by first | omega | (simp; omega) | (simp; done))).trans ((Below.heap_alloc _ _ _ (by first | omega | (simp; omega) | (simp; done))).trans (heap_alloc_at (by first | rfl | omega | (simp; omega) | (simp; done)))))) (by simp [Value.oneCell']) (by omega) (by unfold maxLen; omega) (by omega) (by first | omega | (simp; omega) | (simp; done)) _ (by rfl) ?_
                         intro g1 cap1 w1 hown1 hgr1 hat1 hlt1_
                         have hk1 := HMc.out.kept1 hgr1 (by first | exact ((Below.refl wc.heap.size wc).alloc (Nat.le_refl _) _).drew | exact (((Below.refl wc.heap.size wc).alloc (Nat.le_refl _) _).alloc (by simp; done) _).drew | exact ((((Below.refl wc.heap.size wc).alloc (Nat.le_refl _) _).alloc (by simp; done) _).alloc (by simp; omega) _).drew)
                         have hS1 : S4 (wr.heap.size + 1) (.int .i64 (kindO x')) (.int .i64 (cdO x')) (.string (whO x')) (.slice Ay' ny' cy') w1 := S4.grown (by first | exact hS0.alloc (by first | omega | (simp; omega) | (simp; done)) _ | exact (hS0.alloc (by first | omega | (simp; omega) | (simp; done)) _).alloc (by first | omega | (simp; omega) | (simp; done)) _ | exact ((hS0.alloc (by first | omega | (simp; omega) | (simp; done)) _).alloc (by first | omega | (simp; omega) | (simp; done)) _).alloc (by first | omega | (simp; omega) | (simp; done)) _) hgr1 (by first | omega | (simp; omega) | (simp; done)) (fun e => by have := (HM.out.hE.lt _ e.symm).2; omega)
                         have hs1_ := hgr1.size
                         try simp at hs1_)
                      | (refine step_append_lies _ (by rfl) (.tmp 130) (.tmp 132) _ (by rfl) (w.heap.size + 1) 27 iR _ 4 56 Tryd.underlying25 hiR hR0 hR1 hR2 rfl (by omega) (.slice Ar ps.length capR) ps.length (flat qs) (by rfl) (own_below hk1.1 (by first | exact Below.refl w1.heap.size w1 | exact (Below.refl w1.heap.size w1).alloc (Nat.le_refl _) _ | exact ((Below.refl w1.heap.size w1).alloc (Nat.le_refl _) _).alloc (by simp; done) _)) _ 1 1 [.int .i64 (kindO x'), .int .i64 (cdO x'), .string (whO x'), .slice Ay' ny' cy'] (by rfl) (by rfl) (World.news_of_block (cs := #[.int .i64 (kindO x'), .int .i64 (cdO x'), .string (whO x'), .slice Ay' ny' cy']) (t := 27) (fr := (0, 0)) (by first | exact heap_alloc_at (by first | rfl | omega | (simp; omega) | (simp; done)) | exact (Below.heap_alloc _ _ _ (by first | omega | (simp; omega) | (simp; done))).trans (heap_alloc_at (by first | rfl | omega | (simp; omega) | (simp; done))) | exact HMc.out.blk1 hgr1 (by first | omega | (simp; omega) | (simp; done)) (by first | exact heap_alloc_at (by first | rfl | omega | (simp; omega) | (simp; done)) | exact (Below.heap_alloc _ _ _ (by first | omega | (simp; omega) | (simp; done))).trans (heap_alloc_at (by first | rfl | omega | (simp; omega) | (simp; done))) | exact (Below.heap_alloc _ _ _ (by first | omega | (simp; omega) | (simp; done))).trans ((Below.heap_alloc _ _ _ (by first | omega | (simp; omega) | (simp; done))).trans (heap_alloc_at (by first | rfl | omega | (simp; omega) | (simp; done))))) | exact (Below.heap_alloc _ _ _ (by first | omega | (simp; omega) | (simp; done))).trans (HMc.out.blk1 hgr1 (by first | omega | (simp; omega) | (simp; done)) (by first | exact heap_alloc_at (by first | rfl | omega | (simp; omega) | (simp; done)) | exact (Below.heap_alloc _ _ _ (by first | omega | (simp; omega) | (simp; done))).trans (heap_alloc_at (by first | rfl | omega | (simp; omega) | (simp; done))) | exact (Below.heap_alloc _ _ _ (by first | omega | (simp; omega) | (simp; done))).trans ((Below.heap_alloc _ _ _ (by first | omega | (simp; omega) | (simp; done))).trans (heap_alloc_at (by first | rfl | omega | (simp; omega) | (simp; done)))))))) (by simp [Value.oneCell']) (by omega) (by unfold maxLen; omega) (by omega) (by first | omega | (simp; omega) | (simp; done)) _ (by rfl) ?_
                         intro g2 cap2 w2 hown2 hgr2 hat2 hlt2_
                         have hk2 := HMc.out.kept2 hgr1 (by first | exact ((Below.refl wc.heap.size wc).alloc (Nat.le_refl _) _).drew | exact (((Below.refl wc.heap.size wc).alloc (Nat.le_refl _) _).alloc (by simp; done) _).drew | exact ((((Below.refl wc.heap.size wc).alloc (Nat.le_refl _) _).alloc (by simp; done) _).alloc (by simp; omega) _).drew) hgr2 (by first | exact Below.refl w1.heap.size w1 | exact (Below.refl w1.heap.size w1).alloc (Nat.le_refl _) _ | exact ((Below.refl w1.heap.size w1).alloc (Nat.le_refl _) _).alloc (by simp; done) _)
                         have hS2 : S4 (wr.heap.size + 1) (.int .i64 (kindO x')) (.int .i64 (cdO x')) (.string (whO x')) (.slice Ay' ny' cy') w2 := S4.grown (by first | exact hS1 | exact hS1.alloc (by first | omega | (simp; omega) | (simp; done)) _ | exact (hS1.alloc (by first | omega | (simp; omega) | (simp; done)) _).alloc (by first | omega | (simp; omega) | (simp; done)) _) hgr2 (by first | omega | (simp; omega) | (simp; done)) (fun e => by have := (HM.out.hR.lt _ e.symm).2; omega)
                         have hs2_ := hgr2.size
                         try simp at hs2_)
                      | (refine step_append_lies _ (by rfl) (.tmp 134) (.tmp 136) _ (by rfl) (w.heap.size + 1) 3 iZ _ 1 8 Tryd.underlying58 hiZ hZ0 hZ1 hZ2 rfl (by omega) (.slice Az ps.length capZ) ps.length (zs.map fun z : Nat => .int .i64 (z : Int)) (by rfl) (own_below hk2 (by first | exact Below.refl w2.heap.size w2 | exact (Below.refl w2.heap.size w2).alloc (Nat.le_refl _) _)) _ 1 1 [.int .i64 z2] (by rfl) (by rfl) (World.news_of_block (cs := #[.int .i64 (z2 : Int)]) (t := 3) (fr := (0, 0)) (by first | exact heap_alloc_at (by first | rfl | omega | (simp; omega) | (simp; done)) | exact HMc.out.blk2 hgr2 (by first | omega | (simp; omega) | (simp; done)) (by first | exact heap_alloc_at (by first | rfl | omega | (simp; omega) | (simp; done)) | exact (Below.heap_alloc _ _ _ (by first | omega | (simp; omega) | (simp; done))).trans (heap_alloc_at (by first | rfl | omega | (simp; omega) | (simp; done))) | exact HMc.out.blk1 hgr1 (by first | omega | (simp; omega) | (simp; done)) (by first | exact heap_alloc_at (by first | rfl | omega | (simp; omega) | (simp; done)) | exact (Below.heap_alloc _ _ _ (by first | omega | (simp; omega) | (simp; done))).trans (heap_alloc_at (by first | rfl | omega | (simp; omega) | (simp; done))) | exact (Below.heap_alloc _ _ _ (by first | omega | (simp; omega) | (simp; done))).trans ((Below.heap_alloc _ _ _ (by first | omega | (simp; omega) | (simp; done))).trans (heap_alloc_at (by first | rfl | omega | (simp; omega) | (simp; done))))) | exact (Below.heap_alloc _ _ _ (by first | omega | (simp; omega) | (simp; done))).trans (HMc.out.blk1 hgr1 (by first | omega | (simp; omega) | (simp; done)) (by first | exact heap_alloc_at (by first | rfl | omega | (simp; omega) | (simp; done)) | exact (Below.heap_alloc _ _ _ (by first | omega | (simp; omega) | (simp; done))).trans (heap_alloc_at (by first | rfl | omega | (simp; omega) | (simp; done))) | exact (Below.heap_alloc _ _ _ (by first | omega | (simp; omega) | (simp; done))).trans ((Below.heap_alloc _ _ _ (by first | omega | (simp; omega) | (simp; done))).trans (heap_alloc_at (by first | rfl | omega | (simp; omega) | (simp; done))))))))) (by simp [Value.oneCell']) (by omega) (by unfold maxLen; omega) (by omega) (by first | omega | (simp; omega) | (simp; done)) _ (by rfl) ?_
                         intro g3 cap3 w3 hown3 hgr3 hat3 hlt3_
                         have hS3 : S4 (wr.heap.size + 1) (.int .i64 (kindO x')) (.int .i64 (cdO x')) (.string (whO x')) (.slice Ay' ny' cy') w3 := S4.grown (by first | exact hS2 | exact hS2.alloc (by first | omega | (simp; omega) | (simp; done)) _) hgr3 (by first | omega | (simp; omega) | (simp; done)) (fun e => by have := (HM.out.hZ.lt _ e.symm).2; omega)))
                  all_goals
                    go_wp2_with fail
                    go_meet
                    obtain ⟨hM, hB⟩ := HMc.out.step Hx.out Hy.out ⟨hz3, hz1, hz', Hg.out⟩ (by omega) (by first | exact ((Below.refl wc.heap.size wc).alloc (Nat.le_refl _) _).drew | exact (((Below.refl wc.heap.size wc).alloc (Nat.le_refl _) _).alloc (by simp; done) _).drew | exact ((((Below.refl wc.heap.size wc).alloc (Nat.le_refl _) _).alloc (by simp; done) _).alloc (by simp; omega) _).drew) hgr1 hown1 hat1 (by first | omega | (simp; omega) | (simp; done)) (by first | exact Below.refl w1.heap.size w1 | exact (Below.refl w1.heap.size w1).alloc (Nat.le_refl _) _ | exact ((Below.refl w1.heap.size w1).alloc (Nat.le_refl _) _).alloc (by simp; done) _) hgr2 hown2 hat2 (by first | omega | (simp; omega) | (simp; done)) (by first | exact Below.refl w2.heap.size w2 | exact (Below.refl w2.heap.size w2).alloc (Nat.le_refl _) _) hgr3 hown3 hat3 (by first | omega | (simp; omega) | (simp; done))
                    exact ⟨_, _, _, by simp, hM, (hbr.out.trans (Hbc.out.mono hsr)).trans hB⟩
                -- END reg36i
          -- END rest
      case rest =>
        -- BEGIN round
        as_aux_lemma =>
          obtain ⟨ps', qs', zs', h1, h2, h3⟩ := hcut.out
          have H1 := Lib.hid h1
          have H2 := Lib.hid h2
          have H3 := Lib.hid h3
          clear h1 h2 h3 hcut
          go_wp2
          exact ⟨⟨k + 1, ps', qs', zs', by go_num, by omega, Lib.hid (by rw [H1.out, hlen.out]), H2, H3⟩, by simp [intOf]; omega⟩
        -- END round
    ·
      -- BEGIN exit
      as_aux_lemma =>
        have hblk : wr.heap[w.heap.size]? = some (.cells #[.int .i64 0, .int .i64 0, .string ⟨#[]⟩, .slice none 0 0] 27 (0, 0)) := by
          rw [hbr.out.block _ (by omega)]; exact heap_alloc_new w _
        have z0 : wr.cell? ⟨w.heap.size, 0, none⟩ = some (.int .i64 0) := by rw [cell_heap hblk]; rfl
        have z1 : wr.cell? ⟨w.heap.size, 1, none⟩ = some (.int .i64 0) := by rw [cell_heap hblk]; rfl
        have z2 : wr.cell? ⟨w.heap.size, 2, none⟩ = some (.string ⟨#[]⟩) := by rw [cell_heap hblk]; rfl
        have z3 : wr.cell? ⟨w.heap.size, 3, none⟩ = some (.slice none 0 0) := by rw [cell_heap hblk]; rfl
        have f0 : wr.frozen? ⟨w.heap.size, 0, none⟩ = false := frozen_heap hblk
        have f1 : wr.frozen? ⟨w.heap.size, 1, none⟩ = false := frozen_heap hblk
        have f2 : wr.frozen? ⟨w.heap.size, 2, none⟩ = false := frozen_heap hblk
        have f3 : wr.frozen? ⟨w.heap.size, 3, none⟩ = false := frozen_heap hblk
        have Hblk := Lib.hid hblk
        clear hblk
        obtain ⟨Ae, capE, rfl⟩ := own_form HM.out.hE
        obtain ⟨Ar, capR, rfl⟩ := own_form HM.out.hR
        by_cases hk0 : ps.length = 0
        · have e0 : ((ps.length : Int) == 0) = true := by simp [hk0]
          clear hk0
          go_wp2
          have hb5 := (((hbw.out.setCell (p := ⟨w.heap.size, 0, none⟩) (Nat.le_refl _) (.int .i64 0)).setCell (p := ⟨w.heap.size, 1, none⟩) (Nat.le_refl _) (.int .i64 0)).setCell (p := ⟨w.heap.size, 2, none⟩) (Nat.le_refl _) (.string ⟨#[]⟩)).setCell (p := ⟨w.heap.size, 3, none⟩) (Nat.le_refl _) (.slice none 0 0)
          exact bodyPost_ret (v := .tuple #[.nilIface, .agg #[.int .i64 0, .int .i64 0, .string ⟨#[]⟩, .slice none 0 0]]) (by simp [results, Tryd.results9, go_sem, z0, z1, z2, z3]) rfl ⟨none, .nilIface, .slice none 0 0, rfl, rfl, rfl, trivial, by simp [szO], hb5⟩
        · obtain ⟨m, hm⟩ : ∃ m, ps.length = m + 1 := ⟨ps.length - 1, by omega⟩
          have hm40 : m < 40 := by have := hlen.out; omega
          obtain ⟨p, hp⟩ : ∃ p, ps[m]? = some p := ⟨ps[m], List.getElem?_eq_getElem (by omega)⟩
          obtain ⟨q, hq⟩ : ∃ q, qs[m]? = some q := ⟨qs[m]'(by have := congrArg List.length HM.out.same; simp at this; omega), List.getElem?_eq_getElem _⟩
          obtain ⟨zz, hz⟩ : ∃ z, zs[m]? = some z := ⟨zs[m]'(by have := HM.out.zlen; omega), List.getElem?_eq_getElem _⟩
          have hpq : q.1 = p.1 := by
            have h1 : (qs.map Prod.fst)[m]? = some q.1 := by simp [hq]
            rw [HM.out.same] at h1
            simpa [hp] using h1.symm
          obtain ⟨hs1, hs2, hs3, hs4⟩ := HM.out.small m p zz hp hz
          obtain ⟨ge, ce, hve, hge0, hge⟩ := HM.out.hE.form (by omega)
          obtain ⟨gr, cr, hvr, hgr0, hgr⟩ := HM.out.hR.form (by omega)
          injection hve with hve _ hce
          injection hvr with hvr _ hcr
          subst hve hvr
          obtain ⟨x, v⟩ := p
          obtain ⟨x', y⟩ := q
          simp only at hpq hs1 hs4
          subst hpq
          have ce0 : wr.cell? ⟨ge, m, none⟩ = some v := by rw [← add0]; exact HM.out.hE.cells (g := ge) rfl m v (by simp [hp])
          obtain ⟨l0, l1, l2, l3⟩ := flat_at qs m _ hq
          have cr0 : wr.cell? ⟨gr, m * 4, none⟩ = some (.int .i64 (kindO x')) := by rw [← add0]; exact HM.out.hR.cells (g := gr) rfl _ _ l0
          have cr1 : wr.cell? ⟨gr, m * 4 + 1, none⟩ = some (.int .i64 (cdO x')) := by rw [← add0]; exact HM.out.hR.cells (g := gr) rfl _ _ l1
          have cr2 : wr.cell? ⟨gr, m * 4 + 2, none⟩ = some (.string (whO x')) := by rw [← add0]; exact HM.out.hR.cells (g := gr) rfl _ _ l2
          have cr3 : wr.cell? ⟨gr, m * 4 + 3, none⟩ = some y := by rw [← add0]; exact HM.out.hR.cells (g := gr) rfl _ _ l3
          have Hrx := Lib.hid (HM.out.reps _ (List.mem_of_getElem? hp))
          have Hry := Lib.hid (HM.out.recs _ (List.mem_of_getElem? hq))
          obtain ⟨Ay, ny, cy, hyy⟩ := RepRQO.shape Free.lt Hry.out
          simp only at hyy
          subst hyy
          have Hs4 := Lib.hid hs4
          have i0 : (0 : Int) ≤ (m : Int) := by omega
          have i1 : (m : Int) < (m : Int) + 1 := by omega
          have i2 : IntKind.i64.wrap (m : Int) = m := by rw [IntKind.wrap_i64]; omega
          have e0 : ((ps.length : Int) == 0) = false := by rw [beq_eq_false_iff_ne]; omega
          clear hp hq hz l0 l1 l2 l3 hs4 hce hcr hk0
          generalize ps.length = n at *
          subst hm
          go_wp2_with fail
          go_region_held3 (fun w' => w'.cell? ⟨ge, m, none⟩ = some v ∧ w'.cell? ⟨gr, m * 4, none⟩ = some (.int .i64 (kindO x')) ∧ w'.cell? ⟨gr, m * 4 + 1, none⟩ = some (.int .i64 (cdO x')) ∧ w'.cell? ⟨gr, m * 4 + 2, none⟩ = some (.string (whO x')) ∧ w'.cell? ⟨gr, m * 4 + 3, none⟩ = some (.slice Ay ny cy))
            (first | exact ⟨ce0, cr0, cr1, cr2, cr3⟩ | exact ⟨(set4_cell (by simp; omega)).trans ce0, (set4_cell (by simp; omega)).trans cr0, (set4_cell (by simp; omega)).trans cr1, (set4_cell (by simp; omega)).trans cr2, (set4_cell (by simp; omega)).trans cr3⟩)
            (fail)
          go_wp2_with fail
          have hb5 := ((((hbw.out.setCell (p := ⟨w.heap.size, 0, none⟩) (Nat.le_refl _) (.int .i64 (kindO x'))).setCell (p := ⟨w.heap.size, 1, none⟩) (Nat.le_refl _) (.int .i64 (cdO x'))).setCell (p := ⟨w.heap.size, 2, none⟩) (Nat.le_refl _) (.string (whO x'))).setCell (p := ⟨w.heap.size, 3, none⟩) (Nat.le_refl _) (.slice Ay ny cy)).drew
          have hmv : Moves wr ((((wr.setCell ⟨w.heap.size, 0, none⟩ (.int .i64 (kindO x'))).setCell ⟨w.heap.size, 1, none⟩ (.int .i64 (cdO x'))).setCell ⟨w.heap.size, 2, none⟩ (.string (whO x'))).setCell ⟨w.heap.size, 3, none⟩ (.slice Ay ny cy)).drew
              (Free (w.heap.size + 1) wr (.slice (some ⟨ge, 0, none⟩) (m + 1) capE) (.slice (some ⟨gr, 0, none⟩) (m + 1) capR) u6) (fun k => k < wr.heap.size) :=
            fun k hk => ⟨hk.1, set4_far (by have := hk.2.2.2.2; omega)⟩
          refine bodyPost_ret (v := .tuple #[v, .agg #[.int .i64 (kindO x'), .int .i64 (cdO x'), .string (whO x'), .slice Ay ny cy]]) (by simp [results, Tryd.results9, go_sem, z0, z1, z2, z3]) rfl ⟨x', v, .slice Ay ny cy, rfl, ?_, ?_, Hs4.out, by omega, hb5⟩
          · exact (Hrx.out.move hmv).toB (fun k hk => by simpa [World.setCell, World.drew] using hk)
          · exact (Hry.out.move hmv).toB (fun k hk => by simpa [World.setCell, World.drew] using hk)
      -- END exit
end Go.Proofs.YteacjahncngoiaaDoor
