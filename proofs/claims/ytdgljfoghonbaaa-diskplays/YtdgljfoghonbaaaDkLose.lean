/- A loss of power. -/
import Derived.Test.YtdgljfoghonbaaaDkFn
namespace Go.Proofs.Ytdgljfoghonbaaa
open Go.RowKit DK

theorem own_only {d : Nat} {B : Nat} {e : TypeId} {k : Nat} {v : Value} {n : Nat} {xs : List Value} {w w' : World} (h : w.ownsRow B e k v n xs) (hg : w.grownBy w' (some d)) (hne : v.ownBlock ≠ some d) : w'.ownsRow B e k v n xs :=
  h.kept hg (.inr hne)
theorem grown_of_below {w w' : World} {row : Option Nat} (h : Below w.heap.size w w') : w.grownBy w' row := ⟨h.os, h.tape, h.output, h.size, fun k hk _ => h.block k hk⟩
theorem grown_set {w w' : World} {d : Nat} (h : w.grownBy w' (some d)) (j : Nat) (u : Value) : w.grownBy (w'.setCell ⟨d, j, none⟩ u) (some d) :=
  ⟨h.os, h.tape, h.output, by have := h.size; simp [World.setCell]; exact this, fun k hk hne => (Below.heap_setCell _ _ _ _ (fun e => hne (by rw [e]))).trans (h.block k hk hne)⟩
theorem byteCells_take (l : List UInt8) (m : Nat) : Lib.byteCells (l.take m) = (Lib.byteCells l).take m := by simp [Lib.byteCells, List.map_take]
theorem kt_of_grown {w w' : World} {d : Nat} {t : TypeId} (hd : d ≤ w.heap.size) (h : w.grownBy w' (some d)) : Kt t d w w' :=
  ⟨⟨h.os, h.tape, h.output, h.size, fun k hk => h.block k (by omega) (fun e => by injection e with e; omega)⟩, fun k o hk hb _ => (h.block k (lt_heap hk) hb).trans hk⟩

theorem own_cap {w : World} {N : Nat} {t : TypeId} {s : Nat} {A : Option Addr} {n cap : Nat} {l : List Value} (h : w.ownsRow N t s (.slice A n cap) n l) : n ≤ cap := by
  rcases h.2 with ⟨hx, hy⟩ | ⟨g, c, cur, hx, _, _, h3, h4, _⟩
  · omega
  · injection hx with _ _ hx; subst hx; exact h3
/-- What bytes.Clone answers. -/
def CloneP (w : World) (l : List UInt8) (e : Ending) (w' : World) : Prop := ∃ v, e = .returned v ∧ w'.ownsRow w.heap.size 5 1 v l.length (Lib.byteCells l) ∧ Below w.heap.size w w'
theorem clone_nil (w : World) : Calls Try.prog 46 #[.slice none 0 0] w (CloneP w []) := by
  have he : ∀ w : World, (binOp .eql 47 (.slice none 0 0) (.slice none 0 0)).run Try.prog w = .ok (.bool true) w := fun _ => rfl
  go_enter Try.func46, Try.ntmps46
  go_wp2
  go_ret
  exact ⟨_, rfl, own_nil _ _ _ _, Below.refl _ _⟩
set_option maxRecDepth 100000 in
theorem clone_any (w : World) (g cap : Nat) (l : List UInt8) (hl : l.length ≤ 16777216) (hc : ∀ j u, (Lib.byteCells l)[j]? = some u → w.cell? ⟨g, j, none⟩ = some u) (hg : g < w.heap.size) :
    Calls Try.prog 46 #[.slice (some ⟨g, 0, none⟩) l.length cap] w (CloneP w l) := by
  obtain ⟨i0, hi, hz0, hz1, hz2⟩ := info_parts byteInfo
  have ho : (w.alloc (.cells #[] 5)).ownsRow w.heap.size 5 1 (.slice (some ⟨w.heap.size, 0, none⟩) 0 0) 0 [] := ⟨by simp, .inr ⟨w.heap.size, 0, _, rfl, Nat.le_refl _, heap_alloc_new w _, Nat.le_refl _, Nat.zero_le _, by simp, by simp⟩⟩
  obtain ⟨v', w', hr, hown, hgr, -, -⟩ := run_append_own_at (P := Try.prog) (w.alloc (.cells #[] 5)) w.heap.size 47 47 5 i0 (.int .u8 0) 1 1 Try.underlying47 hi hz0 hz1 hz2 rfl (by decide) _ _ _ ho ⟨g, 0, none⟩ l.length cap (Lib.byteCells l) (by simp [Lib.byteCells])
    (fun j u hu => by rw [add0, World.cell?_of_block (Below.heap_alloc w _ g hg)]; exact hc j u hu) (fun u hu => by simp [Lib.byteCells] at hu; obtain ⟨b, -, rfl⟩ := hu; rfl) (by unfold maxLen; omega) (by omega) (by simp)
  have HR : Hid (CloneP w l (.returned v') w') := Lib.hid ⟨v', rfl, by simpa using hown, ((Below.refl w.heap.size w).alloc (Nat.le_refl _) _).grown hgr (by simp) (fun k hk => by simp [Value.ownBlock] at hk; omega)⟩
  have he : ∀ w : World, (binOp .eql 47 (.slice (some ⟨g, 0, none⟩) l.length cap) (.slice none 0 0)).run Try.prog w = .ok (.bool false) w := fun _ => rfl
  clear hi hz0 hz1 hz2 ho hown hgr hc hg hl
  go_enter Try.func46, Try.ntmps46
  go_wp2_with (at_builtin; refine wpList_run (by rfl) (.tmp 5) (.tmp 6) _ _ (by rfl) (by rfl) (by rfl) hr ?_; clear hr)
  go_ret
  exact HR.out

/-- What content.lose does. -/
def LoseP (d o : Nat) (cs : Array Value) (T : TypeId) (x : Fl) (k : Int) (w : World) (e : Ending) (w' : World) : Prop :=
  e = .returned (.tuple #[]) ∧ ∃ v', w'.heap[d]? = some (.cells ((cs.set! (o + 1) (.int .i64 (x.at k))).set! o v') T (0, 0)) ∧ w'.ownsRow w.heap.size 5 1 v' (x.lose k).s.length (Lib.byteCells (x.lose k).s) ∧ w.grownBy w' (some d)

set_option maxRecDepth 100000 in
set_option maxHeartbeats 1000000 in
theorem close_any (d o : Nat) (cs : Array Value) (T : TypeId) (hT : 5 ≠ T) (x : Fl) (v : Value) (k : Int) (w : World) (hk : I64 k) (hx : x.l ≤ x.s.length) (hx2 : x.s.length ≤ 16777216)
    (hb : w.heap[d]? = some (.cells cs T (0, 0))) (h0 : cs[o]? = some v) (h1 : cs[o + 1]? = some (.int .i64 x.l)) (ho : w.ownsRow d 5 1 v x.s.length (Lib.byteCells x.s)) :
    Calls Try.prog 42 #[.pointer (some ⟨d, o, none⟩), .int .i64 k] w (LoseP d o cs T x k w) := by
  obtain ⟨A, cap, rfl⟩ := own_form ho
  have hcap := own_cap ho
  have hlt := lt_heap hb
  have hl0 : o + 1 < cs.size := (Array.getElem?_eq_some_iff.1 h1).1
  have c0 : w.cell? ⟨d, o, none⟩ = some (.slice A x.s.length cap) := by rw [cell_heap hb, h0]
  have c1 : w.cell? ⟨d, o + 1, none⟩ = some (.int .i64 x.l) := by rw [cell_heap hb, h1]
  have f0 : w.frozen? ⟨d, o, none⟩ = false := frozen_heap hb
  have f1 : w.frozen? ⟨d, o + 1, none⟩ = false := frozen_heap hb
  have hat := Fl.at_le hx k
  have hint := Fl.at_int (x := x) k
  have hll := (Fl.lose_len hx k).1
  have CK := Lib.hid (fun w => kept_any k (x.s.length - x.l) w hk (by omega))
  have hne := own_ne ho hb hT
  have hb1 := set_block (j := o + 1) (u := .int .i64 (x.at k)) hb rfl
  have h01 : (cs.set! (o + 1) (.int .i64 (x.at k)))[o]? = some (.slice A x.s.length cap) := by rw [Array.set!_eq_setIfInBounds, Array.getElem?_setIfInBounds_ne (by omega)]; exact h0
  have ho1 := own_set (j := o + 1) (u := .int .i64 (x.at k)) ho hne
  have hlt1 := lt_heap hb1
  have r1 : (w.setCell ⟨d, o + 1, none⟩ (.int .i64 (x.at k))).heap.size = w.heap.size := by simp [World.setCell]
  have CC : Hid (∀ n, Calls Try.prog 46 #[.slice A (x.at k) cap] ((w.setCell ⟨d, o + 1, none⟩ (.int .i64 (x.at k))).drewN n) (CloneP ((w.setCell ⟨d, o + 1, none⟩ (.int .i64 (x.at k))).drewN n) (x.lose k).s)) := Lib.hid (fun n => by
    rcases ho1.2 with ⟨hv, hz⟩ | ⟨g, cap', cur, hv, hbg, hg, hnc, hcm, hcs, htake⟩
    · have : (x.lose k).s = [] := List.eq_nil_of_length_eq_zero (by omega)
      injection hv with h1 h2 h3
      subst h1 h3
      rw [this, show x.at k = 0 by omega]
      exact clone_nil _
    · injection hv with h1 h2 h3
      subst h1 h3
      have := clone_any ((w.setCell ⟨d, o + 1, none⟩ (.int .i64 (x.at k))).drewN n) g cap (x.lose k).s (by omega) (fun j u hu => by
        have hj : j < x.at k := by have := (List.getElem?_eq_some_iff.1 hu).1; simp [Lib.byteCells] at this; omega
        have := ho1.cells (g := g) rfl j u (by rw [← hu]; show _ = (Lib.byteCells (x.s.take (x.at k)))[j]?; rw [byteCells_take, List.getElem?_take_of_lt hj])
        rw [add0] at this
        exact this) (lt_heap hg)
      rwa [hll] at this)
  have HB1 := Lib.hid hb1
  have HH1 := Lib.hid h01
  have LP : Hid (∀ (w1 w2 w3 : World) v', w1 = (w.setCell ⟨d, o + 1, none⟩ (.int .i64 (x.at k))) → w1.grownBy w2 (some d) → w2.heap[d]? = some (.cells (cs.set! (o + 1) (.int .i64 (x.at k))) T (0, 0)) → w2.ownsRow w.heap.size 5 1 v' (x.lose k).s.length (Lib.byteCells (x.lose k).s) → w3 = w2.setCell ⟨d, o, none⟩ v' → LoseP d o cs T x k w (.returned (.tuple #[])) w3) := Lib.hid (fun w1 w2 w3 v' e1 hg hh hown e3 => by
    subst e1 e3
    have g1 : w.grownBy (w.setCell ⟨d, o + 1, none⟩ (.int .i64 (x.at k))) (some d) := grown_set ⟨rfl, rfl, rfl, Nat.le_refl _, fun _ _ _ => rfl⟩ _ _
    exact ⟨rfl, v', set_block hh rfl, own_set hown (own_ne hown hh hT), grown_set (g1.trans hg) _ _⟩)
  have e1 : IntKind.i64.wrap ((x.s.length : Int) - x.l) = ((x.s.length - x.l : Nat) : Int) := by rw [IntKind.wrap_i64]; omega
  have e2 : IntKind.i64.wrap ((x.l : Int) + kp k (x.s.length - x.l)) = (x.at k : Int) := by rw [IntKind.wrap_i64]; omega
  obtain ⟨w1, hw1⟩ : ∃ w1, w1 = (w.setCell ⟨d, o + 1, none⟩ (.int .i64 (x.at k))).drew := ⟨_, rfl⟩
  have b1 : w1.heap[d]? = some (.cells (cs.set! (o + 1) (.int .i64 (x.at k))) T (0, 0)) := by rw [hw1]; exact hb1
  have d0 : w1.cell? ⟨d, o, none⟩ = some (.slice A x.s.length cap) := by rw [cell_heap b1, h01]
  have d1 : w1.cell? ⟨d, o + 1, none⟩ = some (.int .i64 (x.at k)) := by rw [cell_heap b1, Array.set!_eq_setIfInBounds, Array.getElem?_setIfInBounds_self_of_lt hl0]
  have g0 : w1.frozen? ⟨d, o, none⟩ = false := frozen_heap b1
  have C1 : Hid (Calls Try.prog 46 #[.slice A (x.at k) cap] w1.drew (CloneP w1.drew (x.lose k).s)) := Lib.hid (by rw [hw1]; exact CC.out 2)
  have BB1 := Lib.hid b1
  have HW1 := Lib.hid hw1
  obtain ⟨hat1, hat2⟩ := hat
  have hat0 : (0 : Int) ≤ (x.at k : Int) := by omega
  have hmi : (x.at k : Int) ≤ (x.s.length : Int) := by omega
  have hmc : (x.at k : Int) ≤ (cap : Int) := by omega
  clear hb h0 h1 ho hb1 h01 ho1 hlt1 hint hk hne hT hw1 b1 CC HB1 HH1
  go_enter Try.func42, Try.ntmps42
  go_wp2_with fail
  go_still_tail 19, (by kernel_rfl)
  still_call ((CK.out _).mono fun _ _ h => ⟨h.1, h.2.symm⟩)
  repeat still_step
  refine wpStill_nil ?_
  change wpList _ _ _ _ _ w.drew
  go_wp2_with fail
  rw [← HW1.out]
  have GO : Hid (∀ w2 v', w2.ownsRow w1.drew.heap.size 5 1 v' (x.lose k).s.length (Lib.byteCells (x.lose k).s) → Below w1.drew.heap.size w1.drew w2 → ∃ A2 c2, v' = .slice A2 (x.at k) c2 ∧ w2.cell? ⟨d, o, none⟩ = some (.slice A x.s.length cap) ∧ w2.frozen? ⟨d, o, none⟩ = false ∧ Hid (LoseP d o cs T x k w (.returned (.tuple #[])) (w2.setCell ⟨d, o, none⟩ (.slice A2 (x.at k) c2)))) := Lib.hid (fun w2 v' hown hbe => by
    have b2 := (hbe.block d (lt_heap BB1.out)).trans (show w1.drew.heap[d]? = _ from BB1.out)
    have q0 : w2.cell? ⟨d, o, none⟩ = some (.slice A x.s.length cap) := (hbe.cell (p := ⟨d, o, none⟩) (show d < w1.drew.heap.size from lt_heap BB1.out)).trans d0
    have q1 : w2.frozen? ⟨d, o, none⟩ = false := frozen_heap b2
    have HF : LoseP d o cs T x k w (.returned (.tuple #[])) (w2.setCell ⟨d, o, none⟩ v') := LP.out _ w2 _ v' rfl ⟨hbe.os.trans (by rw [HW1.out]; rfl), hbe.tape.trans (by rw [HW1.out]; rfl), hbe.output.trans (by rw [HW1.out]; rfl), by have := hbe.size; rw [HW1.out] at this; exact this, fun j hj _ => (hbe.block j (by rw [HW1.out]; exact hj)).trans (by rw [HW1.out]; rfl)⟩ b2 (own_mono hown (by rw [HW1.out]; show w.heap.size ≤ (w.setCell _ _).heap.size; rw [r1]; exact Nat.le_refl _)) rfl
    obtain ⟨A2, c2, rfl⟩ := own_form hown
    rw [hll] at HF
    exact ⟨A2, c2, by rw [hll], q0, q1, HF⟩)
  clear CK LP BB1 HW1 hll
  go_region_law (first | (go_simp; go_at_call 46; refine C1.out.mono ?_; rintro e w2 ⟨v', rfl, hown, hbe⟩; obtain ⟨A2, c2, rfl, q0, q1, HF⟩ := GO.out w2 v' hown hbe; clear hown hbe))
  all_goals
    go_end0
    exact HF.out

/-- Cells of an argument of numbers. -/
def Ints (w : World) (A : Option Addr) (l : List Int) : Prop := ∀ (i : Nat) z, l[i]? = some z → I64 z ∧ ∃ g o, A = some ⟨g, o, none⟩ ∧ g < w.heap.size ∧ w.cell? ⟨g, o + i, none⟩ = some (.int .i64 z)
theorem Ints.below {w w' : World} {A : Option Addr} {l : List Int} (h : Ints w A l) (hb : Below w.heap.size w w') : Ints w' A l := fun i z hz => by
  obtain ⟨h1, g, o, hA, hg, hc⟩ := h i z hz
  have := hb.size
  exact ⟨h1, g, o, hA, by omega, (hb.cell (p := ⟨g, _, none⟩) hg).trans hc⟩
theorem Ints.take {w : World} {A : Option Addr} {l : List Int} (h : Ints w A l) (k : Nat) : Ints w A (l.take k) := fun i z hz => by
  rw [List.getElem?_take] at hz
  split at hz
  · exact h i z hz
  · cases hz
/-- The number for file i. -/
def at_ (l : List Int) (i : Nat) : Int := l.getD i 0
theorem at_i64 {w : World} {A : Option Addr} {l : List Int} (h : Ints w A l) (i : Nat) : I64 (at_ l i) := by
  unfold at_
  rw [List.getD_eq_getElem?_getD]
  cases hi : l[i]? with
  | none => simp [I64]
  | some z => exact (h i z hi).1

theorem Dk.loseA {d : Nat} {D : Dv} {va vb : Value} {w w' : World} {k : Int} (h : DkAt d D va vb w) (hk : D.Ok) (hl : LoseP d 0 (dkCells D va vb) 52 D.a k w (.returned (.tuple #[])) w') : Dk d { D with a := D.a.lose k } w' := by
  obtain ⟨-, v', h1, h2, h3⟩ := hl
  have n := h.ne
  have hz := h3.size
  refine ⟨v', vb, ?_, own_mono h2 (Nat.le_of_lt (lt_heap h.1)), own_only h.2.2.1 h3 n.2, ?_⟩
  · rw [h1]
    have := (Fl.lose_len hk.1 k).2
    show some _ = some (Obj.cells (dkCells _ _ _) _ _)
    simp [dkCells, this]
  · cases hv : v'.ownBlock with
    | none => exact .inl rfl
    | some g =>
      refine .inr fun e => ?_
      have a1 := (h2.lt g hv).1
      have a2 := (h.2.2.1.lt g e.symm).2
      omega
theorem Dk.loseB {d : Nat} {D : Dv} {va vb : Value} {w w' : World} {k : Int} (h : DkAt d D va vb w) (hk : D.Ok) (hl : LoseP d 2 (dkCells D va vb) 52 D.b k w (.returned (.tuple #[])) w') : Dk d { D with b := D.b.lose k } w' := by
  obtain ⟨-, v', h1, h2, h3⟩ := hl
  have n := h.ne
  have hz := h3.size
  refine ⟨va, v', ?_, own_only h.2.1 h3 n.1, own_mono h2 (Nat.le_of_lt (lt_heap h.1)), ?_⟩
  · rw [h1]
    have := (Fl.lose_len hk.2.1 k).2
    show some _ = some (Obj.cells (dkCells _ _ _) _ _)
    simp [dkCells, this]
  · cases hv : va.ownBlock with
    | none => exact .inl rfl
    | some g =>
      refine .inr fun e => ?_
      have a1 := (h2.lt g e.symm).1
      have a2 := (h.2.1.lt g hv).2
      omega
theorem loseA_any (d : Nat) (D : Dv) (k : Int) (w : World) (hk : I64 k) (h : Dk d D w) (ho : D.Ok) : Calls Try.prog 42 #[.pointer (some ⟨d, 0, none⟩), .int .i64 k] w fun e w' => e = .returned (.tuple #[]) ∧ Dk d { D with a := D.a.lose k } w' ∧ Kt 5 d w w' := by
  obtain ⟨va, vb, h⟩ := h
  refine (close_any d 0 _ _ (by decide) D.a va k w hk ho.1 (by have := ho.2.2.1; have := ho.2.2.2.1; omega) h.1 rfl rfl h.2.1).mono ?_
  intro e w' hl
  obtain ⟨rfl, hl2⟩ := id hl
  exact ⟨rfl, Dk.loseA h ho hl, by obtain ⟨-, _, _, _, h3⟩ := hl; exact kt_of_grown (Nat.le_of_lt (lt_heap h.1)) h3⟩
theorem loseB_any (d : Nat) (D : Dv) (k : Int) (w : World) (hk : I64 k) (h : Dk d D w) (ho : D.Ok) : Calls Try.prog 42 #[.pointer (some ⟨d, 2, none⟩), .int .i64 k] w fun e w' => e = .returned (.tuple #[]) ∧ Dk d { D with b := D.b.lose k } w' ∧ Kt 5 d w w' := by
  obtain ⟨va, vb, h⟩ := h
  refine (close_any d 2 _ _ (by decide) D.b vb k w hk ho.2.1 (by have := ho.2.2.1; have := ho.2.2.2.1; omega) h.1 rfl rfl h.2.2.1).mono ?_
  intro e w' hl
  obtain ⟨rfl, hl2⟩ := id hl
  exact ⟨rfl, Dk.loseB h ho hl, by obtain ⟨-, _, _, _, h3⟩ := hl; exact kt_of_grown (Nat.le_of_lt (lt_heap h.1)) h3⟩
end Go.Proofs.Ytdgljfoghonbaaa
