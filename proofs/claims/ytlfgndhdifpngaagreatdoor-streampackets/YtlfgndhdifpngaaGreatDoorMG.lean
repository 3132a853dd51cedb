/- stream.New, a reader's Left; the laws' wakes.; Pieces of bytes, and what is left of them: the plain side.; What pieces tell, one behind the other: as all of them at once.; The laws' told: all packets that pieces tell, put again, and the code. -/
import Derived.Test.YtlfgndhdifpngaaGreatDoorMD
import Derived.Test.YtlfgndhdifpngaaGreatDoorPrApp
namespace Go.Proofs.YtlfgndhdifpngaaGreatDoor
open Go.RowKit
attribute [local go_sem ↓] Go.wp_at_zero Go.wp_at_succ

set_option maxRecDepth 100000 in
theorem new_any (m : Int) (w : World) : Calls Tryz.prog 10 #[.int .i64 m] w fun e w' => e = .returned (.pointer (some ⟨w.heap.size, 0, none⟩)) ∧ Fd w.heap.size m [] 0 w' ∧ Below w.heap.size w w' := by
  have H1 : Hid (Fd w.heap.size m [] 0 (w.alloc (.cells #[.int .i64 m, .pointer none, .slice none 0 0, .int .u8 0] 103))) := Lib.hid (.inl ⟨_, heap_alloc_new w _, World.ownsRowF_nil _ _ _ _, by simp [Value.ownBlock]⟩)
  have H2 : Hid (Below w.heap.size w (w.alloc (.cells #[.int .i64 m, .pointer none, .slice none 0 0, .int .u8 0] 103))) := Lib.hid ((Below.refl _ _).alloc (Nat.le_refl _) _)
  go_enter Tryz.func10, Tryz.ntmps10
  go_wp2
  go_ret
  exact ⟨rfl, H1.out, H2.out⟩
theorem left_nil (w : World) : Calls Tryz.prog 14 #[.pointer none] w fun e w' => e = .returned (.string ⟨#[]⟩) ∧ w = w' := by
  go_enter Tryz.func14, Tryz.ntmps14
  go_wp2
  go_ret
  exact ⟨rfl, rfl⟩
set_option maxRecDepth 100000 in
theorem left_any (r : Nat) (m : Int) (l : List UInt8) (c : Int) (w : World) (h : Fd r m l c w) (hl : l.length ≤ 281474976710656) :
    Calls Tryz.prog 14 #[.pointer (some ⟨r, 0, none⟩)] w fun e w' => e = .returned (.string ⟨l.toArray⟩) ∧ Fd r m l c w' ∧ Kp r w w' := by
  have C := Lib.hid (fstring_any r m l c w h)
  have CC := Lib.hid (clone_any ⟨l.toArray⟩)
  have hs : (⟨l.toArray⟩ : ByteArray).size ≤ 281474976710656 := by show l.toArray.size ≤ _; simp; exact hl
  clear h
  go_enter Tryz.func14, Tryz.ntmps14
  go_wp2_with fail
  refine C.out.mono ?_
  rintro e w1 ⟨rfl, h1, k1⟩
  have hlt := h1.lt
  have H1 := Lib.hid h1
  have K1 := Lib.hid k1
  clear h1 k1 C
  go_wp2_with fail
  refine (CC.out _ hs).mono ?_
  rintro e w2 ⟨rfl, b2⟩
  have H2 := Lib.hid (H1.out.below b2)
  have K2 := Lib.hid (K1.out.trans (Kp.of_below (Nat.le_of_lt hlt) b2))
  clear b2 H1 K1 CC
  go_wp2_with fail
  go_ret
  exact ⟨rfl, H2.out, K2.out⟩

theorem fed_half : ST.fed 100 ⟨#[192]⟩ = ([], 0, 0) := by kernel_rfl
theorem ping_pk : PK.getPk ⟨#[192, 0]⟩ = (PK.barePk 12 false false 0, 0) := by kernel_rfl
theorem fed_two : ST.fed 100 ⟨#[192, 0, 192, 0]⟩ = ([⟨#[192, 0]⟩, ⟨#[192, 0]⟩], 4, 0) := by kernel_rfl

theorem two_len {L : List Pv} (h : L.length = 2) : ∃ x y, L = [x, y] := by
  cases L with
  | nil => simp at h
  | cons x t => cases t with
    | nil => simp at h
    | cons y u => cases u with
      | nil => exact ⟨x, y, rfl⟩
      | cons z u => simp at h
theorem two_of {L : List Pv} {a b : Pk} (h : L.map Pv.p = [a, b]) : ∃ x y, L = [x, y] :=
  two_len (by have := congrArg List.length h; rw [List.length_map] at this; exact this)
set_option maxRecDepth 100000 in
set_option maxHeartbeats 1000000 in
theorem swakes_any (w : World) (hT : ∀ W, Below w.heap.size w W → Tabs W) : Calls Tryz.prog 11 #[] w fun e w' => e = .returned (.bool true) ∧ Below w.heap.size w w' := by
  have CN := Lib.hid (new_any 100 w)
  have HTb := Lib.hid hT
  clear hT
  go_enter Tryz.func11, Tryz.ntmps11
  go_wp2_with fail
  refine CN.out.mono ?_
  rintro e w1 ⟨rfl, h1, b1⟩
  have C1 : Hid (Calls Tryz.prog 12 #[.pointer (some ⟨w.heap.size, 0, none⟩), .string ⟨#[192]⟩] w1 (FeP w.heap.size 100 ⟨#[192]⟩ w1)) := Lib.hid (feed_any w.heap.size 100 [] ⟨#[192]⟩ w1 h1 (by decide) (fun W hW => HTb.out W (b1.trans hW)))
  have B1 := Lib.hid b1
  clear h1 b1 CN
  go_wp2_with fail
  refine C1.out.mono ?_
  rintro e w2 hF
  obtain ⟨v2, L2, rfl, r2, m2, h2, k2⟩ := hF
  rw [fed_half] at m2 h2 ⊢
  have hL2 : ST.left 100 ⟨#[192]⟩ = [192] := by kernel_rfl
  rw [hL2] at h2
  have hl0 : L2 = [] := by simpa using m2
  subst hl0
  obtain ⟨A2, c2, rfl⟩ := own_form r2.row
  have C2 := Lib.hid (left_any w.heap.size 100 [192] 0 w2 h2 (by decide))
  have K2 := Lib.hid k2
  clear C1 r2 m2 h2 k2 hL2
  go_wp2_with fail
  refine C2.out.mono ?_
  rintro e w3 ⟨rfl, h3, k3⟩
  have C3 : Hid (Calls Tryz.prog 12 #[.pointer (some ⟨w.heap.size, 0, none⟩), .string ⟨#[0, 192, 0]⟩] w3 (FeP w.heap.size 100 ⟨#[192, 0, 192, 0]⟩ w3)) := Lib.hid (feed_any w.heap.size 100 [192] ⟨#[0, 192, 0]⟩ w3 h3 (by decide) (fun W hW => HTb.out W ((B1.out.trans K2.out.1).trans (k3.1.trans hW))))
  have B3 := Lib.hid ((B1.out.trans K2.out.1).trans k3.1)
  clear h3 k3 C2 K2 B1
  go_wp2_with fail
  refine C3.out.mono ?_
  rintro e w4 hF
  obtain ⟨v4, L4, rfl, r4, m4, h4, k4⟩ := hF
  rw [fed_two] at m4 h4 ⊢
  have HB := Lib.hid (B3.out.trans k4.1)
  simp only [List.map_cons, List.map_nil, ping_pk] at m4
  obtain ⟨x, y, rfl⟩ := two_of m4
  simp only [List.map_cons, List.map_nil, List.cons.injEq, and_true] at m4
  obtain ⟨g, p4', hv4, hg4, hg4'⟩ := r4.row.form (by simp)
  subst hv4
  have e4 : w4.cell? ⟨g, 26, none⟩ = some (.int .i64 12) := by
    rw [← add0]
    have := r4.row.cells (g := g) rfl 26 (.int .i64 y.p.kind) (by simp [Pv.cells, pkCells])
    rw [m4.2] at this
    exact this
  clear r4 m4 h4 k4 C3 B3
  go_wp2_with fail
  go_ret
  exact ⟨rfl, HB.out⟩
end Go.Proofs.YtlfgndhdifpngaaGreatDoor
namespace Go.Proofs.YtlfgndhdifpngaaGreatDoor
open Go.RowKit

/-- How many bytes pieces have together. -/
def bytesOf (l : List ByteArray) : Nat := (l.map ByteArray.size).sum
theorem bytes_take {l : List ByteArray} {k : Nat} {x : ByteArray} (h : l[k]? = some x) : bytesOf (l.take (k + 1)) = bytesOf (l.take k) + x.size := by
  have e : l.take (k + 1) = l.take k ++ [x] := by rw [List.take_add_one, h]; rfl
  rw [e]; simp [bytesOf]
theorem bytes_le (l : List ByteArray) : ∀ k, bytesOf (l.take k) ≤ bytesOf l := by
  induction l with
  | nil => intro k; simp [bytesOf]
  | cons x l ih => intro k; cases k with
    | zero => simp [bytesOf]
    | succ k => have := ih k; simp [bytesOf] at this ⊢; omega
theorem left_len (m : Int) (U : ByteArray) : (ST.left m U).length ≤ U.size := by
  unfold ST.left
  split
  · simp
  · have h : ∀ X : ByteArray, X.data.toList.length = X.size := fun X => by rw [Array.length_toList]; rfl
    rw [h, ByteArray.size_extract]; omega
theorem left_bad {m : Int} {U : ByteArray} (h : (ST.fed m U).2.2 ≠ 0) : ST.left m U = [] := by unfold ST.left; rw [if_pos h]
theorem join_size (l : List UInt8) (s : ByteArray) : (⟨(l ++ s.data.toList).toArray⟩ : ByteArray).size = l.length + s.size := by
  show (l ++ s.data.toList).toArray.size = _
  simp
end Go.Proofs.YtlfgndhdifpngaaGreatDoor
namespace Go.Proofs.YtlfgndhdifpngaaGreatDoor
namespace ST
def bs (l : List UInt8) : ByteArray := ⟨l.toArray⟩
theorem bs_size (l : List UInt8) : (bs l).size = l.length := by show l.toArray.size = _; simp
theorem bs_at (l : List UInt8) (i : Nat) (h : i < (bs l).size) (h' : i < l.length) : (bs l)[i]'h = l[i]'h' := rfl
theorem bs_self (X : ByteArray) : bs X.data.toList = X := by cases X; simp [bs]
theorem beg_app (l t : List UInt8) : Beg (bs l) (bs (l ++ t)) := by
  refine ⟨by rw [bs_size, bs_size]; simp, fun j h1 h2 => ?_⟩
  rw [bs_size] at h1 h2
  rw [bs_at l j (by rw [bs_size]; exact h1) h1, bs_at (l ++ t) j (by rw [bs_size]; exact h2) h2, List.getElem_append_left h1]
theorem bs_drop (l t : List UInt8) (a : Nat) (ha : a ≤ l.length) : (bs (l ++ t)).extract a (bs (l ++ t)).size = bs (((bs l).extract a (bs l).size).data.toList ++ t) := by
  have hz : ((bs l).extract a (bs l).size).size = l.length - a := by rw [ByteArray.size_extract, bs_size]; omega
  have hz' : ((bs l).extract a (bs l).size).data.toList.length = l.length - a := by rw [Array.length_toList]; exact hz
  apply ByteArray.ext_getElem
  · rw [ByteArray.size_extract, bs_size, bs_size, List.length_append, List.length_append, hz']; omega
  · intro i h1 h2
    rw [ByteArray.size_extract, bs_size, List.length_append] at h1
    rw [ByteArray.getElem_extract, bs_at (l ++ t) (a + i) (by rw [bs_size, List.length_append]; omega) (by rw [List.length_append]; omega)]
    rw [bs_at _ i h2 (by rw [List.length_append, hz']; omega)]
    by_cases hi : i < l.length - a
    · rw [List.getElem_append_left (by omega), List.getElem_append_left (by rw [hz']; exact hi)]
      have e : ((bs l).extract a (bs l).size).data.toList[i]'(by rw [hz']; exact hi) = ((bs l).extract a (bs l).size)[i]'(by rw [hz]; exact hi) := by rw [Array.getElem_toList]; rfl
      rw [e, ByteArray.getElem_extract, bs_at l (a + i) (by rw [bs_size]; omega) (by omega)]
    · rw [List.getElem_append_right (by omega), List.getElem_append_right (by rw [hz']; omega)]
      congr 1
      rw [hz']; omega
/-- The packets that a reader with the bytes U tells. -/
def pks (m : Int) (U : ByteArray) : List Pk := (fed m U).1.map (fun b => (PK.getPk b).1)
/-- What pieces tell, behind the bytes that are left, up to the first code. -/
def tell (m : Int) : List ByteArray → List UInt8 → List Pk × Int
  | [], _ => ([], 0)
  | s :: ps, l => if (fed m (bs (l ++ s.data.toList))).2.2 ≠ 0 then (pks m (bs (l ++ s.data.toList)), (fed m (bs (l ++ s.data.toList))).2.2)
    else (pks m (bs (l ++ s.data.toList)) ++ (tell m ps (left m (bs (l ++ s.data.toList)))).1, (tell m ps (left m (bs (l ++ s.data.toList)))).2)
def joined (ps : List ByteArray) : List UInt8 := ps.flatMap fun s => s.data.toList
/-- The same, over whatever reads a packet. -/
def fedF (f : ByteArray → Int) (m : Int) (U : ByteArray) : List ByteArray × Nat × Int := thr U m f (U.size + 1) 0
def leftF (f : ByteArray → Int) (m : Int) (U : ByteArray) : List UInt8 := if (fedF f m U).2.2 ≠ 0 then [] else (U.extract (fedF f m U).2.1 U.size).data.toList
theorem fedF_none (f : ByteArray → Int) (m : Int) (l : List UInt8) (h : (first (bs l) m).2 = 242) : fedF f m (bs l) = ([], 0, 0) := by
  unfold fedF
  have e : (bs l).extract 0 (bs l).size = bs l := by simp
  rw [thr, e, if_neg (by rw [h]; decide), if_pos h]
theorem fedF_more (f : ByteArray → Int) (m : Int) (l t : List UInt8) : ((fedF f m (bs l)).2.2 ≠ 0 → (fedF f m (bs (l ++ t))).1 = (fedF f m (bs l)).1 ∧ (fedF f m (bs (l ++ t))).2.2 = (fedF f m (bs l)).2.2) ∧
    ((fedF f m (bs l)).2.2 = 0 → (first (bs (leftF f m (bs l))) m).2 = 242 ∧ (fedF f m (bs (l ++ t))).1 = (fedF f m (bs l)).1 ++ (fedF f m (bs (leftF f m (bs l) ++ t))).1 ∧ (fedF f m (bs (l ++ t))).2.2 = (fedF f m (bs (leftF f m (bs l) ++ t))).2.2) := by
  have h := thr_more (beg_app l t) m f ((bs l).size + 1) ((bs (l ++ t)).size + 1) 0 (Nat.zero_le _) (by omega) (by omega)
  have e1 : thr (bs l) m f ((bs l).size + 1) 0 = fedF f m (bs l) := rfl
  have e2 : thr (bs (l ++ t)) m f ((bs (l ++ t)).size + 1) 0 = fedF f m (bs (l ++ t)) := rfl
  rw [e1, e2] at h
  refine ⟨h.1, fun h0 => ?_⟩
  obtain ⟨h1, h2, h3⟩ := h.2 h0
  have hl : leftF f m (bs l) = ((bs l).extract (fedF f m (bs l)).2.1 (bs l).size).data.toList := by unfold leftF; rw [if_neg (by simp [h0])]
  generalize leftF f m (bs l) = lf at *
  generalize fedF f m (bs l) = X at *
  obtain ⟨ls, a, c⟩ := X
  simp only at *
  have h1' : a ≤ l.length := by rw [← bs_size l]; exact h1
  have e := bs_drop l t a h1'
  rw [← hl] at e
  have ez : (bs (lf ++ t)).size = (bs (l ++ t)).size - a := by rw [← e, ByteArray.size_extract]; omega
  have h4 := h3 ((bs (lf ++ t)).size + 1) (by omega)
  have h5 := thr_drop (bs (l ++ t)) m f a ((bs (lf ++ t)).size + 1) 0
  rw [e] at h5
  simp only [Nat.add_zero] at h5
  refine ⟨?_, h4.1.trans ?_, h4.2.trans ?_⟩
  · rw [hl, bs_self]; exact h2
  · rw [h5.1]; rfl
  · rw [h5.2]; rfl
theorem fed_eq (m : Int) (U : ByteArray) : fed m U = fedF (fun b => (PK.getPk b).2) m U := by unfold fed fedF; rfl
theorem left_eq (m : Int) (U : ByteArray) : left m U = leftF (fun b => (PK.getPk b).2) m U := by unfold left leftF; rw [fed_eq]
theorem fed_none (m : Int) (l : List UInt8) (h : (first (bs l) m).2 = 242) : fed m (bs l) = ([], 0, 0) := by rw [fed_eq]; exact fedF_none _ m l h
theorem fed_more (m : Int) (l t : List UInt8) : ((fed m (bs l)).2.2 ≠ 0 → (fed m (bs (l ++ t))).1 = (fed m (bs l)).1 ∧ (fed m (bs (l ++ t))).2.2 = (fed m (bs l)).2.2) ∧
    ((fed m (bs l)).2.2 = 0 → (first (bs (left m (bs l))) m).2 = 242 ∧ (fed m (bs (l ++ t))).1 = (fed m (bs l)).1 ++ (fed m (bs (left m (bs l) ++ t))).1 ∧ (fed m (bs (l ++ t))).2.2 = (fed m (bs (left m (bs l) ++ t))).2.2) := by
  simp only [fed_eq, left_eq]
  exact fedF_more _ m l t
theorem tell_all (m : Int) : ∀ (ps : List ByteArray) (l : List UInt8), (first (bs l) m).2 = 242 → tell m ps l = (pks m (bs (l ++ joined ps)), (fed m (bs (l ++ joined ps))).2.2)
  | [], l, h => by
    rw [tell, joined, List.flatMap_nil, List.append_nil, pks, fed_none m l h]; rfl
  | s :: ps, l, _ => by
    have hm := fed_more m (l ++ s.data.toList) (joined ps)
    have e : l ++ joined (s :: ps) = l ++ s.data.toList ++ joined ps := by simp [joined]
    rw [tell, e]
    by_cases hc : (fed m (bs (l ++ s.data.toList))).2.2 ≠ 0
    · rw [if_pos hc]
      obtain ⟨h1, h2⟩ := hm.1 hc
      rw [pks, pks, h1, h2]
    · rw [if_neg hc]
      obtain ⟨h0, h1, h2⟩ := hm.2 (Classical.not_not.1 hc)
      rw [tell_all m ps _ h0, pks, pks, pks, h1, h2, List.map_append]
theorem first_nil (m : Int) : (first (bs []) m).2 = 242 := by unfold first; rw [if_pos (show (bs []).size = 0 by rw [bs_size]; rfl)]
/-- From the beginning. -/
theorem tell_start (m : Int) (ps : List ByteArray) : tell m ps [] = (pks m (bs (joined ps)), (fed m (bs (joined ps))).2.2) := by
  rw [tell_all m ps [] (first_nil m), List.nil_append]
end ST
end Go.Proofs.YtlfgndhdifpngaaGreatDoor
namespace Go.Proofs.YtlfgndhdifpngaaGreatDoor
open Go.RowKit
attribute [local go_sem ↓] Go.wp_at_zero Go.wp_at_succ

theorem own_range {B : Nat} {e : TypeId} {k : Nat} {v : Value} {n : Nat} {xs : List Value} {w w' : World} (h : w.ownsRow B e k v n xs) (hk : ∀ i, B ≤ i → i < w.heap.size → w'.heap[i]? = w.heap[i]?) : w'.ownsRow B e k v n xs := by
  refine ⟨h.1, ?_⟩
  rcases h.2 with hn | ⟨g, cap, cur, hv, hb, hg, rest⟩
  · exact .inl hn
  · exact .inr ⟨g, cap, cur, hv, hb, (hk g hb (lt_heap hg)).trans hg, rest⟩
theorem PkRow.range {B : Nat} {v : Value} {L : List Pv} {w w' : World} (h : PkRow B v L w) (hk : ∀ i, B ≤ i → i < w.heap.size → w'.heap[i]? = w.heap[i]?) : PkRow B v L w' :=
  ⟨own_range h.row hk, fun x hx => ⟨own_range (h.own x hx).codes hk, own_range (h.own x hx).props hk, own_range (h.own x hx).wprops hk, own_range (h.own x hx).subs hk, own_range (h.own x hx).filters hk⟩⟩
theorem Fd.grown {r : Nat} {m : Int} {l : List UInt8} {c : Int} {w w' : World} {row : Option Nat} (h : Fd r m l c w) (hg : w.grownBy w' row) (hr : ∀ g, row = some g → ∃ cs fz, w.heap[g]? = some (.cells cs 9 fz)) : Fd r m l c w' := by
  have key : ∀ p, FdAt r m p l c w → FdAt r m p l c w' := fun p ⟨v, h1, h2, h3⟩ => by
    have hne : row ≠ some r := fun e => by
      obtain ⟨cs, fz, h⟩ := hr r e
      rw [h1] at h; simp at h
    refine ⟨v, (hg.block r (lt_heap h1) (fun e => hne e.symm)).trans h1, h2.kept hg ?_, h3⟩
    cases hv : v.ownBlock with
    | none => exact .inl rfl
    | some g =>
      refine .inr (fun e => ?_)
      obtain ⟨cs, fz, h⟩ := hr g e.symm
      obtain ⟨cs2, fz2, h'⟩ := ownF_row h2 g hv
      rw [h] at h'; simp at h'
  rcases h with h | h
  · exact .inl (key _ h)
  · exact .inr (key _ h)
/-- A packet of a row, loaded. -/
theorem wpl_load_at {ops : Array Oper} {rest : List Oper} {op : Oper} {a : Act} {w : World} {Q : Exit → Act → World → Prop} (hgd : op.guard = none) (x : Operand) (ho : op.op = .load 31 x)
    (g o : Nat) (hx : a.eval x = .pointer (some ⟨g, o, none⟩)) {p : Pk} {vc vp vw vs vf : Value} (hc : ∀ j v, (pkCells p vc vp vw vs vf).toList[j]? = some v → w.cell? ⟨g, o + j, none⟩ = some v)
    (h : wpList Tryz.prog ops Q rest (a.put op.dst (.agg (pkCells p vc vp vw vs vf))) w) : wpList Tryz.prog ops Q (op :: rest) a w :=
  wpList_load_mid hgd 31 x ho g o hx (pkCells p vc vp vw vs vf).toList _ hc Tryz.underlying31 rfl (by kernel_rfl) h
theorem flat_at : ∀ (L : List Pv) (i : Nat) (x : Pv), L[i]? = some x → ∀ j v, x.cells[j]? = some v → (L.flatMap Pv.cells)[i * 26 + j]? = some v
  | [], i, x, h => by simp at h
  | y :: L, 0, x, h => by
    simp at h; subst h
    intro j v hv
    have hj : j < y.cells.length := (List.getElem?_eq_some_iff.1 hv).1
    rw [Nat.zero_mul, Nat.zero_add, List.flatMap_cons, List.getElem?_append_left hj]
    exact hv
  | y :: L, i + 1, x, h => by
    intro j v hv
    have hy : y.cells.length = 26 := rfl
    rw [List.flatMap_cons, show (i + 1) * 26 + j = 26 + (i * 26 + j) by omega, List.getElem?_append_right (by omega), hy, Nat.add_sub_cancel_left]
    exact flat_at L i x (by simpa using h) j v hv
theorem thr_ends (s : ByteArray) (m : Int) (f : ByteArray → Int) : ∀ (u a : Nat), a ≤ s.size → 2 * (ST.thr s m f u a).1.length + a ≤ (ST.thr s m f u a).2.1 ∧ (ST.thr s m f u a).2.1 ≤ s.size ∧ ∀ b ∈ (ST.thr s m f u a).1, b.size ≤ s.size
  | 0, a, h => ⟨by simp [ST.thr], h, fun b hb => by simp [ST.thr] at hb⟩
  | u + 1, a, h => by
    rw [ST.thr]
    by_cases h1 : (ST.first (s.extract a s.size) m).2 = 0
    · obtain ⟨k, hk, hk1, hk2⟩ := ST.first_ok _ _ h1
      rw [ByteArray.size_extract] at hk2
      rw [hk]
      simp only [Int.toNat_natCast, if_true]
      by_cases hc : f (s.extract a (a + k)) = 0
      · rw [if_pos hc]
        obtain ⟨i1, i2, i3⟩ := thr_ends s m f u (a + k) (by omega)
        refine ⟨by simp only [List.length_cons]; omega, i2, fun b hb => ?_⟩
        rcases List.mem_cons.1 hb with rfl | hb
        · rw [ByteArray.size_extract]; omega
        · exact i3 b hb
      · rw [if_neg hc]
        exact ⟨by simp, h, fun b hb => by cases hb⟩
    · rw [if_neg h1]
      exact ⟨by simp, h, fun b hb => by cases hb⟩
theorem fed_ends (m : Int) (U : ByteArray) : 2 * (ST.fed m U).1.length + (ST.left m U).length ≤ U.size ∧ ∀ b ∈ (ST.fed m U).1, b.size ≤ U.size := by
  have e : ST.fed m U = ST.thr U m (fun b => (PK.getPk b).2) (U.size + 1) 0 := by unfold ST.fed; rfl
  obtain ⟨h1, h2, h3⟩ := thr_ends U m (fun b => (PK.getPk b).2) (U.size + 1) 0 (Nat.zero_le _)
  rw [← e] at h1 h2 h3
  refine ⟨?_, h3⟩
  unfold ST.left
  split
  · simp; omega
  · have h : ∀ X : ByteArray, X.data.toList.length = X.size := fun X => by rw [Array.length_toList]; rfl
    rw [h, ByteArray.size_extract]; omega
def putVs (l : List Pk) : List Value := l.map fun P => .string (PK.putS P)
theorem putVs_app (l : List Pk) (P : Pk) : putVs (l ++ [P]) = putVs l ++ [.string (PK.putS P)] := by simp [putVs]
/-- How told's loop over packets stands. -/
structure TiI (w wr w4 : World) (m : Int) (l : List UInt8) (c : Int) (done : List Pk) (out : Value) (wi : World) : Prop where
  fd : Fd w.heap.size m l c wi
  row : wi.ownsRow (w.heap.size + 1) 9 1 out done.length (putVs done)
  apart : ∀ g, out.ownBlock = some g → g < wr.heap.size ∨ w4.heap.size ≤ g
  range : ∀ i, wr.heap.size ≤ i → i < w4.heap.size → wi.heap[i]? = w4.heap[i]?
  size : w4.heap.size ≤ wi.heap.size
  below : Below w.heap.size w wi
theorem TiI.keep {w wr w4 : World} {m : Int} {l : List UInt8} {c : Int} {done : List Pk} {out : Value} {wi wi' : World} (h : TiI w wr w4 m l c done out wi) (hb : Below wi.heap.size wi wi') : TiI w wr w4 m l c done out wi' :=
  ⟨h.fd.below hb, own_below h.row hb, h.apart, fun i h1 h2 => (hb.block i (by have := h.size; omega)).trans (h.range i h1 h2), Nat.le_trans h.size hb.size, h.below.trans (hb.mono h.below.size)⟩
end Go.Proofs.YtlfgndhdifpngaaGreatDoor
