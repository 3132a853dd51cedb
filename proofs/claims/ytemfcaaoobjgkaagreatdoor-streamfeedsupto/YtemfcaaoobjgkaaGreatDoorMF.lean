/- Both Feeds, whatever came before; the regions of the law StreamFeeds that draw their order. (Written by wip/tools/gen_sf.py.); A region of the law StreamFeeds that draws its order: codes, lengths, what is left. (Written by wip/tools/gen_sf.py.); A region of the law StreamFeeds that draws its order: two packets out of two rows are the same. (Written by wip/tools/gen_sf.py.); StreamFeeds: bytes that come piece by piece are, at each piece, the document's packets, up to its code.; The laws' arguments, opened: rows of texts; what the bound on the bulk gives. -/
import Derived.Test.YtemfcaaoobjgkaaGreatDoorME
import Derived.Test.YtemfcaaoobjgkaaGreatDoorPkSmK6
import Derived.Test.YtemfcaaoobjgkaaGreatDoorRows
import Derived.Deep.Strs
import Derived.Deep.Slices
import Derived.ChangeOld
import Derived.OpenShut
import Derived.Lib.Strings
namespace Go.Proofs.YtemfcaaoobjgkaaGreatDoor
open Go.RowKit
namespace ST
def told (m : Int) (l : List UInt8) (c : Int) (s : ByteArray) : List ByteArray := if c = 0 then (fed m ⟨(l ++ s.data.toList).toArray⟩).1 else []
def nxC (m : Int) (l : List UInt8) (c : Int) (s : ByteArray) : Int := if c = 0 then (fed m ⟨(l ++ s.data.toList).toArray⟩).2.2 else c
def nxL (m : Int) (l : List UInt8) (c : Int) (s : ByteArray) : List UInt8 := if c = 0 then left m ⟨(l ++ s.data.toList).toArray⟩ else l
theorem first_c8 (s : ByteArray) (m : Int) : 0 ≤ (first s m).2 ∧ (first s m).2 ≤ 255 := by
  have hv := PR.vget_code s 1
  unfold first
  have z242 : 0 ≤ (242 : Int) ∧ (242 : Int) ≤ 255 := ⟨by decide, by decide⟩
  have z149 : 0 ≤ (149 : Int) ∧ (149 : Int) ≤ 255 := ⟨by decide, by decide⟩
  have z0 : 0 ≤ (0 : Int) ∧ (0 : Int) ≤ 255 := ⟨by decide, by decide⟩
  split
  · exact z242
  split
  · exact ⟨hv.1, Int.le_trans hv.2 (by decide)⟩
  split
  · exact z149
  split
  · exact z242
  · exact z0
theorem thr_c8 (s : ByteArray) (m : Int) : ∀ (u a : Nat), 0 ≤ (thr s m (fun b => (PK.getPk b).2) u a).2.2 ∧ (thr s m (fun b => (PK.getPk b).2) u a).2.2 ≤ 255
  | 0, _ => (⟨by decide, by decide⟩ : 0 ≤ (0 : Int) ∧ (0 : Int) ≤ 255)
  | u + 1, a => by
    have h1 := first_c8 (s.extract a s.size) m
    rw [thr]
    split
    · split
      · exact thr_c8 s m u _
      · exact getPk_c8 _
    · dsimp only
      split
      · exact (⟨by decide, by decide⟩ : 0 ≤ (0 : Int) ∧ (0 : Int) ≤ 255)
      · exact h1
theorem thr_mem (s : ByteArray) (m : Int) (f : ByteArray → Int) : ∀ (u a : Nat), ∀ b ∈ (thr s m f u a).1, b.size ≤ s.size
  | 0, _ => fun b hb => by cases hb
  | u + 1, a => by
    intro b hb
    rw [thr] at hb
    split at hb
    · split at hb
      · rcases List.mem_cons.1 hb with rfl | hb
        · rw [ByteArray.size_extract]; omega
        · exact thr_mem s m f u _ b hb
      · cases hb
    · cases hb
theorem join_eq (l : List UInt8) (s : ByteArray) : (⟨l.toArray⟩ ++ s : ByteArray) = ⟨(l ++ s.data.toList).toArray⟩ := by
  apply ByteArray.ext
  rw [ByteArray.data_append]
  apply Array.toList_inj.1
  simp
theorem leftB_eq (m : Int) (U : ByteArray) : leftB m U = ⟨(left m U).toArray⟩ := by
  unfold leftB left
  split
  · rfl
  · rw [Array.toArray_toList]
end ST
theorem own5_gr {r B : Nat} {P : Pk} {vc vp vw vs vf : Value} {w w' : World} (h : Own5 B P vc vp vw vs vf w) (hg : Gr r w w') (hr : r < B) : Own5 B P vc vp vw vs vf w' :=
  ⟨own_gr h.codes hg (row_ne h.codes hr), own_gr h.props hg (row_ne h.props hr), own_gr h.wprops hg (row_ne h.wprops hr), own_gr h.subs hg (row_ne h.subs hr), own_gr h.filters hg (row_ne h.filters hr)⟩
theorem PkRow.gr {r B : Nat} {v : Value} {L : List Pv} {w w' : World} (h : PkRow B v L w) (hg : Gr r w w') (hr : r < B) : PkRow B v L w' := ⟨own_gr h.row hg (row_ne h.row hr), fun x hx => own5_gr (h.own x hx) hg hr⟩
theorem Fd.gr {r q : Nat} {m : Int} {l : List UInt8} {c : Int} {w w' : World} (h : Fd r m l c w) (hg : Gr q w w') {cs : Array Value} (hq : w.heap[q]? = some (.cells cs 27 (0, 0))) : Fd r m l c w' := by
  have key : ∀ p, FdAt r m p l c w → FdAt r m p l c w' := fun p ⟨v, h1, h2, h3⟩ => by
    have hne : r ≠ q := fun e => by subst e; rw [h1] at hq; simp at hq
    refine ⟨v, (hg.block r (lt_heap h1) (fun e => hne (by injection e))).trans h1, h2.kept hg ?_, h3⟩
    cases hv : v.ownBlock with
    | none => exact .inl rfl
    | some g =>
      refine .inr (fun e => ?_)
      injection e with e
      subst e
      obtain ⟨cs2, fz2, h'⟩ := ownF_row h2 g hv
      rw [hq] at h'; simp at h'
  rcases h with h | h
  · exact .inl (key _ h)
  · exact .inr (key _ h)
/-- What the program's Feed answers, whatever came before. -/
def FuP (r : Nat) (m : Int) (l : List UInt8) (c : Int) (s : ByteArray) (w : World) (e : Ending) (w' : World) : Prop :=
  ∃ v L, e = .returned (.tuple #[v, .int .u8 (ST.nxC m l c s)]) ∧ PkRow w.heap.size v L w' ∧ L.map Pv.p = (ST.told m l c s).map (fun b => (PK.getPk b).1) ∧ Fd r m (ST.nxL m l c s) (ST.nxC m l c s) w' ∧ Kp r w w'
theorem feed_u (r : Nat) (m : Int) (l : List UInt8) (c : Int) (s : ByteArray) (w : World) (h : Fd r m l c w) (hsz : l.length + s.size ≤ 1900000) (hT : ∀ W, Below r w W → Tabs W) :
    Calls Tryz.prog 7 #[.pointer (some ⟨r, 0, none⟩), .string s] w (FuP r m l c s w) := by
  unfold FuP ST.nxC ST.nxL ST.told
  by_cases hc : c = 0
  · subst hc
    rw [if_pos rfl, if_pos rfl, if_pos rfl]
    exact feed_any r m l s w h hsz hT
  · rw [if_neg hc, if_neg hc, if_neg hc]
    refine (feed_over r m l c s w hc h).mono ?_
    rintro e w' ⟨rfl, b⟩
    exact ⟨_, [], rfl, ⟨own_nil _ _ _ _, fun _ h => by cases h⟩, rfl, h.below b, Kp.of_below (Nat.le_of_lt h.lt) b⟩
/-- What the document's Feed answers, whatever came before. -/
def RuP (r : Nat) (m : Int) (l : List UInt8) (c : Int) (s : ByteArray) (w : World) (e : Ending) (w' : World) : Prop :=
  ∃ v L, e = .returned (.tuple #[v, .int .i64 (ST.nxC m l c s)]) ∧ RkRow w.heap.size v L w' ∧ L.map Pv.p = (ST.told m l c s).map (fun b => (PK.getPk b).1) ∧ w'.heap[r]? = some (.cells (rdC m ⟨(ST.nxL m l c s).toArray⟩ (ST.nxC m l c s)) 27 (0, 0)) ∧ Gr r w w'
theorem rfeed_u (r : Nat) (m : Int) (l : List UInt8) (c : Int) (s : ByteArray) (w : World) (h : w.heap[r]? = some (.cells (rdC m ⟨l.toArray⟩ c) 27 (0, 0))) (hsz : l.length + s.size ≤ 1048576) :
    Calls Tryz.prog 8 #[.pointer (some ⟨r, 0, none⟩), .string s] w (RuP r m l c s w) := by
  unfold RuP ST.nxC ST.nxL ST.told
  by_cases hc : c = 0
  · subst hc
    rw [if_pos rfl, if_pos rfl, if_pos rfl]
    have h1 := rfeed_any r m ⟨l.toArray⟩ s w h (by have e : (⟨l.toArray⟩ : ByteArray).size = l.length := by simp [ByteArray.size]
                                                   omega)
    rw [ST.join_eq] at h1
    refine h1.mono ?_
    rintro e w' hh
    unfold RfP RfQ at hh
    rw [ST.leftB_eq] at hh
    exact hh
  · rw [if_neg hc, if_neg hc, if_neg hc]
    refine (rfeed_over r m _ c s w hc h).mono ?_
    rintro e w' ⟨rfl, b⟩
    exact ⟨_, [], rfl, ⟨own_nil _ _ _ _, fun _ h => by cases h⟩, rfl, (b.block _ (lt_heap h)).trans h, Gr.of_below b⟩
theorem flat_rt : ∀ (L : List Pv) (i : Nat) (x : Pv), L[i]? = some x → ∀ j v, x.rcells[j]? = some v → (L.flatMap Pv.rcells)[i * 26 + j]? = some v
  | [], i, x, h => by simp at h
  | y :: L, 0, x, h => by
    simp at h; subst h
    intro j v hv
    have hj : j < y.rcells.length := (List.getElem?_eq_some_iff.1 hv).1
    rw [Nat.zero_mul, Nat.zero_add, List.flatMap_cons, List.getElem?_append_left hj]
    exact hv
  | y :: L, i + 1, x, h => by
    intro j v hv
    have hy : y.rcells.length = 26 := rfl
    rw [List.flatMap_cons, show (i + 1) * 26 + j = 26 + (i * 26 + j) by omega, List.getElem?_append_right (by omega), hy, Nat.add_sub_cancel_left]
    exact flat_rt L i x (by simpa using h) j v hv
theorem flat_pt : ∀ (L : List Pv) (i : Nat) (x : Pv), L[i]? = some x → ∀ j v, x.cells[j]? = some v → (L.flatMap Pv.cells)[i * 26 + j]? = some v
  | [], i, x, h => by simp at h
  | y :: L, 0, x, h => by
    simp at h; subst h
    intro j v hv
    have hj : j < y.cells.length := (List.getElem?_eq_some_iff.1 hv).1
    rw [Nat.zero_mul, Nat.zero_add, List.flatMap_cons, List.getElem?_append_left hj]
    exact hv
  | y :: L, i + 1, x, h => by
    intro j v hv
    have hy : y.cells.length = 26 := rfl
    rw [List.flatMap_cons, show (i + 1) * 26 + j = 26 + (i * 26 + j) by omega, List.getElem?_append_right (by omega), hy, Nat.add_sub_cancel_left]
    exact flat_pt L i x (by simpa using h) j v hv
/-- A packet's cells in a row. -/
theorem PkRow.at {B n cap : Nat} {A : Option Addr} {L : List Pv} {w : World} (h : PkRow B (.slice A n cap) L w) (hn : n = L.length) {i : Nat} {x : Pv} (hx : L[i]? = some x) : ∃ g, A = some ⟨g, 0, none⟩ ∧ g < w.heap.size ∧ ∀ (j : Nat) v, (pkCells x.p x.vc x.vp x.vw x.vs x.vf).toList[j]? = some v → w.cell? ⟨g, i * 26 + j, none⟩ = some v := by
  subst hn
  have hi := (List.getElem?_eq_some_iff.1 hx).1
  obtain ⟨g, c', hv, hg, hg'⟩ := h.row.form (by omega)
  injection hv with hv _ _
  subst hv
  refine ⟨g, rfl, hg', fun j v hj => ?_⟩
  rw [← add0]
  exact h.row.cells (g := g) rfl _ _ (flat_pt L i x hx j v hj)
theorem RkRow.at {B n cap : Nat} {A : Option Addr} {L : List Pv} {w : World} (h : RkRow B (.slice A n cap) L w) (hn : n = L.length) {i : Nat} {x : Pv} (hx : L[i]? = some x) : ∃ g, A = some ⟨g, 0, none⟩ ∧ g < w.heap.size ∧ ∀ (j : Nat) v, (rkCells x.p x.vc x.vp x.vw x.vs x.vf).toList[j]? = some v → w.cell? ⟨g, i * 26 + j, none⟩ = some v := by
  subst hn
  have hi := (List.getElem?_eq_some_iff.1 hx).1
  obtain ⟨g, c', hv, hg, hg'⟩ := h.row.form (by omega)
  injection hv with hv _ _
  subst hv
  refine ⟨g, rfl, hg', fun j v hj => ?_⟩
  rw [← add0]
  exact h.row.cells (g := g) rfl _ _ (flat_rt L i x hx j v hj)
section
variable {P : Program} {ops : Array Oper} {Q : Exit → Act → World → Prop} {md : Region.Mode} {S : World → Prop} {T : Nat}
theorem yielded_of {j d : Nat} {o : Oper} {a : Act} {b : Bool} (ho : ops[j]? = some o) (hd : o.dst = some d) (hs : d < a.tmps.size) (he : a.eval (.tmp d) = .bool b) : yielded ops a.tmps j = some b := by
  have h1 : a.tmps[d]? = some (.bool b) := by
    have h2 : a.tmps.getD d undef = .bool b := he
    rw [Array.getD_eq_getD_getElem?] at h2
    rw [Array.getElem?_eq_getElem hs] at h2 ⊢
    simpa using h2
  unfold yielded
  rw [ho]
  simp only [Option.bind_some, hd, h1]
theorem wanted_of {o : Oper} {a : Act} {j : Nat} {b : Bool} (hg : o.guard = some (j, b)) (hy : yielded ops a.tmps j = some b) : Region.wanted o (yielded ops a.tmps) = true := by
  unfold Region.wanted
  rw [hg]
  show (yielded ops a.tmps j == some b) = true
  rw [hy]
  cases b <;> rfl
/-- Take number i first, if its guard says yes. -/
theorem wpAnyT_takeW (i c : Nat) {oi : Oper} {v : Value} {fuel : Nat} {listed : Array Bool} {a : Act} {w : World} (hi : ops[i]? = some oi) (hw : Region.wanted oi (yielded ops a.tmps) = true)
    (hs : Region.noSelect ops = true) (hf : Region.free md ops listed i = true) (hr : (Region.ready md ops listed).contains i = true) (hg : gateB md ops T c i = true) (hcu : closedB md ops listed = true)
    (hQ : ∀ c a w, Q (.panic c) (a.put oi.dst v) w → Q (.panic c) a w) (hy : ∀ w, S w → (execOp a.eval oi).run P w = .ok (.value v) w) (hS : S w)
    (h : wpAnyT P md ops Q S T fuel (listed.setIfInBounds i true) (a.put oi.dst v) w) : wpAnyT P md ops Q S T (fuel + 1) listed a w :=
  wpAnyT_first hi (Region.noSelect_spec hs) hQ hg fuel listed a w (Region.free_spec hi hf) (by simpa using hr) (closedB_spec hcu) (.inl ⟨hw, hy⟩) hS h
end
theorem opW_call {ops : Array Oper} {Q : Exit → Act → World → Prop} {i : Nat} {o : Oper} {K : Act → World → Prop} {a : Act} {w w1 : World} {f : FuncId} {args : Array Value} {R : Ending → World → Prop} (ho : ops[i]? = some o) (hw : Region.wanted o (yielded ops a.tmps) = true)
    (hrun : (execOp a.eval o).run Tryz.prog w = .ok (.enter f args) w1) (hc : Calls Tryz.prog f args w1 R) (hR : ∀ e w', R e w' → ∃ v, e = .returned v ∧ K (a.put o.dst v) w') : wpOp Tryz.prog ops Q i K a w := by
  unfold wpOp
  simp only [ho]
  rw [if_pos hw]
  refine .inl ?_
  unfold Oper.wp
  rw [hrun, Oper.upon_enter]
  refine hc.mono fun e w' h => ?_
  obtain ⟨v, rfl, hk⟩ := hR e w' h
  exact hk
theorem left_enters (args : Array Value) (W : World) : (callFunc 9 args).run Tryz.prog W = .ok (.enter 9 args) W := enters_of Tryz.func9 (by kernel_rfl) rfl args W
theorem same_enters (args : Array Value) (W : World) : (callFunc 10 args).run Tryz.prog W = .ok (.enter 10 args) W := enters_of Tryz.func10 (by kernel_rfl) rfl args W
end Go.Proofs.YtemfcaaoobjgkaaGreatDoor
namespace Go.Proofs.YtemfcaaoobjgkaaGreatDoor
open Go.RowKit
set_option linter.unusedSimpArgs false in
set_option linter.unusedVariables false in
set_option maxHeartbeats 8000000 in
set_option maxRecDepth 100000 in
theorem rg_nine_end {Q : Exit → Act → World → Prop} (hQ : ∀ c d v a w, Q (.panic c) (a.put d v) w → Q (.panic c) a w) (ops : Array Oper) (hops : Tryz.f3.body.bind (findR 9) = some ops)
    (a : Act) (hsz : a.tmps.size = 80) (r q : Nat) (c : Int) (m : Int) (l : List UInt8) (e54 : a.eval (.tmp 54) = .bool false) (e55 : a.eval (.tmp 55) = .pointer (some ⟨r, 0, none⟩)) (e60 : a.eval (.tmp 60) = .string ⟨l.toArray⟩)
    (W : World) (hF : Fd r m l c W) (hq : W.heap[q]? = some (.cells (rdC m ⟨l.toArray⟩ c) 27 (0, 0))) (hrq : q ≠ r) (hl : l.length ≤ 281474976710656)
    (hK : ∀ w', Kp r W w' ∧ Fd r m l c w' ∧ w'.heap[q]? = some (.cells (rdC m ⟨l.toArray⟩ c) 27 (0, 0)) → Q .normal (((a.put (some 56) (.string ⟨l.toArray⟩)).put (some 61) (.bool false)).put (some 62) (.bool false)) w')
    (listed : Array Bool) (hli : listed = #[true, true, true, true, true, true, true, true, true, true, true, true, true, false, true, true, true, true, false, false]) :
    wpAnyT Tryz.prog .any ops Q (fun w' : World => Kp r W w' ∧ Fd r m l c w' ∧ w'.heap[q]? = some (.cells (rdC m ⟨l.toArray⟩ c) 27 (0, 0))) 20 3 listed a W := by
  conv at hops => lhs; whnf
  obtain rfl := Option.some.inj hops
  clear hops
  subst hli
  have t55 : a.tmps[55]'(by rw [hsz]; decide) = .pointer (some ⟨r, 0, none⟩) := by
    have h2 : a.tmps.getD 55 undef = _ := e55
    rw [Array.getD_eq_getD_getElem?, Array.getElem?_eq_getElem (by rw [hsz]; decide)] at h2
    simpa using h2
  refine wpAnyT_one 13 (by kernel_rfl) ?_
  refine opW_call (f := 9) (args := #[.pointer (some ⟨r, 0, none⟩)]) (w1 := W) (by rfl) (wanted_of (by rfl) (yielded_of (j := 11) (d := 54) (by rfl) (by rfl) (by simp only [put_sz, hsz]; decide) e54)) (by show Sem.run _ (execOp _ ⟨_, .call { callee := .value (.func 9), args := #[.tmp 55], argTypes := #[23] }, _, _, _, _⟩) _ = _; unfold execOp; have e1 := left_enters; simp only [List.map_toArray, List.map_cons, List.map_nil, show a.eval (.tmp 55) = _ from e55]; go_simp; try exact t55) (left_any r m l c W hF hl) ?_
  rintro e w1 ⟨rfl, f1, k1⟩
  have S1 : (fun w' : World => Kp r W w' ∧ Fd r m l c w' ∧ w'.heap[q]? = some (.cells (rdC m ⟨l.toArray⟩ c) 27 (0, 0))) w1 := ⟨k1, f1, k1.block hq hrq (by decide)⟩
  refine ⟨_, rfl, fun _ => S1, ?_⟩
  change wpAnyT _ _ _ _ _ _ _ _ (a.put (some 56) (.string ⟨l.toArray⟩)) _
  refine wpAnyT_takeW 18 18 (v := (.bool false)) (by rfl) (wanted_of (by rfl) (yielded_of (j := 11) (d := 54) (by rfl) (by rfl) (by simp only [put_sz, hsz]; decide) ((ev_ne (by decide)).trans e54))) (by kernel_rfl) (by kernel_rfl) (by kernel_rfl) (by kernel_rfl) (by kernel_rfl) (fun _ _ _ h => hQ _ _ _ _ _ h) (fun w hSw => (by show Sem.run _ (execOp _ ⟨_, .binOp .neq 9 (.tmp 56) (.tmp 60) 9, _, _, _, _⟩) _ = _; unfold execOp; simp only [show (a.put (some 56) (.string ⟨l.toArray⟩)).eval (.tmp 56) = _ from (ev_same (by simp only [put_sz, hsz]; decide)), show (a.put (some 56) (.string ⟨l.toArray⟩)).eval (.tmp 60) = _ from ((ev_ne (by decide)).trans e60)]; go_simp)) S1 ?_
  change wpAnyT _ _ _ _ _ _ _ _ ((a.put (some 56) (.string ⟨l.toArray⟩)).put (some 61) (.bool false)) _
  refine wpAnyT_take 19 19 (v := (.bool false)) (by rfl) (by rfl) (by kernel_rfl) (by kernel_rfl) (by kernel_rfl) (by kernel_rfl) (by kernel_rfl) (fun _ _ _ h => hQ _ _ _ _ _ h) (fun w hSw => (by show Sem.run _ (execOp _ ⟨_, .pick (.tmp 54) (.const (.bool true)) (.tmp 61), _, _, _, _⟩) _ = _; unfold execOp; simp only [show ((a.put (some 56) (.string ⟨l.toArray⟩)).put (some 61) (.bool false)).eval (.tmp 54) = _ from ((ev_ne (by decide)).trans ((ev_ne (by decide)).trans e54)), show ((a.put (some 56) (.string ⟨l.toArray⟩)).put (some 61) (.bool false)).eval (.tmp 61) = _ from (ev_same (by simp only [put_sz, hsz]; decide))]; go_simp)) S1 ?_
  change wpAnyT _ _ _ _ _ _ _ _ (((a.put (some 56) (.string ⟨l.toArray⟩)).put (some 61) (.bool false)).put (some 62) (.bool false)) _
  exact wpAnyT_done (by kernel_rfl) (hK w1 S1)
set_option linter.unusedSimpArgs false in
set_option linter.unusedVariables false in
set_option maxHeartbeats 8000000 in
set_option maxRecDepth 100000 in
theorem rg_nine {Q : Exit → Act → World → Prop} (hQ : ∀ c d v a w, Q (.panic c) (a.put d v) w → Q (.panic c) a w) (ops : Array Oper) (hops : Tryz.f3.body.bind (findR 9) = some ops)
    (a : Act) (hsz : a.tmps.size = 80) (r q : Nat) (c : Int) (hc8 : 0 ≤ c ∧ c ≤ 255) (n cap cap' : Nat) (A A' : Option Addr) (h5 : a.eval (.tmp 5) = .pointer (some ⟨r, 0, none⟩)) (h6 : a.eval (.tmp 6) = .pointer (some ⟨q, 0, none⟩)) (h9 : a.eval (.tmp 9) = .slice A n cap) (h10 : a.eval (.tmp 10) = .int .u8 c) (h11 : a.eval (.tmp 11) = .slice A' n cap') (h12 : a.eval (.tmp 12) = .int .i64 c)
    (W : World) (m : Int) (l : List UInt8) (hF : Fd r m l c W) (hq : W.heap[q]? = some (.cells (rdC m ⟨l.toArray⟩ c) 27 (0, 0))) (hl : l.length ≤ 281474976710656)
    (hK : ∀ w', Kp r W w' ∧ Fd r m l c w' ∧ w'.heap[q]? = some (.cells (rdC m ⟨l.toArray⟩ c) 27 (0, 0)) → Q .normal ((((((((((((((((((((a.put (some 43) (.int .u8 c)).put (some 44) (.int .i64 c)).put (some 45) (.int .i64 c)).put (some 46) (.bool false)).put (some 47) (.bool false)).put (some 48) (.slice A n cap)).put (some 49) (.int .i64 (n : Int))).put (some 50) (.slice A' n cap')).put (some 51) (.int .i64 (n : Int))).put (some 52) (.bool false)).put (some 53) (.bool false)).put (some 54) (.bool false)).put (some 55) (.pointer (some ⟨r, 0, none⟩))).put (some 57) (.pointer (some ⟨q, 0, none⟩))).put (some 58) (.pointer (some ⟨q, 0, none⟩))).put (some 59) (.pointer (some ⟨q, 1, none⟩))).put (some 60) (.string ⟨l.toArray⟩)).put (some 56) (.string ⟨l.toArray⟩)).put (some 61) (.bool false)).put (some 62) (.bool false)) w') :
    wpAnyT Tryz.prog .any ops Q (fun w' : World => Kp r W w' ∧ Fd r m l c w' ∧ w'.heap[q]? = some (.cells (rdC m ⟨l.toArray⟩ c) 27 (0, 0))) 20 ops.size (Array.replicate ops.size false) a W := by
  have hops' := hops
  conv at hops => lhs; whnf
  obtain rfl := Option.some.inj hops
  clear hops
  have S0 : (fun w' : World => Kp r W w' ∧ Fd r m l c w' ∧ w'.heap[q]? = some (.cells (rdC m ⟨l.toArray⟩ c) 27 (0, 0))) W := ⟨Kp.refl _ _, hF, hq⟩
  have ec : IntKind.i64.wrap c = c := i64_byte hc8
  have hrq : q ≠ r := fun e => by
    subst e
    rcases hF with ⟨v, h1, _⟩ | ⟨v, h1, _⟩ <;> (rw [h1] at hq; simp at hq)
  change wpAnyT _ _ _ _ _ _ 20 (Array.replicate 20 false) _ _
  refine wpAnyT_take 0 0 (v := (.int .u8 c)) (by rfl) (by rfl) (by kernel_rfl) (by kernel_rfl) (by kernel_rfl) (by kernel_rfl) (by kernel_rfl) (fun _ _ _ h => hQ _ _ _ _ _ h) (fun w hSw => (by show Sem.run _ (execOp _ ⟨_, .move (.tmp 10), _, _, _, _⟩) _ = _; unfold execOp; simp only [show a.eval (.tmp 10) = _ from h10]; go_simp)) S0 ?_
  change wpAnyT _ _ _ _ _ _ _ _ (a.put (some 43) (.int .u8 c)) _
  refine wpAnyT_take 1 1 (v := (.int .i64 c)) (by rfl) (by rfl) (by kernel_rfl) (by kernel_rfl) (by kernel_rfl) (by kernel_rfl) (by kernel_rfl) (fun _ _ _ h => hQ _ _ _ _ _ h) (fun w hSw => (by show Sem.run _ (execOp _ ⟨_, .convert 30 3 (.tmp 43), _, _, _, _⟩) _ = _; unfold execOp; simp only [show (a.put (some 43) (.int .u8 c)).eval (.tmp 43) = _ from (ev_same (by simp only [put_sz, hsz]; decide))]; go_simp; try simp [ec])) S0 ?_
  change wpAnyT _ _ _ _ _ _ _ _ ((a.put (some 43) (.int .u8 c)).put (some 44) (.int .i64 c)) _
  refine wpAnyT_take 2 2 (v := (.int .i64 c)) (by rfl) (by rfl) (by kernel_rfl) (by kernel_rfl) (by kernel_rfl) (by kernel_rfl) (by kernel_rfl) (fun _ _ _ h => hQ _ _ _ _ _ h) (fun w hSw => (by show Sem.run _ (execOp _ ⟨_, .move (.tmp 12), _, _, _, _⟩) _ = _; unfold execOp; simp only [show ((a.put (some 43) (.int .u8 c)).put (some 44) (.int .i64 c)).eval (.tmp 12) = _ from ((ev_ne (by decide)).trans ((ev_ne (by decide)).trans h12))]; go_simp)) S0 ?_
  change wpAnyT _ _ _ _ _ _ _ _ (((a.put (some 43) (.int .u8 c)).put (some 44) (.int .i64 c)).put (some 45) (.int .i64 c)) _
  refine wpAnyT_take 3 3 (v := (.bool false)) (by rfl) (by rfl) (by kernel_rfl) (by kernel_rfl) (by kernel_rfl) (by kernel_rfl) (by kernel_rfl) (fun _ _ _ h => hQ _ _ _ _ _ h) (fun w hSw => (by show Sem.run _ (execOp _ ⟨_, .binOp .neq 3 (.tmp 44) (.tmp 45) 3, _, _, _, _⟩) _ = _; unfold execOp; simp only [show (((a.put (some 43) (.int .u8 c)).put (some 44) (.int .i64 c)).put (some 45) (.int .i64 c)).eval (.tmp 44) = _ from ((ev_ne (by decide)).trans (ev_same (by simp only [put_sz, hsz]; decide))), show (((a.put (some 43) (.int .u8 c)).put (some 44) (.int .i64 c)).put (some 45) (.int .i64 c)).eval (.tmp 45) = _ from (ev_same (by simp only [put_sz, hsz]; decide))]; go_simp)) S0 ?_
  change wpAnyT _ _ _ _ _ _ _ _ ((((a.put (some 43) (.int .u8 c)).put (some 44) (.int .i64 c)).put (some 45) (.int .i64 c)).put (some 46) (.bool false)) _
  refine wpAnyT_take 4 4 (v := (.bool false)) (by rfl) (by rfl) (by kernel_rfl) (by kernel_rfl) (by kernel_rfl) (by kernel_rfl) (by kernel_rfl) (fun _ _ _ h => hQ _ _ _ _ _ h) (fun w hSw => (by show Sem.run _ (execOp _ ⟨_, .move (.tmp 46), _, _, _, _⟩) _ = _; unfold execOp; simp only [show ((((a.put (some 43) (.int .u8 c)).put (some 44) (.int .i64 c)).put (some 45) (.int .i64 c)).put (some 46) (.bool false)).eval (.tmp 46) = _ from (ev_same (by simp only [put_sz, hsz]; decide))]; go_simp)) S0 ?_
  change wpAnyT _ _ _ _ _ _ _ _ (((((a.put (some 43) (.int .u8 c)).put (some 44) (.int .i64 c)).put (some 45) (.int .i64 c)).put (some 46) (.bool false)).put (some 47) (.bool false)) _
  refine wpAnyT_takeW 5 5 (v := (.slice A n cap)) (by rfl) (wanted_of (by rfl) (yielded_of (j := 4) (d := 47) (by rfl) (by rfl) (by simp only [put_sz, hsz]; decide) (ev_same (by simp only [put_sz, hsz]; decide)))) (by kernel_rfl) (by kernel_rfl) (by kernel_rfl) (by kernel_rfl) (by kernel_rfl) (fun _ _ _ h => hQ _ _ _ _ _ h) (fun w hSw => (by show Sem.run _ (execOp _ ⟨_, .move (.tmp 9), _, _, _, _⟩) _ = _; unfold execOp; simp only [show (((((a.put (some 43) (.int .u8 c)).put (some 44) (.int .i64 c)).put (some 45) (.int .i64 c)).put (some 46) (.bool false)).put (some 47) (.bool false)).eval (.tmp 9) = _ from ((ev_ne (by decide)).trans ((ev_ne (by decide)).trans ((ev_ne (by decide)).trans ((ev_ne (by decide)).trans ((ev_ne (by decide)).trans h9)))))]; go_simp)) S0 ?_
  change wpAnyT _ _ _ _ _ _ _ _ ((((((a.put (some 43) (.int .u8 c)).put (some 44) (.int .i64 c)).put (some 45) (.int .i64 c)).put (some 46) (.bool false)).put (some 47) (.bool false)).put (some 48) (.slice A n cap)) _
  refine wpAnyT_takeW 6 6 (v := (.int .i64 (n : Int))) (by rfl) (wanted_of (by rfl) (yielded_of (j := 4) (d := 47) (by rfl) (by rfl) (by simp only [put_sz, hsz]; decide) ((ev_ne (by decide)).trans (ev_same (by simp only [put_sz, hsz]; decide))))) (by kernel_rfl) (by kernel_rfl) (by kernel_rfl) (by kernel_rfl) (by kernel_rfl) (fun _ _ _ h => hQ _ _ _ _ _ h) (fun w hSw => (by show Sem.run _ (execOp _ ⟨_, .call { callee := .builtin .len, args := #[.tmp 48], argTypes := #[29] }, _, _, _, _⟩) _ = _; unfold execOp; simp only [List.map_toArray, List.map_cons, List.map_nil, show ((((((a.put (some 43) (.int .u8 c)).put (some 44) (.int .i64 c)).put (some 45) (.int .i64 c)).put (some 46) (.bool false)).put (some 47) (.bool false)).put (some 48) (.slice A n cap)).eval (.tmp 48) = _ from (ev_same (by simp only [put_sz, hsz]; decide))]; go_simp)) S0 ?_
  change wpAnyT _ _ _ _ _ _ _ _ (((((((a.put (some 43) (.int .u8 c)).put (some 44) (.int .i64 c)).put (some 45) (.int .i64 c)).put (some 46) (.bool false)).put (some 47) (.bool false)).put (some 48) (.slice A n cap)).put (some 49) (.int .i64 (n : Int))) _
  refine wpAnyT_takeW 7 7 (v := (.slice A' n cap')) (by rfl) (wanted_of (by rfl) (yielded_of (j := 4) (d := 47) (by rfl) (by rfl) (by simp only [put_sz, hsz]; decide) ((ev_ne (by decide)).trans ((ev_ne (by decide)).trans (ev_same (by simp only [put_sz, hsz]; decide)))))) (by kernel_rfl) (by kernel_rfl) (by kernel_rfl) (by kernel_rfl) (by kernel_rfl) (fun _ _ _ h => hQ _ _ _ _ _ h) (fun w hSw => (by show Sem.run _ (execOp _ ⟨_, .move (.tmp 11), _, _, _, _⟩) _ = _; unfold execOp; simp only [show (((((((a.put (some 43) (.int .u8 c)).put (some 44) (.int .i64 c)).put (some 45) (.int .i64 c)).put (some 46) (.bool false)).put (some 47) (.bool false)).put (some 48) (.slice A n cap)).put (some 49) (.int .i64 (n : Int))).eval (.tmp 11) = _ from ((ev_ne (by decide)).trans ((ev_ne (by decide)).trans ((ev_ne (by decide)).trans ((ev_ne (by decide)).trans ((ev_ne (by decide)).trans ((ev_ne (by decide)).trans ((ev_ne (by decide)).trans h11)))))))]; go_simp)) S0 ?_
  change wpAnyT _ _ _ _ _ _ _ _ ((((((((a.put (some 43) (.int .u8 c)).put (some 44) (.int .i64 c)).put (some 45) (.int .i64 c)).put (some 46) (.bool false)).put (some 47) (.bool false)).put (some 48) (.slice A n cap)).put (some 49) (.int .i64 (n : Int))).put (some 50) (.slice A' n cap')) _
  refine wpAnyT_takeW 8 8 (v := (.int .i64 (n : Int))) (by rfl) (wanted_of (by rfl) (yielded_of (j := 4) (d := 47) (by rfl) (by rfl) (by simp only [put_sz, hsz]; decide) ((ev_ne (by decide)).trans ((ev_ne (by decide)).trans ((ev_ne (by decide)).trans (ev_same (by simp only [put_sz, hsz]; decide))))))) (by kernel_rfl) (by kernel_rfl) (by kernel_rfl) (by kernel_rfl) (by kernel_rfl) (fun _ _ _ h => hQ _ _ _ _ _ h) (fun w hSw => (by show Sem.run _ (execOp _ ⟨_, .call { callee := .builtin .len, args := #[.tmp 50], argTypes := #[33] }, _, _, _, _⟩) _ = _; unfold execOp; simp only [List.map_toArray, List.map_cons, List.map_nil, show ((((((((a.put (some 43) (.int .u8 c)).put (some 44) (.int .i64 c)).put (some 45) (.int .i64 c)).put (some 46) (.bool false)).put (some 47) (.bool false)).put (some 48) (.slice A n cap)).put (some 49) (.int .i64 (n : Int))).put (some 50) (.slice A' n cap')).eval (.tmp 50) = _ from (ev_same (by simp only [put_sz, hsz]; decide))]; go_simp)) S0 ?_
  change wpAnyT _ _ _ _ _ _ _ _ (((((((((a.put (some 43) (.int .u8 c)).put (some 44) (.int .i64 c)).put (some 45) (.int .i64 c)).put (some 46) (.bool false)).put (some 47) (.bool false)).put (some 48) (.slice A n cap)).put (some 49) (.int .i64 (n : Int))).put (some 50) (.slice A' n cap')).put (some 51) (.int .i64 (n : Int))) _
  refine wpAnyT_takeW 9 9 (v := (.bool false)) (by rfl) (wanted_of (by rfl) (yielded_of (j := 4) (d := 47) (by rfl) (by rfl) (by simp only [put_sz, hsz]; decide) ((ev_ne (by decide)).trans ((ev_ne (by decide)).trans ((ev_ne (by decide)).trans ((ev_ne (by decide)).trans (ev_same (by simp only [put_sz, hsz]; decide)))))))) (by kernel_rfl) (by kernel_rfl) (by kernel_rfl) (by kernel_rfl) (by kernel_rfl) (fun _ _ _ h => hQ _ _ _ _ _ h) (fun w hSw => (by show Sem.run _ (execOp _ ⟨_, .binOp .neq 3 (.tmp 49) (.tmp 51) 3, _, _, _, _⟩) _ = _; unfold execOp; simp only [show (((((((((a.put (some 43) (.int .u8 c)).put (some 44) (.int .i64 c)).put (some 45) (.int .i64 c)).put (some 46) (.bool false)).put (some 47) (.bool false)).put (some 48) (.slice A n cap)).put (some 49) (.int .i64 (n : Int))).put (some 50) (.slice A' n cap')).put (some 51) (.int .i64 (n : Int))).eval (.tmp 49) = _ from ((ev_ne (by decide)).trans ((ev_ne (by decide)).trans (ev_same (by simp only [put_sz, hsz]; decide)))), show (((((((((a.put (some 43) (.int .u8 c)).put (some 44) (.int .i64 c)).put (some 45) (.int .i64 c)).put (some 46) (.bool false)).put (some 47) (.bool false)).put (some 48) (.slice A n cap)).put (some 49) (.int .i64 (n : Int))).put (some 50) (.slice A' n cap')).put (some 51) (.int .i64 (n : Int))).eval (.tmp 51) = _ from (ev_same (by simp only [put_sz, hsz]; decide))]; go_simp)) S0 ?_
  change wpAnyT _ _ _ _ _ _ _ _ ((((((((((a.put (some 43) (.int .u8 c)).put (some 44) (.int .i64 c)).put (some 45) (.int .i64 c)).put (some 46) (.bool false)).put (some 47) (.bool false)).put (some 48) (.slice A n cap)).put (some 49) (.int .i64 (n : Int))).put (some 50) (.slice A' n cap')).put (some 51) (.int .i64 (n : Int))).put (some 52) (.bool false)) _
  refine wpAnyT_take 10 10 (v := (.bool false)) (by rfl) (by rfl) (by kernel_rfl) (by kernel_rfl) (by kernel_rfl) (by kernel_rfl) (by kernel_rfl) (fun _ _ _ h => hQ _ _ _ _ _ h) (fun w hSw => (by show Sem.run _ (execOp _ ⟨_, .pick (.tmp 47) (.const (.bool true)) (.tmp 52), _, _, _, _⟩) _ = _; unfold execOp; simp only [show ((((((((((a.put (some 43) (.int .u8 c)).put (some 44) (.int .i64 c)).put (some 45) (.int .i64 c)).put (some 46) (.bool false)).put (some 47) (.bool false)).put (some 48) (.slice A n cap)).put (some 49) (.int .i64 (n : Int))).put (some 50) (.slice A' n cap')).put (some 51) (.int .i64 (n : Int))).put (some 52) (.bool false)).eval (.tmp 47) = _ from ((ev_ne (by decide)).trans ((ev_ne (by decide)).trans ((ev_ne (by decide)).trans ((ev_ne (by decide)).trans ((ev_ne (by decide)).trans (ev_same (by simp only [put_sz, hsz]; decide))))))), show ((((((((((a.put (some 43) (.int .u8 c)).put (some 44) (.int .i64 c)).put (some 45) (.int .i64 c)).put (some 46) (.bool false)).put (some 47) (.bool false)).put (some 48) (.slice A n cap)).put (some 49) (.int .i64 (n : Int))).put (some 50) (.slice A' n cap')).put (some 51) (.int .i64 (n : Int))).put (some 52) (.bool false)).eval (.tmp 52) = _ from (ev_same (by simp only [put_sz, hsz]; decide))]; go_simp)) S0 ?_
  change wpAnyT _ _ _ _ _ _ _ _ (((((((((((a.put (some 43) (.int .u8 c)).put (some 44) (.int .i64 c)).put (some 45) (.int .i64 c)).put (some 46) (.bool false)).put (some 47) (.bool false)).put (some 48) (.slice A n cap)).put (some 49) (.int .i64 (n : Int))).put (some 50) (.slice A' n cap')).put (some 51) (.int .i64 (n : Int))).put (some 52) (.bool false)).put (some 53) (.bool false)) _
  refine wpAnyT_take 11 11 (v := (.bool false)) (by rfl) (by rfl) (by kernel_rfl) (by kernel_rfl) (by kernel_rfl) (by kernel_rfl) (by kernel_rfl) (fun _ _ _ h => hQ _ _ _ _ _ h) (fun w hSw => (by show Sem.run _ (execOp _ ⟨_, .move (.tmp 53), _, _, _, _⟩) _ = _; unfold execOp; simp only [show (((((((((((a.put (some 43) (.int .u8 c)).put (some 44) (.int .i64 c)).put (some 45) (.int .i64 c)).put (some 46) (.bool false)).put (some 47) (.bool false)).put (some 48) (.slice A n cap)).put (some 49) (.int .i64 (n : Int))).put (some 50) (.slice A' n cap')).put (some 51) (.int .i64 (n : Int))).put (some 52) (.bool false)).put (some 53) (.bool false)).eval (.tmp 53) = _ from (ev_same (by simp only [put_sz, hsz]; decide))]; go_simp)) S0 ?_
  change wpAnyT _ _ _ _ _ _ _ _ ((((((((((((a.put (some 43) (.int .u8 c)).put (some 44) (.int .i64 c)).put (some 45) (.int .i64 c)).put (some 46) (.bool false)).put (some 47) (.bool false)).put (some 48) (.slice A n cap)).put (some 49) (.int .i64 (n : Int))).put (some 50) (.slice A' n cap')).put (some 51) (.int .i64 (n : Int))).put (some 52) (.bool false)).put (some 53) (.bool false)).put (some 54) (.bool false)) _
  refine wpAnyT_takeW 12 12 (v := (.pointer (some ⟨r, 0, none⟩))) (by rfl) (wanted_of (by rfl) (yielded_of (j := 11) (d := 54) (by rfl) (by rfl) (by simp only [put_sz, hsz]; decide) (ev_same (by simp only [put_sz, hsz]; decide)))) (by kernel_rfl) (by kernel_rfl) (by kernel_rfl) (by kernel_rfl) (by kernel_rfl) (fun _ _ _ h => hQ _ _ _ _ _ h) (fun w hSw => (by show Sem.run _ (execOp _ ⟨_, .move (.tmp 5), _, _, _, _⟩) _ = _; unfold execOp; simp only [show ((((((((((((a.put (some 43) (.int .u8 c)).put (some 44) (.int .i64 c)).put (some 45) (.int .i64 c)).put (some 46) (.bool false)).put (some 47) (.bool false)).put (some 48) (.slice A n cap)).put (some 49) (.int .i64 (n : Int))).put (some 50) (.slice A' n cap')).put (some 51) (.int .i64 (n : Int))).put (some 52) (.bool false)).put (some 53) (.bool false)).put (some 54) (.bool false)).eval (.tmp 5) = _ from ((ev_ne (by decide)).trans ((ev_ne (by decide)).trans ((ev_ne (by decide)).trans ((ev_ne (by decide)).trans ((ev_ne (by decide)).trans ((ev_ne (by decide)).trans ((ev_ne (by decide)).trans ((ev_ne (by decide)).trans ((ev_ne (by decide)).trans ((ev_ne (by decide)).trans ((ev_ne (by decide)).trans ((ev_ne (by decide)).trans h5))))))))))))]; go_simp)) S0 ?_
  change wpAnyT _ _ _ _ _ _ _ _ (((((((((((((a.put (some 43) (.int .u8 c)).put (some 44) (.int .i64 c)).put (some 45) (.int .i64 c)).put (some 46) (.bool false)).put (some 47) (.bool false)).put (some 48) (.slice A n cap)).put (some 49) (.int .i64 (n : Int))).put (some 50) (.slice A' n cap')).put (some 51) (.int .i64 (n : Int))).put (some 52) (.bool false)).put (some 53) (.bool false)).put (some 54) (.bool false)).put (some 55) (.pointer (some ⟨r, 0, none⟩))) _
  refine wpAnyT_takeW 14 14 (v := (.pointer (some ⟨q, 0, none⟩))) (by rfl) (wanted_of (by rfl) (yielded_of (j := 11) (d := 54) (by rfl) (by rfl) (by simp only [put_sz, hsz]; decide) ((ev_ne (by decide)).trans (ev_same (by simp only [put_sz, hsz]; decide))))) (by kernel_rfl) (by kernel_rfl) (by kernel_rfl) (by kernel_rfl) (by kernel_rfl) (fun _ _ _ h => hQ _ _ _ _ _ h) (fun w hSw => (by show Sem.run _ (execOp _ ⟨_, .move (.tmp 6), _, _, _, _⟩) _ = _; unfold execOp; simp only [show (((((((((((((a.put (some 43) (.int .u8 c)).put (some 44) (.int .i64 c)).put (some 45) (.int .i64 c)).put (some 46) (.bool false)).put (some 47) (.bool false)).put (some 48) (.slice A n cap)).put (some 49) (.int .i64 (n : Int))).put (some 50) (.slice A' n cap')).put (some 51) (.int .i64 (n : Int))).put (some 52) (.bool false)).put (some 53) (.bool false)).put (some 54) (.bool false)).put (some 55) (.pointer (some ⟨r, 0, none⟩))).eval (.tmp 6) = _ from ((ev_ne (by decide)).trans ((ev_ne (by decide)).trans ((ev_ne (by decide)).trans ((ev_ne (by decide)).trans ((ev_ne (by decide)).trans ((ev_ne (by decide)).trans ((ev_ne (by decide)).trans ((ev_ne (by decide)).trans ((ev_ne (by decide)).trans ((ev_ne (by decide)).trans ((ev_ne (by decide)).trans ((ev_ne (by decide)).trans ((ev_ne (by decide)).trans h6)))))))))))))]; go_simp)) S0 ?_
  change wpAnyT _ _ _ _ _ _ _ _ ((((((((((((((a.put (some 43) (.int .u8 c)).put (some 44) (.int .i64 c)).put (some 45) (.int .i64 c)).put (some 46) (.bool false)).put (some 47) (.bool false)).put (some 48) (.slice A n cap)).put (some 49) (.int .i64 (n : Int))).put (some 50) (.slice A' n cap')).put (some 51) (.int .i64 (n : Int))).put (some 52) (.bool false)).put (some 53) (.bool false)).put (some 54) (.bool false)).put (some 55) (.pointer (some ⟨r, 0, none⟩))).put (some 57) (.pointer (some ⟨q, 0, none⟩))) _
  refine wpAnyT_takeW 15 15 (v := (.pointer (some ⟨q, 0, none⟩))) (by rfl) (wanted_of (by rfl) (yielded_of (j := 11) (d := 54) (by rfl) (by rfl) (by simp only [put_sz, hsz]; decide) ((ev_ne (by decide)).trans ((ev_ne (by decide)).trans (ev_same (by simp only [put_sz, hsz]; decide)))))) (by kernel_rfl) (by kernel_rfl) (by kernel_rfl) (by kernel_rfl) (by kernel_rfl) (fun _ _ _ h => hQ _ _ _ _ _ h) (fun w hSw => (by show Sem.run _ (execOp _ ⟨_, .nilCheck (.tmp 57), _, _, _, _⟩) _ = _; unfold execOp; simp only [show ((((((((((((((a.put (some 43) (.int .u8 c)).put (some 44) (.int .i64 c)).put (some 45) (.int .i64 c)).put (some 46) (.bool false)).put (some 47) (.bool false)).put (some 48) (.slice A n cap)).put (some 49) (.int .i64 (n : Int))).put (some 50) (.slice A' n cap')).put (some 51) (.int .i64 (n : Int))).put (some 52) (.bool false)).put (some 53) (.bool false)).put (some 54) (.bool false)).put (some 55) (.pointer (some ⟨r, 0, none⟩))).put (some 57) (.pointer (some ⟨q, 0, none⟩))).eval (.tmp 57) = _ from (ev_same (by simp only [put_sz, hsz]; decide))]; go_simp)) S0 ?_
  change wpAnyT _ _ _ _ _ _ _ _ (((((((((((((((a.put (some 43) (.int .u8 c)).put (some 44) (.int .i64 c)).put (some 45) (.int .i64 c)).put (some 46) (.bool false)).put (some 47) (.bool false)).put (some 48) (.slice A n cap)).put (some 49) (.int .i64 (n : Int))).put (some 50) (.slice A' n cap')).put (some 51) (.int .i64 (n : Int))).put (some 52) (.bool false)).put (some 53) (.bool false)).put (some 54) (.bool false)).put (some 55) (.pointer (some ⟨r, 0, none⟩))).put (some 57) (.pointer (some ⟨q, 0, none⟩))).put (some 58) (.pointer (some ⟨q, 0, none⟩))) _
  refine wpAnyT_takeW 16 16 (v := (.pointer (some ⟨q, 1, none⟩))) (by rfl) (wanted_of (by rfl) (yielded_of (j := 11) (d := 54) (by rfl) (by rfl) (by simp only [put_sz, hsz]; decide) ((ev_ne (by decide)).trans ((ev_ne (by decide)).trans ((ev_ne (by decide)).trans (ev_same (by simp only [put_sz, hsz]; decide))))))) (by kernel_rfl) (by kernel_rfl) (by kernel_rfl) (by kernel_rfl) (by kernel_rfl) (fun _ _ _ h => hQ _ _ _ _ _ h) (fun w hSw => (by show Sem.run _ (execOp _ ⟨_, .fieldAddr 27 (.tmp 58) 1, _, _, _, _⟩) _ = _; unfold execOp; simp only [show (((((((((((((((a.put (some 43) (.int .u8 c)).put (some 44) (.int .i64 c)).put (some 45) (.int .i64 c)).put (some 46) (.bool false)).put (some 47) (.bool false)).put (some 48) (.slice A n cap)).put (some 49) (.int .i64 (n : Int))).put (some 50) (.slice A' n cap')).put (some 51) (.int .i64 (n : Int))).put (some 52) (.bool false)).put (some 53) (.bool false)).put (some 54) (.bool false)).put (some 55) (.pointer (some ⟨r, 0, none⟩))).put (some 57) (.pointer (some ⟨q, 0, none⟩))).put (some 58) (.pointer (some ⟨q, 0, none⟩))).eval (.tmp 58) = _ from (ev_same (by simp only [put_sz, hsz]; decide))]; go_simp)) S0 ?_
  change wpAnyT _ _ _ _ _ _ _ _ ((((((((((((((((a.put (some 43) (.int .u8 c)).put (some 44) (.int .i64 c)).put (some 45) (.int .i64 c)).put (some 46) (.bool false)).put (some 47) (.bool false)).put (some 48) (.slice A n cap)).put (some 49) (.int .i64 (n : Int))).put (some 50) (.slice A' n cap')).put (some 51) (.int .i64 (n : Int))).put (some 52) (.bool false)).put (some 53) (.bool false)).put (some 54) (.bool false)).put (some 55) (.pointer (some ⟨r, 0, none⟩))).put (some 57) (.pointer (some ⟨q, 0, none⟩))).put (some 58) (.pointer (some ⟨q, 0, none⟩))).put (some 59) (.pointer (some ⟨q, 1, none⟩))) _
  refine wpAnyT_takeW 17 17 (v := (.string ⟨l.toArray⟩)) (by rfl) (wanted_of (by rfl) (yielded_of (j := 11) (d := 54) (by rfl) (by rfl) (by simp only [put_sz, hsz]; decide) ((ev_ne (by decide)).trans ((ev_ne (by decide)).trans ((ev_ne (by decide)).trans ((ev_ne (by decide)).trans (ev_same (by simp only [put_sz, hsz]; decide)))))))) (by kernel_rfl) (by kernel_rfl) (by kernel_rfl) (by kernel_rfl) (by kernel_rfl) (fun _ _ _ h => hQ _ _ _ _ _ h) (fun w hSw => (by have q0 := (cell_heap (i := 1) hSw.2.2).trans (show _ = some (.string ⟨l.toArray⟩) from rfl); show Sem.run _ (execOp _ ⟨_, .load 9 (.tmp 59), _, _, _, _⟩) _ = _; unfold execOp; simp only [show ((((((((((((((((a.put (some 43) (.int .u8 c)).put (some 44) (.int .i64 c)).put (some 45) (.int .i64 c)).put (some 46) (.bool false)).put (some 47) (.bool false)).put (some 48) (.slice A n cap)).put (some 49) (.int .i64 (n : Int))).put (some 50) (.slice A' n cap')).put (some 51) (.int .i64 (n : Int))).put (some 52) (.bool false)).put (some 53) (.bool false)).put (some 54) (.bool false)).put (some 55) (.pointer (some ⟨r, 0, none⟩))).put (some 57) (.pointer (some ⟨q, 0, none⟩))).put (some 58) (.pointer (some ⟨q, 0, none⟩))).put (some 59) (.pointer (some ⟨q, 1, none⟩))).eval (.tmp 59) = _ from (ev_same (by simp only [put_sz, hsz]; decide))]; go_simp)) S0 ?_
  change wpAnyT _ _ _ _ _ _ _ _ (((((((((((((((((a.put (some 43) (.int .u8 c)).put (some 44) (.int .i64 c)).put (some 45) (.int .i64 c)).put (some 46) (.bool false)).put (some 47) (.bool false)).put (some 48) (.slice A n cap)).put (some 49) (.int .i64 (n : Int))).put (some 50) (.slice A' n cap')).put (some 51) (.int .i64 (n : Int))).put (some 52) (.bool false)).put (some 53) (.bool false)).put (some 54) (.bool false)).put (some 55) (.pointer (some ⟨r, 0, none⟩))).put (some 57) (.pointer (some ⟨q, 0, none⟩))).put (some 58) (.pointer (some ⟨q, 0, none⟩))).put (some 59) (.pointer (some ⟨q, 1, none⟩))).put (some 60) (.string ⟨l.toArray⟩)) _
  generalize hb : (((((((((((((((((a.put (some 43) (.int .u8 c)).put (some 44) (.int .i64 c)).put (some 45) (.int .i64 c)).put (some 46) (.bool false)).put (some 47) (.bool false)).put (some 48) (.slice A n cap)).put (some 49) (.int .i64 (n : Int))).put (some 50) (.slice A' n cap')).put (some 51) (.int .i64 (n : Int))).put (some 52) (.bool false)).put (some 53) (.bool false)).put (some 54) (.bool false)).put (some 55) (.pointer (some ⟨r, 0, none⟩))).put (some 57) (.pointer (some ⟨q, 0, none⟩))).put (some 58) (.pointer (some ⟨q, 0, none⟩))).put (some 59) (.pointer (some ⟨q, 1, none⟩))).put (some 60) (.string ⟨l.toArray⟩)) = b at hK ⊢
  have e54 : b.eval (.tmp 54) = .bool false := by rw [← hb]; exact ((ev_ne (by decide)).trans ((ev_ne (by decide)).trans ((ev_ne (by decide)).trans ((ev_ne (by decide)).trans ((ev_ne (by decide)).trans (ev_same (by simp only [put_sz, hsz]; decide)))))))
  have e55 : b.eval (.tmp 55) = .pointer (some ⟨r, 0, none⟩) := by rw [← hb]; exact ((ev_ne (by decide)).trans ((ev_ne (by decide)).trans ((ev_ne (by decide)).trans ((ev_ne (by decide)).trans (ev_same (by simp only [put_sz, hsz]; decide))))))
  have e60 : b.eval (.tmp 60) = .string ⟨l.toArray⟩ := by rw [← hb]; exact (ev_same (by simp only [put_sz, hsz]; decide))
  have ebs : b.tmps.size = 80 := by rw [← hb]; simp only [put_sz, hsz]
  clear hb h5 h6 h9 h10 h11 h12
  exact rg_nine_end hQ _ hops' b ebs r q c m l e54 e55 e60 W hF hq hrq hl hK _ (by kernel_rfl)
end Go.Proofs.YtemfcaaoobjgkaaGreatDoor
namespace Go.Proofs.YtemfcaaoobjgkaaGreatDoor
open Go.RowKit
set_option linter.unusedSimpArgs false in
set_option linter.unusedVariables false in
set_option maxHeartbeats 8000000 in
set_option maxRecDepth 100000 in
theorem rg_fourteen {Q : Exit → Act → World → Prop} (hQ : ∀ c d v a w, Q (.panic c) (a.put d v) w → Q (.panic c) a w) (ops : Array Oper) (hops : Tryz.f3.body.bind (findR 14) = some ops)
    (a : Act) (hsz : a.tmps.size = 80) (g g' n cap cap' j : Nat) (hj : j < n) (h9 : a.eval (.tmp 9) = .slice (some ⟨g, 0, none⟩) n cap) (h11 : a.eval (.tmp 11) = .slice (some ⟨g', 0, none⟩) n cap') (h13 : a.eval (.tmp 13) = .int .i64 (j : Int))
    (W : World) (x y : Pv) (hg : g < W.heap.size) (hg' : g' < W.heap.size) (hx : ∀ (i : Nat) v, (pkCells x.p x.vc x.vp x.vw x.vs x.vf).toList[i]? = some v → W.cell? ⟨g, j * 26 + i, none⟩ = some v) (hy : ∀ (i : Nat) v, (rkCells y.p y.vc y.vp y.vw y.vs y.vf).toList[i]? = some v → W.cell? ⟨g', j * 26 + i, none⟩ = some v)
    (hc : ∀ W', Below W.heap.size W W' → Calls Tryz.prog 10 #[.agg (pkCells x.p x.vc x.vp x.vw x.vs x.vf), .agg (rkCells y.p y.vc y.vp y.vw y.vs y.vf)] W' fun e w' => e = .returned (.bool true) ∧ Below W'.heap.size W' w')
    (hK : ∀ w', Below W.heap.size W w' → Q .normal ((((((((((a.put (some 68) (.slice (some ⟨g, 0, none⟩) n cap)).put (some 69) (.int .i64 (j : Int))).put (some 70) (.pointer (some ⟨g, j * 26, none⟩))).put (some 71) (.agg (pkCells x.p x.vc x.vp x.vw x.vs x.vf))).put (some 72) (.slice (some ⟨g', 0, none⟩) n cap')).put (some 73) (.int .i64 (j : Int))).put (some 74) (.pointer (some ⟨g', j * 26, none⟩))).put (some 75) (.agg (rkCells y.p y.vc y.vp y.vw y.vs y.vf))).put (some 76) (.bool true)).put (some 77) (.bool false)) w') :
    wpAnyT Tryz.prog .any ops Q (fun w' => Below W.heap.size W w') 10 ops.size (Array.replicate ops.size false) a W := by
  conv at hops => lhs; whnf
  obtain rfl := Option.some.inj hops
  clear hops
  have S0 : (fun w' => Below W.heap.size W w') W := Below.refl _ _
  have i0 : (0 : Int) ≤ (j : Int) := by omega
  have i1 : (j : Int) < (n : Int) := by omega
  change wpAnyT _ _ _ _ _ _ 10 (Array.replicate 10 false) _ _
  refine wpAnyT_take 0 0 (v := (.slice (some ⟨g, 0, none⟩) n cap)) (by rfl) (by rfl) (by kernel_rfl) (by kernel_rfl) (by kernel_rfl) (by kernel_rfl) (by kernel_rfl) (fun _ _ _ h => hQ _ _ _ _ _ h) (fun w hSw => (by show Sem.run _ (execOp _ ⟨_, .move (.tmp 9), _, _, _, _⟩) _ = _; unfold execOp; simp only [show a.eval (.tmp 9) = _ from h9]; go_simp)) S0 ?_
  change wpAnyT _ _ _ _ _ _ _ _ (a.put (some 68) (.slice (some ⟨g, 0, none⟩) n cap)) _
  refine wpAnyT_take 1 1 (v := (.int .i64 (j : Int))) (by rfl) (by rfl) (by kernel_rfl) (by kernel_rfl) (by kernel_rfl) (by kernel_rfl) (by kernel_rfl) (fun _ _ _ h => hQ _ _ _ _ _ h) (fun w hSw => (by show Sem.run _ (execOp _ ⟨_, .move (.tmp 13), _, _, _, _⟩) _ = _; unfold execOp; simp only [show (a.put (some 68) (.slice (some ⟨g, 0, none⟩) n cap)).eval (.tmp 13) = _ from ((ev_ne (by decide)).trans h13)]; go_simp)) S0 ?_
  change wpAnyT _ _ _ _ _ _ _ _ ((a.put (some 68) (.slice (some ⟨g, 0, none⟩) n cap)).put (some 69) (.int .i64 (j : Int))) _
  refine wpAnyT_take 2 2 (v := (.pointer (some ⟨g, j * 26, none⟩))) (by rfl) (by rfl) (by kernel_rfl) (by kernel_rfl) (by kernel_rfl) (by kernel_rfl) (by kernel_rfl) (fun _ _ _ h => hQ _ _ _ _ _ h) (fun w hSw => (by show Sem.run _ (execOp _ ⟨_, .indexAddr 29 (.tmp 68) (.tmp 69), _, _, _, _⟩) _ = _; unfold execOp; simp only [show ((a.put (some 68) (.slice (some ⟨g, 0, none⟩) n cap)).put (some 69) (.int .i64 (j : Int))).eval (.tmp 68) = _ from ((ev_ne (by decide)).trans (ev_same (by simp only [put_sz, hsz]; decide))), show ((a.put (some 68) (.slice (some ⟨g, 0, none⟩) n cap)).put (some 69) (.int .i64 (j : Int))).eval (.tmp 69) = _ from (ev_same (by simp only [put_sz, hsz]; decide))]; go_simp)) S0 ?_
  change wpAnyT _ _ _ _ _ _ _ _ (((a.put (some 68) (.slice (some ⟨g, 0, none⟩) n cap)).put (some 69) (.int .i64 (j : Int))).put (some 70) (.pointer (some ⟨g, j * 26, none⟩))) _
  refine wpAnyT_take 3 3 (v := (.agg (pkCells x.p x.vc x.vp x.vw x.vs x.vf))) (by rfl) (by rfl) (by kernel_rfl) (by kernel_rfl) (by kernel_rfl) (by kernel_rfl) (by kernel_rfl) (fun _ _ _ h => hQ _ _ _ _ _ h) (fun w hSw => (by have q0 : (loadVar 45 ⟨g, j * 26, none⟩).run Tryz.prog w = .ok (.agg (pkCells x.p x.vc x.vp x.vw x.vs x.vf)) w := run_loadVar_mid _ g (j * 26) 45 (pkCells x.p x.vc x.vp x.vw x.vs x.vf).toList _ (fun i v hv => (hSw.cell (p := ⟨g, _, none⟩) hg).trans (hx i v hv)) Tryz.underlying45 rfl (by kernel_rfl); show Sem.run _ (execOp _ ⟨_, .load 45 (.tmp 70), _, _, _, _⟩) _ = _; unfold execOp; simp only [show (((a.put (some 68) (.slice (some ⟨g, 0, none⟩) n cap)).put (some 69) (.int .i64 (j : Int))).put (some 70) (.pointer (some ⟨g, j * 26, none⟩))).eval (.tmp 70) = _ from (ev_same (by simp only [put_sz, hsz]; decide)), Instr.loadAt, Instr.sureAddr, Sem.run_bind, Sem.run_pure, Result.andThen_ok, q0])) S0 ?_
  change wpAnyT _ _ _ _ _ _ _ _ ((((a.put (some 68) (.slice (some ⟨g, 0, none⟩) n cap)).put (some 69) (.int .i64 (j : Int))).put (some 70) (.pointer (some ⟨g, j * 26, none⟩))).put (some 71) (.agg (pkCells x.p x.vc x.vp x.vw x.vs x.vf))) _
  refine wpAnyT_take 4 4 (v := (.slice (some ⟨g', 0, none⟩) n cap')) (by rfl) (by rfl) (by kernel_rfl) (by kernel_rfl) (by kernel_rfl) (by kernel_rfl) (by kernel_rfl) (fun _ _ _ h => hQ _ _ _ _ _ h) (fun w hSw => (by show Sem.run _ (execOp _ ⟨_, .move (.tmp 11), _, _, _, _⟩) _ = _; unfold execOp; simp only [show ((((a.put (some 68) (.slice (some ⟨g, 0, none⟩) n cap)).put (some 69) (.int .i64 (j : Int))).put (some 70) (.pointer (some ⟨g, j * 26, none⟩))).put (some 71) (.agg (pkCells x.p x.vc x.vp x.vw x.vs x.vf))).eval (.tmp 11) = _ from ((ev_ne (by decide)).trans ((ev_ne (by decide)).trans ((ev_ne (by decide)).trans ((ev_ne (by decide)).trans h11))))]; go_simp)) S0 ?_
  change wpAnyT _ _ _ _ _ _ _ _ (((((a.put (some 68) (.slice (some ⟨g, 0, none⟩) n cap)).put (some 69) (.int .i64 (j : Int))).put (some 70) (.pointer (some ⟨g, j * 26, none⟩))).put (some 71) (.agg (pkCells x.p x.vc x.vp x.vw x.vs x.vf))).put (some 72) (.slice (some ⟨g', 0, none⟩) n cap')) _
  refine wpAnyT_take 5 5 (v := (.int .i64 (j : Int))) (by rfl) (by rfl) (by kernel_rfl) (by kernel_rfl) (by kernel_rfl) (by kernel_rfl) (by kernel_rfl) (fun _ _ _ h => hQ _ _ _ _ _ h) (fun w hSw => (by show Sem.run _ (execOp _ ⟨_, .move (.tmp 13), _, _, _, _⟩) _ = _; unfold execOp; simp only [show (((((a.put (some 68) (.slice (some ⟨g, 0, none⟩) n cap)).put (some 69) (.int .i64 (j : Int))).put (some 70) (.pointer (some ⟨g, j * 26, none⟩))).put (some 71) (.agg (pkCells x.p x.vc x.vp x.vw x.vs x.vf))).put (some 72) (.slice (some ⟨g', 0, none⟩) n cap')).eval (.tmp 13) = _ from ((ev_ne (by decide)).trans ((ev_ne (by decide)).trans ((ev_ne (by decide)).trans ((ev_ne (by decide)).trans ((ev_ne (by decide)).trans h13)))))]; go_simp)) S0 ?_
  change wpAnyT _ _ _ _ _ _ _ _ ((((((a.put (some 68) (.slice (some ⟨g, 0, none⟩) n cap)).put (some 69) (.int .i64 (j : Int))).put (some 70) (.pointer (some ⟨g, j * 26, none⟩))).put (some 71) (.agg (pkCells x.p x.vc x.vp x.vw x.vs x.vf))).put (some 72) (.slice (some ⟨g', 0, none⟩) n cap')).put (some 73) (.int .i64 (j : Int))) _
  refine wpAnyT_take 6 6 (v := (.pointer (some ⟨g', j * 26, none⟩))) (by rfl) (by rfl) (by kernel_rfl) (by kernel_rfl) (by kernel_rfl) (by kernel_rfl) (by kernel_rfl) (fun _ _ _ h => hQ _ _ _ _ _ h) (fun w hSw => (by show Sem.run _ (execOp _ ⟨_, .indexAddr 33 (.tmp 72) (.tmp 73), _, _, _, _⟩) _ = _; unfold execOp; simp only [show ((((((a.put (some 68) (.slice (some ⟨g, 0, none⟩) n cap)).put (some 69) (.int .i64 (j : Int))).put (some 70) (.pointer (some ⟨g, j * 26, none⟩))).put (some 71) (.agg (pkCells x.p x.vc x.vp x.vw x.vs x.vf))).put (some 72) (.slice (some ⟨g', 0, none⟩) n cap')).put (some 73) (.int .i64 (j : Int))).eval (.tmp 72) = _ from ((ev_ne (by decide)).trans (ev_same (by simp only [put_sz, hsz]; decide))), show ((((((a.put (some 68) (.slice (some ⟨g, 0, none⟩) n cap)).put (some 69) (.int .i64 (j : Int))).put (some 70) (.pointer (some ⟨g, j * 26, none⟩))).put (some 71) (.agg (pkCells x.p x.vc x.vp x.vw x.vs x.vf))).put (some 72) (.slice (some ⟨g', 0, none⟩) n cap')).put (some 73) (.int .i64 (j : Int))).eval (.tmp 73) = _ from (ev_same (by simp only [put_sz, hsz]; decide))]; go_simp)) S0 ?_
  change wpAnyT _ _ _ _ _ _ _ _ (((((((a.put (some 68) (.slice (some ⟨g, 0, none⟩) n cap)).put (some 69) (.int .i64 (j : Int))).put (some 70) (.pointer (some ⟨g, j * 26, none⟩))).put (some 71) (.agg (pkCells x.p x.vc x.vp x.vw x.vs x.vf))).put (some 72) (.slice (some ⟨g', 0, none⟩) n cap')).put (some 73) (.int .i64 (j : Int))).put (some 74) (.pointer (some ⟨g', j * 26, none⟩))) _
  refine wpAnyT_take 7 7 (v := (.agg (rkCells y.p y.vc y.vp y.vw y.vs y.vf))) (by rfl) (by rfl) (by kernel_rfl) (by kernel_rfl) (by kernel_rfl) (by kernel_rfl) (by kernel_rfl) (fun _ _ _ h => hQ _ _ _ _ _ h) (fun w hSw => (by have q0 : (loadVar 52 ⟨g', j * 26, none⟩).run Tryz.prog w = .ok (.agg (rkCells y.p y.vc y.vp y.vw y.vs y.vf)) w := run_loadVar_mid _ g' (j * 26) 52 (rkCells y.p y.vc y.vp y.vw y.vs y.vf).toList _ (fun i v hv => (hSw.cell (p := ⟨g', _, none⟩) hg').trans (hy i v hv)) Tryz.underlying52 rfl (by kernel_rfl); show Sem.run _ (execOp _ ⟨_, .load 52 (.tmp 74), _, _, _, _⟩) _ = _; unfold execOp; simp only [show (((((((a.put (some 68) (.slice (some ⟨g, 0, none⟩) n cap)).put (some 69) (.int .i64 (j : Int))).put (some 70) (.pointer (some ⟨g, j * 26, none⟩))).put (some 71) (.agg (pkCells x.p x.vc x.vp x.vw x.vs x.vf))).put (some 72) (.slice (some ⟨g', 0, none⟩) n cap')).put (some 73) (.int .i64 (j : Int))).put (some 74) (.pointer (some ⟨g', j * 26, none⟩))).eval (.tmp 74) = _ from (ev_same (by simp only [put_sz, hsz]; decide)), Instr.loadAt, Instr.sureAddr, Sem.run_bind, Sem.run_pure, Result.andThen_ok, q0])) S0 ?_
  change wpAnyT _ _ _ _ _ _ _ _ ((((((((a.put (some 68) (.slice (some ⟨g, 0, none⟩) n cap)).put (some 69) (.int .i64 (j : Int))).put (some 70) (.pointer (some ⟨g, j * 26, none⟩))).put (some 71) (.agg (pkCells x.p x.vc x.vp x.vw x.vs x.vf))).put (some 72) (.slice (some ⟨g', 0, none⟩) n cap')).put (some 73) (.int .i64 (j : Int))).put (some 74) (.pointer (some ⟨g', j * 26, none⟩))).put (some 75) (.agg (rkCells y.p y.vc y.vp y.vw y.vs y.vf))) _
  refine wpAnyT_one 8 (by kernel_rfl) ?_
  refine opU_call (f := 10) (args := #[.agg (pkCells x.p x.vc x.vp x.vw x.vs x.vf), .agg (rkCells y.p y.vc y.vp y.vw y.vs y.vf)]) (w1 := W) (by rfl) (by rfl) (by show Sem.run _ (execOp _ ⟨_, .call { callee := .value (.func 10), args := #[.tmp 71, .tmp 75], argTypes := #[45, 52] }, _, _, _, _⟩) _ = _; unfold execOp; have e1 := same_enters; simp only [List.map_toArray, List.map_cons, List.map_nil, show ((((((((a.put (some 68) (.slice (some ⟨g, 0, none⟩) n cap)).put (some 69) (.int .i64 (j : Int))).put (some 70) (.pointer (some ⟨g, j * 26, none⟩))).put (some 71) (.agg (pkCells x.p x.vc x.vp x.vw x.vs x.vf))).put (some 72) (.slice (some ⟨g', 0, none⟩) n cap')).put (some 73) (.int .i64 (j : Int))).put (some 74) (.pointer (some ⟨g', j * 26, none⟩))).put (some 75) (.agg (rkCells y.p y.vc y.vp y.vw y.vs y.vf))).eval (.tmp 71) = _ from ((ev_ne (by decide)).trans ((ev_ne (by decide)).trans ((ev_ne (by decide)).trans ((ev_ne (by decide)).trans (ev_same (by simp only [put_sz, hsz]; decide)))))), show ((((((((a.put (some 68) (.slice (some ⟨g, 0, none⟩) n cap)).put (some 69) (.int .i64 (j : Int))).put (some 70) (.pointer (some ⟨g, j * 26, none⟩))).put (some 71) (.agg (pkCells x.p x.vc x.vp x.vw x.vs x.vf))).put (some 72) (.slice (some ⟨g', 0, none⟩) n cap')).put (some 73) (.int .i64 (j : Int))).put (some 74) (.pointer (some ⟨g', j * 26, none⟩))).put (some 75) (.agg (rkCells y.p y.vc y.vp y.vw y.vs y.vf))).eval (.tmp 75) = _ from (ev_same (by simp only [put_sz, hsz]; decide))]; go_simp) (hc W S0) ?_
  rintro e w1 ⟨rfl, b1⟩
  refine ⟨_, rfl, fun _ => b1, ?_⟩
  change wpAnyT _ _ _ _ _ _ _ _ (((((((((a.put (some 68) (.slice (some ⟨g, 0, none⟩) n cap)).put (some 69) (.int .i64 (j : Int))).put (some 70) (.pointer (some ⟨g, j * 26, none⟩))).put (some 71) (.agg (pkCells x.p x.vc x.vp x.vw x.vs x.vf))).put (some 72) (.slice (some ⟨g', 0, none⟩) n cap')).put (some 73) (.int .i64 (j : Int))).put (some 74) (.pointer (some ⟨g', j * 26, none⟩))).put (some 75) (.agg (rkCells y.p y.vc y.vp y.vw y.vs y.vf))).put (some 76) (.bool true)) _
  refine wpAnyT_take 9 9 (v := (.bool false)) (by rfl) (by rfl) (by kernel_rfl) (by kernel_rfl) (by kernel_rfl) (by kernel_rfl) (by kernel_rfl) (fun _ _ _ h => hQ _ _ _ _ _ h) (fun w hSw => (by show Sem.run _ (execOp _ ⟨_, .unOp .not 4 (.tmp 76), _, _, _, _⟩) _ = _; unfold execOp; simp only [show (((((((((a.put (some 68) (.slice (some ⟨g, 0, none⟩) n cap)).put (some 69) (.int .i64 (j : Int))).put (some 70) (.pointer (some ⟨g, j * 26, none⟩))).put (some 71) (.agg (pkCells x.p x.vc x.vp x.vw x.vs x.vf))).put (some 72) (.slice (some ⟨g', 0, none⟩) n cap')).put (some 73) (.int .i64 (j : Int))).put (some 74) (.pointer (some ⟨g', j * 26, none⟩))).put (some 75) (.agg (rkCells y.p y.vc y.vp y.vw y.vs y.vf))).put (some 76) (.bool true)).eval (.tmp 76) = _ from (ev_same (by simp only [put_sz, hsz]; decide))]; go_simp)) b1 ?_
  change wpAnyT _ _ _ _ _ _ _ _ ((((((((((a.put (some 68) (.slice (some ⟨g, 0, none⟩) n cap)).put (some 69) (.int .i64 (j : Int))).put (some 70) (.pointer (some ⟨g, j * 26, none⟩))).put (some 71) (.agg (pkCells x.p x.vc x.vp x.vw x.vs x.vf))).put (some 72) (.slice (some ⟨g', 0, none⟩) n cap')).put (some 73) (.int .i64 (j : Int))).put (some 74) (.pointer (some ⟨g', j * 26, none⟩))).put (some 75) (.agg (rkCells y.p y.vc y.vp y.vw y.vs y.vf))).put (some 76) (.bool true)).put (some 77) (.bool false)) _
  exact wpAnyT_done (by kernel_rfl) (hK w1 b1)
end Go.Proofs.YtemfcaaoobjgkaaGreatDoor
namespace Go.Proofs.YtemfcaaoobjgkaaGreatDoor
open Go.RowKit
theorem RkRow.kp {r B : Nat} {v : Value} {L : List Pv} {w w' : World} (h : RkRow B v L w) (hk : Kp r w w') (hr : r < B) : RkRow B v L w' :=
  ⟨own_kp h.row hk hr (by decide), fun x hx => ⟨own_kp (h.own x hx).codes hk hr (by decide), own_kp (h.own x hx).props hk hr (by decide), own_kp (h.own x hx).wprops hk hr (by decide), own_kp (h.own x hx).subs hk hr (by decide), own_kp (h.own x hx).filters hk hr (by decide)⟩⟩
theorem thr_few (s : ByteArray) (m : Int) (f : ByteArray → Int) : ∀ (u a : Nat), (ST.thr s m f u a).1.length ≤ u
  | 0, _ => Nat.le_refl 0
  | u + 1, a => by
    rw [ST.thr]
    split
    · split
      · have := thr_few s m f u (a + (ST.first (s.extract a s.size) m).1.toNat)
        simp only [List.length_cons]
        omega
      · exact Nat.zero_le _
    · exact Nat.zero_le _
theorem told_few (m : Int) (l : List UInt8) (c : Int) (s : ByteArray) : (ST.told m l c s).length ≤ l.length + s.size + 1 := by
  unfold ST.told ST.fed
  have hj := join_size l s
  split
  · have := thr_few ⟨(l ++ s.data.toList).toArray⟩ m (fun b => (PK.getPk b).2) ((⟨(l ++ s.data.toList).toArray⟩ : ByteArray).size + 1) 0
    omega
  · exact Nat.zero_le _
/-- Both readers, between pieces. -/
def FdI (w : World) (q : Nat) (m : Int) (n : Nat) (wr : World) : Prop :=
  ∃ l c, Fd w.heap.size m l c wr ∧ wr.heap[q]? = some (.cells (rdC m ⟨l.toArray⟩ c) 27 (0, 0)) ∧ l.length ≤ n ∧ (c ≠ 0 → l = []) ∧ (0 ≤ c ∧ c ≤ 255) ∧ Below w.heap.size w wr
theorem next_facts (m : Int) (l : List UInt8) (c : Int) (s : ByteArray) (n : Nat) (hl : l.length ≤ n) (hc : c ≠ 0 → l = []) (h8 : 0 ≤ c ∧ c ≤ 255) :
    (ST.nxL m l c s).length ≤ n + s.size ∧ (ST.nxC m l c s ≠ 0 → ST.nxL m l c s = []) ∧ (0 ≤ ST.nxC m l c s ∧ ST.nxC m l c s ≤ 255) ∧ ∀ b ∈ ST.told m l c s, b.size ≤ n + s.size := by
  unfold ST.nxL ST.nxC ST.told
  have hj := join_size l s
  by_cases h0 : c = 0
  · rw [if_pos h0, if_pos h0, if_pos h0]
    refine ⟨Nat.le_trans (left_len m _) (by omega), fun h => left_bad h, ST.thr_c8 _ m _ _, fun b hb => ?_⟩
    have := ST.thr_mem _ m _ _ _ b hb
    omega
  · rw [if_neg h0, if_neg h0, if_neg h0]
    exact ⟨by omega, fun _ => hc h0, h8, fun b hb => by cases hb⟩
theorem same_at {L L' : List Pv} {X : List Pk} (h : L.map Pv.p = X) (h' : L'.map Pv.p = X) {j : Nat} {x : Pv} (hx : L[j]? = some x) : ∃ y, L'[j]? = some y ∧ y.p = x.p ∧ x.p ∈ X := by
  have e : (L.map Pv.p)[j]? = some x.p := by rw [List.getElem?_map, hx]; rfl
  have e' := e
  rw [h, ← h', List.getElem?_map] at e'
  cases hy : L'[j]? with
  | none => rw [hy] at e'; cases e'
  | some y => rw [hy] at e'; exact ⟨y, rfl, by simpa using e', by rw [← h]; exact List.mem_of_getElem? e⟩

set_option linter.unusedVariables false in
set_option linter.unusedSimpArgs false in
set_option maxRecDepth 100000 in
set_option maxHeartbeats 8000000 in
theorem streamFeeds_walk (w : World) (A : Option Addr) (cap : Nat) (ps : List ByteArray) (hl : ps.length ≤ maxLen) (h : Texts w A ps) (hc : ps.length ≤ cap) (m : Int) (hsum : bytesOf ps ≤ 1048576) (hT : ∀ W, Below w.heap.size w W → Tabs W) :
    Calls Tryz.prog 3 #[.slice A ps.length cap, .int .i64 m] w fun e w' => e = .returned (.bool true) ∧ Below w.heap.size w w' := by
  unfold maxLen at hl
  have H := Lib.hid h
  have HTb := Lib.hid hT
  have HSum := Lib.hid hsum
  obtain ⟨n, hm, hm1, hm2⟩ : ∃ n : Nat, min (ps.length : Int) 40 = (n : Int) ∧ n ≤ 40 ∧ n ≤ ps.length := by
    by_cases h80 : ps.length ≤ 40
    · exact ⟨ps.length, by omega, by omega, by omega⟩
    · exact ⟨40, by omega, by omega, by omega⟩
  have hm3 : ((n : Int)).toNat = n := by omega
  have hm4 : max (n : Int) 0 = n := by omega
  have Hm := Lib.hid hm
  have CN := Lib.hid (new_any m w)
  clear h hT hsum hm
  go_enter Tryz.func3, Tryz.ntmps3
  go_wp2_with fail
  refine CN.out.mono ?_
  rintro e w1 ⟨rfl, h1, b1⟩
  have hlt1 := h1.lt
  obtain ⟨w2, hw2⟩ : ∃ w2, w2 = w1.alloc (.cells (rdC m ⟨#[]⟩ 0) 27) := ⟨_, rfl⟩
  have bl2 : Below w1.heap.size w1 w2 := by rw [hw2]; exact (Below.refl _ _).alloc (Nat.le_refl _) _
  have q2 : w2.heap[w1.heap.size]? = some (.cells (rdC m ⟨#[]⟩ 0) 27 (0, 0)) := by rw [hw2]; exact heap_alloc_new w1 _
  have F2 := Lib.hid (h1.below bl2)
  have B2 := Lib.hid (b1.trans (bl2.mono b1.size))
  have Q2 := Lib.hid q2; have HW2 := Lib.hid hw2
  have hrq : w.heap.size < w1.heap.size := hlt1
  clear h1 b1 bl2 q2 hw2 CN hlt1
  go_upto_region 2 with fail
  change Code.wp _ _ _ _ (w1.alloc (.cells (rdC m ⟨#[]⟩ 0) 27))
  rw [← HW2.out]
  clear HW2
  generalize w1.heap.size = q at *
  have CW := Lib.hid (swakes_any w2 (fun W hW => HTb.out W (B2.out.trans (hW.mono B2.out.size))))
  go_wp2_with fail
  refine CW.out.mono ?_
  rintro e w3 ⟨rfl, b3⟩
  have HI : Hid (FdI w q m 0 w3) := Lib.hid ⟨[], 0, F2.out.below b3, (b3.block _ (lt_heap Q2.out)).trans Q2.out, by simp, fun _ => rfl, ⟨by decide, by decide⟩, B2.out.trans (b3.mono B2.out.size)⟩
  clear b3 CW F2 B2 Q2
  go_wp2_with fail
  rw [Hm.out, hm3, hm4]
  clear hm3 hm4 Hm
  go_loopw [27] (fun i wr => ∃ k : Nat, i = .int .i64 k ∧ k ≤ n ∧ Hid (FdI w q m (bytesOf (ps.take k)) wr)) (fun i _ => n - (intOf i).toNat)
  case atStart => exact ⟨0, rfl, by omega, HI⟩
  case round =>
    obtain ⟨k, rfl, hk, hst⟩ := hrel
    obtain ⟨l, c, hf, hq, hll, hcl, hc8, hb⟩ := hst.out
    have i0 : (0 : Int) ≤ (k : Int) := by omega
    by_cases hlt : k < n
    · obtain ⟨s, hs⟩ : ∃ s, ps[k]? = some s := ⟨ps[k]'(by omega), List.getElem?_eq_getElem _⟩
      obtain ⟨g, o, rfl, hg, r0⟩ := H.out k s hs
      have q0 : wr.cell? ⟨g, o + k, none⟩ = some (.string s) := by rw [hb.cell (p := ⟨g, o + k, none⟩) hg]; exact r0
      have hbt := bytes_take hs
      have hbl := bytes_le ps (k + 1)
      have hsu := HSum.out
      have CF := Lib.hid (feed_u w.heap.size m l c s wr hf (by omega) (fun W hW => HTb.out W (hb.trans hW)))
      have hsz : l.length + s.size ≤ 1048576 := by omega
      obtain ⟨N1, N2, N3, N4⟩ := next_facts m l c s _ hll hcl hc8
      have n6 : (ST.told m l c s).length ≤ 1048577 := by have := told_few m l c s; omega
      have i1 : (k : Int) < (n : Int) := by omega
      have HB := Lib.hid hb; have HQ := Lib.hid hq
      have hqs : q < wr.heap.size := lt_heap hq
      have CR : Hid (∀ W, W.heap[q]? = some (.cells (rdC m ⟨l.toArray⟩ c) 27 (0, 0)) → Calls Tryz.prog 8 #[.pointer (some ⟨q, 0, none⟩), .string s] W (RuP q m l c s W)) := Lib.hid (fun W hW => rfeed_u q m l c s W hW hsz)
      unfold FuP at CF
      unfold RuP at CR
      generalize ST.nxL m l c s = l2 at *
      generalize ST.nxC m l c s = c2 at *
      generalize ST.told m l c s = T at *
      have n1 : l2.length ≤ bytesOf (ps.take (k + 1)) := by omega
      have n4 : ∀ b ∈ T, b.size ≤ 140737488351232 := fun b hb => by have := N4 b hb; omega
      have n5 : l2.length ≤ 281474976710656 := by omega
      have HN6 := Lib.hid n6
      have HN1 := Lib.hid n1; have HN2 := Lib.hid N2; have HN3 := Lib.hid N3; have HN4 := Lib.hid n4; have HN5 := Lib.hid n5
      clear r0 hs hst hf hb hbt hbl hsu hll hcl hc8 hq N1 N2 N3 N4 n1 n4 n5 n6 hsz
      go_wp2_with fail
      refine CF.out.mono ?_
      rintro e w4 ⟨v, L, rfl, r4, m4, f4, k4⟩
      have hq4 := k4.block HQ.out (by omega) (by decide)
      have CR2 := Lib.hid (CR.out w4 hq4)
      have HQ4 := Lib.hid hq4; have R4 := Lib.hid r4; have M4 := Lib.hid m4; have F4 := Lib.hid f4; have K4 := Lib.hid k4
      clear CF CR hq4 r4 m4 f4 k4
      go_wp2_with fail
      refine CR2.out.mono ?_
      rintro e w5 ⟨v', L', rfl, r5, m5, q5, g5⟩
      have hs45 := K4.out.size
      have P5 := R4.out.gr g5 hqs
      have F5 := F4.out.gr g5 HQ4.out
      have hLL : L'.length = L.length := by
        have e1 := congrArg List.length M4.out
        have e2 := congrArg List.length m5
        simp only [List.length_map] at e1 e2
        omega
      have hLn : L.length ≤ 1048577 := by
        have e1 := congrArg List.length M4.out
        simp only [List.length_map] at e1
        have := HN6.out
        omega
      clear HN6
      obtain ⟨A1, n1, rfl⟩ := own_form P5.row
      obtain ⟨A2, n2, rfl⟩ := own_form r5.row
      rw [hLL]
      have hB5 : Below w.heap.size w w5 := HB.out.trans (K4.out.1.trans ⟨g5.os, g5.tape, g5.output, g5.size, fun i hi => g5.block i (by have := K4.out.size; have := HB.out.size; omega) (fun e => by injection e with e; omega)⟩)
      have HP5 := Lib.hid P5; have HR5 := Lib.hid r5; have HM5 := Lib.hid m5; have HF5 := Lib.hid F5; have HQ5 := Lib.hid q5; have HB5 := Lib.hid hB5; have HLL := Lib.hid hLL
      clear CR2 P5 r5 m5 F5 q5 hB5 hLL g5 F4 K4 R4 HQ4 HQ
      go_upto_region 9 with fail
      have D := below_drew w5.heap.size w5
      refine wp_region_noPanic (wp_region_T (by kernel_rfl) (rg_nine (fun _ _ _ _ _ h => h) _ (by kernel_rfl) _ rfl w.heap.size q c2 HN3.out L.length n1 n2 A1 A2 rfl rfl rfl rfl rfl rfl _ m l2 (HF5.out.below D) HQ5.out HN5.out ?_))
      rintro w6 ⟨k6, f6, q6⟩
      refine NoPanic.normal ?_
      have HB6 := Lib.hid (HB5.out.trans ((D.mono (Nat.le_trans HB5.out.size (Nat.le_refl _))).trans k6.1))
      have hrw : w.heap.size < wr.heap.size := by omega
      have D1 := Kp.of_below (b := w.heap.size) HB5.out.size D
      have PR6 := Lib.hid ((HP5.out.kp D1 hrw).kp k6 hrw)
      have RR6 := Lib.hid ((HR5.out.kp D1 (by omega)).kp k6 (by omega))
      have HS6 : Hid (FdI w q m (bytesOf (ps.take (k + 1))) w6) := Lib.hid ⟨l2, c2, f6, q6, HN1.out, HN2.out, HN3.out, HB6.out⟩
      have HM4 := Lib.hid M4.out
      have hz6 : q < w6.heap.size := lt_heap q6
      clear f6 q6 k6 D1 HB5 HP5 HR5 HF5 HQ5 HN1 HN2 HN3 HN5
      simp only [Act.put, List.setIfInBounds_toArray, List.set_cons_zero, List.set_cons_succ]
      go_wp2_with fail
      go_loopw [65] (fun i wi => ∃ j : Nat, i = .int .i64 j ∧ j ≤ L.length ∧ Hid (Below w6.heap.size w6 wi)) (fun i _ => L.length - (intOf i).toNat)
      case atStart => exact ⟨0, rfl, by omega, Lib.hid (Below.refl _ _)⟩
      case round =>
        obtain ⟨j, rfl, hj, hbi⟩ := hrel
        have hj0 : (0 : Int) ≤ (j : Int) := by omega
        by_cases hjl : j < L.length
        · obtain ⟨x, hx⟩ : ∃ x, L[j]? = some x := ⟨L[j]'hjl, List.getElem?_eq_getElem _⟩
          obtain ⟨y, hy, hyx, hxT⟩ := same_at M4.out HM5.out hx
          have hf : PkF x.p := by
            obtain ⟨b, hb1, hb2⟩ := List.mem_map.1 hxT
            rw [← hb2]
            exact PK.getPk_f b (HN4.out b hb1)
          have hpw := PR6.out.below hbi.out
          have hrw' := RR6.out.below hbi.out
          obtain ⟨g2, rfl, hg2, hc2⟩ := hpw.at rfl hx
          obtain ⟨g3, rfl, hg3, hc3⟩ := hrw'.at rfl hy
          have HO := Lib.hid (hpw.own x (List.mem_of_getElem? hx))
          have HO' := Lib.hid (hrw'.own y (List.mem_of_getElem? hy))
          have HC2 := Lib.hid hc2; have HC3 := Lib.hid hc3
          have HF := Lib.hid hf; have HYX := Lib.hid hyx
          have hi1 : (j : Int) < (L.length : Int) := by omega
          clear hpw hrw' hx hy hxT hc2 hc3 hf hyx
          go_upto_region 14 with fail
          have D := below_drew wr.heap.size wr
          refine wp_region_noPanic (wp_region_T (by kernel_rfl) (rg_fourteen (fun _ _ _ _ _ h => h) _ (by kernel_rfl) _ rfl g2 g3 L.length n1 n2 j hjl rfl rfl rfl _ x y hg2 hg3 HC2.out HC3.out (fun W' hW' => by
            have o1 := own5_below (own5_below HO.out D) hW'
            have o2 := (HO'.out.below D).below hW'
            unfold Pv.ROwn at *
            rw [HYX.out] at o2 ⊢
            exact samepk6_any x.p HF.out _ _ _ _ _ _ _ _ _ _ _ _ W' o1 o2) ?_))
          rintro w7 b7
          refine NoPanic.normal ?_
          have HN := Lib.hid (hbi.out.trans ((D.trans b7).mono (hbi.out.size)))
          clear b7 D HO HO' HC2 HC3 HF HYX
          simp only [Act.put, List.setIfInBounds_toArray, List.set_cons_zero, List.set_cons_succ]
          go_wp2_with fail
          go_roundw
          case rel => exact ⟨j + 1, by go_num, by omega, HN⟩
          case measure => simp [intOf]; omega
        · obtain ⟨l3, c3, z1, z2, z3, z4, z5, z6⟩ := HS6.out
          have HN : Hid (FdI w q m (bytesOf (ps.take (k + 1))) wr) := Lib.hid ⟨l3, c3, z1.below hbi.out, (hbi.out.block _ (lt_heap z2)).trans z2, z3, z4, z5, z6.trans (hbi.out.mono z6.size)⟩
          clear z1 z2 z3 z4 z5 z6
          go_wp2_with fail
          go_roundw
          case rel => exact ⟨k + 1, by go_num, by omega, HN⟩
          case measure => simp [intOf]; omega
    · have hkn : k = n := by omega
      subst hkn
      have HB := Lib.hid hb
      clear hf hb hst hll hq
      go_wp2
      go_ret
      exact ⟨rfl, HB.out⟩
end Go.Proofs.YtemfcaaoobjgkaaGreatDoor
namespace Go.Proofs.YtemfcaaoobjgkaaGreatDoor
open Go.RowKit Go.ChangeShapes Go.WideShapes Go.Deep

theorem bulk_bound {H : Type} {l : List (DataW H)} (hk : Rows.uptoSmall H l = true) : Rows.uptoBulkAll l ≤ 1048576 := of_decide_eq_true hk
theorem bulk_string {H : Type} (s : ByteArray) : Rows.uptoBulk (DataW.lit (H := H) (.string s.data.toList)) = s.size + 1 := by
  have e : s.data.toList.length = s.size := by rw [Array.length_toList]; rfl
  simp only [Rows.uptoBulk, e]
theorem bulk_texts {H : Type} (l : List ByteArray) : bytesOf l ≤ Rows.uptoBulkAll (l.map fun s => DataW.lit (H := H) (.string s.data.toList)) := by
  induction l with
  | nil => simp [bytesOf, Rows.uptoBulkAll]
  | cons x l ih =>
    simp only [List.map_cons, Rows.uptoBulkAll, bulk_string]
    simp [bytesOf] at ih ⊢
    omega
theorem trod_lt' {H : Type} {enc : TypeId × Value → H} {P : Program} {w : World} {base : Nat} {spare : Nat → Bool} {held : Bool} {t : TypeId} {v : Value} {d : DataW H} {ps : List MemPlace} (h : DataW.Trod enc P w base spare held t v d ps) : ∀ x ∈ ps, x.block < w.heap.size := by
  obtain ⟨n, hn⟩ := h
  exact DataW.trod_lt n t _ _ hn
theorem cell_in {w : World} {a : Addr} {v : Value} (h : w.cell? a = some v) : a.block < w.heap.size := by
  rcases Nat.lt_or_ge a.block w.heap.size with h' | h'
  · exact h'
  · exfalso
    have e : w.heap[a.block]? = none := Array.getElem?_eq_none h'
    simp [World.cell?, e] at h
theorem texts_len : Tryz.prog.cellsOf 9 = 1 := by kernel_rfl
set_option maxRecDepth 100000 in
/-- An argument of texts. -/
theorem open_texts {H : Type} {enc : TypeId × Value → H} {w : World} {v : Value} {d : DataW H} {ps : List MemPlace} {r : Reach} {b0 : Nat} (hv : Value.okWide Tryz.prog w r b0 22 v) (h : DataW.Trod enc Tryz.prog w 0 (fun _ => true) true 22 v d ps) :
    ∃ A cap l, v = .slice A l.length cap ∧ l.length ≤ maxLen ∧ Texts w A l ∧ l.length ≤ cap ∧ bytesOf l ≤ Rows.uptoBulk d := by
  obtain ⟨A0, l0, c0, rfl⟩ := okWide_slice Tryz.underlying22 hv
  obtain ⟨n, hn⟩ := h
  rcases open_strs Tryz.underlying22 Tryz.underlying9 texts_len hn with ⟨hc, hx⟩ | ⟨a, len, cap, m, Sx, hc, _, hl, hm, hmm, hx, hi⟩
  · have e1 : Value.slice A0 l0 c0 = .slice none 0 0 := (List.cons.inj (show [Value.slice A0 l0 c0] = _ from hc)).1
    exact ⟨none, 0, [], e1, by simp [maxLen], fun i x hx => by simp at hx, Nat.le_refl _, by simp [bytesOf]⟩
  · have e1 : Value.slice A0 l0 c0 = .slice (some a) len cap := (List.cons.inj (show [Value.slice A0 l0 c0] = _ from hc)).1
    have hmc : m = cap := by simpa using hmm
    have hd : d = .slice ((List.range len).map fun i => .lit (.string (Sx i).data.toList)) ((List.range (m - len)).map fun j => .lit (.string (Sx (len + j)).data.toList)) := congrArg Prod.fst hx
    refine ⟨some a, cap, (List.range len).map Sx, by simpa using e1, by simp; omega, ?_, by simpa using hl, ?_⟩
    · intro i x hx
      rw [List.getElem?_map] at hx
      have hil : i < len := by
        rcases Nat.lt_or_ge i len with h' | h'
        · exact h'
        · rw [List.getElem?_eq_none (by simpa using h')] at hx; cases hx
      rw [List.getElem?_range hil] at hx
      simp at hx
      subst hx
      have h1 := (hi i (by omega)).1
      obtain ⟨b, o, spot⟩ := a
      have hspot : spot = none := by simpa [Addr.add] using World.cell?_spot (hi 0 (by omega)).1
      subst hspot
      rw [add_plain] at h1
      exact ⟨b, o, rfl, cell_in h1, h1⟩
    · rw [hd]
      simp only [Rows.uptoBulk]
      have := bulk_texts (H := H) ((List.range len).map Sx)
      rw [List.map_map] at this
      have e : ((fun s : ByteArray => DataW.lit (H := H) (.string s.data.toList)) ∘ Sx) = fun i => .lit (.string (Sx i).data.toList) := rfl
      rw [e] at this
      omega
end Go.Proofs.YtemfcaaoobjgkaaGreatDoor
