/- A region that draws its order and whose last operations write what its first ones load: loads are taken first as long as the last ones wait.; The law's helper that makes packets: its three regions that append twice and store twice.; The law's own helper: the program's and the document's rows of properties.; Layer 5's law: its own helper: the program's and the document's rows of properties. (The text is that of layer 4's.); The law's helper that makes packets: what lies in memory on its way.; The law's helper that makes packets: its steps.; The law's helper that makes packets.; PacketTwice: what is read and put is read the same again.; Laws over a packet as plain data: what they share. -/
import Derived.Test.YtlfgndhdifpngaaGreatDoorMD
import Derived.Deep.RegionHeld3
import Derived.Deep.AppendLies
import Derived.Test.YtlfgndhdifpngaaGreatDoorPrApp
import Derived.Test.YtlfgndhdifpngaaGreatDoorVarClone
import Derived.Deep.DrawnRows
import Derived.Deep.DeepCutAuto
import Derived.Deep.CutRange
import Derived.Deep.CutBlock
import Derived.Lib.Strings
namespace Go.Proofs.YtlfgndhdifpngaaGreatDoor
open Go.RowKit

section
variable {P : Program} {ops : Array Oper} {Q : Exit → Act → World → Prop} {md : Region.Mode} {S : World → Prop} {T : Nat}

/-- Whatever order is picked, and S holds behind each operation below T. -/
def wpAnyT (P : Program) (md : Region.Mode) (ops : Array Oper) (Q : Exit → Act → World → Prop) (S : World → Prop) (T : Nat) : Nat → Array Bool → Act → World → Prop
  | 0, listed, a, w => Region.ready md ops listed = [] ∧ Q .normal a w
  | fuel + 1, listed, a, w => (Region.ready md ops listed = [] → Q .normal a w) ∧
    ∀ i ∈ Region.ready md ops listed, wpOp P ops Q i (fun a' w' => (i < T → S w') ∧ wpAnyT P md ops Q S T fuel (listed.setIfInBounds i true) a' w') a w
theorem wpAny_of_T : ∀ (fuel : Nat) (listed : Array Bool) (a : Act) (w : World), wpAnyT P md ops Q S T fuel listed a w → wpAny P md ops Q fuel listed a w
  | 0, _, _, _, h => h
  | fuel + 1, _, _, _, h => ⟨h.1, fun i hi => wpOp_mono (fun a' w' h' => wpAny_of_T fuel _ a' w' h'.2) (h.2 i hi)⟩
/-- Number j waits for number i. -/
def waitsB (md : Region.Mode) (ops : Array Oper) (j i : Nat) : Bool :=
  match ops[j]? with
  | some o => o.after.any fun e => Region.binds md e && e.on == i
  | none => false
theorem waitsB_spec {j i : Nat} {oj : Oper} (h : waitsB md ops j i = true) (hj : ops[j]? = some oj) : ∃ e ∈ oj.after, Region.binds md e = true ∧ e.on = i := by
  unfold waitsB at h
  rw [hj] at h
  obtain ⟨e, he, hb⟩ := Array.any_eq_true'.1 h
  simp only [Bool.and_eq_true, beq_iff_eq] at hb
  exact ⟨e, he, hb⟩
/-- Number c is i or waits for it, by way of others too. -/
def reachB (md : Region.Mode) (ops : Array Oper) (i : Nat) : Nat → Nat → Bool
  | 0, c => c == i
  | f + 1, c => c == i || match ops[c]? with
    | some o => o.after.any fun e => Region.binds md e && reachB md ops i f e.on
    | none => false
/-- All from T on wait for number c, which waits for i. -/
def gateB (md : Region.Mode) (ops : Array Oper) (T c i : Nat) : Bool := reachB md ops i 4 c && (List.range ops.size).all fun j => decide (j < T) || waitsB md ops j c
/-- Whoever has come up, those that it waits for have. -/
def Closed (md : Region.Mode) (ops : Array Oper) (listed : Array Bool) : Prop := ∀ j oj, ops[j]? = some oj → listed.getD j false = true → ∀ e ∈ oj.after, Region.binds md e = true → listed.getD e.on false = true
def closedB (md : Region.Mode) (ops : Array Oper) (listed : Array Bool) : Bool := (List.range ops.size).all fun j => !listed.getD j false || match ops[j]? with
  | some o => o.after.all fun e => !Region.binds md e || listed.getD e.on false
  | none => true
theorem closedB_spec {listed : Array Bool} (h : closedB md ops listed = true) : Closed md ops listed := fun j oj hj hl e he hb => by
  unfold closedB at h
  rw [List.all_eq_true] at h
  have h1 := h j (List.mem_range.2 (Array.getElem?_eq_some_iff.1 hj).1)
  rw [hl, hj] at h1
  simp only [Bool.not_true, Bool.false_or] at h1
  have h2 := Array.all_eq_true'.1 h1 e he
  rw [hb] at h2
  simpa using h2
theorem Closed.set {listed : Array Bool} (h : Closed md ops listed) {i : Nat} (hi : i ∈ Region.ready md ops listed) : Closed md ops (listed.setIfInBounds i true) := fun j oj hj hl e he hb => by
  obtain ⟨_, oi, hoi, hall⟩ := mem_ready.1 hi
  by_cases hij : i = j
  · subst hij
    have : oj = oi := Option.some.inj (hj.symm.trans hoi)
    subst this
    exact getD_set_true (hall e he hb)
  · rw [getD_set_ne false hij] at hl
    exact getD_set_true (h j oj hj hl e he hb)
theorem reach_unlisted {listed : Array Bool} (h : Closed md ops listed) {i : Nat} (hi : listed.getD i false = false) : ∀ (f c : Nat), reachB md ops i f c = true → listed.getD c false = false
  | 0, c, hr => by
    unfold reachB at hr
    rw [beq_iff_eq] at hr
    subst hr
    exact hi
  | f + 1, c, hr => by
    unfold reachB at hr
    rw [Bool.or_eq_true] at hr
    rcases hr with hr | hr
    · rw [beq_iff_eq] at hr
      subst hr
      exact hi
    · cases hc : ops[c]? with
      | none => rw [hc] at hr; cases hr
      | some o =>
        rw [hc] at hr
        obtain ⟨e, he, hb⟩ := Array.any_eq_true'.1 hr
        rw [Bool.and_eq_true] at hb
        have h1 := reach_unlisted h hi f e.on hb.2
        cases hl : listed.getD c false with
        | false => rfl
        | true =>
          have h2 := h c o hc hl e he hb.1
          rw [h1] at h2
          cases h2
theorem ready_waits {listed : Array Bool} {j i : Nat} (hj : j ∈ Region.ready md ops listed) (hw : waitsB md ops j i = true) : listed.getD i false = true := by
  obtain ⟨_, oj, hoj, hall⟩ := mem_ready.1 hj
  obtain ⟨e, he, hb, hon⟩ := waitsB_spec hw hoj
  rw [← hon]
  exact hall e he hb
theorem unlisted {listed : Array Bool} {i : Nat} (h : listed.getD i true = false) : listed.getD i false = false := by
  rcases Nat.lt_or_ge i listed.size with h' | h'
  · simp [h'] at h ⊢; exact h
  · simp [Array.getElem?_eq_none h'] at h

theorem wpAnyT_first {i c : Nat} {oi : Oper} {v : Value} (hi : ops[i]? = some oi) (hsel : ∀ (j : Nat) (o : Oper) cs b, ops[j]? = some o → o.op ≠ .select cs b)
    (hQ : ∀ c a w, Q (.panic c) (a.put oi.dst v) w → Q (.panic c) a w) (hg : gateB md ops T c i = true) :
    ∀ (fuel : Nat) (listed : Array Bool) (a : Act) (w : World),
      (∀ j oj, ops[j]? = some oj → j ≠ i → listed.getD j true = false → (∀ e ∈ oj.after, Region.binds md e = true → e.on ≠ i) → oi.apart ops oj = true) →
      i ∈ Region.ready md ops listed → Closed md ops listed → YieldsIf P ops S oi v a → S w →
      wpAnyT P md ops Q S T fuel (listed.setIfInBounds i true) (a.put oi.dst v) w → wpAnyT P md ops Q S T (fuel + 1) listed a w := by
  unfold gateB at hg
  rw [Bool.and_eq_true, List.all_eq_true] at hg
  obtain ⟨hg1, hg2⟩ := hg
  intro fuel
  induction fuel with
  | zero =>
    intro listed a w _ hr _ hy hS H
    refine ⟨fun h => (by rw [h] at hr; cases hr), fun j hj => ?_⟩
    by_cases hji : j = i
    · subst hji; exact hy.wpOp hi hS ⟨fun _ => hS, H⟩
    · have := ready_mono hj hji
      rw [H.1] at this
      cases this
  | succ fuel ih =>
    intro listed a w hfree hr hcu hy hS H
    refine ⟨fun h => (by rw [h] at hr; cases hr), fun j hj => ?_⟩
    by_cases hji : j = i
    · subst hji; exact hy.wpOp hi hS ⟨fun _ => hS, H⟩
    · have h1 := H.2 j (ready_mono hj hji)
      obtain ⟨hjun, oj, hoj, hall⟩ := mem_ready.1 hj
      have h0 := unlisted (mem_ready.1 hr).1
      have hnot : ∀ e ∈ oj.after, Region.binds md e = true → e.on ≠ i := fun e he hb heq => by
        have h1 := hall e he hb
        rw [heq, h0] at h1
        cases h1
      have hjT : j < T := by
        have h3 := hg2 j (List.mem_range.2 (Array.getElem?_eq_some_iff.1 hoj).1)
        rw [Bool.or_eq_true, decide_eq_true_eq] at h3
        rcases h3 with h3 | h3
        · exact h3
        · have := ready_waits hj h3
          rw [reach_unlisted hcu h0 _ _ hg1] at this
          cases this
      have h2 := wpOp_putIf hoj (hfree j oj hoj hji hjun hnot) (fun cs b => hsel i oi cs b hi) (fun cs b => hsel j oj cs b hoj) hQ hy h1
      have hfree' : ∀ k ok, ops[k]? = some ok → k ≠ i → (listed.setIfInBounds j true).getD k true = false →
          (∀ e ∈ ok.after, Region.binds md e = true → e.on ≠ i) → oi.apart ops ok = true := fun k ok hk hki hun hno => by
        refine hfree k ok hk hki ?_ hno
        by_cases hjk : j = k
        · subst hjk; exact hjun
        · rw [getD_set_ne true hjk] at hun; exact hun
      refine wpOp_mono (fun a' w' h3 => ⟨h3.2.1, ih (listed.setIfInBounds j true) a' w' hfree' (ready_mono hr (Ne.symm hji)) (hcu.set hj) h3.1 (h3.2.1 hjT) ?_⟩) h2
      rw [Array.setIfInBounds_comm _ _ hji]
      exact h3.2.2
/-- Take number i first. -/
theorem wpAnyT_take (i c : Nat) {oi : Oper} {v : Value} {fuel : Nat} {listed : Array Bool} {a : Act} {w : World} (hi : ops[i]? = some oi) (hgd : oi.guard = none)
    (hs : Region.noSelect ops = true) (hf : Region.free md ops listed i = true) (hr : (Region.ready md ops listed).contains i = true) (hg : gateB md ops T c i = true) (hcu : closedB md ops listed = true)
    (hQ : ∀ c a w, Q (.panic c) (a.put oi.dst v) w → Q (.panic c) a w) (hy : ∀ w, S w → (execOp a.eval oi).run P w = .ok (.value v) w) (hS : S w)
    (h : wpAnyT P md ops Q S T fuel (listed.setIfInBounds i true) (a.put oi.dst v) w) : wpAnyT P md ops Q S T (fuel + 1) listed a w :=
  wpAnyT_first hi (Region.noSelect_spec hs) hQ hg fuel listed a w (Region.free_spec hi hf) (by simpa using hr) (closedB_spec hcu) (.inl ⟨by simp [Region.wanted, hgd], hy⟩) hS h
/-- One of those that may come up is carried out. -/
theorem opT {i : Nat} {o : Oper} {K : Act → World → Prop} {a : Act} {w w' : World} {v : Value} (ho : ops[i]? = some o) (hgd : o.guard = none) (hrun : (execOp a.eval o).run P w = .ok (.value v) w') (h : K (a.put o.dst v) w') : wpOp P ops Q i K a w := by
  unfold wpOp
  simp only [ho]
  rw [if_pos (by simp [Region.wanted, hgd])]
  refine .inl ?_
  unfold Oper.wp
  rw [hrun]
  exact h
theorem opT_skip {i : Nat} {o : Oper} {K : Act → World → Prop} {a : Act} {w w' : World} (ho : ops[i]? = some o) (hgd : o.guard = none) (hd : o.dst = none) (hrun : (execOp a.eval o).run P w = .ok .skip w') (h : K a w') : wpOp P ops Q i K a w := by
  unfold wpOp
  simp only [ho]
  rw [if_pos (by simp [Region.wanted, hgd])]
  refine .inl ?_
  unfold Oper.wp
  rw [hrun]
  show K (a.put o.dst undef) w'
  rw [hd]
  exact h
theorem wpAnyT_one (i : Nat) {fuel : Nat} {listed : Array Bool} {a : Act} {w : World} (hr : Region.ready md ops listed = [i])
    (h : wpOp P ops Q i (fun a' w' => (i < T → S w') ∧ wpAnyT P md ops Q S T fuel (listed.setIfInBounds i true) a' w') a w) : wpAnyT P md ops Q S T (fuel + 1) listed a w :=
  ⟨fun h0 => (by rw [hr] at h0; cases h0), fun j hj => (by rw [hr] at hj; simp at hj; subst hj; exact h)⟩
theorem wpAnyT_two (i k : Nat) {fuel : Nat} {listed : Array Bool} {a : Act} {w : World} (hr : Region.ready md ops listed = [i, k])
    (h : wpOp P ops Q i (fun a' w' => (i < T → S w') ∧ wpAnyT P md ops Q S T fuel (listed.setIfInBounds i true) a' w') a w)
    (h' : wpOp P ops Q k (fun a' w' => (k < T → S w') ∧ wpAnyT P md ops Q S T fuel (listed.setIfInBounds k true) a' w') a w) : wpAnyT P md ops Q S T (fuel + 1) listed a w := by
  refine ⟨fun h0 => (by rw [hr] at h0; cases h0), fun j hj => ?_⟩
  rw [hr] at hj
  simp at hj
  rcases hj with rfl | rfl
  · exact h
  · exact h'
theorem wpAnyT_done {listed : Array Bool} {a : Act} {w : World} (hr : Region.ready md ops listed = []) (h : Q .normal a w) : wpAnyT P md ops Q S T 0 listed a w := ⟨hr, h⟩
theorem wp_region_T {id : Nat} {a : Act} {w : World} (hm : P.follows .mixedOrders = true) (h : wpAnyT P .any ops Q S T ops.size (Array.replicate ops.size false) a w.drew) : (Code.region id ops true).wp P Q a w :=
  wp_region_any hm (wpAny_of_T _ _ _ _ h)
end

/-- A region of a body. -/
def findR (k : Nat) : Code → Option (Array Oper)
  | .region n o _ => match n == k with
    | true => some o
    | false => none
  | .loop c => findR k c
  | .seq a b => match findR k a with
    | some o => some o
    | none => findR k b
  | .block _ c => findR k c
  | .scope c => findR k c
  | .cond _ a b => match findR k a with
    | some o => some o
    | none => findR k b
  | _ => none

theorem ev_same {a : Act} {d : Nat} {v : Value} (h : d < a.tmps.size) : (a.put (some d) v).eval (.tmp d) = v := by
  show ((a.tmps.setIfInBounds d v).getD d undef) = v
  simp [h]
theorem ev_ne {a : Act} {d e : Nat} {v : Value} (h : d ≠ e) : (a.put (some d) v).eval (.tmp e) = a.eval (.tmp e) := by
  show ((a.tmps.setIfInBounds d v).getD e undef) = a.tmps.getD e undef
  rw [Array.getD_eq_getD_getElem?, Array.getD_eq_getD_getElem?, Array.getElem?_setIfInBounds_ne h]
theorem put_sz {a : Act} {d : Nat} {v : Value} : (a.put (some d) v).tmps.size = a.tmps.size := by
  show (a.tmps.setIfInBounds d v).size = _
  simp
theorem pc {a : Act} {d e : Nat} {u v : Value} (h : d ≠ e) : (a.put (some d) u).put (some e) v = (a.put (some e) v).put (some d) u := by
  show Act.mk ((a.tmps.setIfInBounds d u).setIfInBounds e v) _ = Act.mk ((a.tmps.setIfInBounds e v).setIfInBounds d u) _
  rw [Array.setIfInBounds_comm _ _ h]
  rfl

/-- An append, run. -/
theorem run_app {P : Program} {o : Oper} {a : Act} {s x : Operand} {t1 t2 : TypeId} {v u v' : Value} {w w' : World} (ho : o.op = .call { callee := .builtin .append, args := #[s, x], argTypes := #[t1, t2] }) (hs : a.eval s = v) (hx : a.eval x = u)
    (hr : (Builtin.append_ #[t1, t2] o.type #[v, u]).run P w = .ok v' w') : (execOp a.eval o).run P w = .ok (.value v') w' := by
  unfold execOp
  simp only [ho, resolve, invoke, builtin, Sem.run_bind, Sem.run_pure, Result.andThen_ok, List.map_toArray, List.map_cons, List.map_nil, hs, hx, hr]

/-- One element more behind a row of the call's own; the element lies in a block of its own. -/
theorem app_at {t ty e : TypeId} {z : Value} {size bytes : Nat} (ht : Tryz.prog.underlying t = some (.slice e)) (hinf : (Tryz.prog.info? e).map (fun i => (i.zero, i.size, i.bytes)) = some (some z, size, bytes)) (hzs : z.cells.size = size) (hsz : 0 < size) (hby : bytes ≤ 1000)
    {N : Nat} {v : Value} {n : Nat} {xs : List Value} {w : World} (hown : w.ownsRow N e size v n xs) {p : Nat} {cs : Array Value} {fz : Nat × Nat} (hb : w.heap[p]? = some (.cells cs e fz)) (hcs : cs.size = size) (h1 : ∀ u ∈ cs.toList, u.oneCell' = true) (hn : n < 1000) (hN : N ≤ w.heap.size) :
    ∃ g cap w', (Builtin.append_ #[t, t] ty #[v, .slice (some ⟨p, 0, none⟩) 1 1]).run Tryz.prog w = .ok (.slice (some ⟨g, 0, none⟩) (n + 1) cap) w' ∧
      w'.ownsRow N e size (.slice (some ⟨g, 0, none⟩) (n + 1) cap) (n + 1) (xs ++ cs.toList) ∧ w.grownBy w' v.ownBlock ∧ (v.ownBlock = some g ∨ g = w.heap.size) ∧ g < w'.heap.size := by
  obtain ⟨i, hi, hz, hz1, hz2⟩ := info_parts hinf
  exact run_append_lies w t ty N e i z size bytes ht hi hz hz1 hz2 hzs hsz v n xs hown ⟨p, 0, none⟩ 1 1 cs.toList (by simp [hcs]) (World.news_of_block hb) h1 (by omega) (by unfold maxLen; omega) (by have := Nat.mul_le_mul (show n + 1 ≤ 1000 by omega) hby; omega) hN _ rfl

/-- Two rows that were appended to, one behind the other. -/
def AppP (N : Nat) (wc : World) (eA eB : TypeId) (kA kB : Nat) (va vb : Value) (n : Nat) (xs ys csA csB : List Value) (v1 v2 : Value) (w2 : World) : Prop :=
  ∃ wa w1 wb g1 c1 g2 c2, v1 = .slice (some ⟨g1, 0, none⟩) (n + 1) c1 ∧ v2 = .slice (some ⟨g2, 0, none⟩) (n + 1) c2 ∧
    Below wc.heap.size wc wa ∧ wa.grownBy w1 va.ownBlock ∧ w1.ownsRow N eA kA v1 (n + 1) (xs ++ csA) ∧ (va.ownBlock = some g1 ∨ wc.heap.size ≤ g1) ∧
    Below w1.heap.size w1 wb ∧ wb.grownBy w2 vb.ownBlock ∧ w2.ownsRow N eB kB v2 (n + 1) (ys ++ csB) ∧ (vb.ownBlock = some g2 ∨ w1.heap.size ≤ g2)
theorem blk_grown {w w' : World} {v : Value} {N : Nat} {e : TypeId} {k n : Nat} {xs : List Value} (hg : w.grownBy w' v.ownBlock) {wc : World} (ho : wc.ownsRow N e k v n xs) {b : Nat} {o : Obj} (hb : wc.heap.size ≤ b) (hh : w.heap[b]? = some o) : w'.heap[b]? = some o :=
  (hg.block b (lt_heap hh) (fun e => by have := (ho.lt b e.symm).2; omega)).trans hh
theorem blk_far {w w' : World} {v : Value} {N : Nat} {e : TypeId} {k n : Nat} {xs : List Value} (hg : w.grownBy w' v.ownBlock) {wc : World} (ho : wc.ownsRow N e k v n xs) {b : Nat} {o : Obj} (hb : b < N) (hh : w.heap[b]? = some o) : w'.heap[b]? = some o :=
  (hg.block b (lt_heap hh) (fun e => by have := (ho.lt b e.symm).1; omega)).trans hh
end Go.Proofs.YtlfgndhdifpngaaGreatDoor
namespace Go.Proofs.YtlfgndhdifpngaaGreatDoor
open Go.RowKit

theorem codeInfo : (Tryz.prog.info? 23).map (fun i => (i.zero, i.size, i.bytes)) = some (some (.int .u8 0), 1, 1) := by kernel_rfl
theorem intInfo : (Tryz.prog.info? 3).map (fun i => (i.zero, i.size, i.bytes)) = some (some (.int .i64 0), 1, 8) := by kernel_rfl
theorem subInfo : (Tryz.prog.info? 77).map (fun i => (i.zero, i.size, i.bytes)) = some (some (.agg #[.string ⟨#[]⟩, .int .i64 0, .bool false, .bool false, .int .i64 0]), 5, 40) := by kernel_rfl
theorem rsubInfo : (Tryz.prog.info? 98).map (fun i => (i.zero, i.size, i.bytes)) = some (some (.agg #[.string ⟨#[]⟩, .int .i64 0, .bool false, .bool false, .int .i64 0]), 5, 40) := by kernel_rfl
theorem i64_byte {c : Int} (h : 0 ≤ c ∧ c ≤ 255) : IntKind.i64.wrap c = c := by
  unfold IntKind.wrap
  simp [IntKind.bits, IntKind.signed]
  omega

end Go.Proofs.YtlfgndhdifpngaaGreatDoor
namespace Go.Proofs.YtlfgndhdifpngaaGreatDoor
open Go.RowKit
attribute [local go_sem ↓] Go.wp_at_zero Go.wp_at_succ

theorem ppInfo : (Tryz.prog.info? 148).map (fun i => (i.zero, i.size, i.bytes)) = some (some (.agg #[.int .i64 0, .int .i64 0, .string ⟨#[]⟩, .string ⟨#[]⟩]), 4, 48) := by kernel_rfl
theorem rpInfo : (Tryz.prog.info? 147).map (fun i => (i.zero, i.size, i.bytes)) = some (some (.agg #[.int .i64 0, .int .i64 0, .string ⟨#[]⟩, .string ⟨#[]⟩]), 4, 48) := by kernel_rfl
theorem heap_alloc_at {w : World} {o : Obj} {k : Nat} (h : k = w.heap.size) : (w.alloc o).heap[k]? = some o := by subst h; exact heap_alloc_new w o
/-- Four cells of a block. -/
def S4 (b : Nat) (a0 a1 a2 a3 : Value) (w : World) : Prop := w.cell? ⟨b, 0, none⟩ = some a0 ∧ w.cell? ⟨b, 1, none⟩ = some a1 ∧ w.cell? ⟨b, 2, none⟩ = some a2 ∧ w.cell? ⟨b, 3, none⟩ = some a3
theorem S4.alloc {b : Nat} {a0 a1 a2 a3 : Value} {w : World} (h : S4 b a0 a1 a2 a3 w) (hb : b < w.heap.size) (o : Obj) : S4 b a0 a1 a2 a3 (w.alloc o) :=
  ⟨(World.cell?_alloc_lt _ _ _ hb).trans h.1, (World.cell?_alloc_lt _ _ _ hb).trans h.2.1, (World.cell?_alloc_lt _ _ _ hb).trans h.2.2.1, (World.cell?_alloc_lt _ _ _ hb).trans h.2.2.2⟩
theorem S4.grown {b : Nat} {a0 a1 a2 a3 : Value} {w w' : World} {row : Option Nat} (h : S4 b a0 a1 a2 a3 w) (hg : w.grownBy w' row) (hb : b < w.heap.size) (hne : some b ≠ row) : S4 b a0 a1 a2 a3 w' :=
  ⟨(hg.cell_far _ hb hne).trans h.1, (hg.cell_far _ hb hne).trans h.2.1, (hg.cell_far _ hb hne).trans h.2.2.1, (hg.cell_far _ hb hne).trans h.2.2.2⟩

/-- Two rows of the same properties. -/
def Rows2 (N : Nat) (w : World) (a b : Value) (l : List Pr) : Prop :=
  w.ownsRow N 148 4 a l.length (flatP l) ∧ w.ownsRow N 147 4 b l.length (flatP l)
theorem Rows2.below {N : Nat} {w w' : World} {a b : Value} {l : List Pr} (h : Rows2 N w a b l) (hb : Below w.heap.size w w') : Rows2 N w' a b l := ⟨own_below h.1 hb, own_below h.2 hb⟩

section
variable {N : Nat} {wc wa w1 wb w2 : World} {a b : Value} {l : List Pr}
theorem Rows2.kept1 (h : Rows2 N wc a b l) (hg : wa.grownBy w1 a.ownBlock) (ha : Below wc.heap.size wc wa) : w1.ownsRow N 147 4 b l.length (flatP l) :=
  (own_below h.2 ha).kept hg (rows_apart (own_below h.2 ha) (own_below h.1 ha) (by decide))
theorem Rows2.blk1 (h : Rows2 N wc a b l) (hg : wa.grownBy w1 a.ownBlock) {k : Nat} {o : Obj} (hb : wc.heap.size ≤ k) (hh : wa.heap[k]? = some o) : w1.heap[k]? = some o :=
  (hg.block k (lt_heap hh) (fun e => by have := (h.1.lt k e.symm).2; omega)).trans hh
theorem Rows2.step (h : Rows2 N wc a b l) (p : Pr) (hN : N ≤ wc.heap.size) {v1 v2 : Value}
    (ha : Below wc.heap.size wc wa) (q1 : wa.grownBy w1 a.ownBlock) (o1 : w1.ownsRow N 148 4 v1 (l.length + 1) (flatP l ++ [.int .i64 p.id, .int .i64 p.n, .string p.s, .string p.t]))
    (hb : Below w1.heap.size w1 wb) (q2 : wb.grownBy w2 b.ownBlock) (o2 : w2.ownsRow N 147 4 v2 (l.length + 1) (flatP l ++ [.int .i64 p.id, .int .i64 p.n, .string p.s, .string p.t])) :
    Rows2 N w2 v1 v2 (l ++ [p]) ∧ Below N wc w2 := by
  have k1 := h.kept1 q1 ha
  have sa := ha.size; have s1 := q1.size; have sb := hb.size
  have e1 := own_below o1 hb
  have e2 := e1.kept q2 (rows_apart e1 (own_below k1 hb) (by decide))
  refine ⟨⟨?_, ?_⟩, ?_⟩
  · rw [flatP_snoc]; simpa using e2
  · rw [flatP_snoc]; simpa using o2
  · have b1 := (ha.mono hN).grown q1 (by omega) (fun k hk => ((own_below h.1 ha).lt k hk).1)
    exact (b1.trans (hb.mono (by omega))).grown q2 (by omega) (fun k hk => ((own_below k1 hb).lt k hk).1)
end

/-- What the law's helper answers: the rows of the first 80. -/
def PropsP (w : World) (l : List Pr) (e : Ending) (w' : World) : Prop :=
  ∃ a b, e = .returned (.tuple #[a, b]) ∧ Rows2 w.heap.size w' a b (l.take 80) ∧ Below w.heap.size w w'
theorem ptake_at {l : List Pr} {k : Nat} {v : Pr} (h : l[k]? = some v) : l.take (k + 1) = l.take k ++ [v] := by
  obtain ⟨hk, he⟩ := List.getElem?_eq_some_iff.1 h
  rw [List.take_succ_eq_append_getElem hk, he]

end Go.Proofs.YtlfgndhdifpngaaGreatDoor
namespace Go.Proofs.YtlfgndhdifpngaaGreatDoor
open Go.RowKit
attribute [local go_sem ↓] Go.wp_at_zero Go.wp_at_succ

end Go.Proofs.YtlfgndhdifpngaaGreatDoor
namespace Go.Proofs.YtlfgndhdifpngaaGreatDoor
open Go.RowKit

/-- The cells of the document's packet. -/
def rkCells (p : Pk) (vc vp vw vs vf : Value) : Array Value :=
  #[.int .i64 p.kind, .bool p.dup, .bool p.ret, .int .i64 p.qos, .int .i64 p.id, .string p.topic, .string p.pay, .int .i64 p.code, vc, vp, .string p.client, .bool p.clean, .int .i64 p.keep, .bool p.hasWill,
    .string p.wtopic, .string p.wpay, .int .i64 p.wqos, .bool p.wret, vw, .bool p.hasUser, .bool p.hasPass, .string p.user, .string p.pass, .bool p.session, vs, vf]
def rkNil (P : Pk) : Array Value := rkCells P (.slice none 0 0) (.slice none 0 0) (.slice none 0 0) (.slice none 0 0) (.slice none 0 0)
def flatI (l : List Int) : List Value := l.map (Value.int .i64)
theorem flatI_snoc (l : List Int) (x : Int) : flatI (l ++ [x]) = flatI l ++ [.int .i64 x] := by simp [flatI]
structure Own5R (B : Nat) (P : Pk) (vc vp vw vs vf : Value) (w : World) : Prop where
  codes : w.ownsRow B 3 1 vc P.codes.length (flatI P.codes)
  props : w.ownsRow B 147 4 vp P.props.length (flatP P.props)
  wprops : w.ownsRow B 147 4 vw P.wprops.length (flatP P.wprops)
  subs : w.ownsRow B 98 5 vs P.subs.length (flatB P.subs)
  filters : w.ownsRow B 9 1 vf P.filters.length (flatT P.filters)
theorem Own5R.below {B : Nat} {P : Pk} {vc vp vw vs vf : Value} {w w' : World} (h : Own5R B P vc vp vw vs vf w) (hb : Below w.heap.size w w') : Own5R B P vc vp vw vs vf w' :=
  ⟨own_below h.codes hb, own_below h.props hb, own_below h.wprops hb, own_below h.subs hb, own_below h.filters hb⟩
theorem Own5R.set {B b j : Nat} {P : Pk} {vc vp vw vs vf u : Value} {w : World} (h : Own5R B P vc vp vw vs vf w) (hb : b < B) : Own5R B P vc vp vw vs vf (w.setCell ⟨b, j, none⟩ u) :=
  ⟨own_set h.codes (row_ne h.codes hb), own_set h.props (row_ne h.props hb), own_set h.wprops (row_ne h.wprops hb), own_set h.subs (row_ne h.subs hb), own_set h.filters (row_ne h.filters hb)⟩
theorem rk_one (P : Pk) {B : Nat} {vc vp vw vs vf : Value} {w : World} (h : Own5R B P vc vp vw vs vf w) : (rkCells P vc vp vw vs vf).all (·.oneCell') = true := by
  obtain ⟨A1, n1, rfl⟩ := own_form h.codes
  obtain ⟨A2, n2, rfl⟩ := own_form h.props
  obtain ⟨A3, n3, rfl⟩ := own_form h.wprops
  obtain ⟨A4, n4, rfl⟩ := own_form h.subs
  obtain ⟨A5, n5, rfl⟩ := own_form h.filters
  simp [rkCells, Value.oneCell']
theorem rk_info : (Tryz.prog.info? 40).map (·.size) = some 26 := by kernel_rfl

/-- On the way: the argument's box, the two answers' cells, the two packets so far. -/
structure PS (t0 : TypeId) (w : World) (C0 : Array Value) (P : Pk) (vc vp vw vs vf uc up uw us uf : Value) (W : World) : Prop where
  b0 : W.heap[w.heap.size]? = some (.cells C0 t0 (0, 0))
  b1 : W.heap[w.heap.size + 1]? = some (.cells (pkNil PK.zeroPk) 31 (0, 0))
  b2 : W.heap[w.heap.size + 2]? = some (.cells (rkNil PK.zeroPk) 40 (0, 0))
  b3 : W.heap[w.heap.size + 3]? = some (.cells (pkCells P vc vp vw vs vf) 31 (0, 0))
  b4 : W.heap[w.heap.size + 4]? = some (.cells (rkCells P uc up uw us uf) 40 (0, 0))
  own : Own5 (w.heap.size + 5) P vc vp vw vs vf W
  ref : Own5R (w.heap.size + 5) P uc up uw us uf W
  apart : uf.ownBlock = none ∨ uf.ownBlock ≠ vf.ownBlock
  below : Below w.heap.size w W

section
variable {t0 : TypeId} {w : World} {C0 : Array Value} {P : Pk} {vc vp vw vs vf uc up uw us uf : Value} {W W' : World}
theorem PS.size (h : PS t0 w C0 P vc vp vw vs vf uc up uw us uf W) : w.heap.size + 5 ≤ W.heap.size := lt_heap h.b4
theorem PS.next (h : PS t0 w C0 P vc vp vw vs vf uc up uw us uf W) (hb : Below W.heap.size W W') : PS t0 w C0 P vc vp vw vs vf uc up uw us uf W' :=
  ⟨(hb.block _ (lt_heap h.b0)).trans h.b0, (hb.block _ (lt_heap h.b1)).trans h.b1, (hb.block _ (lt_heap h.b2)).trans h.b2, (hb.block _ (lt_heap h.b3)).trans h.b3, (hb.block _ (lt_heap h.b4)).trans h.b4,
    own5_below h.own hb, h.ref.below hb, h.apart, h.below.trans (hb.mono (by have := h.size; omega))⟩
theorem below_set {n g j : Nat} {u : Value} {w w' : World} (h : Below n w w') (hg : n ≤ g) : Below n w (w'.setCell ⟨g, j, none⟩ u) := h.setCell (p := ⟨g, j, none⟩) hg u
/-- A store into the program's packet. -/
theorem PS.set3 {j : Nat} {u : Value} {P' : Pk} {vc' vp' vw' vs' vf' : Value} (h : PS t0 w C0 P vc vp vw vs vf uc up uw us uf W) (hc : (pkCells P vc vp vw vs vf).set! j u = pkCells P' vc' vp' vw' vs' vf') :
    (W.setCell ⟨w.heap.size + 3, j, none⟩ u).heap[w.heap.size + 3]? = some (.cells (pkCells P' vc' vp' vw' vs' vf') 31 (0, 0)) := set_block h.b3 hc

/-- The rows of a packet that was laid aside for a while. -/
theorem AppP.keep {N : Nat} {wc w2 : World} {eA eB : TypeId} {kA kB : Nat} {va vb v1 v2 : Value} {n : Nat} {xs ys csA csB : List Value} (hp : AppP N wc eA eB kA kB va vb n xs ys csA csB v1 v2 w2)
    {M : Nat} {e : TypeId} {k : Nat} {v : Value} {m : Nat} {zs : List Value} (h : wc.ownsRow M e k v m zs) (ha : v.ownBlock = none ∨ v.ownBlock ≠ va.ownBlock) (hb : v.ownBlock = none ∨ v.ownBlock ≠ vb.ownBlock) : w2.ownsRow M e k v m zs := by
  obtain ⟨wa, w1, wb, g1, c1, g2, c2, rfl, rfl, b1, q1, o1, t1, b2, q2, o2, t2⟩ := hp
  exact (own_below ((own_below h b1).kept q1 ha) b2).kept q2 hb
theorem AppP.block {N : Nat} {wc w2 : World} {eA eB : TypeId} {kA kB : Nat} {va vb v1 v2 : Value} {n : Nat} {xs ys csA csB : List Value} (hp : AppP N wc eA eB kA kB va vb n xs ys csA csB v1 v2 w2) {b : Nat} {o : Obj} (ho : wc.heap[b]? = some o)
    (ha : va.ownBlock ≠ some b) (hb : vb.ownBlock ≠ some b) : w2.heap[b]? = some o := by
  obtain ⟨wa, w1, wb, g1, c1, g2, c2, rfl, rfl, b1, q1, o1, t1, b2, q2, o2, t2⟩ := hp
  have h1 := (b1.block _ (lt_heap ho)).trans ho
  have h2 := (q1.block _ (lt_heap h1) (Ne.symm ha)).trans h1
  have h3 := (b2.block _ (lt_heap h2)).trans h2
  exact (q2.block _ (lt_heap h3) (Ne.symm hb)).trans h3
theorem AppP.below {N K : Nat} {wc w2 : World} {eA eB : TypeId} {kA kB : Nat} {va vb v1 v2 : Value} {n : Nat} {xs ys csA csB : List Value} (hp : AppP N wc eA eB kA kB va vb n xs ys csA csB v1 v2 w2) (hA : wc.ownsRow N eA kA va n xs) (hB : wc.ownsRow N eB kB vb n ys) (hN : K ≤ N) (hs : K ≤ wc.heap.size) : Below K wc w2 := by
  obtain ⟨wa, w1, wb, g1, c1, g2, c2, rfl, rfl, b1, q1, o1, t1, b2, q2, o2, t2⟩ := hp
  have s1 := b1.size; have s2 := q1.size; have s3 := b2.size
  have h1 := (b1.mono hs).grown q1 (by omega) (fun k hk => Nat.le_trans hN (hA.lt k hk).1)
  exact (h1.trans (b2.mono (by omega))).grown q2 (by omega) (fun k hk => Nat.le_trans hN (hB.lt k hk).1)
theorem AppP.rows {N : Nat} {wc w2 : World} {eA eB : TypeId} {kA kB : Nat} {va vb v1 v2 : Value} {n : Nat} {xs ys csA csB : List Value} (hp : AppP N wc eA eB kA kB va vb n xs ys csA csB v1 v2 w2) (hB : wc.ownsRow N eB kB vb n ys) (hap : vb.ownBlock = none ∨ vb.ownBlock ≠ va.ownBlock) :
    w2.ownsRow N eA kA v1 (n + 1) (xs ++ csA) ∧ w2.ownsRow N eB kB v2 (n + 1) (ys ++ csB) ∧ v2.ownBlock ≠ v1.ownBlock := by
  obtain ⟨wa, w1, wb, g1, c1, g2, c2, rfl, rfl, b1, q1, o1, t1, b2, q2, o2, t2⟩ := hp
  have l1 := (o1.lt g1 rfl).2
  have s1 := b1.size; have s2 := q1.size
  have ne : vb.ownBlock ≠ some g1 := fun e => by
    rcases t1 with t | t
    · rcases hap with h | h
      · rw [h] at e; cases e
      · exact h (e.trans t.symm)
    · have := (hB.lt g1 e).2; omega
  refine ⟨(own_below o1 b2).kept q2 (.inr (Ne.symm ne)), o2, fun e => ?_⟩
  have e' : g2 = g1 := by simpa [Value.ownBlock] using e
  subst e'
  rcases t2 with t | t
  · exact ne t
  · omega
end
end Go.Proofs.YtlfgndhdifpngaaGreatDoor
namespace Go.Proofs.YtlfgndhdifpngaaGreatDoor
open Go.RowKit

section
variable {t0 : TypeId} {w : World} {C0 : Array Value} {P P' : Pk} {vc vp vw vs vf uc up uw us uf vc' vp' vw' vs' vf' uc' up' uw' us' uf' v1 v2 : Value} {W W2 : World}
/-- Two stores behind all that was made. -/
theorem PS.of (j : Nat) (h0 : W2.heap[w.heap.size]? = some (.cells C0 t0 (0, 0))) (h1 : W2.heap[w.heap.size + 1]? = some (.cells (pkNil PK.zeroPk) 31 (0, 0))) (h2 : W2.heap[w.heap.size + 2]? = some (.cells (rkNil PK.zeroPk) 40 (0, 0)))
    (h3 : W2.heap[w.heap.size + 3]? = some (.cells (pkCells P vc vp vw vs vf) 31 (0, 0))) (h4 : W2.heap[w.heap.size + 4]? = some (.cells (rkCells P uc up uw us uf) 40 (0, 0)))
    (ho : Own5 (w.heap.size + 5) P' vc' vp' vw' vs' vf' W2) (hr : Own5R (w.heap.size + 5) P' uc' up' uw' us' uf' W2) (ha : uf'.ownBlock = none ∨ uf'.ownBlock ≠ vf'.ownBlock) (hb : Below w.heap.size w W2)
    (e3 : (pkCells P vc vp vw vs vf).set! j v1 = pkCells P' vc' vp' vw' vs' vf') (e4 : (rkCells P uc up uw us uf).set! j v2 = rkCells P' uc' up' uw' us' uf') :
    PS t0 w C0 P' vc' vp' vw' vs' vf' uc' up' uw' us' uf' ((W2.setCell ⟨w.heap.size + 3, j, none⟩ v1).setCell ⟨w.heap.size + 4, j, none⟩ v2) := by
  have far : ∀ {b : Nat} {o : Obj}, b ≠ w.heap.size + 3 → b ≠ w.heap.size + 4 → W2.heap[b]? = some o → ((W2.setCell ⟨w.heap.size + 3, j, none⟩ v1).setCell ⟨w.heap.size + 4, j, none⟩ v2).heap[b]? = some o := fun n3 n4 h =>
    (Below.heap_setCell _ _ _ _ n4).trans ((Below.heap_setCell _ _ _ _ n3).trans h)
  exact ⟨far (by omega) (by omega) h0, far (by omega) (by omega) h1, far (by omega) (by omega) h2, (Below.heap_setCell _ _ _ _ (show w.heap.size + 3 ≠ w.heap.size + 4 by omega)).trans (set_block h3 e3), set_block ((Below.heap_setCell _ _ _ _ (show w.heap.size + 4 ≠ w.heap.size + 3 by omega)).trans h4) e4,
    own5_set (own5_set ho (by omega)) (by omega), (hr.set (by omega)).set (by omega), ha, below_set (below_set hb (by omega)) (by omega)⟩

theorem PS.codes (h : PS t0 w C0 P vc vp vw vs vf uc up uw us uf W) (c : Int)
    (hp : AppP (w.heap.size + 5) W 23 3 1 1 vc uc P.codes.length (flatC P.codes) (flatI P.codes) [.int .u8 c] [.int .i64 c] v1 v2 W2) :
    PS t0 w C0 { P with codes := P.codes ++ [c] } v1 vp vw vs vf v2 up uw us uf ((W2.setCell ⟨w.heap.size + 3, 8, none⟩ v1).setCell ⟨w.heap.size + 4, 8, none⟩ v2) := by
  have o := h.own; have r := h.ref
  obtain ⟨r1, r2, _⟩ := hp.rows r.codes (rows_apart r.codes o.codes (by decide))
  have K := fun {M : Nat} {e : TypeId} {k : Nat} {v : Value} {m : Nat} {zs : List Value} (ho : W.ownsRow M e k v m zs) (n1 : e ≠ 23) (n2 : e ≠ 3) => hp.keep ho (rows_apart ho o.codes n1) (rows_apart ho r.codes n2)
  have F := fun {b : Nat} {x : Obj} (hb : b < w.heap.size + 5) (hx : W.heap[b]? = some x) => hp.block hx (row_ne o.codes hb) (row_ne r.codes hb)
  refine PS.of 8 (F (by omega) h.b0) (F (by omega) h.b1) (F (by omega) h.b2) (F (by omega) h.b3) (F (by omega) h.b4) ⟨?_, K o.props (by decide) (by decide), K o.wprops (by decide) (by decide), K o.subs (by decide) (by decide), K o.filters (by decide) (by decide)⟩
    ⟨?_, K r.props (by decide) (by decide), K r.wprops (by decide) (by decide), K r.subs (by decide) (by decide), K r.filters (by decide) (by decide)⟩ h.apart (h.below.trans (hp.below o.codes r.codes (by omega) (by have := h.size; omega))) rfl rfl
  · show W2.ownsRow _ _ _ _ (P.codes ++ [c]).length (flatC (P.codes ++ [c]))
    rw [flatC_snoc, List.length_append]; exact r1
  · show W2.ownsRow _ _ _ _ (P.codes ++ [c]).length (flatI (P.codes ++ [c]))
    rw [flatI_snoc, List.length_append]; exact r2
theorem PS.subs (h : PS t0 w C0 P vc vp vw vs vf uc up uw us uf W) (s : Sb)
    (hp : AppP (w.heap.size + 5) W 77 98 5 5 vs us P.subs.length (flatB P.subs) (flatB P.subs) [.string s.f, .int .i64 s.q, .bool s.nl, .bool s.ap, .int .i64 s.h] [.string s.f, .int .i64 s.q, .bool s.nl, .bool s.ap, .int .i64 s.h] v1 v2 W2) :
    PS t0 w C0 { P with subs := P.subs ++ [s] } vc vp vw v1 vf uc up uw v2 uf ((W2.setCell ⟨w.heap.size + 3, 24, none⟩ v1).setCell ⟨w.heap.size + 4, 24, none⟩ v2) := by
  have o := h.own; have r := h.ref
  obtain ⟨r1, r2, _⟩ := hp.rows r.subs (rows_apart r.subs o.subs (by decide))
  have K := fun {M : Nat} {e : TypeId} {k : Nat} {v : Value} {m : Nat} {zs : List Value} (ho : W.ownsRow M e k v m zs) (n1 : e ≠ 77) (n2 : e ≠ 98) => hp.keep ho (rows_apart ho o.subs n1) (rows_apart ho r.subs n2)
  have F := fun {b : Nat} {x : Obj} (hb : b < w.heap.size + 5) (hx : W.heap[b]? = some x) => hp.block hx (row_ne o.subs hb) (row_ne r.subs hb)
  refine PS.of 24 (F (by omega) h.b0) (F (by omega) h.b1) (F (by omega) h.b2) (F (by omega) h.b3) (F (by omega) h.b4) ⟨K o.codes (by decide) (by decide), K o.props (by decide) (by decide), K o.wprops (by decide) (by decide), ?_, K o.filters (by decide) (by decide)⟩
    ⟨K r.codes (by decide) (by decide), K r.props (by decide) (by decide), K r.wprops (by decide) (by decide), ?_, K r.filters (by decide) (by decide)⟩ h.apart (h.below.trans (hp.below o.subs r.subs (by omega) (by have := h.size; omega))) rfl rfl
  · show W2.ownsRow _ _ _ _ (P.subs ++ [s]).length (flatB (P.subs ++ [s]))
    rw [flatB_snoc, List.length_append]; exact r1
  · show W2.ownsRow _ _ _ _ (P.subs ++ [s]).length (flatB (P.subs ++ [s]))
    rw [flatB_snoc, List.length_append]; exact r2
theorem PS.texts (h : PS t0 w C0 P vc vp vw vs vf uc up uw us uf W) (s : ByteArray)
    (hp : AppP (w.heap.size + 5) W 9 9 1 1 vf uf P.filters.length (flatT P.filters) (flatT P.filters) [.string s] [.string s] v1 v2 W2) :
    PS t0 w C0 { P with filters := P.filters ++ [s] } vc vp vw vs v1 uc up uw us v2 ((W2.setCell ⟨w.heap.size + 3, 25, none⟩ v1).setCell ⟨w.heap.size + 4, 25, none⟩ v2) := by
  have o := h.own; have r := h.ref
  obtain ⟨r1, r2, r3⟩ := hp.rows r.filters h.apart
  have K := fun {M : Nat} {e : TypeId} {k : Nat} {v : Value} {m : Nat} {zs : List Value} (ho : W.ownsRow M e k v m zs) (n1 : e ≠ 9) => hp.keep ho (rows_apart ho o.filters n1) (rows_apart ho r.filters n1)
  have F := fun {b : Nat} {x : Obj} (hb : b < w.heap.size + 5) (hx : W.heap[b]? = some x) => hp.block hx (row_ne o.filters hb) (row_ne r.filters hb)
  refine PS.of 25 (F (by omega) h.b0) (F (by omega) h.b1) (F (by omega) h.b2) (F (by omega) h.b3) (F (by omega) h.b4) ⟨K o.codes (by decide), K o.props (by decide), K o.wprops (by decide), K o.subs (by decide), ?_⟩
    ⟨K r.codes (by decide), K r.props (by decide), K r.wprops (by decide), K r.subs (by decide), ?_⟩ (.inr r3) (h.below.trans (hp.below o.filters r.filters (by omega) (by have := h.size; omega))) rfl rfl
  · show W2.ownsRow _ _ _ _ (P.filters ++ [s]).length (flatT (P.filters ++ [s]))
    rw [flatT_snoc, List.length_append]; exact r1
  · show W2.ownsRow _ _ _ _ (P.filters ++ [s]).length (flatT (P.filters ++ [s]))
    rw [flatT_snoc, List.length_append]; exact r2
theorem PS.props (h : PS t0 w C0 P vc vp vw vs vf uc up uw us uf W) {l : List Pr} (hp : Rows2 W.heap.size W2 v1 v2 l) (hb : Below W.heap.size W W2) :
    PS t0 w C0 { P with props := l } vc v1 vw vs vf uc v2 uw us uf ((W2.setCell ⟨w.heap.size + 3, 9, none⟩ v1).setCell ⟨w.heap.size + 4, 9, none⟩ v2) := by
  have n := h.next hb
  exact PS.of 9 n.b0 n.b1 n.b2 n.b3 n.b4 ⟨n.own.codes, own_base' hp.1 h.size, n.own.wprops, n.own.subs, n.own.filters⟩ ⟨n.ref.codes, own_base' hp.2 h.size, n.ref.wprops, n.ref.subs, n.ref.filters⟩ n.apart n.below rfl rfl
theorem PS.wprops (h : PS t0 w C0 P vc vp vw vs vf uc up uw us uf W) {l : List Pr} (hp : Rows2 W.heap.size W2 v1 v2 l) (hb : Below W.heap.size W W2) :
    PS t0 w C0 { P with wprops := l } vc vp v1 vs vf uc up v2 us uf ((W2.setCell ⟨w.heap.size + 3, 18, none⟩ v1).setCell ⟨w.heap.size + 4, 18, none⟩ v2) := by
  have n := h.next hb
  exact PS.of 18 n.b0 n.b1 n.b2 n.b3 n.b4 ⟨n.own.codes, n.own.props, own_base' hp.1 h.size, n.own.subs, n.own.filters⟩ ⟨n.ref.codes, n.ref.props, own_base' hp.2 h.size, n.ref.subs, n.ref.filters⟩ n.apart n.below rfl rfl
end
end Go.Proofs.YtlfgndhdifpngaaGreatDoor
namespace Go.Proofs.YtlfgndhdifpngaaGreatDoor
open Go.RowKit
attribute [local go_sem ↓] Go.wp_at_zero Go.wp_at_succ

/-- Of each row the first 80. -/
def cut80 (X : Pk) : Pk := { X with codes := X.codes.take 80, props := X.props.take 80, wprops := X.wprops.take 80, subs := X.subs.take 80, filters := X.filters.take 80 }
/-- What the helper answers. -/
def PksP (w : World) (X : Pk) (e : Ending) (w' : World) : Prop :=
  ∃ vc vp vw vs vf uc up uw us uf, e = .returned (.tuple #[.agg (pkCells (cut80 X) vc vp vw vs vf), .agg (rkCells (cut80 X) uc up uw us uf)]) ∧ Own5 w.heap.size (cut80 X) vc vp vw vs vf w' ∧ Own5R w.heap.size (cut80 X) uc up uw us uf w' ∧ Below w.heap.size w w'
/-- The packet without its rows and its will. -/
def bareX (X : Pk) : Pk := ⟨X.kind, X.dup, X.ret, X.qos, X.id, X.topic, X.pay, X.code, [], [], X.client, X.clean, X.keep, X.hasWill, ⟨#[]⟩, ⟨#[]⟩, 0, false, [], X.hasUser, X.hasPass, X.user, X.pass, X.session, [], []⟩
def pks1 (X : Pk) : Pk := { bareX X with props := X.props.take 80 }
def pks2 (X : Pk) : Pk := { pks1 X with wtopic := X.wtopic, wpay := X.wpay, wqos := X.wqos, wret := X.wret }
def pks3 (X : Pk) : Pk := { pks2 X with wprops := X.wprops.take 80 }
def pksC (X : Pk) (k : Nat) : Pk := { pks3 X with codes := X.codes.take k }
def pksS (X : Pk) (k : Nat) : Pk := { pksC X 80 with subs := X.subs.take k }
def pksF (X : Pk) (k : Nat) : Pk := { pksS X 80 with filters := X.filters.take k }
theorem pksF_is (X : Pk) : pksF X 80 = cut80 X := by
  unfold pksF pksS pksC pks3 pks2 pks1 bareX cut80
  rfl
/-- On the way, with whatever rows. -/
def PE (t0 : TypeId) (w : World) (C0 : Array Value) (P : Pk) (W : World) : Prop := ∃ vc vp vw vs vf uc up uw us uf, PS t0 w C0 P vc vp vw vs vf uc up uw us uf W
/-- A will's cells, stored. -/
def setW (W : World) (b : Nat) (t p : ByteArray) (q : Int) (r : Bool) : World := ((((W.setCell ⟨b, 14, none⟩ (.string t)).setCell ⟨b, 15, none⟩ (.string p)).setCell ⟨b, 16, none⟩ (.int .i64 q)).setCell ⟨b, 17, none⟩ (.bool r)).setCell ⟨b, 18, none⟩ (.slice none 0 0)
section
variable {W : World} {b : Nat} {t p : ByteArray} {q : Int} {r : Bool}
theorem setW_far {c : Nat} (h : c ≠ b) : (setW W b t p q r).heap[c]? = W.heap[c]? := by
  unfold setW
  rw [Below.heap_setCell _ _ _ _ h, Below.heap_setCell _ _ _ _ h, Below.heap_setCell _ _ _ _ h, Below.heap_setCell _ _ _ _ h, Below.heap_setCell _ _ _ _ h]
theorem setW_below {n : Nat} {w : World} (h : Below n w W) (hb : n ≤ b) : Below n w (setW W b t p q r) := below_set (below_set (below_set (below_set (below_set h hb) hb) hb) hb) hb
theorem setW_own {B : Nat} {P : Pk} {vc vp vw vs vf : Value} (h : Own5 B P vc vp vw vs vf W) (hb : b < B) : Own5 B P vc vp vw vs vf (setW W b t p q r) := own5_set (own5_set (own5_set (own5_set (own5_set h hb) hb) hb) hb) hb
theorem setW_ownR {B : Nat} {P : Pk} {vc vp vw vs vf : Value} (h : Own5R B P vc vp vw vs vf W) (hb : b < B) : Own5R B P vc vp vw vs vf (setW W b t p q r) := ((((h.set hb).set hb).set hb).set hb).set hb
theorem setW_pk {P : Pk} {vc vp vw vs vf : Value} {ty : TypeId} (h : W.heap[b]? = some (.cells (pkCells P vc vp vw vs vf) ty (0, 0))) :
    (setW W b t p q r).heap[b]? = some (.cells (pkCells { P with wtopic := t, wpay := p, wqos := q, wret := r } vc vp (.slice none 0 0) vs vf) ty (0, 0)) :=
  set_block (set_block (set_block (set_block (set_block h rfl) rfl) rfl) rfl) rfl
theorem setW_rk {P : Pk} {vc vp vw vs vf : Value} {ty : TypeId} (h : W.heap[b]? = some (.cells (rkCells P vc vp vw vs vf) ty (0, 0))) :
    (setW W b t p q r).heap[b]? = some (.cells (rkCells { P with wtopic := t, wpay := p, wqos := q, wret := r } vc vp (.slice none 0 0) vs vf) ty (0, 0)) :=
  set_block (set_block (set_block (set_block (set_block h rfl) rfl) rfl) rfl) rfl
end
theorem PE.will {t0 : TypeId} {w : World} {C0 : Array Value} {P : Pk} {W : World} (h : PE t0 w C0 P W) (hw : P.wprops = []) (t p : ByteArray) (q : Int) (r : Bool) :
    PE t0 w C0 { P with wtopic := t, wpay := p, wqos := q, wret := r } (setW (setW W (w.heap.size + 3) t p q r) (w.heap.size + 4) t p q r) := by
  obtain ⟨vc, vp, vw, vs, vf, uc, up, uw, us, uf, h⟩ := h
  have o := setW_own (t := t) (p := p) (q := q) (r := r) (setW_own (t := t) (p := p) (q := q) (r := r) h.own (show w.heap.size + 3 < w.heap.size + 5 by omega)) (show w.heap.size + 4 < w.heap.size + 5 by omega)
  have o' := setW_ownR (t := t) (p := p) (q := q) (r := r) (setW_ownR (t := t) (p := p) (q := q) (r := r) h.ref (show w.heap.size + 3 < w.heap.size + 5 by omega)) (show w.heap.size + 4 < w.heap.size + 5 by omega)
  have n : ∀ (W' : World) (e : TypeId) (k : Nat), W'.ownsRow (w.heap.size + 5) e k (.slice none 0 0) P.wprops.length (flatP P.wprops) := fun W' e k => by rw [hw]; exact own_nil _ _ _ _
  exact ⟨vc, vp, .slice none 0 0, vs, vf, uc, up, .slice none 0 0, us, uf, (setW_far (by omega)).trans ((setW_far (by omega)).trans h.b0), (setW_far (by omega)).trans ((setW_far (by omega)).trans h.b1), (setW_far (by omega)).trans ((setW_far (by omega)).trans h.b2),
    (setW_far (by omega)).trans (setW_pk h.b3), setW_rk ((setW_far (by omega)).trans h.b4), ⟨o.codes, o.props, n _ _ _, o.subs, o.filters⟩, ⟨o'.codes, o'.props, n _ _ _, o'.subs, o'.filters⟩, h.apart, setW_below (setW_below h.below (by omega)) (by omega)⟩
theorem rkNil_one (P : Pk) : (rkNil P).all (·.oneCell') = true := by simp [rkNil, rkCells, Value.oneCell']

theorem PE.codes {t0 : TypeId} {w : World} {C0 : Array Value} {X : Pk} {k : Nat} {vc vp vw vs vf uc up uw us uf v1 v2 : Value} {W W2 : World} (h : PS t0 w C0 (pksC X k) vc vp vw vs vf uc up uw us uf W) (x : Int) (e : X.codes.take (k + 1) = X.codes.take k ++ [x])
    (hp : AppP (w.heap.size + 5) W 23 3 1 1 vc uc (X.codes.take k).length (flatC (X.codes.take k)) (flatI (X.codes.take k)) [.int .u8 x] [.int .i64 x] v1 v2 W2) :
    PE t0 w C0 (pksC X (k + 1)) ((W2.setCell ⟨w.heap.size + 3, 8, none⟩ v1).setCell ⟨w.heap.size + 4, 8, none⟩ v2) := by
  have h0 := h.codes x hp
  refine ⟨v1, vp, vw, vs, vf, v2, up, uw, us, uf, ?_⟩
  have e2 : pksC X (k + 1) = { pksC X k with codes := (pksC X k).codes ++ [x] } := by
    show pksC X (k + 1) = { pksC X k with codes := X.codes.take k ++ [x] }
    rw [← e]
    rfl
  rw [e2]
  exact h0
theorem PE.subs {t0 : TypeId} {w : World} {C0 : Array Value} {X : Pk} {k : Nat} {vc vp vw vs vf uc up uw us uf v1 v2 : Value} {W W2 : World} (h : PS t0 w C0 (pksS X k) vc vp vw vs vf uc up uw us uf W) (x : Sb) (e : X.subs.take (k + 1) = X.subs.take k ++ [x])
    (hp : AppP (w.heap.size + 5) W 77 98 5 5 vs us (X.subs.take k).length (flatB (X.subs.take k)) (flatB (X.subs.take k)) [.string x.f, .int .i64 x.q, .bool x.nl, .bool x.ap, .int .i64 x.h] [.string x.f, .int .i64 x.q, .bool x.nl, .bool x.ap, .int .i64 x.h] v1 v2 W2) :
    PE t0 w C0 (pksS X (k + 1)) ((W2.setCell ⟨w.heap.size + 3, 24, none⟩ v1).setCell ⟨w.heap.size + 4, 24, none⟩ v2) := by
  have h0 := h.subs x hp
  refine ⟨vc, vp, vw, v1, vf, uc, up, uw, v2, uf, ?_⟩
  have e2 : pksS X (k + 1) = { pksS X k with subs := (pksS X k).subs ++ [x] } := by
    show pksS X (k + 1) = { pksS X k with subs := X.subs.take k ++ [x] }
    rw [← e]
    rfl
  rw [e2]
  exact h0
theorem PE.texts {t0 : TypeId} {w : World} {C0 : Array Value} {X : Pk} {k : Nat} {vc vp vw vs vf uc up uw us uf v1 v2 : Value} {W W2 : World} (h : PS t0 w C0 (pksF X k) vc vp vw vs vf uc up uw us uf W) (x : ByteArray) (e : X.filters.take (k + 1) = X.filters.take k ++ [x])
    (hp : AppP (w.heap.size + 5) W 9 9 1 1 vf uf (X.filters.take k).length (flatT (X.filters.take k)) (flatT (X.filters.take k)) [.string x] [.string x] v1 v2 W2) :
    PE t0 w C0 (pksF X (k + 1)) ((W2.setCell ⟨w.heap.size + 3, 25, none⟩ v1).setCell ⟨w.heap.size + 4, 25, none⟩ v2) := by
  have h0 := h.texts x hp
  refine ⟨vc, vp, vw, vs, v1, uc, up, uw, us, v2, ?_⟩
  have e2 : pksF X (k + 1) = { pksF X k with filters := (pksF X k).filters ++ [x] } := by
    show pksF X (k + 1) = { pksF X k with filters := X.filters.take k ++ [x] }
    rw [← e]
    rfl
  rw [e2]
  exact h0
theorem row_form {w : World} {N : Nat} {e : TypeId} {k : Nat} {v : Value} {n : Nat} {xs : List Value} (h : w.ownsRow N e k v n xs) : ∃ A l c, v = .slice A l c := by
  obtain ⟨A, c, h⟩ := own_form h
  exact ⟨A, n, c, h⟩
theorem load_rk_var {w : World} {g : Nat} {P : Pk} {vc vp vw vs vf : Value} (h : w.heap[g]? = some (.cells (rkCells P vc vp vw vs vf) 40 (0, 0))) :
    (loadVar 40 ⟨g, 0, none⟩).run Tryz.prog w = .ok (.agg (rkCells P vc vp vw vs vf)) w :=
  run_loadVar_mid _ g 0 40 (rkCells P vc vp vw vs vf).toList _ (fun j v hv => by rw [Nat.zero_add, cell_heap h, ← hv]; simp) Tryz.underlying40 rfl (by kernel_rfl)
theorem step_load_rk {ops : Array Oper} {o : Oper} {a : Act} {w : World} {K : Act → World → Prop} {Q : Exit → Act → World → Prop} {E : Prop} (hgd : o.guard = none) (x : Operand) (ho : o.op = .load 40 x)
    (n : Nat) (hx : a.eval x = .pointer (some ⟨n, 0, none⟩)) {p : Pk} {vc vp vw vs vf : Value} (hb : w.heap[n]? = some (.cells (rkCells p vc vp vw vs vf) 40 (0, 0)))
    (h : K (a.put o.dst (.agg (rkCells p vc vp vw vs vf))) w) : if Region.wanted o (yielded ops a.tmps) = true then Oper.wp Tryz.prog o a w K Q else E := by
  rw [if_pos (by simp [Region.wanted, hgd])]
  exact wp_load_mid 40 x ho n 0 hx (rkCells p vc vp vw vs vf).toList _ (fun j v hv => by rw [Nat.zero_add, cell_heap hb, ← hv]; simp) Tryz.underlying40 rfl (by kernel_rfl) h
theorem step_store_rk {ops : Array Oper} {o : Oper} {a : Act} {w : World} {K : Act → World → Prop} {Q : Exit → Act → World → Prop} {E : Prop} (hgd : o.guard = none) (x y : Operand) (ho : o.op = .store 40 x y)
    (g : Nat) (cells : Array Value) (hx : a.eval x = .pointer (some ⟨g, 0, none⟩)) (hy : a.eval y = .agg cells)
    {t : TypeId} {old : Array Value} (hg : w.heap[g]? = some (.cells old t (0, 0))) (hi : (Tryz.prog.info? 40).map (·.size) = some cells.size)
    (hold : old.size = cells.size) (h1 : cells.all (·.oneCell') = true)
    (h : K (a.put o.dst undef) (w.setRow g cells)) : if Region.wanted o (yielded ops a.tmps) = true then Oper.wp Tryz.prog o a w K Q else E := by
  rw [if_pos (by simp [Region.wanted, hgd])]
  exact wp_store_row 40 x y ho g cells hx hy t old hg hi hold h1 h
theorem read_pair {P : Program} {W : World} {g g' : Nat} {T T' : TypeId} {x y : Value} (hl : (loadVar T ⟨g, 0, none⟩).run P W = .ok x W) (hl' : (loadVar T' ⟨g', 0, none⟩).run P W = .ok y W) :
    ((Sem.run P (asAddr (.pointer (some ⟨g, 0, none⟩))) W).andThen fun a w' => (Sem.run P (loadVar T a) w').andThen fun a w' => (Sem.run P (asAddr (.pointer (some ⟨g', 0, none⟩))) w').andThen fun b w' => (Sem.run P (loadVar T' b) w').andThen fun b w' => Result.ok (Value.tuple #[a, b]) w') = .ok (Value.tuple #[x, y]) W := by
  show ((Sem.run P (loadVar T ⟨g, 0, none⟩) W).andThen _) = _
  rw [hl]
  show ((Sem.run P (loadVar T' ⟨g', 0, none⟩) W).andThen _) = _
  rw [hl']
  rfl

end Go.Proofs.YtlfgndhdifpngaaGreatDoor
namespace Go.Proofs.YtlfgndhdifpngaaGreatDoor
open Go.RowKit
attribute [local go_sem ↓] Go.wp_at_zero Go.wp_at_succ

/-- The packet that the laws' wakes puts. -/
def wakePk : Pk := ⟨3, false, false, 1, 10, ⟨#[97]⟩, ⟨#[120]⟩, 0, [], [], ⟨#[]⟩, false, 0, false, ⟨#[]⟩, ⟨#[]⟩, 0, false, [], false, false, ⟨#[]⟩, ⟨#[]⟩, false, [], []⟩
theorem wakePk_f : PkF wakePk := by
  have z : Short (ByteArray.mk #[]) := Nat.zero_le _
  have i0 : I64 0 := ⟨by decide, by decide⟩
  exact ⟨⟨⟨by decide, by decide⟩, ⟨by decide, by decide⟩, ⟨by decide, by decide⟩, (by decide : (1 : Nat) ≤ 140737488351232), (by decide : (1 : Nat) ≤ 140737488351232), ⟨by decide, by decide⟩, z, i0, z, z, i0, z, z, ⟨Nat.zero_le _, fun c hc => by cases hc⟩, ⟨Nat.zero_le _, fun c hc => by cases hc⟩, ⟨Nat.zero_le _, fun c hc => by cases hc⟩⟩, ⟨Nat.zero_le _, fun c hc => by cases hc⟩, ⟨Nat.zero_le _, fun c hc => by cases hc⟩⟩
theorem wakePk_s : PK.putS wakePk = ⟨#[50, 7, 0, 1, 97, 0, 10, 0, 120]⟩ := by kernel_rfl
theorem wakePk_c : PK.putC wakePk = 0 := by kernel_rfl
theorem own5_nil (B : Nat) (w : World) (P : Pk) (h1 : P.codes = []) (h2 : P.props = []) (h3 : P.wprops = []) (h4 : P.subs = []) (h5 : P.filters = []) : Own5 B P (.slice none 0 0) (.slice none 0 0) (.slice none 0 0) (.slice none 0 0) (.slice none 0 0) w := by
  refine ⟨?_, ?_, ?_, ?_, ?_⟩
  · rw [h1]; exact own_nil _ _ _ _
  · rw [h2]; exact own_nil _ _ _ _
  · rw [h3]; exact own_nil _ _ _ _
  · rw [h4]; exact own_nil _ _ _ _
  · rw [h5]; exact own_nil _ _ _ _
end Go.Proofs.YtlfgndhdifpngaaGreatDoor
namespace Go.Proofs.YtlfgndhdifpngaaGreatDoor
open Go.RowKit

theorem cut80_f {X : Pk} (h : XFine X) : PkF (cut80 X) := by
  have t : ∀ {α : Type} (l : List α), (l.take 80).length ≤ 100 := fun l => by simp; omega
  exact ⟨⟨h.kind, h.qos, h.id, h.topic, h.pay, h.code, h.client, h.keep, h.wtopic, h.wpay, h.wqos, h.user, h.pass, ⟨t _, fun c hc => h.codes c (List.mem_of_mem_take hc)⟩, ⟨t _, fun c hc => h.subs c (List.mem_of_mem_take hc)⟩, ⟨t _, fun c hc => h.filters c (List.mem_of_mem_take hc)⟩⟩, ⟨t _, fun c hc => h.props c (List.mem_of_mem_take hc)⟩, ⟨t _, fun c hc => h.wprops c (List.mem_of_mem_take hc)⟩⟩
theorem PK.putS_small (P : Pk) (hc : PK.putC P = 0) : (PK.putS P).size ≤ 65600 ∧ 0 < (PK.putS P).size := by
  obtain ⟨m, b, i1, i2, i3, i4, i5, i6, _⟩ := PK.getPk_inv (PK.put_read P hc).1
  have h := PK.len_mono (n := m) (m := 65536) i4 (Nat.le_refl _)
  have e : (strOfNums (VP.putL ((65536 : Nat) : Int))).size = 3 := by decide +kernel
  omega
theorem str_some {S : ByteArray} (h : 0 < S.size) : S.toList.isEmpty = false := by
  rw [Lib.toList_data, List.isEmpty_eq_false_iff]
  intro e
  have := congrArg List.length e
  rw [← Lib.size_eq] at this
  have h0 : S.size = 0 := this
  omega
theorem and240 (n : Int) (h0 : 0 ≤ n) (h1 : n ≤ 255) : bits .and .u8 n 240 = 16 * (n / 16) := by
  obtain ⟨k, rfl⟩ := Int.eq_ofNat_of_zero_le h0
  have h : ∀ k : Fin 256, bits .and .u8 ((k.val : Nat) : Int) 240 = 16 * (((k.val : Nat) : Int) / 16) := by decide +kernel
  exact h ⟨k, by omega⟩
theorem or_low (a b : Int) (h0 : 0 ≤ a) (h1 : a ≤ 15) (h2 : 0 ≤ b) (h3 : b ≤ 15) : bits .or .u8 (16 * a) b = 16 * a + b := by
  obtain ⟨x, rfl⟩ := Int.eq_ofNat_of_zero_le h0
  obtain ⟨y, rfl⟩ := Int.eq_ofNat_of_zero_le h2
  have h : ∀ x y : Fin 16, bits .or .u8 (16 * ((x.val : Nat) : Int)) ((y.val : Nat) : Int) = 16 * ((x.val : Nat) : Int) + ((y.val : Nat) : Int) := by decide +kernel
  exact h ⟨x, by omega⟩ ⟨y, by omega⟩
/-- The first byte with other flags. -/
def newFirst (S : ByteArray) (fl : Int) : ByteArray := strOfNums [16 * (PK.b0 S / 16) + fl % 16] ++ S.extract 1 S.size
theorem conv1_drew (w : World) (a : Int) : (convert 60 9 (.slice (some ⟨w.heap.size, 0, none⟩) 1 1)).run Tryz.prog ((w.alloc (.cells #[.int .u8 a] 5)).drew) = .ok (.string (strOfNums [a])) ((w.alloc (.cells #[.int .u8 a] 5)).drew) := by
  refine run_convert_bytes_arg _ 60 5 Tryz.underlying60 Tryz.underlying5 w.heap.size 0 1 1 [a] rfl (fun i hi => ?_) 9 Tryz.underlying9
  show (w.alloc (.cells #[.int .u8 a] 5)).cell? _ = _
  rw [World.cell?_alloc_at _ _ _ _ rfl]
  obtain rfl : i = 0 := by omega
  rfl
theorem PK.b0_lt (S : ByteArray) : 0 ≤ PK.b0 S ∧ PK.b0 S ≤ 255 := by
  unfold PK.b0
  split
  · rename_i h
    have := VP.byte_lt S 0 h
    omega
  · omega
theorem raw_first (S : ByteArray) (h : 0 < S.size) (fl : Int) (hf : 0 ≤ fl ∧ fl ≤ 255) : bits .or .u8 (bits .and .u8 ((S[0]'h).toNat : Int) 240) (bits .and .u8 fl 15) = 16 * (PK.b0 S / 16) + fl % 16 := by
  have e2 : ((S[0]'h).toNat : Int) = PK.b0 S := by unfold PK.b0; rw [dif_pos h]
  have hb := PK.b0_lt S
  rw [e2, and240 _ hb.1 hb.2, and15 _ hf.1 hf.2, or_low _ _ (by omega) (by omega) (by omega) (by omega)]
theorem first_is (S : ByteArray) (h : 0 < S.size) : strOfNums [PK.b0 S] ++ S.extract 1 S.size = S := by
  have e1 : (strOfNums [PK.b0 S]).size = 1 := rfl
  refine PR.ba_ext (by rw [ByteArray.size_append, ByteArray.size_extract, e1]; omega) (fun i h1 h2 => ?_)
  rcases Nat.eq_zero_or_pos i with rfl | hi
  · rw [ByteArray.getElem_append_left (by rw [e1]; decide)]
    have hb := PK.b0_lt S
    have := VP.str_at [PK.b0 S] 0 (by rw [e1]; decide) (by simp) (by simpa using hb.1) (by simp; omega)
    have e2 : ((S[0]'h).toNat : Int) = PK.b0 S := by unfold PK.b0; rw [dif_pos h]
    apply UInt8.toNat_inj.1
    have e3 : ([PK.b0 S] : List Int)[0] = PK.b0 S := rfl
    rw [e3] at this
    omega
  · rw [ByteArray.getElem_append_right (by rw [e1]; omega), ByteArray.getElem_extract]
    congr 1
    rw [e1]
    omega
theorem newFirst_b0 (S : ByteArray) (fl : Int) (_h : 0 ≤ fl ∧ fl ≤ 255) : 0 < (newFirst S fl).size ∧ PK.b0 (newFirst S fl) = 16 * (PK.b0 S / 16) + fl % 16 := by
  have e1 : (strOfNums [16 * (PK.b0 S / 16) + fl % 16]).size = 1 := rfl
  have hz : 0 < (newFirst S fl).size := by unfold newFirst; rw [ByteArray.size_append, e1]; omega
  refine ⟨hz, ?_⟩
  have hb := PK.b0_lt S
  have hs := VP.str_at [16 * (PK.b0 S / 16) + fl % 16] 0 (by rw [e1]; decide) (by simp) (by simp; omega) (by simp; omega)
  have e2 : (newFirst S fl)[0]'hz = (strOfNums [16 * (PK.b0 S / 16) + fl % 16])[0]'(by rw [e1]; decide) := ByteArray.getElem_append_left (by rw [e1]; decide)
  unfold PK.b0 at *
  rw [dif_pos hz, e2]
  exact hs
theorem PK.flags_or (P : Pk) (hc : PK.putC P = 0) (fl : Int) (hf : 0 ≤ fl ∧ fl ≤ 255) (h3 : P.kind ≠ 3) : ((PK.getPk (newFirst (PK.putS P) fl)).2 = 129 ∧ newFirst (PK.putS P) fl ≠ PK.putS P) ∨ newFirst (PK.putS P) fl = PK.putS P := by
  obtain ⟨z, hb⟩ := newFirst_b0 (PK.putS P) fl hf
  have hl := PK.b0_lt (PK.putS P)
  by_cases hr : fl % 16 = PK.b0 (PK.putS P) % 16
  · right
    unfold newFirst
    rw [show 16 * (PK.b0 (PK.putS P) / 16) + fl % 16 = PK.b0 (PK.putS P) by omega]
    exact first_is _ (PK.putS_small P hc).2
  · left
    refine ⟨PK.flags_bad P hc h3 _ z (by rw [hb]; omega) (by rw [hb]; omega), fun e => ?_⟩
    rw [e] at hb
    omega
theorem PK.putS_bad (P : Pk) (hc : PK.putC P ≠ 0) : PK.putS P = ⟨#[]⟩ := by unfold PK.putS; rw [if_pos hc]
/-- The two packets that the law's helper made, in variables of their own. -/
theorem two_vars {B : Nat} {w w1 : World} {P : Pk} {vc vp vw vs vf uc up uw us uf : Value} (o1 : Own5 B P vc vp vw vs vf w1) (hB : Below w.heap.size w w1) {wA : World} (hwA : wA = (((w1.alloc (.cells (pkNil PK.zeroPk) 31)).alloc (.cells (rkNil PK.zeroPk) 40)).setRow w1.heap.size (pkCells P vc vp vw vs vf)).setRow (w1.heap.size + 1) (rkCells P uc up uw us uf)) :
    ((w1.alloc (.cells (pkNil PK.zeroPk) 31)).alloc (.cells (rkNil PK.zeroPk) 40)).heap[w1.heap.size]? = some (.cells (pkNil PK.zeroPk) 31 (0, 0)) ∧
    (((w1.alloc (.cells (pkNil PK.zeroPk) 31)).alloc (.cells (rkNil PK.zeroPk) 40)).setRow w1.heap.size (pkCells P vc vp vw vs vf)).heap[w1.heap.size + 1]? = some (.cells (rkNil PK.zeroPk) 40 (0, 0)) ∧
    wA.heap[w1.heap.size]? = some (.cells (pkCells P vc vp vw vs vf) 31 (0, 0)) ∧ Own5 B P vc vp vw vs vf wA ∧ Below w.heap.size w wA := by
  have k1 := heap_alloc_new w1 (.cells (pkNil PK.zeroPk) 31)
  have sz : (w1.alloc (.cells (pkNil PK.zeroPk) 31)).heap.size = w1.heap.size + 1 := by simp
  have z1 : ((w1.alloc (.cells (pkNil PK.zeroPk) 31)).alloc (.cells (rkNil PK.zeroPk) 40)).heap[w1.heap.size]? = some (.cells (pkNil PK.zeroPk) 31 (0, 0)) := (Below.heap_alloc _ _ _ (by omega)).trans k1
  have z2 : ((w1.alloc (.cells (pkNil PK.zeroPk) 31)).alloc (.cells (rkNil PK.zeroPk) 40)).heap[w1.heap.size + 1]? = some (.cells (rkNil PK.zeroPk) 40 (0, 0)) := by rw [← sz]; exact heap_alloc_new _ _
  have bA : Below w1.heap.size w1 wA := by
    rw [hwA]
    exact below_setRow (below_setRow (((Below.refl _ _).alloc (Nat.le_refl _) _).alloc (by omega) _) (Nat.le_refl _) _) (by omega) _
  refine ⟨z1, (setRow_other _ (by omega)).trans z2, ?_, own5_below o1 bA, hB.trans (bA.mono hB.size)⟩
  rw [hwA]
  exact (setRow_other _ (by omega)).trans (setRow_heap z1)
end Go.Proofs.YtlfgndhdifpngaaGreatDoor
