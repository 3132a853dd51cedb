/- The document's writer of packets: the two regions of 'lists' that draw their order.; The document's writer of packets: lists of filters and of codes.; The document's writer of packets: lists of filters with their options. -/
import Derived.Test.YtlfgndhdifpngaaDoorPkRf2
import Derived.Test.YtlfgndhdifpngaaDoorMA
import Derived.Test.YtlfgndhdifpngaaDoorMD
namespace Go.Proofs.YtlfgndhdifpngaaDoor
open Go.RowKit

section
variable {P : Program} {ops : Array Oper} {Q : Exit → Act → World → Prop}
theorem opT_wp {i : Nat} {o : Oper} {K : Act → World → Prop} {a : Act} {w : World} (ho : ops[i]? = some o) (hgd : o.guard = none) (h : o.wp P a w K Q) : wpOp P ops Q i K a w := by
  unfold wpOp
  simp only [ho]
  rw [if_pos (by simp [Region.wanted, hgd])]
  exact .inl h
theorem opT_call {i : Nat} {o : Oper} {K : Act → World → Prop} {a : Act} {w w1 : World} {f : FuncId} {args : Array Value} {R : Ending → World → Prop} (ho : ops[i]? = some o) (hgd : o.guard = none)
    (hrun : (execOp a.eval o).run P w = .ok (.enter f args) w1) (hc : Calls P f args w1 R) (hR : ∀ e w', R e w' → ∃ v, e = .returned v ∧ K (a.put o.dst v) w') : wpOp P ops Q i K a w := by
  refine opT_wp ho hgd ?_
  unfold Oper.wp
  rw [hrun, Oper.upon_enter]
  refine hc.mono fun e w' h => ?_
  obtain ⟨v, rfl, hk⟩ := hR e w' h
  exact hk
theorem opT_store {i : Nat} {o : Oper} {K : Act → World → Prop} {a : Act} {w : World} (ho : ops[i]? = some o) (hgd : o.guard = none) (hd : o.dst = none) (ty : TypeId) (x y : Operand) (hop : o.op = .store ty x y)
    (g : Nat) (cells : Array Value) (hx : a.eval x = .pointer (some ⟨g, 0, none⟩)) (hy : a.eval y = .agg cells)
    (t : TypeId) (old : Array Value) (hg : w.heap[g]? = some (.cells old t (0, 0))) (hi : (P.info? ty).map (·.size) = some cells.size)
    (hold : old.size = cells.size) (h1 : cells.all (·.oneCell') = true) (h : K a (w.setRow g cells)) : wpOp P ops Q i K a w := by
  refine opT_wp ho hgd (wp_store_row ty x y hop g cells hx hy t old hg hi hold h1 ?_)
  rw [hd]
  exact h
end
theorem text_enters (args : Array Value) (W : World) : (callFunc 45 args).run Tryd.prog W = .ok (.enter 45 args) W := enters_of Tryd.func45 (by kernel_rfl) rfl args W
theorem number_enters (args : Array Value) (W : World) : (callFunc 41 args).run Tryd.prog W = .ok (.enter 41 args) W := enters_of Tryd.func41 (by kernel_rfl) rfl args W

set_option linter.unusedSimpArgs false in
set_option maxHeartbeats 4000000 in
set_option maxRecDepth 100000 in
theorem rgl_texts {Q : Exit → Act → World → Prop} (hQ : ∀ c d v a w, Q (.panic c) (a.put d v) w → Q (.panic c) a w) (ops : Array Oper) (hops : Tryd.f48.body.bind (findR 28) = some ops)
    (a : Act) (hsz : a.tmps.size = 131) (b p : Nat) (h2 : a.eval (.tmp 2) = .pointer (some ⟨b, 0, none⟩)) (h3 : a.eval (.tmp 3) = .pointer (some ⟨p, 0, none⟩)) (k : Nat) (hk0 : a.eval (.tmp 11) = .int .i64 (k : Int))
    (W : World) (o o' : ByteArray × Int) (C : Array Value) (g off n cf : Nat) (x : ByteArray) (hkn : k < n)
    (bo : W.heap[b]? = some (.cells (oC o) 74 (0, 0))) (bp : W.heap[p]? = some (.cells C 45 (0, 0))) (cp : C[25]? = some (.slice (some ⟨g, off, none⟩) n cf)) (q : W.cell? ⟨g, off + k, none⟩ = some (.string x)) (hg : g < W.heap.size)
    (hc : ∀ W', Below W.heap.size W W' → Calls Tryd.prog 45 #[.agg (oC o), (.string x)] W' (OP W' o'))
    (hK : ∀ w', Below W.heap.size W w' → Q .normal ((((((((a.put (some 123) (.agg (oC o))).put (some 124) (.pointer (some ⟨p, 25, none⟩))).put (some 125) (.slice (some ⟨g, off, none⟩) n cf)).put (some 126) (.int .i64 (k : Int))).put (some 127) (.pointer (some ⟨g, off + k, none⟩))).put (some 128) (.string x)).put (some 129) (.agg (oC o')))) (w'.setRow b (oC o'))) :
    wpAnyT Tryd.prog .any ops Q (fun w' => Below W.heap.size W w') 7 ops.size (Array.replicate ops.size false) a W := by
  conv at hops => lhs; whnf
  obtain rfl := Option.some.inj hops
  clear hops
  have S0 : (fun w' => Below W.heap.size W w') W := Below.refl _ _
  have lb := lt_heap bo
  have lp := lt_heap bp
  change wpAnyT _ _ _ _ _ _ 8 (Array.replicate 8 false) _ _
  refine wpAnyT_take 0 6 (v := (.agg (oC o))) (by rfl) (by rfl) (by kernel_rfl) (by kernel_rfl) (by kernel_rfl) (by kernel_rfl) (by kernel_rfl) (fun _ _ _ h => hQ _ _ _ _ _ h) (fun w hSw => (by have q0 := (hSw.block _ lb).trans bo; show Sem.run _ (execOp _ ⟨_, .load 74 (.tmp 2), _, _, _, _⟩) _ = _; unfold execOp; simp only [show a.eval (.tmp 2) = _ from h2, Instr.loadAt, Instr.sureAddr, Sem.run_bind, Sem.run_pure, Result.andThen_ok, load_o_var q0])) S0 ?_
  change wpAnyT _ _ _ _ _ _ _ _ (a.put (some 123) (.agg (oC o))) _
  refine wpAnyT_take 1 6 (v := (.pointer (some ⟨p, 25, none⟩))) (by rfl) (by rfl) (by kernel_rfl) (by kernel_rfl) (by kernel_rfl) (by kernel_rfl) (by kernel_rfl) (fun _ _ _ h => hQ _ _ _ _ _ h) (fun w hSw => (by show Sem.run _ (execOp _ ⟨_, .fieldAddr 45 (.tmp 3) 21, _, _, _, _⟩) _ = _; unfold execOp; simp only [show (a.put (some 123) (.agg (oC o))).eval (.tmp 3) = _ from ((ev_ne (by decide)).trans h3)]; go_simp)) S0 ?_
  change wpAnyT _ _ _ _ _ _ _ _ ((a.put (some 123) (.agg (oC o))).put (some 124) (.pointer (some ⟨p, 25, none⟩))) _
  refine wpAnyT_take 2 6 (v := (.slice (some ⟨g, off, none⟩) n cf)) (by rfl) (by rfl) (by kernel_rfl) (by kernel_rfl) (by kernel_rfl) (by kernel_rfl) (by kernel_rfl) (fun _ _ _ h => hQ _ _ _ _ _ h) (fun w hSw => (by have q0 := (cell_heap (i := 25) ((hSw.block _ lp).trans bp)).trans cp; show Sem.run _ (execOp _ ⟨_, .load 27 (.tmp 124), _, _, _, _⟩) _ = _; unfold execOp; simp only [show ((a.put (some 123) (.agg (oC o))).put (some 124) (.pointer (some ⟨p, 25, none⟩))).eval (.tmp 124) = _ from (ev_same (by simp only [put_sz, hsz]; decide))]; go_simp)) S0 ?_
  change wpAnyT _ _ _ _ _ _ _ _ (((a.put (some 123) (.agg (oC o))).put (some 124) (.pointer (some ⟨p, 25, none⟩))).put (some 125) (.slice (some ⟨g, off, none⟩) n cf)) _
  refine wpAnyT_take 3 6 (v := (.int .i64 (k : Int))) (by rfl) (by rfl) (by kernel_rfl) (by kernel_rfl) (by kernel_rfl) (by kernel_rfl) (by kernel_rfl) (fun _ _ _ h => hQ _ _ _ _ _ h) (fun w hSw => (by show Sem.run _ (execOp _ ⟨_, .move (.tmp 11), _, _, _, _⟩) _ = _; unfold execOp; simp only [show (((a.put (some 123) (.agg (oC o))).put (some 124) (.pointer (some ⟨p, 25, none⟩))).put (some 125) (.slice (some ⟨g, off, none⟩) n cf)).eval (.tmp 11) = _ from ((ev_ne (by decide)).trans ((ev_ne (by decide)).trans ((ev_ne (by decide)).trans hk0)))]; go_simp)) S0 ?_
  change wpAnyT _ _ _ _ _ _ _ _ ((((a.put (some 123) (.agg (oC o))).put (some 124) (.pointer (some ⟨p, 25, none⟩))).put (some 125) (.slice (some ⟨g, off, none⟩) n cf)).put (some 126) (.int .i64 (k : Int))) _
  refine wpAnyT_take 4 6 (v := (.pointer (some ⟨g, off + k, none⟩))) (by rfl) (by rfl) (by kernel_rfl) (by kernel_rfl) (by kernel_rfl) (by kernel_rfl) (by kernel_rfl) (fun _ _ _ h => hQ _ _ _ _ _ h) (fun w hSw => (by show Sem.run _ (execOp _ ⟨_, .indexAddr 27 (.tmp 125) (.tmp 126), _, _, _, _⟩) _ = _; unfold execOp; simp only [show ((((a.put (some 123) (.agg (oC o))).put (some 124) (.pointer (some ⟨p, 25, none⟩))).put (some 125) (.slice (some ⟨g, off, none⟩) n cf)).put (some 126) (.int .i64 (k : Int))).eval (.tmp 125) = _ from ((ev_ne (by decide)).trans (ev_same (by simp only [put_sz, hsz]; decide))), show ((((a.put (some 123) (.agg (oC o))).put (some 124) (.pointer (some ⟨p, 25, none⟩))).put (some 125) (.slice (some ⟨g, off, none⟩) n cf)).put (some 126) (.int .i64 (k : Int))).eval (.tmp 126) = _ from (ev_same (by simp only [put_sz, hsz]; decide))]; go_simp)) S0 ?_
  change wpAnyT _ _ _ _ _ _ _ _ (((((a.put (some 123) (.agg (oC o))).put (some 124) (.pointer (some ⟨p, 25, none⟩))).put (some 125) (.slice (some ⟨g, off, none⟩) n cf)).put (some 126) (.int .i64 (k : Int))).put (some 127) (.pointer (some ⟨g, off + k, none⟩))) _
  refine wpAnyT_take 5 6 (v := (.string x)) (by rfl) (by rfl) (by kernel_rfl) (by kernel_rfl) (by kernel_rfl) (by kernel_rfl) (by kernel_rfl) (fun _ _ _ h => hQ _ _ _ _ _ h) (fun w hSw => (by have q0 := (hSw.cell (p := ⟨g, off + k, none⟩) hg).trans q; show Sem.run _ (execOp _ ⟨_, .load 9 (.tmp 127), _, _, _, _⟩) _ = _; unfold execOp; simp only [show (((((a.put (some 123) (.agg (oC o))).put (some 124) (.pointer (some ⟨p, 25, none⟩))).put (some 125) (.slice (some ⟨g, off, none⟩) n cf)).put (some 126) (.int .i64 (k : Int))).put (some 127) (.pointer (some ⟨g, off + k, none⟩))).eval (.tmp 127) = _ from (ev_same (by simp only [put_sz, hsz]; decide))]; go_simp)) S0 ?_
  change wpAnyT _ _ _ _ _ _ _ _ ((((((a.put (some 123) (.agg (oC o))).put (some 124) (.pointer (some ⟨p, 25, none⟩))).put (some 125) (.slice (some ⟨g, off, none⟩) n cf)).put (some 126) (.int .i64 (k : Int))).put (some 127) (.pointer (some ⟨g, off + k, none⟩))).put (some 128) (.string x)) _
  refine wpAnyT_one 6 (by kernel_rfl) ?_
  refine opT_call (f := 45) (args := #[.agg (oC o), (.string x)]) (w1 := W) (by rfl) (by rfl) (by show Sem.run _ (execOp _ ⟨_, .call { callee := .value (.func 45), args := #[.tmp 123, .tmp 128], argTypes := #[74, 9] }, _, _, _, _⟩) _ = _; unfold execOp; have e1 := text_enters; simp only [List.map_toArray, List.map_cons, List.map_nil, show ((((((a.put (some 123) (.agg (oC o))).put (some 124) (.pointer (some ⟨p, 25, none⟩))).put (some 125) (.slice (some ⟨g, off, none⟩) n cf)).put (some 126) (.int .i64 (k : Int))).put (some 127) (.pointer (some ⟨g, off + k, none⟩))).put (some 128) (.string x)).eval (.tmp 123) = _ from ((ev_ne (by decide)).trans ((ev_ne (by decide)).trans ((ev_ne (by decide)).trans ((ev_ne (by decide)).trans ((ev_ne (by decide)).trans (ev_same (by simp only [put_sz, hsz]; decide))))))), show ((((((a.put (some 123) (.agg (oC o))).put (some 124) (.pointer (some ⟨p, 25, none⟩))).put (some 125) (.slice (some ⟨g, off, none⟩) n cf)).put (some 126) (.int .i64 (k : Int))).put (some 127) (.pointer (some ⟨g, off + k, none⟩))).put (some 128) (.string x)).eval (.tmp 128) = _ from (ev_same (by simp only [put_sz, hsz]; decide))]; go_simp) (hc W S0) ?_
  rintro e w1 ⟨rfl, b1⟩
  refine ⟨_, rfl, fun _ => b1, ?_⟩
  change wpAnyT _ _ _ _ _ _ _ _ (((((((a.put (some 123) (.agg (oC o))).put (some 124) (.pointer (some ⟨p, 25, none⟩))).put (some 125) (.slice (some ⟨g, off, none⟩) n cf)).put (some 126) (.int .i64 (k : Int))).put (some 127) (.pointer (some ⟨g, off + k, none⟩))).put (some 128) (.string x)).put (some 129) (.agg (oC o'))) _
  refine wpAnyT_one 7 (by kernel_rfl) ?_
  refine opT_store (by rfl) (by rfl) (by rfl) 74 (.tmp 2) (.tmp 129) (by rfl) b (oC o') ((ev_ne (by decide)).trans ((ev_ne (by decide)).trans ((ev_ne (by decide)).trans ((ev_ne (by decide)).trans ((ev_ne (by decide)).trans ((ev_ne (by decide)).trans ((ev_ne (by decide)).trans h2))))))) (ev_same (by simp only [put_sz, hsz]; decide)) 74 (oC o) ((b1.block _ lb).trans bo) o_info rfl (oC_one _) ⟨fun h => absurd h (by decide), ?_⟩
  exact wpAnyT_done (by kernel_rfl) (hK _ b1)
set_option linter.unusedSimpArgs false in
set_option maxHeartbeats 4000000 in
set_option maxRecDepth 100000 in
theorem rgl_codes {Q : Exit → Act → World → Prop} (hQ : ∀ c d v a w, Q (.panic c) (a.put d v) w → Q (.panic c) a w) (ops : Array Oper) (hops : Tryd.f48.body.bind (findR 8) = some ops)
    (a : Act) (hsz : a.tmps.size = 131) (b p : Nat) (h2 : a.eval (.tmp 2) = .pointer (some ⟨b, 0, none⟩)) (h3 : a.eval (.tmp 3) = .pointer (some ⟨p, 0, none⟩)) (k : Nat) (hk0 : a.eval (.tmp 12) = .int .i64 (k : Int))
    (W : World) (o o' : ByteArray × Int) (C : Array Value) (g off n cf : Nat) (x : Int) (hkn : k < n)
    (bo : W.heap[b]? = some (.cells (oC o) 74 (0, 0))) (bp : W.heap[p]? = some (.cells C 45 (0, 0))) (cp : C[8]? = some (.slice (some ⟨g, off, none⟩) n cf)) (q : W.cell? ⟨g, off + k, none⟩ = some (.int .i64 x)) (hg : g < W.heap.size)
    (hc : ∀ W', Below W.heap.size W W' → Calls Tryd.prog 41 #[.agg (oC o), .int .i64 1, (.int .i64 x)] W' (OP W' o'))
    (hK : ∀ w', Below W.heap.size W w' → Q .normal ((((((((a.put (some 41) (.agg (oC o))).put (some 42) (.pointer (some ⟨p, 8, none⟩))).put (some 43) (.slice (some ⟨g, off, none⟩) n cf)).put (some 44) (.int .i64 (k : Int))).put (some 45) (.pointer (some ⟨g, off + k, none⟩))).put (some 46) (.int .i64 x)).put (some 47) (.agg (oC o')))) (w'.setRow b (oC o'))) :
    wpAnyT Tryd.prog .any ops Q (fun w' => Below W.heap.size W w') 7 ops.size (Array.replicate ops.size false) a W := by
  conv at hops => lhs; whnf
  obtain rfl := Option.some.inj hops
  clear hops
  have S0 : (fun w' => Below W.heap.size W w') W := Below.refl _ _
  have lb := lt_heap bo
  have lp := lt_heap bp
  change wpAnyT _ _ _ _ _ _ 8 (Array.replicate 8 false) _ _
  refine wpAnyT_take 0 6 (v := (.agg (oC o))) (by rfl) (by rfl) (by kernel_rfl) (by kernel_rfl) (by kernel_rfl) (by kernel_rfl) (by kernel_rfl) (fun _ _ _ h => hQ _ _ _ _ _ h) (fun w hSw => (by have q0 := (hSw.block _ lb).trans bo; show Sem.run _ (execOp _ ⟨_, .load 74 (.tmp 2), _, _, _, _⟩) _ = _; unfold execOp; simp only [show a.eval (.tmp 2) = _ from h2, Instr.loadAt, Instr.sureAddr, Sem.run_bind, Sem.run_pure, Result.andThen_ok, load_o_var q0])) S0 ?_
  change wpAnyT _ _ _ _ _ _ _ _ (a.put (some 41) (.agg (oC o))) _
  refine wpAnyT_take 1 6 (v := (.pointer (some ⟨p, 8, none⟩))) (by rfl) (by rfl) (by kernel_rfl) (by kernel_rfl) (by kernel_rfl) (by kernel_rfl) (by kernel_rfl) (fun _ _ _ h => hQ _ _ _ _ _ h) (fun w hSw => (by show Sem.run _ (execOp _ ⟨_, .fieldAddr 45 (.tmp 3) 8, _, _, _, _⟩) _ = _; unfold execOp; simp only [show (a.put (some 41) (.agg (oC o))).eval (.tmp 3) = _ from ((ev_ne (by decide)).trans h3)]; go_simp)) S0 ?_
  change wpAnyT _ _ _ _ _ _ _ _ ((a.put (some 41) (.agg (oC o))).put (some 42) (.pointer (some ⟨p, 8, none⟩))) _
  refine wpAnyT_take 2 6 (v := (.slice (some ⟨g, off, none⟩) n cf)) (by rfl) (by rfl) (by kernel_rfl) (by kernel_rfl) (by kernel_rfl) (by kernel_rfl) (by kernel_rfl) (fun _ _ _ h => hQ _ _ _ _ _ h) (fun w hSw => (by have q0 := (cell_heap (i := 8) ((hSw.block _ lp).trans bp)).trans cp; show Sem.run _ (execOp _ ⟨_, .load 39 (.tmp 42), _, _, _, _⟩) _ = _; unfold execOp; simp only [show ((a.put (some 41) (.agg (oC o))).put (some 42) (.pointer (some ⟨p, 8, none⟩))).eval (.tmp 42) = _ from (ev_same (by simp only [put_sz, hsz]; decide))]; go_simp)) S0 ?_
  change wpAnyT _ _ _ _ _ _ _ _ (((a.put (some 41) (.agg (oC o))).put (some 42) (.pointer (some ⟨p, 8, none⟩))).put (some 43) (.slice (some ⟨g, off, none⟩) n cf)) _
  refine wpAnyT_take 3 6 (v := (.int .i64 (k : Int))) (by rfl) (by rfl) (by kernel_rfl) (by kernel_rfl) (by kernel_rfl) (by kernel_rfl) (by kernel_rfl) (fun _ _ _ h => hQ _ _ _ _ _ h) (fun w hSw => (by show Sem.run _ (execOp _ ⟨_, .move (.tmp 12), _, _, _, _⟩) _ = _; unfold execOp; simp only [show (((a.put (some 41) (.agg (oC o))).put (some 42) (.pointer (some ⟨p, 8, none⟩))).put (some 43) (.slice (some ⟨g, off, none⟩) n cf)).eval (.tmp 12) = _ from ((ev_ne (by decide)).trans ((ev_ne (by decide)).trans ((ev_ne (by decide)).trans hk0)))]; go_simp)) S0 ?_
  change wpAnyT _ _ _ _ _ _ _ _ ((((a.put (some 41) (.agg (oC o))).put (some 42) (.pointer (some ⟨p, 8, none⟩))).put (some 43) (.slice (some ⟨g, off, none⟩) n cf)).put (some 44) (.int .i64 (k : Int))) _
  refine wpAnyT_take 4 6 (v := (.pointer (some ⟨g, off + k, none⟩))) (by rfl) (by rfl) (by kernel_rfl) (by kernel_rfl) (by kernel_rfl) (by kernel_rfl) (by kernel_rfl) (fun _ _ _ h => hQ _ _ _ _ _ h) (fun w hSw => (by show Sem.run _ (execOp _ ⟨_, .indexAddr 39 (.tmp 43) (.tmp 44), _, _, _, _⟩) _ = _; unfold execOp; simp only [show ((((a.put (some 41) (.agg (oC o))).put (some 42) (.pointer (some ⟨p, 8, none⟩))).put (some 43) (.slice (some ⟨g, off, none⟩) n cf)).put (some 44) (.int .i64 (k : Int))).eval (.tmp 43) = _ from ((ev_ne (by decide)).trans (ev_same (by simp only [put_sz, hsz]; decide))), show ((((a.put (some 41) (.agg (oC o))).put (some 42) (.pointer (some ⟨p, 8, none⟩))).put (some 43) (.slice (some ⟨g, off, none⟩) n cf)).put (some 44) (.int .i64 (k : Int))).eval (.tmp 44) = _ from (ev_same (by simp only [put_sz, hsz]; decide))]; go_simp)) S0 ?_
  change wpAnyT _ _ _ _ _ _ _ _ (((((a.put (some 41) (.agg (oC o))).put (some 42) (.pointer (some ⟨p, 8, none⟩))).put (some 43) (.slice (some ⟨g, off, none⟩) n cf)).put (some 44) (.int .i64 (k : Int))).put (some 45) (.pointer (some ⟨g, off + k, none⟩))) _
  refine wpAnyT_take 5 6 (v := (.int .i64 x)) (by rfl) (by rfl) (by kernel_rfl) (by kernel_rfl) (by kernel_rfl) (by kernel_rfl) (by kernel_rfl) (fun _ _ _ h => hQ _ _ _ _ _ h) (fun w hSw => (by have q0 := (hSw.cell (p := ⟨g, off + k, none⟩) hg).trans q; show Sem.run _ (execOp _ ⟨_, .load 3 (.tmp 45), _, _, _, _⟩) _ = _; unfold execOp; simp only [show (((((a.put (some 41) (.agg (oC o))).put (some 42) (.pointer (some ⟨p, 8, none⟩))).put (some 43) (.slice (some ⟨g, off, none⟩) n cf)).put (some 44) (.int .i64 (k : Int))).put (some 45) (.pointer (some ⟨g, off + k, none⟩))).eval (.tmp 45) = _ from (ev_same (by simp only [put_sz, hsz]; decide))]; go_simp)) S0 ?_
  change wpAnyT _ _ _ _ _ _ _ _ ((((((a.put (some 41) (.agg (oC o))).put (some 42) (.pointer (some ⟨p, 8, none⟩))).put (some 43) (.slice (some ⟨g, off, none⟩) n cf)).put (some 44) (.int .i64 (k : Int))).put (some 45) (.pointer (some ⟨g, off + k, none⟩))).put (some 46) (.int .i64 x)) _
  refine wpAnyT_one 6 (by kernel_rfl) ?_
  refine opT_call (f := 41) (args := #[.agg (oC o), .int .i64 1, (.int .i64 x)]) (w1 := W) (by rfl) (by rfl) (by show Sem.run _ (execOp _ ⟨_, .call { callee := .value (.func 41), args := #[.tmp 41, .const (.int .i64 1), .tmp 46], argTypes := #[74, 3, 3] }, _, _, _, _⟩) _ = _; unfold execOp; have e1 := number_enters; simp only [List.map_toArray, List.map_cons, List.map_nil, show ((((((a.put (some 41) (.agg (oC o))).put (some 42) (.pointer (some ⟨p, 8, none⟩))).put (some 43) (.slice (some ⟨g, off, none⟩) n cf)).put (some 44) (.int .i64 (k : Int))).put (some 45) (.pointer (some ⟨g, off + k, none⟩))).put (some 46) (.int .i64 x)).eval (.tmp 41) = _ from ((ev_ne (by decide)).trans ((ev_ne (by decide)).trans ((ev_ne (by decide)).trans ((ev_ne (by decide)).trans ((ev_ne (by decide)).trans (ev_same (by simp only [put_sz, hsz]; decide))))))), show ((((((a.put (some 41) (.agg (oC o))).put (some 42) (.pointer (some ⟨p, 8, none⟩))).put (some 43) (.slice (some ⟨g, off, none⟩) n cf)).put (some 44) (.int .i64 (k : Int))).put (some 45) (.pointer (some ⟨g, off + k, none⟩))).put (some 46) (.int .i64 x)).eval (.tmp 46) = _ from (ev_same (by simp only [put_sz, hsz]; decide))]; go_simp) (hc W S0) ?_
  rintro e w1 ⟨rfl, b1⟩
  refine ⟨_, rfl, fun _ => b1, ?_⟩
  change wpAnyT _ _ _ _ _ _ _ _ (((((((a.put (some 41) (.agg (oC o))).put (some 42) (.pointer (some ⟨p, 8, none⟩))).put (some 43) (.slice (some ⟨g, off, none⟩) n cf)).put (some 44) (.int .i64 (k : Int))).put (some 45) (.pointer (some ⟨g, off + k, none⟩))).put (some 46) (.int .i64 x)).put (some 47) (.agg (oC o'))) _
  refine wpAnyT_one 7 (by kernel_rfl) ?_
  refine opT_store (by rfl) (by rfl) (by rfl) 74 (.tmp 2) (.tmp 47) (by rfl) b (oC o') ((ev_ne (by decide)).trans ((ev_ne (by decide)).trans ((ev_ne (by decide)).trans ((ev_ne (by decide)).trans ((ev_ne (by decide)).trans ((ev_ne (by decide)).trans ((ev_ne (by decide)).trans h2))))))) (ev_same (by simp only [put_sz, hsz]; decide)) 74 (oC o) ((b1.block _ lb).trans bo) o_info rfl (oC_one _) ⟨fun h => absurd h (by decide), ?_⟩
  exact wpAnyT_done (by kernel_rfl) (hK _ b1)
end Go.Proofs.YtlfgndhdifpngaaDoor
namespace Go.Proofs.YtlfgndhdifpngaaDoor
open Go.RowKit
attribute [local go_sem ↓] Go.wp_at_zero Go.wp_at_succ
theorem smo_sz (o : ByteArray × Int) (n : Nat) : (RP.smo o n).1.size ≤ o.1.size + 8388996 := by
  unfold RP.smo
  have z : (ByteArray.mk #[]).size = 0 := rfl
  repeat' split
  · rw [ad_sz, z]; omega
  · rw [ad_sz, z]; omega
  · omega
theorem fold_sz {α : Type} {f : ByteArray × Int → α → ByteArray × Int} (hf : ∀ o x, (f o x).1.size ≤ o.1.size + 33555984) : ∀ (l : List α) (o : ByteArray × Int), (l.foldl f o).1.size ≤ o.1.size + l.length * 33555984
  | [], o => by simp
  | x :: l, o => by
    have h1 := fold_sz hf l (f o x)
    have h2 := hf o x
    rw [List.foldl_cons, List.length_cons]
    omega
/-- A row of numbers. -/
def NumsR (w : World) (A : Option Addr) (l : List Int) : Prop := ∀ (i : Nat) x, l[i]? = some x → ∃ g o, A = some ⟨g, o, none⟩ ∧ g < w.heap.size ∧ w.cell? ⟨g, o + i, none⟩ = some (.int .i64 x)
theorem own_numsR {w : World} {B : Nat} {A : Option Addr} {n cap : Nat} {l : List Int} (h : w.ownsRow B 3 1 (.slice A n cap) n (flatI l)) : NumsR w A l := fun i x hx => by
  have hn : l.length = n := by simpa [flatI] using h.1
  have hi : i < l.length := (List.getElem?_eq_some_iff.1 hx).1
  obtain ⟨g, c', hv, hg, hg'⟩ := h.form (by omega)
  injection hv with hv _ _
  subst hv
  refine ⟨g, 0, rfl, hg', ?_⟩
  rw [Nat.zero_add, ← add0]
  exact h.cells (g := g) rfl i _ (by rw [flatI, List.getElem?_map, hx]; rfl)

set_option linter.unusedSimpArgs false in
set_option linter.unusedVariables false in
set_option maxRecDepth 100000 in
set_option maxHeartbeats 4000000 in
theorem dlists_filters (o : ByteArray × Int) (ho : o.1.size ≤ 1152921504606846976) (P : Pk) (hf : PkF P) (hk : P.kind = 10) (B : Nat) (vc vp vw vs vf : Value) (w : World) (hr : Own5R B P vc vp vw vs vf w) :
    Calls Tryd.prog 48 #[.agg (oC o), .agg (rkCells P vc vp vw vs vf)] w (OP w (RP.each (RP.head o P) P.filters RP.tx)) := by
  obtain ⟨Ap, cp, rfl⟩ := own_form hr.props
  obtain ⟨Af, cf, rfl⟩ := own_form hr.filters
  have CPr : Hid (∀ (o' : ByteArray × Int), o'.1.size ≤ 2305843009213693952 → ∀ W', Below w.heap.size w W' → Calls Tryd.prog 42 #[.agg (oC o'), .int .i64 P.kind, .slice Ap P.props.length cp] W' (OP W' (RP.pr o' P.kind P.props))) := Lib.hid (fun o' h W' hb => dprops_any o' h P.kind Ap cp P.props W' hf.pr.1 ((own_props hr.props).below hb) hf.pr.2)
  have rf := Lib.hid (own_texts hr.filters)
  have hl := hf.fine.filters.1
  have hsh := Lib.hid hf.fine.filters.2
  have hid := hf.fine.id
  have HK := Lib.hid hk; clear hk
  clear hf hr
  have z0 : o.1.size ≤ o.1.size + 0 * 8388996 := by omega
  go_enter Tryd.func48, Tryd.ntmps48
  go_upto_region 1 with fail
  change Code.wp _ _ _ _ (((w.alloc (.cells (oC o) 74)).alloc (.cells (rkCells P vc (.slice Ap P.props.length cp) vw vs (.slice Af P.filters.length cf)) 45)).alloc (.cells (oC (⟨#[]⟩, 0)) 74))
  have H0 := O3.start w P vc (.slice Ap P.props.length cp) vw vs (.slice Af P.filters.length cf) o
  generalize (((w.alloc (.cells (oC o) 74)).alloc (.cells (rkCells P vc (.slice Ap P.props.length cp) vw vs (.slice Af P.filters.length cf)) 45)).alloc (.cells (oC (⟨#[]⟩, 0)) 74)) = W0 at *
  have x4 := (cell_heap (i := 4) H0.pk).trans (show _ = some (.int .i64 P.id) from rfl)
  have HH := Lib.hid H0
  clear H0
  go_wp2_with (refine wpl_load_o (by rfl) (.tmp 2) (by rfl) w.heap.size (by rfl) HH.out.box ?_)
  refine (did_any o (by have := z0; omega) P.id hid _).mono ?_
  rintro e v1 ⟨rfl, b1⟩
  have H' := HH.out.next b1
  clear HH b1 x4
  obtain ⟨o1, ho1⟩ : ∃ o', o' = RP.idd o P.id := ⟨_, rfl⟩
  have z1 : o1.1.size ≤ o.1.size + 1 * 8388996 := by rw [ho1]; exact Nat.le_trans (idd_sz _ _) (by have := z0; omega)
  rw [← ho1]
  obtain ⟨W1, hW⟩ : ∃ W', W' = v1.setRow w.heap.size (oC o1) := ⟨_, rfl⟩
  have H1 : O3 w P vc (.slice Ap P.props.length cp) vw vs (.slice Af P.filters.length cf) o1 (⟨#[]⟩, 0) W1 := by rw [hW]; exact H'.setO _
  have E1 := Lib.hid ho1
  clear ho1
  go_upto_region 2 with (refine wpList_store_row (by rfl) 74 (.tmp 2) (.tmp 16) (by rfl) w.heap.size (oC o1) (by rfl) (by rfl) 74 (oC o) H'.box o_info rfl (oC_one _) ?_)
  change Code.wp _ _ _ _ (v1.setRow w.heap.size (oC o1))
  rw [← hW]
  clear hW H'
  have x0 := (cell_heap (i := 0) H1.pk).trans (show _ = some (.int .i64 P.kind) from rfl)
  have x9 := (cell_heap (i := 9) H1.pk).trans (show _ = some (.slice Ap P.props.length cp) from rfl)
  have HH := Lib.hid H1
  clear H1
  go_wp2_with (refine wpl_load_o (by rfl) (.tmp 2) (by rfl) w.heap.size (by rfl) HH.out.box ?_)
  refine (CPr.out o1 (by have := z1; omega) _ HH.out.below).mono ?_
  rintro e v2 ⟨rfl, b2⟩
  have H' := HH.out.next b2
  clear HH b2 x0 x9
  obtain ⟨o2, ho2⟩ : ∃ o', o' = RP.pr o1 P.kind P.props := ⟨_, rfl⟩
  have z2 : o2.1.size ≤ o.1.size + 2 * 8388996 := by rw [ho2]; exact Nat.le_trans (pr_sz _ _ _) (by have := z1; omega)
  rw [← ho2]
  obtain ⟨W2, hW⟩ : ∃ W', W' = v2.setRow w.heap.size (oC o2) := ⟨_, rfl⟩
  have H2 : O3 w P vc (.slice Ap P.props.length cp) vw vs (.slice Af P.filters.length cf) o2 (⟨#[]⟩, 0) W2 := by rw [hW]; exact H'.setO _
  have E2 := Lib.hid ho2
  clear ho2
  go_upto_region 3 with (refine wpList_store_row (by rfl) 74 (.tmp 2) (.tmp 22) (by rfl) w.heap.size (oC o2) (by rfl) (by rfl) 74 (oC o1) H'.box o_info rfl (oC_one _) ?_)
  change Code.wp _ _ _ _ (v2.setRow w.heap.size (oC o2))
  rw [← hW]
  clear hW H'
  have x0 := (cell_heap (i := 0) H2.pk).trans (show _ = some (.int .i64 P.kind) from rfl)
  have k10 : (P.kind == 10) = true := by rw [HK.out]; rfl
  have k8 : (P.kind == 8) = false := by rw [HK.out]; rfl
  have HH := Lib.hid H2
  clear H2
  go_upto_region 24 with fail
  have H2 := HH.out
  clear HH x0
  have x25 := (cell_heap (i := 25) H2.pk).trans (show _ = some (.slice Af P.filters.length cf) from rfl)
  have HH := Lib.hid H2
  clear H2
  go_wp2_with (refine wpl_load_o (by rfl) (.tmp 2) (by rfl) w.heap.size (by rfl) HH.out.box ?_)
  refine (dsome_any o2 (by have := z2; omega) P.filters.length _).mono ?_
  rintro e v3 ⟨rfl, b3⟩
  have H' := HH.out.next b3
  clear HH b3 x25
  obtain ⟨o3, ho3⟩ : ∃ o', o' = RP.smo o2 P.filters.length := ⟨_, rfl⟩
  have z3 : o3.1.size ≤ o.1.size + 3 * 8388996 := by rw [ho3]; exact Nat.le_trans (smo_sz _ _) (by have := z2; omega)
  rw [← ho3]
  obtain ⟨W3, hW⟩ : ∃ W', W' = v3.setRow w.heap.size (oC o3) := ⟨_, rfl⟩
  have H3 : O3 w P vc (.slice Ap P.props.length cp) vw vs (.slice Af P.filters.length cf) o3 (⟨#[]⟩, 0) W3 := by rw [hW]; exact H'.setO _
  have E3 := Lib.hid ho3
  clear ho3
  go_upto_region 25 with (refine wpList_store_row (by rfl) 74 (.tmp 2) (.tmp 111) (by rfl) w.heap.size (oC o3) (by rfl) (by rfl) 74 (oC o2) H'.box o_info rfl (oC_one _) ?_)
  change Code.wp _ _ _ _ (v3.setRow w.heap.size (oC o3))
  rw [← hW]
  clear hW H'
  obtain ⟨m, hm1, hm2, hm3, hm5⟩ : ∃ m : Nat, m ≤ 64 ∧ m ≤ P.filters.length ∧ (m = 64 ∨ m = P.filters.length) ∧ P.filters.take m = P.filters.take 64 := by
    by_cases h : P.filters.length ≤ 64
    · exact ⟨P.filters.length, h, Nat.le_refl _, .inr rfl, by rw [List.take_of_length_le (Nat.le_refl _), List.take_of_length_le h]⟩
    · exact ⟨64, Nat.le_refl _, by omega, .inl rfl, rfl⟩
  have Hm5 := Lib.hid hm5
  clear hm5
  have HH := Lib.hid H3
  clear H3
  go_wp2_with fail
  go_loopw [11] (fun i wr => ∃ k : Nat, i = .int .i64 k ∧ k ≤ m ∧ Hid (O3 w P vc (.slice Ap P.props.length cp) vw vs (.slice Af P.filters.length cf) ((P.filters.take k).foldl RP.tx o3) (⟨#[]⟩, 0) wr)) (fun i _ => m - (intOf i).toNat)
  case atStart => exact ⟨0, rfl, by omega, HH⟩
  case round =>
    obtain ⟨k, rfl, hk', hP⟩ := hrel
    clear HH
    have hsz := fold_sz (f := RP.tx) (fun o x => Nat.le_trans (tx_sz o x) (by omega)) (P.filters.take k) o3
    have hlk : (P.filters.take k).length ≤ 64 := by simp; omega
    by_cases hlt : k < m
    · obtain ⟨x, hx⟩ : ∃ x, P.filters[k]? = some x := ⟨P.filters[k]'(by omega), List.getElem?_eq_getElem _⟩
      obtain ⟨g, of, rfl, hg, r0⟩ := rf.out k x hx
      have q0 : wr.cell? ⟨g, of + k, none⟩ = some (.string x) := (hP.out.below.cell (p := ⟨g, _, none⟩) hg).trans r0
      have E1 : Hid (P.filters.take (k + 1) = P.filters.take k ++ [x]) := Lib.hid (by obtain ⟨h1, h2⟩ := List.getElem?_eq_some_iff.1 hx; rw [List.take_succ_eq_append_getElem h1, h2])
      have hshx := hsh.out x (List.mem_of_getElem? hx)
      have i0 : (0 : Int) ≤ (k : Int) := by omega
      have i1 : (k : Int) < (P.filters.length : Int) := by omega
      have i2 : (k : Int) < 64 := by omega
      have hgs : g < wr.heap.size := by have := hP.out.below.size; omega
      clear r0 hx
      generalize hok : (P.filters.take k).foldl RP.tx o3 = ok at *
      have z9 : ok.1.size ≤ 2305843009213693952 := by have := z3; omega
      have Hok := Lib.hid hok
      have xl := (cell_heap (i := 25) hP.out.pk).trans (show _ = some (.slice (some ⟨g, of, none⟩) P.filters.length cf) from rfl)
      have Q0 := Lib.hid q0
      clear hok hsz q0
      go_upto_region 28 with fail
      have Hd := hP.out.next ((Below.refl _ wr).drew)
      refine wp_region_noPanic (wp_region_T (by kernel_rfl) (rgl_texts (fun _ _ _ _ _ h => h) _ (by kernel_rfl) _ rfl w.heap.size (w.heap.size + 1) rfl rfl k rfl _ ok (RP.tx ok x) (rkCells P vc (.slice Ap P.props.length cp) vw vs (.slice (some ⟨g, of, none⟩) P.filters.length cf)) g of P.filters.length cf x (by omega) Hd.box Hd.pk rfl Q0.out hgs (fun W' hW' => dtext_any ok z9 x hshx W') ?_))
      intro w' hb
      refine NoPanic.normal ?_
      have HN : Hid (O3 w P vc (.slice Ap P.props.length cp) vw vs (.slice (some ⟨g, of, none⟩) P.filters.length cf) ((P.filters.take (k + 1)).foldl RP.tx o3) (⟨#[]⟩, 0) (w'.setRow w.heap.size (oC (RP.tx ok x)))) := Lib.hid (by
        rw [E1.out, List.foldl_append, Hok.out]
        exact (Hd.next hb).setO _)
      generalize w'.setRow w.heap.size (oC (RP.tx ok x)) = w2 at *
      clear hP xl Hd hb Q0
      simp only [Act.put, List.setIfInBounds_toArray, List.set_cons_zero, List.set_cons_succ]
      go_wp2_with fail
      go_roundw
      case rel => exact ⟨k + 1, by go_num, by omega, HN⟩
      case measure => simp [intOf]; omega
    · have hkm : k = m := by omega
      have EQ : RP.each (RP.head o P) P.filters RP.tx = (P.filters.take k).foldl RP.tx o3 := by
        unfold RP.each RP.head
        rw [hkm, Hm5.out, E3.out, E2.out, E1.out]
      generalize (P.filters.take k).foldl RP.tx o3 = oz at *
      have H9 := hP.out
      have xl := (cell_heap (i := 25) H9.pk).trans (show _ = some (.slice Af P.filters.length cf) from rfl)
      have hgo : (m = 64 → ¬ (k : Int) < 64) ∧ (m = P.filters.length → ¬ (k : Int) < (P.filters.length : Int)) := ⟨fun h => by omega, fun h => by omega⟩
      have HHH := Lib.hid H9
      have HE := Lib.hid EQ
      clear hP H9 hkm EQ hsz
      rcases hm3 with h64 | hlen
      · have i2 := hgo.1 h64
        clear hgo h64
        by_cases i1 : (k : Int) < (P.filters.length : Int)
        · skip
          go_upto_region 29 with fail
          have H9 := HHH.out
          clear xl
          have HR := H9.setR oz
          go_wp2_with (first
            | refine wpl_load_o (by rfl) (.tmp 2) (by rfl) w.heap.size (by rfl) H9.box ?_
            | refine wpList_store_row (by rfl) 74 (.tmp 4) (.tmp 130) (by rfl) (w.heap.size + 2) (oC oz) (by rfl) (by rfl) 74 (oC (⟨#[]⟩, 0)) H9.res o_info rfl (oC_one _) ?_)
          refine bodyPost_ret (v := .agg (oC oz)) ?_ rfl ⟨by rw [HE.out], HR.below⟩
          have hl := load_o_var HR.res
          simp [results, Tryd.results48, Act.put]
          exact hl
        · skip
          go_upto_region 29 with fail
          have H9 := HHH.out
          clear xl
          have HR := H9.setR oz
          go_wp2_with (first
            | refine wpl_load_o (by rfl) (.tmp 2) (by rfl) w.heap.size (by rfl) H9.box ?_
            | refine wpList_store_row (by rfl) 74 (.tmp 4) (.tmp 130) (by rfl) (w.heap.size + 2) (oC oz) (by rfl) (by rfl) 74 (oC (⟨#[]⟩, 0)) H9.res o_info rfl (oC_one _) ?_)
          refine bodyPost_ret (v := .agg (oC oz)) ?_ rfl ⟨by rw [HE.out], HR.below⟩
          have hl := load_o_var HR.res
          simp [results, Tryd.results48, Act.put]
          exact hl
      · have i1 := hgo.2 hlen
        clear hgo hlen
        skip
        go_upto_region 29 with fail
        have H9 := HHH.out
        clear xl
        have HR := H9.setR oz
        go_wp2_with (first
          | refine wpl_load_o (by rfl) (.tmp 2) (by rfl) w.heap.size (by rfl) H9.box ?_
          | refine wpList_store_row (by rfl) 74 (.tmp 4) (.tmp 130) (by rfl) (w.heap.size + 2) (oC oz) (by rfl) (by rfl) 74 (oC (⟨#[]⟩, 0)) H9.res o_info rfl (oC_one _) ?_)
        refine bodyPost_ret (v := .agg (oC oz)) ?_ rfl ⟨by rw [HE.out], HR.below⟩
        have hl := load_o_var HR.res
        simp [results, Tryd.results48, Act.put]
        exact hl
set_option linter.unusedSimpArgs false in
set_option linter.unusedVariables false in
set_option maxRecDepth 100000 in
set_option maxHeartbeats 4000000 in
theorem dlists_codes (o : ByteArray × Int) (ho : o.1.size ≤ 1152921504606846976) (P : Pk) (hf : PkF P) (hk8 : P.kind ≠ 8) (hk10 : P.kind ≠ 10) (B : Nat) (vc vp vw vs vf : Value) (w : World) (hr : Own5R B P vc vp vw vs vf w) :
    Calls Tryd.prog 48 #[.agg (oC o), .agg (rkCells P vc vp vw vs vf)] w (OP w (RP.each (RP.head o P) P.codes (fun o c => RP.nm o 1 c))) := by
  obtain ⟨Ap, cp, rfl⟩ := own_form hr.props
  obtain ⟨Ac, cc, rfl⟩ := own_form hr.codes
  have CPr : Hid (∀ (o' : ByteArray × Int), o'.1.size ≤ 2305843009213693952 → ∀ W', Below w.heap.size w W' → Calls Tryd.prog 42 #[.agg (oC o'), .int .i64 P.kind, .slice Ap P.props.length cp] W' (OP W' (RP.pr o' P.kind P.props))) := Lib.hid (fun o' h W' hb => dprops_any o' h P.kind Ap cp P.props W' hf.pr.1 ((own_props hr.props).below hb) hf.pr.2)
  have rf := Lib.hid (own_numsR hr.codes)
  have hl := hf.fine.codes.1
  have hsh := Lib.hid hf.fine.codes.2
  have hid := hf.fine.id
  have HK8 := Lib.hid hk8; have HK10 := Lib.hid hk10; clear hk8 hk10
  clear hf hr
  have z0 : o.1.size ≤ o.1.size + 0 * 8388996 := by omega
  go_enter Tryd.func48, Tryd.ntmps48
  go_upto_region 1 with fail
  change Code.wp _ _ _ _ (((w.alloc (.cells (oC o) 74)).alloc (.cells (rkCells P (.slice Ac P.codes.length cc) (.slice Ap P.props.length cp) vw vs vf) 45)).alloc (.cells (oC (⟨#[]⟩, 0)) 74))
  have H0 := O3.start w P (.slice Ac P.codes.length cc) (.slice Ap P.props.length cp) vw vs vf o
  generalize (((w.alloc (.cells (oC o) 74)).alloc (.cells (rkCells P (.slice Ac P.codes.length cc) (.slice Ap P.props.length cp) vw vs vf) 45)).alloc (.cells (oC (⟨#[]⟩, 0)) 74)) = W0 at *
  have x4 := (cell_heap (i := 4) H0.pk).trans (show _ = some (.int .i64 P.id) from rfl)
  have HH := Lib.hid H0
  clear H0
  go_wp2_with (refine wpl_load_o (by rfl) (.tmp 2) (by rfl) w.heap.size (by rfl) HH.out.box ?_)
  refine (did_any o (by have := z0; omega) P.id hid _).mono ?_
  rintro e v4 ⟨rfl, b4⟩
  have H' := HH.out.next b4
  clear HH b4 x4
  obtain ⟨o4, ho4⟩ : ∃ o', o' = RP.idd o P.id := ⟨_, rfl⟩
  have z4 : o4.1.size ≤ o.1.size + 1 * 8388996 := by rw [ho4]; exact Nat.le_trans (idd_sz _ _) (by have := z0; omega)
  rw [← ho4]
  obtain ⟨W4, hW⟩ : ∃ W', W' = v4.setRow w.heap.size (oC o4) := ⟨_, rfl⟩
  have H4 : O3 w P (.slice Ac P.codes.length cc) (.slice Ap P.props.length cp) vw vs vf o4 (⟨#[]⟩, 0) W4 := by rw [hW]; exact H'.setO _
  have E4 := Lib.hid ho4
  clear ho4
  go_upto_region 2 with (refine wpList_store_row (by rfl) 74 (.tmp 2) (.tmp 16) (by rfl) w.heap.size (oC o4) (by rfl) (by rfl) 74 (oC o) H'.box o_info rfl (oC_one _) ?_)
  change Code.wp _ _ _ _ (v4.setRow w.heap.size (oC o4))
  rw [← hW]
  clear hW H'
  have x0 := (cell_heap (i := 0) H4.pk).trans (show _ = some (.int .i64 P.kind) from rfl)
  have x9 := (cell_heap (i := 9) H4.pk).trans (show _ = some (.slice Ap P.props.length cp) from rfl)
  have HH := Lib.hid H4
  clear H4
  go_wp2_with (refine wpl_load_o (by rfl) (.tmp 2) (by rfl) w.heap.size (by rfl) HH.out.box ?_)
  refine (CPr.out o4 (by have := z4; omega) _ HH.out.below).mono ?_
  rintro e v5 ⟨rfl, b5⟩
  have H' := HH.out.next b5
  clear HH b5 x0 x9
  obtain ⟨o5, ho5⟩ : ∃ o', o' = RP.pr o4 P.kind P.props := ⟨_, rfl⟩
  have z5 : o5.1.size ≤ o.1.size + 2 * 8388996 := by rw [ho5]; exact Nat.le_trans (pr_sz _ _ _) (by have := z4; omega)
  rw [← ho5]
  obtain ⟨W5, hW⟩ : ∃ W', W' = v5.setRow w.heap.size (oC o5) := ⟨_, rfl⟩
  have H5 : O3 w P (.slice Ac P.codes.length cc) (.slice Ap P.props.length cp) vw vs vf o5 (⟨#[]⟩, 0) W5 := by rw [hW]; exact H'.setO _
  have E5 := Lib.hid ho5
  clear ho5
  go_upto_region 3 with (refine wpList_store_row (by rfl) 74 (.tmp 2) (.tmp 22) (by rfl) w.heap.size (oC o5) (by rfl) (by rfl) 74 (oC o4) H'.box o_info rfl (oC_one _) ?_)
  change Code.wp _ _ _ _ (v5.setRow w.heap.size (oC o5))
  rw [← hW]
  clear hW H'
  have x0 := (cell_heap (i := 0) H5.pk).trans (show _ = some (.int .i64 P.kind) from rfl)
  have k10 : (P.kind == 10) = false := by rw [beq_eq_false_iff_ne]; exact HK10.out
  have k8 : (P.kind == 8) = false := by rw [beq_eq_false_iff_ne]; exact HK8.out
  have HH := Lib.hid H5
  clear H5
  go_upto_region 4 with fail
  have H5 := HH.out
  clear HH x0
  have x8 := (cell_heap (i := 8) H5.pk).trans (show _ = some (.slice Ac P.codes.length cc) from rfl)
  have HH := Lib.hid H5
  clear H5
  go_wp2_with (refine wpl_load_o (by rfl) (.tmp 2) (by rfl) w.heap.size (by rfl) HH.out.box ?_)
  refine (dsome_any o5 (by have := z5; omega) P.codes.length _).mono ?_
  rintro e v6 ⟨rfl, b6⟩
  have H' := HH.out.next b6
  clear HH b6 x8
  obtain ⟨o6, ho6⟩ : ∃ o', o' = RP.smo o5 P.codes.length := ⟨_, rfl⟩
  have z6 : o6.1.size ≤ o.1.size + 3 * 8388996 := by rw [ho6]; exact Nat.le_trans (smo_sz _ _) (by have := z5; omega)
  rw [← ho6]
  obtain ⟨W6, hW⟩ : ∃ W', W' = v6.setRow w.heap.size (oC o6) := ⟨_, rfl⟩
  have H6 : O3 w P (.slice Ac P.codes.length cc) (.slice Ap P.props.length cp) vw vs vf o6 (⟨#[]⟩, 0) W6 := by rw [hW]; exact H'.setO _
  have E6 := Lib.hid ho6
  clear ho6
  go_upto_region 5 with (refine wpList_store_row (by rfl) 74 (.tmp 2) (.tmp 29) (by rfl) w.heap.size (oC o6) (by rfl) (by rfl) 74 (oC o5) H'.box o_info rfl (oC_one _) ?_)
  change Code.wp _ _ _ _ (v6.setRow w.heap.size (oC o6))
  rw [← hW]
  clear hW H'
  obtain ⟨m, hm1, hm2, hm3, hm5⟩ : ∃ m : Nat, m ≤ 64 ∧ m ≤ P.codes.length ∧ (m = 64 ∨ m = P.codes.length) ∧ P.codes.take m = P.codes.take 64 := by
    by_cases h : P.codes.length ≤ 64
    · exact ⟨P.codes.length, h, Nat.le_refl _, .inr rfl, by rw [List.take_of_length_le (Nat.le_refl _), List.take_of_length_le h]⟩
    · exact ⟨64, Nat.le_refl _, by omega, .inl rfl, rfl⟩
  have Hm5 := Lib.hid hm5
  clear hm5
  have HH := Lib.hid H6
  clear H6
  go_wp2_with fail
  go_loopw [12] (fun i wr => ∃ k : Nat, i = .int .i64 k ∧ k ≤ m ∧ Hid (O3 w P (.slice Ac P.codes.length cc) (.slice Ap P.props.length cp) vw vs vf ((P.codes.take k).foldl (fun o c => RP.nm o 1 c) o6) (⟨#[]⟩, 0) wr)) (fun i _ => m - (intOf i).toNat)
  case atStart => exact ⟨0, rfl, by omega, HH⟩
  case round =>
    obtain ⟨k, rfl, hk', hP⟩ := hrel
    clear HH
    have hsz := fold_sz (f := (fun o c => RP.nm o 1 c)) (fun o x => Nat.le_trans (nm_sz o 1 x) (by omega)) (P.codes.take k) o6
    have hlk : (P.codes.take k).length ≤ 64 := by simp; omega
    by_cases hlt : k < m
    · obtain ⟨x, hx⟩ : ∃ x, P.codes[k]? = some x := ⟨P.codes[k]'(by omega), List.getElem?_eq_getElem _⟩
      obtain ⟨g, of, rfl, hg, r0⟩ := rf.out k x hx
      have q0 : wr.cell? ⟨g, of + k, none⟩ = some (.int .i64 x) := (hP.out.below.cell (p := ⟨g, _, none⟩) hg).trans r0
      have E1 : Hid (P.codes.take (k + 1) = P.codes.take k ++ [x]) := Lib.hid (by obtain ⟨h1, h2⟩ := List.getElem?_eq_some_iff.1 hx; rw [List.take_succ_eq_append_getElem h1, h2])
      have hshx := hsh.out x (List.mem_of_getElem? hx)
      have i0 : (0 : Int) ≤ (k : Int) := by omega
      have i1 : (k : Int) < (P.codes.length : Int) := by omega
      have i2 : (k : Int) < 64 := by omega
      have hgs : g < wr.heap.size := by have := hP.out.below.size; omega
      clear r0 hx
      generalize hok : (P.codes.take k).foldl (fun o c => RP.nm o 1 c) o6 = ok at *
      have z9 : ok.1.size ≤ 2305843009213693952 := by have := z6; omega
      have Hok := Lib.hid hok
      have xl := (cell_heap (i := 8) hP.out.pk).trans (show _ = some (.slice (some ⟨g, of, none⟩) P.codes.length cc) from rfl)
      have Q0 := Lib.hid q0
      clear hok hsz q0
      go_upto_region 8 with fail
      have Hd := hP.out.next ((Below.refl _ wr).drew)
      refine wp_region_noPanic (wp_region_T (by kernel_rfl) (rgl_codes (fun _ _ _ _ _ h => h) _ (by kernel_rfl) _ rfl w.heap.size (w.heap.size + 1) rfl rfl k rfl _ ok ((fun o c => RP.nm o 1 c) ok x) (rkCells P (.slice (some ⟨g, of, none⟩) P.codes.length cc) (.slice Ap P.props.length cp) vw vs vf) g of P.codes.length cc x (by omega) Hd.box Hd.pk rfl Q0.out hgs (fun W' hW' => dnumber_any ok z9 1 x (by omega) W') ?_))
      intro w' hb
      refine NoPanic.normal ?_
      have HN : Hid (O3 w P (.slice (some ⟨g, of, none⟩) P.codes.length cc) (.slice Ap P.props.length cp) vw vs vf ((P.codes.take (k + 1)).foldl (fun o c => RP.nm o 1 c) o6) (⟨#[]⟩, 0) (w'.setRow w.heap.size (oC ((fun o c => RP.nm o 1 c) ok x)))) := Lib.hid (by
        rw [E1.out, List.foldl_append, Hok.out]
        exact (Hd.next hb).setO _)
      generalize w'.setRow w.heap.size (oC ((fun o c => RP.nm o 1 c) ok x)) = w2 at *
      clear hP xl Hd hb Q0
      simp only [Act.put, List.setIfInBounds_toArray, List.set_cons_zero, List.set_cons_succ]
      go_wp2_with fail
      go_roundw
      case rel => exact ⟨k + 1, by go_num, by omega, HN⟩
      case measure => simp [intOf]; omega
    · have hkm : k = m := by omega
      have EQ : RP.each (RP.head o P) P.codes (fun o c => RP.nm o 1 c) = (P.codes.take k).foldl (fun o c => RP.nm o 1 c) o6 := by
        unfold RP.each RP.head
        rw [hkm, Hm5.out, E6.out, E5.out, E4.out]
      generalize (P.codes.take k).foldl (fun o c => RP.nm o 1 c) o6 = oz at *
      have H9 := hP.out
      have xl := (cell_heap (i := 8) H9.pk).trans (show _ = some (.slice Ac P.codes.length cc) from rfl)
      have hgo : (m = 64 → ¬ (k : Int) < 64) ∧ (m = P.codes.length → ¬ (k : Int) < (P.codes.length : Int)) := ⟨fun h => by omega, fun h => by omega⟩
      have HHH := Lib.hid H9
      have HE := Lib.hid EQ
      clear hP H9 hkm EQ hsz
      rcases hm3 with h64 | hlen
      · have i2 := hgo.1 h64
        clear hgo h64
        by_cases i1 : (k : Int) < (P.codes.length : Int)
        · skip
          go_upto_region 29 with fail
          have H9 := HHH.out
          clear xl
          have HR := H9.setR oz
          go_wp2_with (first
            | refine wpl_load_o (by rfl) (.tmp 2) (by rfl) w.heap.size (by rfl) H9.box ?_
            | refine wpList_store_row (by rfl) 74 (.tmp 4) (.tmp 130) (by rfl) (w.heap.size + 2) (oC oz) (by rfl) (by rfl) 74 (oC (⟨#[]⟩, 0)) H9.res o_info rfl (oC_one _) ?_)
          refine bodyPost_ret (v := .agg (oC oz)) ?_ rfl ⟨by rw [HE.out], HR.below⟩
          have hl := load_o_var HR.res
          simp [results, Tryd.results48, Act.put]
          exact hl
        · skip
          go_upto_region 29 with fail
          have H9 := HHH.out
          clear xl
          have HR := H9.setR oz
          go_wp2_with (first
            | refine wpl_load_o (by rfl) (.tmp 2) (by rfl) w.heap.size (by rfl) H9.box ?_
            | refine wpList_store_row (by rfl) 74 (.tmp 4) (.tmp 130) (by rfl) (w.heap.size + 2) (oC oz) (by rfl) (by rfl) 74 (oC (⟨#[]⟩, 0)) H9.res o_info rfl (oC_one _) ?_)
          refine bodyPost_ret (v := .agg (oC oz)) ?_ rfl ⟨by rw [HE.out], HR.below⟩
          have hl := load_o_var HR.res
          simp [results, Tryd.results48, Act.put]
          exact hl
      · have i1 := hgo.2 hlen
        clear hgo hlen
        skip
        go_upto_region 29 with fail
        have H9 := HHH.out
        clear xl
        have HR := H9.setR oz
        go_wp2_with (first
          | refine wpl_load_o (by rfl) (.tmp 2) (by rfl) w.heap.size (by rfl) H9.box ?_
          | refine wpList_store_row (by rfl) 74 (.tmp 4) (.tmp 130) (by rfl) (w.heap.size + 2) (oC oz) (by rfl) (by rfl) 74 (oC (⟨#[]⟩, 0)) H9.res o_info rfl (oC_one _) ?_)
        refine bodyPost_ret (v := .agg (oC oz)) ?_ rfl ⟨by rw [HE.out], HR.below⟩
        have hl := load_o_var HR.res
        simp [results, Tryd.results48, Act.put]
        exact hl
end Go.Proofs.YtlfgndhdifpngaaDoor
namespace Go.Proofs.YtlfgndhdifpngaaDoor
open Go.RowKit
attribute [local go_sem ↓] Go.wp_at_zero Go.wp_at_succ
/-- A row of filters with their options. -/
def SubsR (w : World) (A : Option Addr) (l : List Sb) : Prop := ∀ (i : Nat) s, l[i]? = some s → ∃ g o, A = some ⟨g, o, none⟩ ∧ g < w.heap.size ∧
  w.cell? ⟨g, o + i * 5, none⟩ = some (.string s.f) ∧ w.cell? ⟨g, o + i * 5 + 1, none⟩ = some (.int .i64 s.q) ∧ w.cell? ⟨g, o + i * 5 + 2, none⟩ = some (.bool s.nl) ∧ w.cell? ⟨g, o + i * 5 + 3, none⟩ = some (.bool s.ap) ∧ w.cell? ⟨g, o + i * 5 + 4, none⟩ = some (.int .i64 s.h)
theorem own_subsR {w : World} {B : Nat} {A : Option Addr} {n cap : Nat} {l : List Sb} (hn : l.length = n) (h : w.ownsRow B 59 5 (.slice A n cap) n (flatB l)) : SubsR w A l := fun i x hx => by
  have hi : i < l.length := (List.getElem?_eq_some_iff.1 hx).1
  obtain ⟨g, c', hv, hg, hg'⟩ := h.form (by omega)
  injection hv with hv _ _
  subst hv
  obtain ⟨f0, f1, f2, f3, f4⟩ := flatB_at l i x hx
  refine ⟨g, 0, rfl, hg', ?_, ?_, ?_, ?_, ?_⟩
  · rw [Nat.zero_add, ← add0]; exact h.cells (g := g) rfl _ _ f0
  · rw [Nat.zero_add, ← add0]; exact h.cells (g := g) rfl _ _ f1
  · rw [Nat.zero_add, ← add0]; exact h.cells (g := g) rfl _ _ f2
  · rw [Nat.zero_add, ← add0]; exact h.cells (g := g) rfl _ _ f3
  · rw [Nat.zero_add, ← add0]; exact h.cells (g := g) rfl _ _ f4
/-- A filter's cells. -/
def sC (x : Sb) : Array Value := #[.string x.f, .int .i64 x.q, .bool x.nl, .bool x.ap, .int .i64 x.h]
/-- As O3, with a filter in a box of its own. -/
structure O4 (w : World) (P : Pk) (vc vp vw vs vf : Value) (o r : ByteArray × Int) (b : Nat) (x : Sb) (W : World) : Prop where
  three : O3 w P vc vp vw vs vf o r W
  sub : W.heap[b]? = some (.cells (sC x) 59 (0, 0))
  far : w.heap.size + 3 ≤ b
section
variable {w W W' : World} {P : Pk} {vc vp vw vs vf : Value} {o r : ByteArray × Int} {b : Nat} {x : Sb}
theorem O4.next (h : O4 w P vc vp vw vs vf o r b x W) (hb : Below W.heap.size W W') : O4 w P vc vp vw vs vf o r b x W' :=
  ⟨h.three.next hb, (hb.block _ (lt_heap h.sub)).trans h.sub, h.far⟩
theorem O4.setO (h : O4 w P vc vp vw vs vf o r b x W) (o' : ByteArray × Int) : O4 w P vc vp vw vs vf o' r b x (W.setRow w.heap.size (oC o')) :=
  ⟨h.three.setO _, (sr_other _ (by have := h.far; omega)).trans h.sub, h.far⟩
end
theorem sub_sz (o : ByteArray × Int) (x : Sb) : (RP.sub o x).1.size ≤ o.1.size + 33555984 := by
  unfold RP.sub
  have h1 := tx_sz o x.f
  have h2 := qs_sz (RP.tx o x.f) x.q
  have h3 := qs_sz (RP.qs (RP.tx o x.f) x.q) x.h
  exact Nat.le_trans (nm_sz _ _ _) (by omega)

set_option linter.unusedSimpArgs false in
set_option linter.unusedVariables false in
set_option maxRecDepth 100000 in
set_option maxHeartbeats 4000000 in
theorem dlists_subs (o : ByteArray × Int) (ho : o.1.size ≤ 1152921504606846976) (P : Pk) (hf : PkF P) (hk : P.kind = 8) (B : Nat) (vc vp vw vs vf : Value) (w : World) (hr : Own5R B P vc vp vw vs vf w) :
    Calls Tryd.prog 48 #[.agg (oC o), .agg (rkCells P vc vp vw vs vf)] w (OP w (RP.each (RP.head o P) P.subs RP.sub)) := by
  obtain ⟨Ap, cp, rfl⟩ := own_form hr.props
  obtain ⟨As, cs, rfl⟩ := own_form hr.subs
  have CPr : Hid (∀ (o' : ByteArray × Int), o'.1.size ≤ 2305843009213693952 → ∀ W', Below w.heap.size w W' → Calls Tryd.prog 42 #[.agg (oC o'), .int .i64 P.kind, .slice Ap P.props.length cp] W' (OP W' (RP.pr o' P.kind P.props))) := Lib.hid (fun o' h W' hb => dprops_any o' h P.kind Ap cp P.props W' hf.pr.1 ((own_props hr.props).below hb) hf.pr.2)
  have rs := Lib.hid (own_subsR rfl hr.subs)
  have hl := hf.fine.subs.1
  have hsh := Lib.hid hf.fine.subs.2
  have hid := hf.fine.id
  have HK := Lib.hid hk; clear hk
  clear hf hr
  have z0 : o.1.size ≤ o.1.size + 0 * 8388996 := by omega
  go_enter Tryd.func48, Tryd.ntmps48
  go_upto_region 1 with fail
  change Code.wp _ _ _ _ (((w.alloc (.cells (oC o) 74)).alloc (.cells (rkCells P vc (.slice Ap P.props.length cp) vw (.slice As P.subs.length cs) vf) 45)).alloc (.cells (oC (⟨#[]⟩, 0)) 74))
  have H0 := O3.start w P vc (.slice Ap P.props.length cp) vw (.slice As P.subs.length cs) vf o
  generalize (((w.alloc (.cells (oC o) 74)).alloc (.cells (rkCells P vc (.slice Ap P.props.length cp) vw (.slice As P.subs.length cs) vf) 45)).alloc (.cells (oC (⟨#[]⟩, 0)) 74)) = W0 at *
  have x4 := (cell_heap (i := 4) H0.pk).trans (show _ = some (.int .i64 P.id) from rfl)
  have HH := Lib.hid H0
  clear H0
  go_wp2_with (refine wpl_load_o (by rfl) (.tmp 2) (by rfl) w.heap.size (by rfl) HH.out.box ?_)
  refine (did_any o (by have := z0; omega) P.id hid _).mono ?_
  rintro e v1 ⟨rfl, b1⟩
  have H' := HH.out.next b1
  clear HH b1 x4
  obtain ⟨o1, ho1⟩ : ∃ o', o' = RP.idd o P.id := ⟨_, rfl⟩
  have z1 : o1.1.size ≤ o.1.size + 1 * 8388996 := by rw [ho1]; exact Nat.le_trans (idd_sz _ _) (by have := z0; omega)
  rw [← ho1]
  obtain ⟨W1, hW⟩ : ∃ W', W' = v1.setRow w.heap.size (oC o1) := ⟨_, rfl⟩
  have H1 : O3 w P vc (.slice Ap P.props.length cp) vw (.slice As P.subs.length cs) vf o1 (⟨#[]⟩, 0) W1 := by rw [hW]; exact H'.setO _
  have E1 := Lib.hid ho1
  clear ho1
  go_upto_region 2 with (refine wpList_store_row (by rfl) 74 (.tmp 2) (.tmp 16) (by rfl) w.heap.size (oC o1) (by rfl) (by rfl) 74 (oC o) H'.box o_info rfl (oC_one _) ?_)
  change Code.wp _ _ _ _ (v1.setRow w.heap.size (oC o1))
  rw [← hW]
  clear hW H'
  have x0 := (cell_heap (i := 0) H1.pk).trans (show _ = some (.int .i64 P.kind) from rfl)
  have x9 := (cell_heap (i := 9) H1.pk).trans (show _ = some (.slice Ap P.props.length cp) from rfl)
  have HH := Lib.hid H1
  clear H1
  go_wp2_with (refine wpl_load_o (by rfl) (.tmp 2) (by rfl) w.heap.size (by rfl) HH.out.box ?_)
  refine (CPr.out o1 (by have := z1; omega) _ HH.out.below).mono ?_
  rintro e v2 ⟨rfl, b2⟩
  have H' := HH.out.next b2
  clear HH b2 x0 x9
  obtain ⟨o2, ho2⟩ : ∃ o', o' = RP.pr o1 P.kind P.props := ⟨_, rfl⟩
  have z2 : o2.1.size ≤ o.1.size + 2 * 8388996 := by rw [ho2]; exact Nat.le_trans (pr_sz _ _ _) (by have := z1; omega)
  rw [← ho2]
  obtain ⟨W2, hW⟩ : ∃ W', W' = v2.setRow w.heap.size (oC o2) := ⟨_, rfl⟩
  have H2 : O3 w P vc (.slice Ap P.props.length cp) vw (.slice As P.subs.length cs) vf o2 (⟨#[]⟩, 0) W2 := by rw [hW]; exact H'.setO _
  have E2 := Lib.hid ho2
  clear ho2
  go_upto_region 3 with (refine wpList_store_row (by rfl) 74 (.tmp 2) (.tmp 22) (by rfl) w.heap.size (oC o2) (by rfl) (by rfl) 74 (oC o1) H'.box o_info rfl (oC_one _) ?_)
  change Code.wp _ _ _ _ (v2.setRow w.heap.size (oC o2))
  rw [← hW]
  clear hW H'
  have x0 := (cell_heap (i := 0) H2.pk).trans (show _ = some (.int .i64 P.kind) from rfl)
  have k8 : (P.kind == 8) = true := by rw [HK.out]; rfl
  have HH := Lib.hid H2
  clear H2
  go_upto_region 10 with fail
  have H2 := HH.out
  clear HH x0
  have x24 := (cell_heap (i := 24) H2.pk).trans (show _ = some (.slice As P.subs.length cs) from rfl)
  have HH := Lib.hid H2
  clear H2
  go_wp2_with (refine wpl_load_o (by rfl) (.tmp 2) (by rfl) w.heap.size (by rfl) HH.out.box ?_)
  refine (dsome_any o2 (by have := z2; omega) P.subs.length _).mono ?_
  rintro e v3 ⟨rfl, b3⟩
  have H' := HH.out.next b3
  clear HH b3 x24
  obtain ⟨o3, ho3⟩ : ∃ o', o' = RP.smo o2 P.subs.length := ⟨_, rfl⟩
  have z3 : o3.1.size ≤ o.1.size + 3 * 8388996 := by rw [ho3]; exact Nat.le_trans (smo_sz _ _) (by have := z2; omega)
  rw [← ho3]
  obtain ⟨W3, hW⟩ : ∃ W', W' = v3.setRow w.heap.size (oC o3) := ⟨_, rfl⟩
  have H3 : O3 w P vc (.slice Ap P.props.length cp) vw (.slice As P.subs.length cs) vf o3 (⟨#[]⟩, 0) W3 := by rw [hW]; exact H'.setO _
  have E3 := Lib.hid ho3
  clear ho3
  go_upto_region 11 with (refine wpList_store_row (by rfl) 74 (.tmp 2) (.tmp 54) (by rfl) w.heap.size (oC o3) (by rfl) (by rfl) 74 (oC o2) H'.box o_info rfl (oC_one _) ?_)
  change Code.wp _ _ _ _ (v3.setRow w.heap.size (oC o3))
  rw [← hW]
  clear hW H'
  obtain ⟨m, hm1, hm2, hm3, hm5⟩ : ∃ m : Nat, m ≤ 64 ∧ m ≤ P.subs.length ∧ (m = 64 ∨ m = P.subs.length) ∧ P.subs.take m = P.subs.take 64 := by
    by_cases h : P.subs.length ≤ 64
    · exact ⟨P.subs.length, h, Nat.le_refl _, .inr rfl, by rw [List.take_of_length_le (Nat.le_refl _), List.take_of_length_le h]⟩
    · exact ⟨64, Nat.le_refl _, by omega, .inl rfl, rfl⟩
  have Hm5 := Lib.hid hm5
  clear hm5
  have HH := Lib.hid H3
  clear H3
  go_wp2_with fail
  go_loopw [5] (fun i wr => ∃ k : Nat, i = .int .i64 k ∧ k ≤ m ∧ Hid (O3 w P vc (.slice Ap P.props.length cp) vw (.slice As P.subs.length cs) vf ((P.subs.take k).foldl RP.sub o3) (⟨#[]⟩, 0) wr)) (fun i _ => m - (intOf i).toNat)
  case atStart => exact ⟨0, rfl, by omega, HH⟩
  case round =>
    obtain ⟨k, rfl, hk', hP⟩ := hrel
    clear HH
    have hsz := fold_sz (f := RP.sub) (fun o x => sub_sz o x) (P.subs.take k) o3
    have hlk : (P.subs.take k).length ≤ 64 := by simp; omega
    by_cases hlt : k < m
    · obtain ⟨x, hx⟩ : ∃ x, P.subs[k]? = some x := ⟨P.subs[k]'(by omega), List.getElem?_eq_getElem _⟩
      obtain ⟨g, of, rfl, hg, r0, r1, r2, r3, r4⟩ := rs.out k x hx
      have q0 := (hP.out.below.cell (p := ⟨g, _, none⟩) hg).trans r0
      have q1 := (hP.out.below.cell (p := ⟨g, _, none⟩) hg).trans r1
      have q2 := (hP.out.below.cell (p := ⟨g, _, none⟩) hg).trans r2
      have q3 := (hP.out.below.cell (p := ⟨g, _, none⟩) hg).trans r3
      have q4 := (hP.out.below.cell (p := ⟨g, _, none⟩) hg).trans r4
      have E1 : Hid (P.subs.take (k + 1) = P.subs.take k ++ [x]) := Lib.hid (by obtain ⟨h1, h2⟩ := List.getElem?_eq_some_iff.1 hx; rw [List.take_succ_eq_append_getElem h1, h2])
      have hshx := hsh.out x (List.mem_of_getElem? hx)
      have i0 : (0 : Int) ≤ (k : Int) := by omega
      have i1 : (k : Int) < (P.subs.length : Int) := by omega
      have i2 : (k : Int) < 64 := by omega
      clear r0 r1 r2 r3 r4 hx
      generalize hok : (P.subs.take k).foldl RP.sub o3 = ok at *
      have zz0 : ok.1.size ≤ 1152921504606846976 + 100000000000 := by have := z3; omega
      have Hok := Lib.hid hok
      have xl := (cell_heap (i := 24) hP.out.pk).trans (show _ = some (.slice (some ⟨g, of, none⟩) P.subs.length cs) from rfl)
      clear hok hsz
      go_upto_region 15 with fail
      change Code.wp _ _ _ _ (wr.alloc (.cells (sC x) 59))
      have bal := (Below.refl wr.heap.size wr).alloc (Nat.le_refl _) (.cells (sC x) 59)
      have hnb : (wr.alloc (.cells (sC x) 59)).heap[wr.heap.size]? = some (.cells (sC x) 59 (0, 0)) := heap_alloc_new wr _
      have J0 : O4 w P vc (.slice Ap P.props.length cp) vw (.slice (some ⟨g, of, none⟩) P.subs.length cs) vf ok (⟨#[]⟩, 0) wr.heap.size x (wr.alloc (.cells (sC x) 59)) := ⟨hP.out.next bal, hnb, by have h1 := lt_heap hP.out.res; omega⟩
      generalize wr.heap.size = bx at *
      generalize wr.alloc (.cells (sC x) 59) = X0 at *
      clear hP xl q0 q1 q2 q3 q4 bal hnb
      have y0 := (cell_heap (i := 0) J0.sub).trans (show _ = some (.string x.f) from rfl)
      have HH := Lib.hid J0
      clear J0
      go_wp2_with (refine wpl_load_o (by rfl) (.tmp 2) (by rfl) w.heap.size (by rfl) HH.out.three.box ?_)
      refine (dtext_any ok (by have := zz0; omega) x.f hshx.1 _).mono ?_
      rintro e v1 ⟨rfl, b1⟩
      have H' := HH.out.next b1
      clear HH b1 y0
      obtain ⟨p1, ho1⟩ : ∃ o', o' = RP.tx ok x.f := ⟨_, rfl⟩
      have zz1 : p1.1.size ≤ 1152921504606846976 + 100000000000 + 1 * 8388996 := by rw [ho1]; exact Nat.le_trans (tx_sz _ _) (by have := zz0; omega)
      rw [← ho1]
      obtain ⟨X1, hW⟩ : ∃ W', W' = v1.setRow w.heap.size (oC p1) := ⟨_, rfl⟩
      have J1 : O4 w P vc (.slice Ap P.props.length cp) vw (.slice (some ⟨g, of, none⟩) P.subs.length cs) vf p1 (⟨#[]⟩, 0) bx x X1 := by rw [hW]; exact H'.setO _
      have F1 := Lib.hid ho1
      clear ho1
      go_upto_region 16 with (refine wpList_store_row (by rfl) 74 (.tmp 2) (.tmp 74) (by rfl) w.heap.size (oC p1) (by rfl) (by rfl) 74 (oC ok) H'.three.box o_info rfl (oC_one _) ?_)
      change Code.wp _ _ _ _ (v1.setRow w.heap.size (oC p1))
      rw [← hW]
      clear hW H'
      have y1 := (cell_heap (i := 1) J1.sub).trans (show _ = some (.int .i64 x.q) from rfl)
      have HH := Lib.hid J1
      clear J1
      go_wp2_with (refine wpl_load_o (by rfl) (.tmp 2) (by rfl) w.heap.size (by rfl) HH.out.three.box ?_)
      refine (dqos_any p1 (by have := zz1; omega) x.q _).mono ?_
      rintro e v2 ⟨rfl, b2⟩
      have H' := HH.out.next b2
      clear HH b2 y1
      obtain ⟨p2, ho2⟩ : ∃ o', o' = RP.qs p1 x.q := ⟨_, rfl⟩
      have zz2 : p2.1.size ≤ 1152921504606846976 + 100000000000 + 2 * 8388996 := by rw [ho2]; exact Nat.le_trans (qs_sz _ _) (by have := zz1; omega)
      rw [← ho2]
      obtain ⟨X2, hW⟩ : ∃ W', W' = v2.setRow w.heap.size (oC p2) := ⟨_, rfl⟩
      have J2 : O4 w P vc (.slice Ap P.props.length cp) vw (.slice (some ⟨g, of, none⟩) P.subs.length cs) vf p2 (⟨#[]⟩, 0) bx x X2 := by rw [hW]; exact H'.setO _
      have F2 := Lib.hid ho2
      clear ho2
      go_upto_region 17 with (refine wpList_store_row (by rfl) 74 (.tmp 2) (.tmp 78) (by rfl) w.heap.size (oC p2) (by rfl) (by rfl) 74 (oC p1) H'.three.box o_info rfl (oC_one _) ?_)
      change Code.wp _ _ _ _ (v2.setRow w.heap.size (oC p2))
      rw [← hW]
      clear hW H'
      have y4 := (cell_heap (i := 4) J2.sub).trans (show _ = some (.int .i64 x.h) from rfl)
      have HH := Lib.hid J2
      clear J2
      go_wp2_with (refine wpl_load_o (by rfl) (.tmp 2) (by rfl) w.heap.size (by rfl) HH.out.three.box ?_)
      refine (dqos_any p2 (by have := zz2; omega) x.h _).mono ?_
      rintro e v3 ⟨rfl, b3⟩
      have H' := HH.out.next b3
      clear HH b3 y4
      obtain ⟨p3, ho3⟩ : ∃ o', o' = RP.qs p2 x.h := ⟨_, rfl⟩
      have zz3 : p3.1.size ≤ 1152921504606846976 + 100000000000 + 3 * 8388996 := by rw [ho3]; exact Nat.le_trans (qs_sz _ _) (by have := zz2; omega)
      rw [← ho3]
      obtain ⟨X3, hW⟩ : ∃ W', W' = v3.setRow w.heap.size (oC p3) := ⟨_, rfl⟩
      have J3 : O4 w P vc (.slice Ap P.props.length cp) vw (.slice (some ⟨g, of, none⟩) P.subs.length cs) vf p3 (⟨#[]⟩, 0) bx x X3 := by rw [hW]; exact H'.setO _
      have F3 := Lib.hid ho3
      clear ho3
      go_upto_region 18 with (refine wpList_store_row (by rfl) 74 (.tmp 2) (.tmp 82) (by rfl) w.heap.size (oC p3) (by rfl) (by rfl) 74 (oC p2) H'.three.box o_info rfl (oC_one _) ?_)
      change Code.wp _ _ _ _ (v3.setRow w.heap.size (oC p3))
      rw [← hW]
      clear hW H'
      have CQ : Hid (∀ W, Calls Tryd.prog 59 #[.int .i64 x.q] W fun e w' => e = .returned (.int .i64 (RP.low x.q)) ∧ W = w') := Lib.hid (fun W => dlow_any _ hshx.2.1 _)
      have CN : Hid (∀ W, Calls Tryd.prog 40 #[.bool x.nl, .int .i64 4] W fun e w' => e = .returned (.int .i64 (PK.fl x.nl 4)) ∧ W = w') := Lib.hid (fun W => dbit_any _ _ _)
      have CA : Hid (∀ W, Calls Tryd.prog 40 #[.bool x.ap, .int .i64 8] W fun e w' => e = .returned (.int .i64 (PK.fl x.ap 8)) ∧ W = w') := Lib.hid (fun W => dbit_any _ _ _)
      have CH : Hid (∀ W, Calls Tryd.prog 59 #[.int .i64 x.h] W fun e w' => e = .returned (.int .i64 (RP.low x.h)) ∧ W = w') := Lib.hid (fun W => dlow_any _ hshx.2.2 _)
      have ESub : Hid (RP.sub ok x = RP.nm p3 1 (RP.low x.q + PK.fl x.nl 4 + PK.fl x.ap 8 + 16 * RP.low x.h)) := Lib.hid (by unfold RP.sub; rw [F3.out, F2.out, F1.out])
      have l1 := low_le x.q
      have l2 := fl_le x.nl 4 (by decide)
      have l3 := fl_le x.ap 8 (by decide)
      have l4 := low_le x.h
      generalize RP.low x.q = nq at *
      generalize PK.fl x.nl 4 = nn at *
      generalize PK.fl x.ap 8 = na at *
      generalize RP.low x.h = nh at *
      have y1 := (cell_heap (i := 1) J3.sub).trans (show _ = some (.int .i64 x.q) from rfl)
      have HH := Lib.hid J3
      clear J3
      go_wp2_with fail
      refine (CQ.out _).mono ?_
      rintro e _ ⟨rfl, rfl⟩
      have J3 := HH.out
      clear HH y1
      go_upto_region 19 with fail
      have y2 := (cell_heap (i := 2) J3.sub).trans (show _ = some (.bool x.nl) from rfl)
      have HH := Lib.hid J3
      clear J3
      go_wp2_with fail
      refine (CN.out _).mono ?_
      rintro e _ ⟨rfl, rfl⟩
      have J3 := HH.out
      clear HH y2
      go_upto_region 20 with fail
      have y3 := (cell_heap (i := 3) J3.sub).trans (show _ = some (.bool x.ap) from rfl)
      have HH := Lib.hid J3
      clear J3
      go_wp2_with fail
      refine (CA.out _).mono ?_
      rintro e _ ⟨rfl, rfl⟩
      have J3 := HH.out
      clear HH y3
      go_upto_region 21 with fail
      have y4 := (cell_heap (i := 4) J3.sub).trans (show _ = some (.int .i64 x.h) from rfl)
      have HH := Lib.hid J3
      clear J3
      go_wp2_with fail
      refine (CH.out _).mono ?_
      rintro e _ ⟨rfl, rfl⟩
      have J3 := HH.out
      clear HH y4
      go_upto_region 22 with fail
      have HH := Lib.hid J3
      clear J3
      go_wp2_with (refine wpl_load_o (by rfl) (.tmp 2) (by rfl) w.heap.size (by rfl) HH.out.three.box ?_)
      refine (dnumber_any p3 (by have := zz3; omega) 1 (nq + nn + na + 16 * nh) (by omega) _).mono ?_
      rintro e v4 ⟨rfl, b4⟩
      have H' := HH.out.next b4
      clear HH b4 
      obtain ⟨p4, ho4⟩ : ∃ o', o' = RP.nm p3 1 (nq + nn + na + 16 * nh) := ⟨_, rfl⟩
      have zz4 : p4.1.size ≤ 1152921504606846976 + 100000000000 + 4 * 8388996 := by rw [ho4]; exact Nat.le_trans (nm_sz _ _ _) (by have := zz3; omega)
      rw [← ho4]
      obtain ⟨X4, hW⟩ : ∃ W', W' = v4.setRow w.heap.size (oC p4) := ⟨_, rfl⟩
      have J4 : O4 w P vc (.slice Ap P.props.length cp) vw (.slice (some ⟨g, of, none⟩) P.subs.length cs) vf p4 (⟨#[]⟩, 0) bx x X4 := by rw [hW]; exact H'.setO _
      have F4 := Lib.hid ho4
      clear ho4
      go_wp2_with (refine wpList_store_row (by rfl) 74 (.tmp 2) (.tmp 104) (by rfl) w.heap.size (oC p4) (by rfl) (by rfl) 74 (oC p3) H'.three.box o_info rfl (oC_one _) ?_)
      have HN : Hid (O3 w P vc (.slice Ap P.props.length cp) vw (.slice (some ⟨g, of, none⟩) P.subs.length cs) vf ((P.subs.take (k + 1)).foldl RP.sub o3) (⟨#[]⟩, 0) (v4.setRow w.heap.size (oC p4))) := Lib.hid (by
        rw [E1.out, List.foldl_append, Hok.out, ← hW]
        have e : List.foldl RP.sub ok [x] = p4 := by rw [F4.out]; exact ESub.out
        rw [e]
        exact J4.three)
      generalize v4.setRow w.heap.size (oC p4) = w2 at *
      clear J4 H' hW
      go_roundw
      case rel => exact ⟨k + 1, by go_num, by omega, HN⟩
      case measure => simp [intOf]; omega
    · have hkm : k = m := by omega
      have EQ : RP.each (RP.head o P) P.subs RP.sub = (P.subs.take k).foldl RP.sub o3 := by
        unfold RP.each RP.head
        rw [hkm, Hm5.out, E3.out, E2.out, E1.out]
      generalize (P.subs.take k).foldl RP.sub o3 = oz at *
      have H9 := hP.out
      have xl := (cell_heap (i := 24) H9.pk).trans (show _ = some (.slice As P.subs.length cs) from rfl)
      have hgo : (m = 64 → ¬ (k : Int) < 64) ∧ (m = P.subs.length → ¬ (k : Int) < (P.subs.length : Int)) := ⟨fun h => by omega, fun h => by omega⟩
      have HHH := Lib.hid H9
      have HE := Lib.hid EQ
      clear hP H9 hkm EQ hsz
      rcases hm3 with h64 | hlen
      · have i2 := hgo.1 h64
        clear hgo h64
        by_cases i1 : (k : Int) < (P.subs.length : Int)
        · skip
          go_upto_region 29 with fail
          have H9 := HHH.out
          clear xl
          have HR := H9.setR oz
          go_wp2_with (first
            | refine wpl_load_o (by rfl) (.tmp 2) (by rfl) w.heap.size (by rfl) H9.box ?_
            | refine wpList_store_row (by rfl) 74 (.tmp 4) (.tmp 130) (by rfl) (w.heap.size + 2) (oC oz) (by rfl) (by rfl) 74 (oC (⟨#[]⟩, 0)) H9.res o_info rfl (oC_one _) ?_)
          refine bodyPost_ret (v := .agg (oC oz)) ?_ rfl ⟨by rw [HE.out], HR.below⟩
          have hl := load_o_var HR.res
          simp [results, Tryd.results48, Act.put]
          exact hl
        · skip
          go_upto_region 29 with fail
          have H9 := HHH.out
          clear xl
          have HR := H9.setR oz
          go_wp2_with (first
            | refine wpl_load_o (by rfl) (.tmp 2) (by rfl) w.heap.size (by rfl) H9.box ?_
            | refine wpList_store_row (by rfl) 74 (.tmp 4) (.tmp 130) (by rfl) (w.heap.size + 2) (oC oz) (by rfl) (by rfl) 74 (oC (⟨#[]⟩, 0)) H9.res o_info rfl (oC_one _) ?_)
          refine bodyPost_ret (v := .agg (oC oz)) ?_ rfl ⟨by rw [HE.out], HR.below⟩
          have hl := load_o_var HR.res
          simp [results, Tryd.results48, Act.put]
          exact hl
      · have i1 := hgo.2 hlen
        clear hgo hlen
        skip
        go_upto_region 29 with fail
        have H9 := HHH.out
        clear xl
        have HR := H9.setR oz
        go_wp2_with (first
          | refine wpl_load_o (by rfl) (.tmp 2) (by rfl) w.heap.size (by rfl) H9.box ?_
          | refine wpList_store_row (by rfl) 74 (.tmp 4) (.tmp 130) (by rfl) (w.heap.size + 2) (oC oz) (by rfl) (by rfl) 74 (oC (⟨#[]⟩, 0)) H9.res o_info rfl (oC_one _) ?_)
        refine bodyPost_ret (v := .agg (oC oz)) ?_ rfl ⟨by rw [HE.out], HR.below⟩
        have hl := load_o_var HR.res
        simp [results, Tryd.results48, Act.put]
        exact hl
end Go.Proofs.YtlfgndhdifpngaaDoor
