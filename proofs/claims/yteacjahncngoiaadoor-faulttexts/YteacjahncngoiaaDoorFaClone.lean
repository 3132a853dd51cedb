/- What joined errors unwrap to: a new row of the same errors. -/
import Derived.Test.YteacjahncngoiaaDoorFaNew
import Derived.Maps.AppendAt
import Derived.Deep.AppendLies
import Derived.OwnWalk
namespace Go.Proofs.YteacjahncngoiaaDoor
open Go.RowKit FA

/-- An append whose run is known. -/
theorem wpList_run {P : Program} {ops : Array Oper} {rest : List Oper} {o : Oper} {a : Act} {w : World} {Q : Exit → Act → World → Prop} (hgd : o.guard = none) (s x : Operand) (t1 t2 : TypeId)
    (ho : o.op = .call { callee := .builtin .append, args := #[s, x], argTypes := #[t1, t2] }) {v u v' : Value} {w' : World} (hs : a.eval s = v) (hx : a.eval x = u)
    (hr : (Builtin.append_ #[t1, t2] o.type #[v, u]).run P w = .ok v' w') (h : wpList P ops Q rest (a.put o.dst v') w') : wpList P ops Q (o :: rest) a w := by
  refine wpList_plain hgd fun K hK => ?_
  unfold Oper.wp execOp
  simp only [ho, resolve, invoke, builtin, Sem.run_bind, Sem.run_pure, Result.andThen_ok, List.map_toArray, List.map_cons, List.map_nil, hs, hx, hr]
  exact hK _ _ h

theorem slNil (a : Addr) (n cap : Nat) (w : World) : (binOp .eql 57 (.slice (some a) n cap) (.slice none 0 0)).run Tryd.prog w = .ok (.bool false) w := by kernel_rfl

set_option maxRecDepth 100000 in
set_option maxHeartbeats 400000 in
theorem clone_row (g n cap : Nat) (us : List Value) (w : World) (hg : g < w.heap.size) (hl : us.length = n) (hn : n ≤ 1000000) (hus : ∀ i u, us[i]? = some u → w.cell? ⟨g, i, none⟩ = some u) (h1 : ∀ u ∈ us, u.oneCell' = true) :
    Calls Tryd.prog 87 #[.slice (some ⟨g, 0, none⟩) n cap] w (RetRow w 24 1 n us) := by
  obtain ⟨i0, hi0, hz0, hz1, hz2⟩ := info_parts errInfo
  have hq := slNil ⟨g, 0, none⟩ n cap
  obtain ⟨v1, w1, hr, hown1, hg1, hx1, hat1⟩ := run_append_own_at (P := Tryd.prog) (w.alloc (.cells #[] 24)) w.heap.size 57 57 24 i0 _ 1 16 Tryd.underlying57 hi0 hz0 hz1 hz2 rfl (by omega) (.slice (some ⟨w.heap.size, 0, none⟩) 0 0) 0 []
    ⟨rfl, .inr ⟨w.heap.size, 0, #[], rfl, Nat.le_refl _, heap_alloc_new w _, Nat.le_refl _, by simp [maxLen], rfl, rfl⟩⟩ ⟨g, 0, none⟩ n cap us (by omega)
    (fun j u hu => by rw [World.cell?_alloc_lt _ _ _ (by unfold Addr.add; split <;> exact hg)]; have := hus j u hu; unfold Addr.add; split <;> simp_all) h1 (by unfold maxLen; omega) (by omega) (by simp)
  have hb1 := Lib.hid (((Below.refl w.heap.size w).alloc (Nat.le_refl _) (.cells #[] 24)).grown hg1 (by simp) (by simp [Value.ownBlock]))
  have Hown := Lib.hid hown1
  clear hown1 hg1 hl hus hx1 hat1
  go_enter Tryd.func87, Tryd.ntmps87
  clear h1
  go_wp2_with (at_builtin; refine wpList_run (by rfl) (.tmp 5) (.tmp 6) _ _ (by rfl) (by rfl) (by rfl) hr ?_; clear hr)
  go_ret
  exact ⟨v1, rfl, by simpa using Hown.out, hb1.out⟩

theorem junwrap_row (b g n cap : Nat) (us : List Value) (w : World) (hb : w.cell? ⟨b, 0, none⟩ = some (.slice (some ⟨g, 0, none⟩) n cap)) (hg : g < w.heap.size) (hl : us.length = n) (hn : n ≤ 1000000) (hus : ∀ i u, us[i]? = some u → w.cell? ⟨g, i, none⟩ = some u) (h1 : ∀ u ∈ us, u.oneCell' = true) :
    Calls Tryd.prog 86 #[.pointer (some ⟨b, 0, none⟩)] w (RetRow w 24 1 n us) := by
  have c := Lib.hid (clone_row g n cap us w hg hl hn hus h1)
  clear hl hus h1
  go_enter Tryd.func86, Tryd.ntmps86
  go_wp2_with fail
  refine c.out.mono ?_
  rintro e w1 ⟨v, rfl, hown, hbl⟩
  go_wp2
  go_ret
  exact ⟨v, rfl, hown, hbl⟩
end Go.Proofs.YteacjahncngoiaaDoor
