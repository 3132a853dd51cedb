/- Users: the program's and the document's. -/
import Derived.Test.YtpkbakmiofbojaaPrFind
import Derived.Lib.Strings
namespace Go.Proofs.Ytpkbakmiofbojaa
open Go.RowKit

theorem toList_same {a b : ByteArray} (h : a.toList = b.toList) : a = b := by
  apply ByteArray.ext
  apply Array.toList_inj.1
  rw [← ByteArray.toList_eq, ← ByteArray.toList_eq, h]
/-- The values of a name's pairs. -/
def usr (nm : ByteArray) : List Pr → List ByteArray
  | [] => []
  | p :: l => if (p.id == 38) = true ∧ p.s = nm then p.t :: usr nm l else usr nm l
theorem usr_yes {nm : ByteArray} {l : List Pr} {k : Nat} {p : Pr} (h : l[k]? = some p) (he : (p.id == 38) = true ∧ p.s = nm) : usr nm (l.drop k) = p.t :: usr nm (l.drop (k + 1)) := by rw [prop_drop h, usr, if_pos he]
theorem usr_no {nm : ByteArray} {l : List Pr} {k : Nat} {p : Pr} (h : l[k]? = some p) (he : ¬ ((p.id == 38) = true ∧ p.s = nm)) : usr nm (l.drop k) = usr nm (l.drop (k + 1)) := by rw [prop_drop h, usr, if_neg he]
theorem usr_end (nm : ByteArray) (l : List Pr) : usr nm (l.drop l.length) = [] := by rw [List.drop_length]; rfl

theorem strInfo : (Try.prog.info? 9).map (fun i => (i.zero, i.size, i.bytes)) = some (some (.string ⟨#[]⟩), 1, 16) := by kernel_rfl
theorem info_parts {e : TypeId} {z : Value} {n b : Nat} (h : (Try.prog.info? e).map (fun i => (i.zero, i.size, i.bytes)) = some (some z, n, b)) : ∃ i, Try.prog.info? e = some i ∧ i.zero = some z ∧ i.size = n ∧ i.bytes = b := by
  cases hi : Try.prog.info? e with
  | none => rw [hi] at h; cases h
  | some i => rw [hi] at h; simp at h; exact ⟨i, rfl, h.1, h.2.1, h.2.2⟩
/-- An append whose run is known. -/
theorem wpList_run {P : Program} {ops : Array Oper} {rest : List Oper} {o : Oper} {a : Act} {w : World} {Q : Exit → Act → World → Prop} (hgd : o.guard = none) (s x : Operand) (t1 t2 : TypeId)
    (ho : o.op = .call { callee := .builtin .append, args := #[s, x], argTypes := #[t1, t2] }) {v u v' : Value} {w' : World} (hs : a.eval s = v) (hx : a.eval x = u)
    (hr : (Builtin.append_ #[t1, t2] o.type #[v, u]).run P w = .ok v' w') (h : wpList P ops Q rest (a.put o.dst v') w') : wpList P ops Q (o :: rest) a w := by
  refine wpList_plain hgd fun K hK => ?_
  unfold Oper.wp execOp
  simp only [ho, resolve, invoke, builtin, Sem.run_bind, Sem.run_pure, Result.andThen_ok, List.map_toArray, List.map_cons, List.map_nil, hs, hx, hr]
  exact hK _ _ h
theorem app1 {T e : TypeId} {i : TypeInfo} {z : Value} {size bytes : Nat} (ht : Try.prog.underlying T = some (.slice e)) (hi : Try.prog.info? e = some i) (hz : i.zero = some z) (hz1 : i.size = size) (hz2 : i.bytes = bytes) (hzs : z.cells.size = size) (hs0 : 0 < size) (hby : bytes ≤ 1000)
    (base : Nat) (v : Value) (n : Nat) (xs : List Value) (w : World) (hown : w.ownsRow base e size v n xs) (hbase : base ≤ w.heap.size) (cs : Array Value) (hcs : cs.size = size) (h1 : ∀ u ∈ cs.toList, u.oneCell' = true) (hn : n < 1000000) :
    ∃ v' w', (Builtin.append_ #[T, T] T #[v, .slice (some ⟨w.heap.size, 0, none⟩) 1 1]).run Try.prog (w.alloc (.cells cs e)) = .ok v' w' ∧ w'.ownsRow base e size v' (n + 1) (xs ++ cs.toList) ∧ w.grownBy w' v.ownBlock ∧ Below base w w' := by
  obtain ⟨v', w', hr, hown', hg, _, _⟩ := run_append_own_at (P := Try.prog) (w.alloc (.cells cs e)) base T T e i z size bytes ht hi hz hz1 hz2 hzs hs0 v n xs (hown.alloc _) ⟨w.heap.size, 0, none⟩ 1 1 cs.toList
    (by simp [hcs]) (fun j u hu => World.news_of_block (heap_alloc_new w _) j u hu) h1 (by unfold maxLen; omega) (by have := Nat.mul_le_mul (show n + 1 ≤ 1000000 by omega) hby; omega) (by simp; omega)
  refine ⟨v', w', hr, hown', ⟨hg.os, hg.tape, hg.output, by have := hg.size; simp at this; omega, fun k hk hne => (hg.block k (by simp; omega) hne).trans (Below.heap_alloc w _ k hk)⟩, ?_⟩
  exact ((Below.refl base w).alloc hbase _).grown hg (by simp; omega) fun k hk => (hown.lt k hk).1
/-- The answer is a new row of the values us. -/
def RetRow (w : World) (t : TypeId) (size n : Nat) (us : List Value) (e : Ending) (w' : World) : Prop := ∃ v, e = .returned v ∧ w'.ownsRow w.heap.size t size v n us ∧ Below w.heap.size w w'

/-- The relation of Users' loops. -/
def UsrRel (w : World) (nm : ByteArray) (l : List Pr) (k : Nat) (out : Value) (wr : World) : Prop :=
  ∃ done : List ByteArray, done.length ≤ k ∧ done ++ usr nm (l.drop k) = usr nm l ∧ wr.ownsRow w.heap.size 9 1 out done.length (done.map .string) ∧ Below w.heap.size w wr

set_option maxRecDepth 100000 in
set_option maxHeartbeats 4000000 in
theorem rusers_any (A : Option Addr) (cap : Nat) (l : List Pr) (nm : ByteArray) (w : World) (hl : l.length ≤ 1000) (h : Props w A l) :
    Calls Try.prog 11 #[.slice A l.length cap, .string nm] w (RetRow w 9 1 (usr nm l).length ((usr nm l).map .string)) := by
  obtain ⟨i0, hi0, hz0, hz1, hz2⟩ := info_parts strInfo
  have Hi := Lib.hid hi0; have Hz0 := Lib.hid hz0; have Hz1 := Lib.hid hz1; have Hz2 := Lib.hid hz2
  have H := Lib.hid h
  clear hi0 hz0 hz1 hz2 h
  go_enter Try.func11, Try.ntmps11
  go_wp2
  go_loopw [6, 5] (fun i out wr => ∃ k : Nat, i = .int .i64 k ∧ k ≤ l.length ∧ Hid (UsrRel w nm l k out wr)) (fun i _ _ => l.length - (intOf i).toNat)
  case atStart => exact ⟨0, rfl, by omega, Lib.hid ⟨[], by simp, rfl, own_nil _ _ _ _, Below.refl _ _⟩⟩
  case round =>
    obtain ⟨k, rfl, hk, hrl⟩ := hrel
    obtain ⟨done, hd, hd1, hown, hb⟩ := hrl.out
    have hsr := hb.size
    obtain ⟨Ao, co, hoo⟩ := own_form hown
    by_cases hlt : k < l.length
    · obtain ⟨p, hp⟩ : ∃ p, l[k]? = some p := ⟨l[k], List.getElem?_eq_getElem hlt⟩
      obtain ⟨g, o, rfl, hg, r0, r1, r2, r3⟩ := H.out k p hp
      obtain ⟨id', n', s', t'⟩ := p
      simp only at r0 r1 r2 r3
      have q0 : wr.cell? ⟨g, o + k * 4, none⟩ = some (.int .i64 id') := by rw [hb.cell (by simp; omega)]; exact r0
      have q2 : wr.cell? ⟨g, o + k * 4 + 2, none⟩ = some (.string s') := by rw [hb.cell (by simp; omega)]; exact r2
      have q3 : wr.cell? ⟨g, o + k * 4 + 3, none⟩ = some (.string t') := by rw [hb.cell (by simp; omega)]; exact r3
      have i1 : (k : Int) < (l.length : Int) := by omega
      have i0' : (0 : Int) ≤ (k : Int) := by omega
      clear r0 r1 r2 r3
      by_cases he : (id' == 38) = true ∧ s' = nm
      · obtain ⟨he1, rfl⟩ := he
        have E1 := usr_yes (nm := s') hp ⟨he1, rfl⟩
        obtain ⟨v2, w2, hr2, hown2, _, hb2⟩ := app1 Try.underlying38 Hi.out Hz0.out Hz1.out Hz2.out rfl (by omega) (by omega) w.heap.size u5 done.length _ wr hown (by omega) #[.string t'] rfl (by simp [Value.oneCell']) (by omega)
        have HN : Hid (UsrRel w s' l (k + 1) v2 w2) := ⟨done ++ [t'], by simp; omega, by rw [← hd1, E1]; simp, by simpa using hown2, hb.trans hb2⟩
        clear hown2 hb2 hp E1 hd1 hown hb hrl hoo
        go_wp2_with (at_builtin; refine wpList_run (by rfl) (.tmp 28) (.tmp 34) _ _ (by rfl) (by rfl) (by rfl) hr2 ?_; clear hr2)
        go_roundw
        case rel => exact ⟨k + 1, by go_num, by omega, HN⟩
        case measure => simp [intOf]; omega
      · have E1 := usr_no (nm := nm) hp he
        have HN : Hid (UsrRel w nm l (k + 1) u5 wr) := ⟨done, by omega, by rw [← hd1, E1], hown, hb⟩
        have hee : (id' == 38) = false ∨ ((id' == 38) = true ∧ (s'.toList == nm.toList) = false) := by
          by_cases h1 : (id' == 38) = true
          · refine .inr ⟨h1, ?_⟩
            rw [beq_eq_false_iff_ne]
            intro h2
            exact he ⟨h1, toList_same h2⟩
          · exact .inl (by simpa using h1)
        clear hp E1 hd1 hown hb hrl hoo he
        rcases hee with h1 | ⟨h1, h2⟩
        all_goals
          go_wp2
          go_roundw
          case rel => exact ⟨k + 1, by go_num, by omega, HN⟩
          case measure => simp [intOf]; omega
    · have hkl : k = l.length := by omega
      subst hkl
      rw [usr_end, List.append_nil] at hd1
      have Hd := Lib.hid hd1
      have Ho := Lib.hid hown
      have Hb := Lib.hid hb
      clear hd1 hown hb hrl hoo
      go_wp2
      go_ret
      exact ⟨_, rfl, by rw [← Hd.out]; exact Ho.out, Hb.out⟩

set_option maxRecDepth 100000 in
set_option maxHeartbeats 4000000 in
theorem users_any (A : Option Addr) (cap : Nat) (l : List Pr) (nm : ByteArray) (w : World) (hl : l.length ≤ 1000) (h : Props w A l) (hs : ∀ p ∈ l, p.s.size ≤ 140737488351232 ∧ p.t.size ≤ 140737488351232) :
    Calls Try.prog 10 #[.slice A l.length cap, .string nm] w (RetRow w 9 1 (usr nm l).length ((usr nm l).map .string)) := by
  obtain ⟨i0, hi0, hz0, hz1, hz2⟩ := info_parts strInfo
  have Hi := Lib.hid hi0; have Hz0 := Lib.hid hz0; have Hz1 := Lib.hid hz1; have Hz2 := Lib.hid hz2
  have H := Lib.hid h
  have HSs := Lib.hid hs
  clear hi0 hz0 hz1 hz2 h hs
  go_enter Try.func10, Try.ntmps10
  go_wp2
  go_loopw [10, 5] (fun i out wr => ∃ k : Nat, i = .int .i64 k ∧ k ≤ l.length ∧ Hid (UsrRel w nm l k out wr)) (fun i _ _ => l.length - (intOf i).toNat)
  case atStart => exact ⟨0, rfl, by omega, Lib.hid ⟨[], by simp, rfl, own_nil _ _ _ _, Below.refl _ _⟩⟩
  case round =>
    obtain ⟨k, rfl, hk, hrl⟩ := hrel
    obtain ⟨done, hd, hd1, hown, hb⟩ := hrl.out
    have hsr := hb.size
    obtain ⟨Ao, co, hoo⟩ := own_form hown
    by_cases hlt : k < l.length
    · obtain ⟨p, hp⟩ : ∃ p, l[k]? = some p := ⟨l[k], List.getElem?_eq_getElem hlt⟩
      have hsp := (HSs.out p (List.mem_of_getElem? hp)).2
      obtain ⟨g, o, rfl, hg, r0, r1, r2, r3⟩ := H.out k p hp
      obtain ⟨id', n', s', t'⟩ := p
      simp only at r0 r1 r2 r3 hsp
      have q0 : wr.cell? ⟨g, o + k * 4, none⟩ = some (.int .i64 id') := by rw [hb.cell (by simp; omega)]; exact r0
      have q1 : wr.cell? ⟨g, o + k * 4 + 1, none⟩ = some (.int .i64 n') := by rw [hb.cell (by simp; omega)]; exact r1
      have q2 : wr.cell? ⟨g, o + k * 4 + 2, none⟩ = some (.string s') := by rw [hb.cell (by simp; omega)]; exact r2
      have q3 : wr.cell? ⟨g, o + k * 4 + 3, none⟩ = some (.string t') := by rw [hb.cell (by simp; omega)]; exact r3
      have i1 : (k : Int) < (l.length : Int) := by omega
      have i0' : (0 : Int) ≤ (k : Int) := by omega
      have hal := (Below.refl wr.heap.size wr).alloc (Nat.le_refl _) (.cells #[.int .i64 id', .int .i64 n', .string s', .string t'] 32)
      clear r0 r1 r2 r3
      by_cases he : (id' == 38) = true ∧ s' = nm
      · obtain ⟨he1, rfl⟩ := he
        have E1 := usr_yes (nm := s') hp ⟨he1, rfl⟩
        have C := Lib.hid (clone_any t' (wr.alloc (.cells #[.int .i64 id', .int .i64 n', .string s', .string t'] 32)) (by omega))
        have HE1 := Lib.hid E1; have Hd1 := Lib.hid hd1; have Hown := Lib.hid hown; have Hbb := Lib.hid hb; have Hal := Lib.hid hal
        clear hp E1 hd1 hown hb hrl hoo hal
        go_wp2_with fail
        refine C.out.mono ?_
        rintro e w1 ⟨rfl, b1⟩
        have hw1 : Below wr.heap.size wr w1 := Hal.out.trans (b1.mono (by simp))
        have hs1 := hw1.size
        obtain ⟨v2, w2, hr2, hown2, _, hb2⟩ := app1 Try.underlying38 Hi.out Hz0.out Hz1.out Hz2.out rfl (by omega) (by omega) w.heap.size u5 done.length _ w1 (own_below Hown.out hw1) (by omega) #[.string t'] rfl (by simp [Value.oneCell']) (by omega)
        have HN : Hid (UsrRel w s' l (k + 1) v2 w2) := ⟨done ++ [t'], by simp; omega, by rw [← Hd1.out, HE1.out]; simp, by simpa using hown2, (Hbb.out.trans (hw1.mono hsr)).trans hb2⟩
        clear b1 hw1 hown2 hb2 C
        go_wp2_with (at_builtin; refine wpList_run (by rfl) (.tmp 23) (.tmp 27) _ _ (by rfl) (by rfl) (by rfl) hr2 ?_; clear hr2)
        go_roundw
        case rel => exact ⟨k + 1, by go_num, by omega, HN⟩
        case measure => simp [intOf]; omega
      · have E1 := usr_no (nm := nm) hp he
        have HN : Hid (UsrRel w nm l (k + 1) u5 (wr.alloc (.cells #[.int .i64 id', .int .i64 n', .string s', .string t'] 32))) := ⟨done, by omega, by rw [← hd1, E1], own_below hown hal, hb.trans (hal.mono hsr)⟩
        have hee : (id' == 38) = false ∨ ((id' == 38) = true ∧ (s'.toList == nm.toList) = false) := by
          by_cases h1 : (id' == 38) = true
          · refine .inr ⟨h1, ?_⟩
            rw [beq_eq_false_iff_ne]
            intro h2
            exact he ⟨h1, toList_same h2⟩
          · exact .inl (by simpa using h1)
        clear hp E1 hd1 hown hb hrl hoo he hal
        rcases hee with h1 | ⟨h1, h2⟩
        all_goals
          go_wp2
          go_roundw
          case rel => exact ⟨k + 1, by go_num, by omega, HN⟩
          case measure => simp [intOf]; omega
    · have hkl : k = l.length := by omega
      subst hkl
      rw [usr_end, List.append_nil] at hd1
      have Hd := Lib.hid hd1
      have Ho := Lib.hid hown
      have Hb := Lib.hid hb
      clear hd1 hown hb hrl hoo
      go_wp2
      go_ret
      exact ⟨_, rfl, by rw [← Hd.out]; exact Ho.out, Hb.out⟩
end Go.Proofs.Ytpkbakmiofbojaa
