/- The document's Path at any record. -/
import Derived.Test.YteacjahncngoiaaDoorFaRef2
import Derived.Test.YteacjahncngoiaaDoorFaPath2
import Derived.Test.YteacjahncngoiaaDoorFaRText
namespace Go.Proofs.YteacjahncngoiaaDoor
open Go.RowKit FA

theorem own_mono {w : World} {b b' : Nat} {e : TypeId} {k : Nat} {v : Value} {n : Nat} {xs : List Value} (h : w.ownsRow b e k v n xs) (hb : b' ≤ b) : w.ownsRow b' e k v n xs := by
  refine ⟨h.1, ?_⟩
  rcases h.2 with h | ⟨g, c, cur, h1, h2, h3⟩
  · exact .inl h
  · exact .inr ⟨g, c, cur, h1, by omega, h3⟩

/-- One element more: and where the row lies then. -/
theorem app1b {T e : TypeId} {i : TypeInfo} {z : Value} {size bytes : Nat} (ht : Tryd.prog.underlying T = some (.slice e)) (hi : Tryd.prog.info? e = some i) (hz : i.zero = some z) (hz1 : i.size = size) (hz2 : i.bytes = bytes) (hzs : z.cells.size = size) (hs0 : 0 < size) (hby : bytes ≤ 1000)
    (base : Nat) (v : Value) (n : Nat) (xs : List Value) (w : World) (hown : w.ownsRow base e size v n xs) (hbase : base ≤ w.heap.size) (cs : Array Value) (hcs : cs.size = size) (h1 : ∀ u ∈ cs.toList, u.oneCell' = true) (hn : n < 1000000) :
    ∃ v' w', (Builtin.append_ #[T, T] T #[v, .slice (some ⟨w.heap.size, 0, none⟩) 1 1]).run Tryd.prog (w.alloc (.cells cs e)) = .ok v' w' ∧ w'.ownsRow base e size v' (n + 1) (xs ++ cs.toList) ∧ w.grownBy w' v.ownBlock ∧ Below base w w' ∧ (v'.ownBlock = v.ownBlock ∨ ∃ k, v'.ownBlock = some k ∧ w.heap.size ≤ k) := by
  obtain ⟨v', w', hr, hown', hg, _, hat⟩ := run_append_own_at (P := Tryd.prog) (w.alloc (.cells cs e)) base T T e i z size bytes ht hi hz hz1 hz2 hzs hs0 v n xs (hown.alloc _) ⟨w.heap.size, 0, none⟩ 1 1 cs.toList
    (by simp [hcs]) (fun j u hu => World.news_of_block (heap_alloc_new w _) j u hu) h1 (by unfold maxLen; omega) (by have := Nat.mul_le_mul (show n + 1 ≤ 1000000 by omega) hby; omega) (by simp; omega)
  refine ⟨v', w', hr, hown', ⟨hg.os, hg.tape, hg.output, by have := hg.size; simp at this; omega, fun k hk hne => (hg.block k (by simp; omega) hne).trans (Below.heap_alloc w _ k hk)⟩, ?_, ?_⟩
  · exact ((Below.refl base w).alloc hbase _).grown hg (by simp; omega) fun k hk => (hown.lt k hk).1
  · rcases hat with h | h
    · exact .inl h
    · exact .inr ⟨_, h, by simp⟩

theorem take_at {l : List Value} {k : Nat} {v : Value} (h : l[k]? = some v) : l.take (k + 1) = l.take k ++ [v] := by
  obtain ⟨hk, he⟩ := List.getElem?_eq_some_iff.1 h
  rw [List.take_succ_eq_append_getElem hk, he]

/-- The relation of Path's loop. -/
def RPathRel (w : World) (W : World) (v4 : Value) (us0 us : List Value) (k : Nat) (out : Value) (wr : World) : Prop :=
  wr.ownsRow (w.heap.size + 1) 9 1 out (us0.length + k) (us0 ++ us.take k) ∧ wr.ownsRow (w.heap.size + 1) 9 1 v4 us.length us ∧ (v4.ownBlock = none ∨ v4.ownBlock ≠ out.ownBlock) ∧ Below (w.heap.size + 1) W wr

set_option maxRecDepth 100000 in
set_option maxHeartbeats 4000000 in
theorem rpath_any (B : Nat) : ∀ (n : Nat) (e : E), sz e ≤ n → n ≤ 100000 → ∀ (x : Value) (w : World), RepR w B e x → B ≤ w.heap.size →
    Calls Tryd.prog 18 #[.agg #[.int .i64 (kind e), .int .i64 (cd e), .string (wh e), x]] w (RetRow w 9 1 (path e).length ((path e).map .string))
  | 0, e, hz, _, _, _, _, _ => by have := sz_pos e; omega
  | n + 1, .other s, hz, hn, x, w, h, hB => by
    obtain rfl : x = .slice none 0 0 := h
    show Calls Tryd.prog 18 #[.agg #[.int .i64 3, .int .i64 0, .string s, .slice none 0 0]] w (RetRow w 9 1 0 [])
    go_enter Tryd.func18, Tryd.ntmps18
    go_wp2
    go_ret
    exact ⟨_, rfl, own_nil _ _ _ _, (Below.refl _ _).alloc (Nat.le_refl _) _⟩
  | n + 1, .leaf c s, hz, hn, x, w, h, hB => by
    obtain rfl : x = .slice none 0 0 := h
    show Calls Tryd.prog 18 #[.agg #[.int .i64 1, .int .i64 c, .string s, .slice none 0 0]] w (RetRow w 9 1 1 [.string s])
    obtain ⟨i0, hi0, hz0, hz1, hz2⟩ := info_parts strInfo
    have hbl := (Below.refl w.heap.size w).alloc (Nat.le_refl _) (.cells #[.int .i64 1, .int .i64 c, .string s, .slice none 0 0] 27)
    obtain ⟨v2, w2, hr2, hown2, _, hb2⟩ := app1 Tryd.underlying40 hi0 hz0 hz1 hz2 rfl (by omega) (by omega) (w.heap.size + 1) (.slice none 0 0) 0 [] (w.alloc (.cells #[.int .i64 1, .int .i64 c, .string s, .slice none 0 0] 27)) (own_nil _ _ _ _) (by simp) #[.string s] rfl (by simp [Value.oneCell']) (by omega)
    rw [show (w.alloc (.cells #[.int .i64 1, .int .i64 c, .string s, .slice none 0 0] 27)).heap.size = w.heap.size + 1 by simp] at hr2
    have c3 : w2.cell? ⟨w.heap.size, 3, none⟩ = some (.slice none 0 0) := by rw [hb2.cell (by simp), World.cell?_alloc_at _ _ _ _ rfl]; rfl
    have Ho2 := Lib.hid hown2
    have Hb2 := Lib.hid (hbl.trans (hb2.mono (by omega)))
    clear hown2 hb2 hbl hi0 hz0 hz1 hz2
    go_enter Tryd.func18, Tryd.ntmps18
    go_wp2_with (at_builtin; refine wpList_run (by rfl) (.tmp 9) (.tmp 12) _ _ (by rfl) (by rfl) (by rfl) hr2 ?_; clear hr2)
    go_ret
    exact ⟨_, rfl, own_mono (by simpa using Ho2.out) (by omega), Hb2.out⟩
  | n + 1, .wrap c s k, hz, hn, x, w, h, hB => by
    simp only [RepR] at h
    obtain ⟨g, cap, rfl, hgB, y, ⟨r0, r1, r2, r3⟩, hk⟩ := h
    rw [sz] at hz
    have Hfin : Hid ([Value.string s] ++ (path k).map .string = (path (.wrap c s k)).map .string) := Lib.hid (by rw [path]; rfl)
    have hpl := path_len k
    have hfl : (path (.wrap c s k)).length = ((path (.wrap c s k)).map Value.string).length := by simp
    show Calls Tryd.prog 18 #[.agg #[.int .i64 1, .int .i64 c, .string s, .slice (some ⟨g, 0, none⟩) 1 cap]] w (RetRow w 9 1 (path (.wrap c s k)).length ((path (.wrap c s k)).map .string))
    rw [hfl, ← Hfin.out]
    obtain ⟨i0, hi0, hz0, hz1, hz2⟩ := info_parts strInfo
    have hbl := (Below.refl w.heap.size w).alloc (Nat.le_refl _) (.cells #[.int .i64 1, .int .i64 c, .string s, .slice (some ⟨g, 0, none⟩) 1 cap] 27)
    obtain ⟨v2, w2, hr2, hown2, _, hb2⟩ := app1 Tryd.underlying40 hi0 hz0 hz1 hz2 rfl (by omega) (by omega) (w.heap.size + 1) (.slice none 0 0) 0 [] (w.alloc (.cells #[.int .i64 1, .int .i64 c, .string s, .slice (some ⟨g, 0, none⟩) 1 cap] 27)) (own_nil _ _ _ _) (by simp) #[.string s] rfl (by simp [Value.oneCell']) (by omega)
    rw [show (w.alloc (.cells #[.int .i64 1, .int .i64 c, .string s, .slice (some ⟨g, 0, none⟩) 1 cap] 27)).heap.size = w.heap.size + 1 by simp] at hr2
    have c3 : w2.cell? ⟨w.heap.size, 3, none⟩ = some (.slice (some ⟨g, 0, none⟩) 1 cap) := by rw [hb2.cell (by simp), World.cell?_alloc_at _ _ _ _ rfl]; rfl
    have hW2 : Below w.heap.size w w2 := hbl.trans (hb2.mono (by omega))
    have hs2 : w.heap.size + 1 ≤ w2.heap.size := by have := hb2.size; simpa using this
    have q0 : w2.cell? ⟨g, 0, none⟩ = some (.int .i64 (kind k)) := by rw [hW2.cell (by simp; omega)]; exact r0
    have q1 : w2.cell? ⟨g, 1, none⟩ = some (.int .i64 (cd k)) := by rw [hW2.cell (by simp; omega)]; exact r1
    have q2 : w2.cell? ⟨g, 2, none⟩ = some (.string (wh k)) := by rw [hW2.cell (by simp; omega)]; exact r2
    have q3 : w2.cell? ⟨g, 3, none⟩ = some y := by rw [hW2.cell (by simp; omega)]; exact r3
    have CP := Lib.hid (rpath_any B n k (by omega) (by omega) y w2 (RepR.below (hW2.mono hB) _ _ hk) (by omega))
    have Ho2 := Lib.hid hown2
    have HW2 := Lib.hid hW2
    have Hi := Lib.hid hi0; have Hz0 := Lib.hid hz0; have Hz1 := Lib.hid hz1; have Hz2 := Lib.hid hz2
    clear hown2 hb2 hbl hi0 hz0 hz1 hz2 hW2 r0 r1 r2 r3 hk hfl
    have Hone : Hid (∀ u ∈ (path k).map Value.string, u.oneCell' = true) := Lib.hid (fun u hu => by obtain ⟨a, _, rfl⟩ := List.mem_map.1 hu; rfl)
    have Hstr : Hid (∀ u ∈ (path k).map Value.string, ∃ su, u = .string su) := Lib.hid (fun u hu => by obtain ⟨a, _, rfl⟩ := List.mem_map.1 hu; exact ⟨a, rfl⟩)
    have hul : (path k).length = ((path k).map Value.string).length := by simp
    rw [hul] at CP hpl
    clear hul
    generalize (path k).map Value.string = us at *
    obtain ⟨us0, hus0⟩ : ∃ us0 : List Value, us0 = [Value.string s] := ⟨_, rfl⟩
    have hu0 : us0.length = 1 := by rw [hus0]; rfl
    rw [← hus0]
    have Hus0 := Lib.hid hus0
    clear hus0
    go_enter Tryd.func18, Tryd.ntmps18
    go_wp2_with (at_builtin; refine wpList_run (by rfl) (.tmp 9) (.tmp 12) _ _ (by rfl) (by rfl) (by rfl) hr2 ?_; clear hr2)
    refine CP.out.mono ?_
    rintro en w3 ⟨v4, rfl, ho4, hb3⟩
    have HR0 : Hid (RPathRel w w3 v4 us0 us 0 v2 w3) := by
      refine ⟨?_, own_mono ho4 (by omega), ?_, Below.refl _ _⟩
      · have := own_below Ho2.out hb3
        rw [List.take_zero, List.append_nil, hu0, Hus0.out]
        simpa using this
      · rcases ho4.2 with ⟨rfl, _⟩ | ⟨g4, c4, cur, rfl, hg4, _⟩
        · exact .inl rfl
        · refine .inr fun e5 => ?_
          have := (Ho2.out.lt g4 (e5.symm.trans rfl)).2
          omega
    obtain ⟨A4, c4, rfl⟩ := own_form ho4
    have HW : Hid (Below w.heap.size w w3) := HW2.out.trans (hb3.mono HW2.out.size)
    have hs3 := hb3.size
    clear ho4 hb3 CP Ho2 q0 q1 q2 q3 c3 Hus0
    go_wp2
    go_loopw [3, 5] (fun out i wr => ∃ k : Nat, i = .int .i64 k ∧ k ≤ us.length ∧ Hid (RPathRel w w3 (.slice A4 us.length c4) us0 us k out wr))
      (fun _ i _ => us.length - (intOf i).toNat)
    case atStart => exact ⟨0, rfl, by omega, HR0⟩
    case round =>
      obtain ⟨k, rfl, hk, hrl⟩ := hrel
      obtain ⟨ho, h4, hap, hb⟩ := hrl.out
      have hsr := hb.size
      obtain ⟨Ao, co, hoo⟩ := own_form ho
      by_cases hlt : k < us.length
      · obtain ⟨u, hu⟩ : ∃ u, us[k]? = some u := ⟨us[k], List.getElem?_eq_getElem hlt⟩
        obtain ⟨g4, c4', hv4, hg4, hg4'⟩ := h4.form (by omega)
        injection hv4 with hv4 _ hc4'
        subst hv4
        clear hc4'
        have cu : wr.cell? ⟨g4, k, none⟩ = some u := by rw [← add0]; exact h4.cells (g := g4) rfl k u hu
        have hone := Hone.out u (List.mem_of_getElem? hu)
        obtain ⟨su, rfl⟩ := Hstr.out u (List.mem_of_getElem? hu)
        obtain ⟨v5, w5, hr5, hown5, hgr5, hb5, hat5⟩ := app1b Tryd.underlying40 Hi.out Hz0.out Hz1.out Hz2.out rfl (by omega) (by omega) (w.heap.size + 1) u3 (us0.length + k) _ wr ho (by omega) #[.string su] rfl (by simp [Value.oneCell']) (by omega)
        have HN : Hid (RPathRel w w3 (.slice (some ⟨g4, 0, none⟩) us.length c4) us0 us (k + 1) v5 w5) := by
          refine ⟨?_, h4.kept hgr5 hap, ?_, hb.trans hb5⟩
          · rw [take_at hu, ← List.append_assoc]; exact hown5
          · right
            intro e5
            rcases hat5 with h | ⟨j, h, hj⟩
            · rcases hap with h0 | h0
              · simp [Value.ownBlock] at h0
              · exact h0 (e5.trans h)
            · rw [h] at e5
              have : g4 = j := by simpa [Value.ownBlock] using e5
              omega
        clear hown5 hgr5 hb5 hat5 ho h4 hap hb hu hrl hone
        go_wp2_with (at_builtin; refine wpList_run (by rfl) (.tmp 30) (.tmp 35) _ _ (by rfl) (by rfl) (by rfl) hr5 ?_; clear hr5)
        go_roundw
        case rel => exact ⟨k + 1, by go_num, by omega, HN⟩
        case measure => simp [intOf]; omega
      · have hkl : k = us.length := by omega
        subst hkl
        have Ho := Lib.hid ho
        have Hb := Lib.hid hb
        clear ho h4 hap hb hrl
        go_wp2
        go_ret
        refine ⟨_, rfl, ?_, HW.out.trans (Hb.out.mono (by omega))⟩
        have h1 := own_mono Ho.out (show w.heap.size ≤ w.heap.size + 1 by omega)
        rw [List.take_length] at h1
        first | (rw [Hfin.out] at h1; simpa [hu0] using h1) | simpa using h1
  | n + 1, .many l, hz, hn, x, w, h, hB => by
    simp only [RepR] at h
    obtain ⟨g, cap, rfl, hgB, hm, hl⟩ := h
    rw [sz] at hz
    cases l with
    | nil =>
      show Calls Tryd.prog 18 #[.agg #[.int .i64 2, .int .i64 0, .string ⟨#[]⟩, .slice (some ⟨g, 0, none⟩) 0 cap]] w (RetRow w 9 1 0 [])
      go_enter Tryd.func18, Tryd.ntmps18
      go_wp2
      go_ret
      exact ⟨_, rfl, own_nil _ _ _ _, (Below.refl _ _).alloc (Nat.le_refl _) _⟩
    | cons k l =>
    obtain ⟨⟨y, ⟨r0, r1, r2, r3⟩, hk⟩, _⟩ := hl
    rw [szL] at hz
    have hpl := path_len k
    have hfl : (path (.many (k :: l))).length = ((path k).map Value.string).length := by rw [path, pathL]; simp
    have hfm : (path (.many (k :: l))).map Value.string = (path k).map Value.string := by rw [path, pathL]
    show Calls Tryd.prog 18 #[.agg #[.int .i64 2, .int .i64 0, .string ⟨#[]⟩, .slice (some ⟨g, 0, none⟩) (k :: l).length cap]] w (RetRow w 9 1 (path (.many (k :: l))).length ((path (.many (k :: l))).map .string))
    rw [hfl, hfm]
    obtain ⟨i0, hi0, hz0, hz1, hz2⟩ := info_parts strInfo
    have hbl := (Below.refl w.heap.size w).alloc (Nat.le_refl _) (.cells #[.int .i64 2, .int .i64 0, .string ⟨#[]⟩, .slice (some ⟨g, 0, none⟩) (k :: l).length cap] 27)
    have q0 : w.cell? ⟨g, 0, none⟩ = some (.int .i64 (kind k)) := by simpa using r0
    have q1 : w.cell? ⟨g, 1, none⟩ = some (.int .i64 (cd k)) := by simpa using r1
    have q2 : w.cell? ⟨g, 2, none⟩ = some (.string (wh k)) := by simpa using r2
    have q3 : w.cell? ⟨g, 3, none⟩ = some y := by simpa using r3
    have hgl : g < w.heap.size := by omega
    have CP := Lib.hid (rpath_any B n k (by omega) (by omega) y _ (RepR.below (hbl.mono hB) _ _ hk) (by simp; omega))
    have HW2 := Lib.hid hbl
    have Hi := Lib.hid hi0; have Hz0 := Lib.hid hz0; have Hz1 := Lib.hid hz1; have Hz2 := Lib.hid hz2
    clear hbl hi0 hz0 hz1 hz2 r0 r1 r2 r3 hk hfl hfm
    have Hone : Hid (∀ u ∈ (path k).map Value.string, u.oneCell' = true) := Lib.hid (fun u hu => by obtain ⟨a, _, rfl⟩ := List.mem_map.1 hu; rfl)
    have Hstr : Hid (∀ u ∈ (path k).map Value.string, ∃ su, u = .string su) := Lib.hid (fun u hu => by obtain ⟨a, _, rfl⟩ := List.mem_map.1 hu; exact ⟨a, rfl⟩)
    have hul : (path k).length = ((path k).map Value.string).length := by simp
    rw [hul] at CP hpl
    clear hul
    generalize (path k).map Value.string = us at *
    have hll : (k :: l).length = l.length + 1 := rfl
    have hl63 : l.length + 1 ≤ maxLen := hm
    unfold maxLen at hl63
    rw [hll] at CP HW2 ⊢
    clear hm hll
    go_enter Tryd.func18, Tryd.ntmps18
    go_wp2_with fail
    refine CP.out.mono ?_
    rintro en w3 ⟨v4, rfl, ho4, hb3⟩
    have hs3 : w.heap.size + 1 ≤ w3.heap.size := by have := hb3.size; simpa using this
    have HR0 : Hid (RPathRel w w3 v4 [] us 0 (.slice none 0 0) w3) := by
      refine ⟨?_, own_mono ho4 (by simp), ?_, Below.refl _ _⟩
      · exact own_nil _ _ _ _
      · rcases ho4.2 with ⟨rfl, _⟩ | ⟨g4, c4, cur, rfl, hg4, _⟩
        · exact .inl rfl
        · exact .inr (by simp [Value.ownBlock])
    obtain ⟨A4, c4, rfl⟩ := own_form ho4
    have HW : Hid (Below w.heap.size w w3) := HW2.out.trans (hb3.mono HW2.out.size)
    obtain ⟨us0, hus0⟩ : ∃ us0 : List Value, us0 = [] := ⟨[], rfl⟩
    have hu0 : us0.length = 0 := by rw [hus0]; rfl
    have Hfin : Hid (us0 ++ us = us) := Lib.hid (by rw [hus0]; rfl)
    rw [← hus0] at HR0
    clear ho4 hb3 CP q0 q1 q2 q3 HW2 hus0
    go_wp2
    go_loopw [3, 5] (fun out i wr => ∃ k : Nat, i = .int .i64 k ∧ k ≤ us.length ∧ Hid (RPathRel w w3 (.slice A4 us.length c4) us0 us k out wr))
      (fun _ i _ => us.length - (intOf i).toNat)
    case atStart => exact ⟨0, rfl, by omega, HR0⟩
    case round =>
      obtain ⟨k, rfl, hk, hrl⟩ := hrel
      obtain ⟨ho, h4, hap, hb⟩ := hrl.out
      have hsr := hb.size
      obtain ⟨Ao, co, hoo⟩ := own_form ho
      by_cases hlt : k < us.length
      · obtain ⟨u, hu⟩ : ∃ u, us[k]? = some u := ⟨us[k], List.getElem?_eq_getElem hlt⟩
        obtain ⟨g4, c4', hv4, hg4, hg4'⟩ := h4.form (by omega)
        injection hv4 with hv4 _ hc4'
        subst hv4
        clear hc4'
        have cu : wr.cell? ⟨g4, k, none⟩ = some u := by rw [← add0]; exact h4.cells (g := g4) rfl k u hu
        have hone := Hone.out u (List.mem_of_getElem? hu)
        obtain ⟨su, rfl⟩ := Hstr.out u (List.mem_of_getElem? hu)
        obtain ⟨v5, w5, hr5, hown5, hgr5, hb5, hat5⟩ := app1b Tryd.underlying40 Hi.out Hz0.out Hz1.out Hz2.out rfl (by omega) (by omega) (w.heap.size + 1) u3 (us0.length + k) _ wr ho (by omega) #[.string su] rfl (by simp [Value.oneCell']) (by omega)
        have HN : Hid (RPathRel w w3 (.slice (some ⟨g4, 0, none⟩) us.length c4) us0 us (k + 1) v5 w5) := by
          refine ⟨?_, h4.kept hgr5 hap, ?_, hb.trans hb5⟩
          · rw [take_at hu, ← List.append_assoc]; exact hown5
          · right
            intro e5
            rcases hat5 with h | ⟨j, h, hj⟩
            · rcases hap with h0 | h0
              · simp [Value.ownBlock] at h0
              · exact h0 (e5.trans h)
            · rw [h] at e5
              have : g4 = j := by simpa [Value.ownBlock] using e5
              omega
        clear hown5 hgr5 hb5 hat5 ho h4 hap hb hu hrl hone
        go_wp2_with (at_builtin; refine wpList_run (by rfl) (.tmp 30) (.tmp 35) _ _ (by rfl) (by rfl) (by rfl) hr5 ?_; clear hr5)
        go_roundw
        case rel => exact ⟨k + 1, by go_num, by omega, HN⟩
        case measure => simp [intOf]; omega
      · have hkl : k = us.length := by omega
        subst hkl
        have Ho := Lib.hid ho
        have Hb := Lib.hid hb
        clear ho h4 hap hb hrl
        go_wp2
        go_ret
        refine ⟨_, rfl, ?_, HW.out.trans (Hb.out.mono (by omega))⟩
        have h1 := own_mono Ho.out (show w.heap.size ≤ w.heap.size + 1 by omega)
        rw [List.take_length] at h1
        first | (rw [Hfin.out] at h1; simpa [hu0] using h1) | simpa using h1

theorem rpathO_any (B : Nat) (x : Option E) (y : Value) (w : World) (h : RepRO w B x y) (hB : B ≤ w.heap.size) (hz : szO x ≤ 10000) :
    Calls Tryd.prog 18 #[recO x y] w (RetRow w 9 1 (pathO x).length ((pathO x).map .string)) := by
  cases x with
  | none =>
    obtain rfl : y = .slice none 0 0 := h
    show Calls Tryd.prog 18 #[.agg #[.int .i64 0, .int .i64 0, .string ⟨#[]⟩, .slice none 0 0]] w (RetRow w 9 1 0 [])
    go_enter Tryd.func18, Tryd.ntmps18
    go_wp2
    go_ret
    exact ⟨_, rfl, own_nil _ _ _ _, (Below.refl _ _).alloc (Nat.le_refl _) _⟩
  | some e => exact rpath_any B _ e (Nat.le_refl _) (by have : sz e ≤ 10000 := hz; omega) y w h hB
end Go.Proofs.YteacjahncngoiaaDoor
