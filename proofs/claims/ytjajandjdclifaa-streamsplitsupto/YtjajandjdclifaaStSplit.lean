/- stream.Split, and the document's. -/
import Derived.Test.YtjajandjdclifaaStThr
import Derived.Test.YtjajandjdclifaaVarClone
import Derived.Test.YtjajandjdclifaaPrApp
import Derived.Deep.RegionHeld3
import Derived.Deep.RegionLaw
namespace Go.Proofs.Ytjajandjdclifaa
open Go.RowKit Go.Shelf

/-- What Split's function keeps: the packets so far, in a row that the variable in block p holds. -/
def SpI (p : Nat) (w : World) (l : List ByteArray) (W : World) : Prop :=
  ∃ v, W.heap[p]? = some (.cells #[v] 22 (0, 0)) ∧ W.ownsRow (p + 1) 9 1 v l.length (l.map .string) ∧ p + 1 ≤ W.heap.size ∧ Below p w W

theorem SpI.set {p : Nat} {w w1 w2 : World} {l' : List ByteArray} {u v : Value} {row : Option Nat} (hp : p < w1.heap.size) (hb : Below p w w1) (hg : w1.grownBy w2 row) (hr : ∀ k, row = some k → p + 1 ≤ k) (hv : w2.heap[p]? = some (.cells #[v] 22 (0, 0))) (ho : w2.ownsRow (p + 1) 9 1 u l'.length (l'.map .string)) : SpI p w l' (w2.setCell ⟨p, 0, none⟩ u) := by
  refine ⟨u, one_setCell hv, ho.kept (row := some p) ⟨rfl, rfl, rfl, by simp [World.setCell], fun i _ hi => Below.heap_setCell _ _ _ _ (fun e => hi (by simp [e]))⟩ (.inr fun e => by have := (ho.lt _ e).1; omega), by simp [World.setCell]; have := hg.size; omega, ?_⟩
  have h2 : Below p w1 w2 := ⟨hg.os, hg.tape, hg.output, hg.size, fun i hi => hg.block i (by omega) (fun e => by have := hr i e.symm; omega)⟩
  have h3 := hb.trans h2
  exact ⟨h3.os, h3.tape, h3.output, by simp [World.setCell]; exact h3.size, fun i hi => (Below.heap_setCell _ _ _ _ (fun e => by simp at e; omega)).trans (h3.block i hi)⟩

set_option maxRecDepth 100000 in
set_option maxHeartbeats 2000000 in
theorem splits1_any (p : Nat) (w0 : World) (l : List ByteArray) (b : ByteArray) (hb : b.size ≤ 140737488351232) (hl : l.length < 1000000) (W : World) (h : SpI p w0 l W) :
    Calls Try.prog 7 #[.string b, .pointer (some ⟨p, 0, none⟩)] W fun e W' => e = .returned (.int .u8 0) ∧ SpI p w0 (l ++ [b]) W' := by
  obtain ⟨v, hv, hown, hp1, hbe⟩ := h
  obtain ⟨i0, hi0, hz0, hz1, hz2⟩ := info_parts strInfo
  obtain ⟨Ao, co, rfl⟩ := own_form hown
  have q0 : W.cell? ⟨p, 0, none⟩ = some (.slice Ao l.length co) := by rw [cell_heap hv]; rfl
  have C := Lib.hid (fun (b : ByteArray) (hb : b.size ≤ 140737488351232) W => clone_any b W (by omega))
  have HV := Lib.hid hv
  have HO := Lib.hid hown
  have HB := Lib.hid hbe
  clear hv hown hbe
  go_enter Try.func7, Try.ntmps7
  go_wp2_with fail
  go_region_law
    (first
      | (go_simp
         refine (C.out b hb _).mono ?_
         rintro e w1 ⟨rfl, b1⟩
         dsimp only
         have hw1 : Below W.heap.size W w1 := below_of_drew b1
         have v1 := (hw1.block _ (lt_heap HV.out)).trans HV.out
         have o1 := own_below HO.out hw1
         have q1 : w1.cell? ⟨p, 0, none⟩ = some (.slice Ao l.length co) := by rw [cell_heap v1]; rfl
         have q1' : (w1.alloc (.cells #[.string b] 9)).cell? ⟨p, 0, none⟩ = some (.slice Ao l.length co) := by rw [cell_heap ((Below.heap_alloc w1 _ p (lt_heap v1)).trans v1)]; rfl)
      | (refine step_append_lies _ (by rfl) (.tmp 4) (.tmp 7) _ (by rfl) (p + 1) 9 i0 _ 1 16 Try.underlying22 hi0 hz0 hz1 hz2 rfl (by omega) (.slice Ao l.length co) l.length (l.map .string) (by rfl) (o1.alloc _) _ 1 1 [.string b] (by rfl) (by rfl) (World.news_of_block (cs := #[.string b]) (t := 9) (fr := (0, 0)) (heap_alloc_new w1 _)) (by simp [Value.oneCell']) (by omega) (by unfold maxLen; omega) (by omega) (by have := lt_heap v1; simp; omega) _ (by rfl) ?_
         intro g2 cap2 w2 hown2 hgr2 hat2 hlt2_
         have v2 := (hgr2.block p (by simp; have := lt_heap v1; omega) (fun e => by have := (o1.lt _ e.symm).1; omega)).trans ((Below.heap_alloc w1 _ p (lt_heap v1)).trans v1)
         have q2 : w2.cell? ⟨p, 0, none⟩ = some (.slice Ao l.length co) := by rw [cell_heap v2]; rfl
         have f2 : w2.frozen? ⟨p, 0, none⟩ = false := frozen_heap v2))
  all_goals
    have hal : Below p W (w1.alloc (.cells #[.string b] 9)) := (hw1.mono (by omega)).trans ((Below.refl p w1).alloc (by have := lt_heap v1; omega) _)
    have HS : Hid (SpI p w0 (l ++ [b]) (w2.setCell ⟨p, 0, none⟩ (.slice (some ⟨g2, 0, none⟩) (l.length + 1) cap2))) := Lib.hid (SpI.set (w1 := w1.alloc (.cells #[.string b] 9)) (by have := lt_heap v1; simp; omega) (HB.out.trans hal) hgr2 (fun k hk => (o1.lt k hk).1) v2 (by simpa using hown2))
    clear hal hgr2 hown2 v2 o1 v1 hw1 b1 HV HO HB C q0 q1 q1' q2 f2 hat2
    go_wp2_with fail
    go_ret
    exact ⟨rfl, HS.out⟩
theorem st_base {w : World} {B C : Nat} {e : TypeId} {k : Nat} {v : Value} {n : Nat} {xs : List Value} (h : w.ownsRow B e k v n xs) (hC : C ≤ B) : w.ownsRow C e k v n xs := by
  refine ⟨h.1, ?_⟩
  rcases h.2 with hn | ⟨g, cap, cur, hv, hb, rest⟩
  · exact .inl hn
  · exact .inr ⟨g, cap, cur, hv, by omega, rest⟩
/-- What both Splits answer. -/
def SplP (w : World) (k : IntKind) (s : ByteArray) (X : List ByteArray × Nat × Int) (e : Ending) (w' : World) : Prop :=
  ∃ v, e = .returned (.tuple #[v, .string (s.extract X.2.1 s.size), .int k X.2.2]) ∧ w'.ownsRow w.heap.size 9 1 v X.1.length (X.1.map .string) ∧ Below w.heap.size w w'
theorem split1_enters (args : Array Value) (W : World) : (callFunc 7 args).run Try.prog W = .ok (.enter 7 args) W := by
  exact enters_of Try.func7 (by kernel_rfl) rfl args W
theorem thr_le (s : ByteArray) (most : Int) (f : ByteArray → Int) : ∀ (u a : Nat), a ≤ s.size → (ST.thr s most f u a).2.1 ≤ s.size
  | 0, a, h => h
  | u + 1, a, h => by
    rw [ST.thr]
    split
    · rename_i h1
      obtain ⟨k, hk, hk1, hk2⟩ := ST.first_ok _ _ h1
      rw [ByteArray.size_extract] at hk2
      rw [hk]
      simp only [Int.toNat_natCast]
      split
      · exact thr_le s most f u (a + k) (by omega)
      · exact h
    · exact h

set_option maxRecDepth 100000 in
set_option maxHeartbeats 2000000 in
theorem split_any (s : ByteArray) (most : Int) (hs : s.size ≤ 1048576) (w : World) :
    Calls Try.prog 4 #[.string s, .int .i64 most] w (SplP w .u8 s (ST.thr s most (fun _ => 0) (s.size + 1) 0)) := by
  have hmf : ∀ (fn : Fn) (first cap : Array Value) (w : World), (Instr.makeFunc fn first cap).run Try.prog w = .ok (.func fn first cap) w := fun _ _ _ _ => rfl
  have h0 : SpI w.heap.size w [] (w.alloc (.cells #[.slice none 0 0] 22)) := ⟨_, heap_alloc_new w _, own_nil _ _ _ _, by simp, (Below.refl _ _).alloc (Nat.le_refl _) _⟩
  have CT := Lib.hid (through_any 7 #[.pointer (some ⟨w.heap.size, 0, none⟩)] (fun _ => 0) (SpI w.heap.size w) s most (by omega) split1_enters
    (fun l a k W hI h2 hk1 hk2 => (splits1_any w.heap.size w l (s.extract a (a + k)) (by rw [ByteArray.size_extract]; omega) (by omega) W hI).mono (fun e W' h => ⟨h.1, fun _ => h.2, fun hc => absurd rfl hc⟩)) _ h0)
  have CC := Lib.hid (fun (b : ByteArray) (hb : b.size ≤ 140737488351232) W => clone_any b W (by omega))
  have hle := thr_le s most (fun _ => 0) (s.size + 1) 0 (by omega)
  generalize ST.thr s most (fun _ => 0) (s.size + 1) 0 = X at *
  obtain ⟨l, a, c⟩ := X
  simp only at CT hle
  clear h0
  go_enter Try.func4, Try.ntmps4
  go_wp2_with fail
  refine CT.out.mono ?_
  rintro e w1 ⟨rfl, v, hv, ho, hp1, hb⟩
  have hsl := st_from s a hle
  have hx : (s.extract a s.size).size ≤ 140737488351232 := by rw [ByteArray.size_extract]; omega
  have q0 := cell_of_one hv
  have HV := Lib.hid hv
  have HO := Lib.hid ho
  have HB := Lib.hid hb
  clear hv ho hb CT
  go_wp2_with fail
  go_region_held3 (fun w' => w'.cell? ⟨w.heap.size, 0, none⟩ = some v)
    (first | exact q0 | exact q1)
    (first
      | (go_at_call 8
         refine (CC.out _ hx _).mono ?_
         rintro e w2 ⟨rfl, b1⟩
         have hw2 : Below w1.heap.size w1 w2 := below_of_drew b1
         have q1 : w2.cell? ⟨w.heap.size, 0, none⟩ = some v := by rw [cell_heap ((hw2.block _ (lt_heap HV.out)).trans HV.out)]; rfl))
  all_goals
    have H1 : Hid (w2.ownsRow w.heap.size 9 1 v l.length (l.map .string)) := Lib.hid (st_base (own_below HO.out hw2) (by omega))
    have H2 : Hid (Below w.heap.size w w2) := Lib.hid (HB.out.trans (hw2.mono (by omega)))
    clear hw2 b1 q1 q0 HV HO HB CC
    go_wp2_with fail
    go_ret3
    exact ⟨v, rfl, H1.out, H2.out⟩
end Go.Proofs.Ytjajandjdclifaa
