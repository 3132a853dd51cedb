/- The law's own helper: the program's and the document's rows of properties. -/
import Derived.Test.YtmommbhhffhdgaaDoorPrApp
import Derived.Test.YtmommbhhffhdgaaDoorVarClone
import Derived.Deep.RegionHeld3
import Derived.Deep.DrawnRows
import Derived.Deep.DeepCutAuto
import Derived.Deep.CutRange
import Derived.Deep.CutBlock
namespace Go.Proofs.YtmommbhhffhdgaaDoor
open Go.RowKit
attribute [local go_sem ↓] Go.wp_at_zero Go.wp_at_succ

theorem ppInfo : (Tryd.prog.info? 39).map (fun i => (i.zero, i.size, i.bytes)) = some (some (.agg #[.int .i64 0, .int .i64 0, .string ⟨#[]⟩, .string ⟨#[]⟩]), 4, 48) := by kernel_rfl
theorem rpInfo : (Tryd.prog.info? 47).map (fun i => (i.zero, i.size, i.bytes)) = some (some (.agg #[.int .i64 0, .int .i64 0, .string ⟨#[]⟩, .string ⟨#[]⟩]), 4, 48) := by kernel_rfl
theorem heap_alloc_at {w : World} {o : Obj} {k : Nat} (h : k = w.heap.size) : (w.alloc o).heap[k]? = some o := by subst h; exact heap_alloc_new w o
/-- Four cells of a block. -/
def S4 (b : Nat) (a0 a1 a2 a3 : Value) (w : World) : Prop := w.cell? ⟨b, 0, none⟩ = some a0 ∧ w.cell? ⟨b, 1, none⟩ = some a1 ∧ w.cell? ⟨b, 2, none⟩ = some a2 ∧ w.cell? ⟨b, 3, none⟩ = some a3
theorem S4.alloc {b : Nat} {a0 a1 a2 a3 : Value} {w : World} (h : S4 b a0 a1 a2 a3 w) (hb : b < w.heap.size) (o : Obj) : S4 b a0 a1 a2 a3 (w.alloc o) :=
  ⟨(World.cell?_alloc_lt _ _ _ hb).trans h.1, (World.cell?_alloc_lt _ _ _ hb).trans h.2.1, (World.cell?_alloc_lt _ _ _ hb).trans h.2.2.1, (World.cell?_alloc_lt _ _ _ hb).trans h.2.2.2⟩
theorem S4.grown {b : Nat} {a0 a1 a2 a3 : Value} {w w' : World} {row : Option Nat} (h : S4 b a0 a1 a2 a3 w) (hg : w.grownBy w' row) (hb : b < w.heap.size) (hne : some b ≠ row) : S4 b a0 a1 a2 a3 w' :=
  ⟨(hg.cell_far _ hb hne).trans h.1, (hg.cell_far _ hb hne).trans h.2.1, (hg.cell_far _ hb hne).trans h.2.2.1, (hg.cell_far _ hb hne).trans h.2.2.2⟩

/-- Two rows of the same properties. -/
def Rows2 (N : Nat) (w : World) (a b : Value) (l : List Pr) : Prop :=
  w.ownsRow N 39 4 a l.length (flatP l) ∧ w.ownsRow N 47 4 b l.length (flatP l)
theorem Rows2.below {N : Nat} {w w' : World} {a b : Value} {l : List Pr} (h : Rows2 N w a b l) (hb : Below w.heap.size w w') : Rows2 N w' a b l := ⟨own_below h.1 hb, own_below h.2 hb⟩

section
variable {N : Nat} {wc wa w1 wb w2 : World} {a b : Value} {l : List Pr}
theorem Rows2.kept1 (h : Rows2 N wc a b l) (hg : wa.grownBy w1 a.ownBlock) (ha : Below wc.heap.size wc wa) : w1.ownsRow N 47 4 b l.length (flatP l) :=
  (own_below h.2 ha).kept hg (rows_apart (own_below h.2 ha) (own_below h.1 ha) (by decide))
theorem Rows2.blk1 (h : Rows2 N wc a b l) (hg : wa.grownBy w1 a.ownBlock) {k : Nat} {o : Obj} (hb : wc.heap.size ≤ k) (hh : wa.heap[k]? = some o) : w1.heap[k]? = some o :=
  (hg.block k (lt_heap hh) (fun e => by have := (h.1.lt k e.symm).2; omega)).trans hh
theorem Rows2.step (h : Rows2 N wc a b l) (p : Pr) (hN : N ≤ wc.heap.size) {v1 v2 : Value}
    (ha : Below wc.heap.size wc wa) (q1 : wa.grownBy w1 a.ownBlock) (o1 : w1.ownsRow N 39 4 v1 (l.length + 1) (flatP l ++ [.int .i64 p.id, .int .i64 p.n, .string p.s, .string p.t]))
    (hb : Below w1.heap.size w1 wb) (q2 : wb.grownBy w2 b.ownBlock) (o2 : w2.ownsRow N 47 4 v2 (l.length + 1) (flatP l ++ [.int .i64 p.id, .int .i64 p.n, .string p.s, .string p.t])) :
    Rows2 N w2 v1 v2 (l ++ [p]) ∧ Below N wc w2 := by
  have k1 := h.kept1 q1 ha
  have sa := ha.size; have s1 := q1.size; have sb := hb.size
  have e1 := own_below o1 hb
  have e2 := e1.kept q2 (rows_apart e1 (own_below k1 hb) (by decide))
  refine ⟨⟨?_, ?_⟩, ?_⟩
  · rw [flatP_snoc]; simpa using e2
  · rw [flatP_snoc]; simpa using o2
  · have b1 := (ha.mono hN).grown q1 (by omega) (fun k hk => ((own_below h.1 ha).lt k hk).1)
    exact (b1.trans (hb.mono (by omega))).grown q2 (by omega) (fun k hk => ((own_below k1 hb).lt k hk).1)
end

/-- What the law's helper answers: the rows of the first 80. -/
def PropsP (w : World) (l : List Pr) (e : Ending) (w' : World) : Prop :=
  ∃ a b, e = .returned (.tuple #[a, b]) ∧ Rows2 w.heap.size w' a b (l.take 80) ∧ Below w.heap.size w w'
theorem ptake_at {l : List Pr} {k : Nat} {v : Pr} (h : l[k]? = some v) : l.take (k + 1) = l.take k ++ [v] := by
  obtain ⟨hk, he⟩ := List.getElem?_eq_some_iff.1 h
  rw [List.take_succ_eq_append_getElem hk, he]

set_option maxRecDepth 100000 in
set_option maxHeartbeats 8000000 in
theorem props_any (A : Option Addr) (cap : Nat) (l : List Pr) (hl : l.length ≤ maxLen) (w : World) (h : Props w A l) (hc : l.length ≤ cap) :
    Calls Tryd.prog 7 #[.slice A l.length cap] w (PropsP w l) := by
  unfold maxLen at hl
  have H := Lib.hid h
  clear h
  obtain ⟨m, hm, hm1, hm2, hm5⟩ : ∃ m : Nat, min (l.length : Int) 80 = (m : Int) ∧ m ≤ 80 ∧ m ≤ l.length ∧ l.take m = l.take 80 := by
    by_cases h80 : l.length ≤ 80
    · exact ⟨l.length, by omega, by omega, by omega, by rw [List.take_of_length_le (Nat.le_refl _), List.take_of_length_le h80]⟩
    · exact ⟨80, by omega, by omega, by omega, rfl⟩
  have hm3 : ((m : Int)).toNat = m := by omega
  have hm4 : max (m : Int) 0 = m := by omega
  have Hm5 := Lib.hid hm5
  have Hm := Lib.hid hm
  clear hm5 hm
  go_enter Tryd.func7, Tryd.ntmps7
  go_wp2
  rw [Hm.out, hm3, hm4]
  clear hm3 hm4 Hm
  go_loopw [14, 4, 5] (fun i a b wr => ∃ k : Nat, i = .int .i64 k ∧ k ≤ m ∧ Hid (Rows2 w.heap.size wr a b (l.take k)) ∧ Hid (Below w.heap.size w wr)) (fun i _ _ _ => m - (intOf i).toNat)
  case atStart => exact ⟨0, rfl, by omega, Lib.hid ⟨own_nil _ _ _ _, own_nil _ _ _ _⟩, Lib.hid (Below.refl _ _)⟩
  case round =>
    obtain ⟨k, rfl, hk, hrows, hbr⟩ := hrel
    have hsr := hbr.out.size
    have hkl : (l.take k).length = k := by simp; omega
    obtain ⟨Aa, ca, hva⟩ := own_form hrows.out.1
    obtain ⟨Ab, cb, hvb⟩ := own_form hrows.out.2
    rw [hkl] at hva hvb
    subst hva hvb
    by_cases hlt : k < m
    · obtain ⟨p, hp⟩ : ∃ p, l[k]? = some p := ⟨l[k]'(by omega), List.getElem?_eq_getElem _⟩
      obtain ⟨g, o, rfl, hg, r0, r1, r2, r3⟩ := H.out k p hp
      have E1 := Lib.hid (ptake_at hp)
      obtain ⟨id', n', s', t'⟩ := p
      simp only at r0 r1 r2 r3
      have q0 : wr.cell? ⟨g, o + k * 4, none⟩ = some (.int .i64 id') := by rw [hbr.out.cell (by simp; omega)]; exact r0
      have q1 : wr.cell? ⟨g, o + k * 4 + 1, none⟩ = some (.int .i64 n') := by rw [hbr.out.cell (by simp; omega)]; exact r1
      have q2 : wr.cell? ⟨g, o + k * 4 + 2, none⟩ = some (.string s') := by rw [hbr.out.cell (by simp; omega)]; exact r2
      have q3 : wr.cell? ⟨g, o + k * 4 + 3, none⟩ = some (.string t') := by rw [hbr.out.cell (by simp; omega)]; exact r3
      have i1 : (k : Int) < (m : Int) := by omega
      have i0 : (0 : Int) ≤ (k : Int) := by omega
      have hal := (Below.refl wr.heap.size wr).alloc (Nat.le_refl _) (.cells #[.int .i64 id', .int .i64 n', .string s', .string t'] 46)
      have hvb : (wr.alloc (.cells #[.int .i64 id', .int .i64 n', .string s', .string t'] 46)).heap[wr.heap.size]? = some (.cells #[.int .i64 id', .int .i64 n', .string s', .string t'] 46 (0, 0)) := heap_alloc_new wr _
      have hRc := Lib.hid (hrows.out.below hal)
      have Hal := Lib.hid hal
      have Hkl := Lib.hid hkl
      obtain ⟨iP, hiP, hP0, hP1, hP2⟩ := info_parts ppInfo
      obtain ⟨iR, hiR, hR0, hR1, hR2⟩ := info_parts rpInfo
      have hlt1 : wr.heap.size < (wr.alloc (.cells #[.int .i64 id', .int .i64 n', .string s', .string t'] 46)).heap.size := by simp
      clear r0 r1 r2 r3 hp hal hkl
      go_upto_region 6 with fail
      generalize wr.alloc (.cells #[.int .i64 id', .int .i64 n', .string s', .string t'] 46) = wc at *
      have hS0 : S4 wr.heap.size (.int .i64 id') (.int .i64 n') (.string s') (.string t') wc := ⟨by rw [cell_heap hvb]; rfl, by rw [cell_heap hvb]; rfl, by rw [cell_heap hvb]; rfl, by rw [cell_heap hvb]; rfl⟩
      have hcl : (l.take k).length = k := Hkl.out
      have hRa : wc.ownsRow w.heap.size 39 4 (.slice Aa k ca) k (flatP (l.take k)) := by have := hRc.out.1; rwa [hcl] at this
      have hRb : wc.ownsRow w.heap.size 47 4 (.slice Ab k cb) k (flatP (l.take k)) := by have := hRc.out.2; rwa [hcl] at this
      have HRa := Lib.hid hRa; have HRb := Lib.hid hRb
      clear hvb hcl hRa hRb q0 q1 q2 q3
      obtain ⟨c0, c1, c2, c3⟩ := hS0
      have hS0 : S4 wr.heap.size (.int .i64 id') (.int .i64 n') (.string s') (.string t') wc := ⟨c0, c1, c2, c3⟩
      go_region_held3 (fun w' => w'.cell? ⟨wr.heap.size, 0, none⟩ = some (.int .i64 id') ∧ w'.cell? ⟨wr.heap.size, 1, none⟩ = some (.int .i64 n') ∧ w'.cell? ⟨wr.heap.size, 2, none⟩ = some (.string s') ∧ w'.cell? ⟨wr.heap.size, 3, none⟩ = some (.string t'))
        (first
          | exact hS2
          | exact hS1
          | exact hS1.alloc (by first | omega | (simp; omega) | (simp; done)) _
          | exact hS0
          | exact hS0.alloc (by first | omega | (simp; omega) | (simp; done)) _
          | exact (hS0.alloc (by first | omega | (simp; omega) | (simp; done)) _).alloc (by first | omega | (simp; omega) | (simp; done)) _)
        (first
          | (refine step_append_lies _ (by rfl) (.tmp 18) (.tmp 20) _ (by rfl) w.heap.size 39 iP _ 4 48 Tryd.underlying23 hiP hP0 hP1 hP2 rfl (by omega) (.slice Aa k ca) k (flatP (l.take k)) (by rfl) (own_below HRa.out (by first | exact ((Below.refl wc.heap.size wc).alloc (Nat.le_refl _) _).drew | exact (((Below.refl wc.heap.size wc).alloc (Nat.le_refl _) _).alloc (by simp; done) _).drew)) _ 1 1 [.int .i64 id', .int .i64 n', .string s', .string t'] (by rfl) (by rfl) (World.news_of_block (cs := #[.int .i64 id', .int .i64 n', .string s', .string t']) (t := 39) (fr := (0, 0)) (by first | exact heap_alloc_at (by first | rfl | omega | (simp; omega) | (simp; done)) | exact (Below.heap_alloc _ _ _ (by first | omega | (simp; omega) | (simp; done))).trans (heap_alloc_at (by first | rfl | omega | (simp; omega) | (simp; done))))) (by simp [Value.oneCell']) (by omega) (by unfold maxLen; omega) (by omega) (by first | omega | (simp; omega) | (simp; done)) _ (by rfl) ?_
             intro g1 cap1 w1 hown1 hgr1 hat1 hlt1_
             have hk1 : w1.ownsRow w.heap.size 47 4 (.slice Ab k cb) k (flatP (l.take k)) := by
               have hk1' := hRc.out.kept1 hgr1 (by first | exact ((Below.refl wc.heap.size wc).alloc (Nat.le_refl _) _).drew | exact (((Below.refl wc.heap.size wc).alloc (Nat.le_refl _) _).alloc (by simp; done) _).drew)
               rwa [Hkl.out] at hk1'
             have hS1 : S4 wr.heap.size (.int .i64 id') (.int .i64 n') (.string s') (.string t') w1 := S4.grown (by first | exact hS0.alloc (by first | omega | (simp; omega) | (simp; done)) _ | exact (hS0.alloc (by first | omega | (simp; omega) | (simp; done)) _).alloc (by first | omega | (simp; omega) | (simp; done)) _) hgr1 (by first | omega | (simp; omega) | (simp; done)) (fun e => by have := (hrows.out.1.lt _ e.symm).2; omega)
             have hs1_ := hgr1.size
             try simp at hs1_)
          | (refine step_append_lies _ (by rfl) (.tmp 22) (.tmp 24) _ (by rfl) w.heap.size 47 iR _ 4 48 Tryd.underlying24 hiR hR0 hR1 hR2 rfl (by omega) (.slice Ab k cb) k (flatP (l.take k)) (by rfl) (own_below hk1 (by first | exact Below.refl w1.heap.size w1 | exact (Below.refl w1.heap.size w1).alloc (Nat.le_refl _) _)) _ 1 1 [.int .i64 id', .int .i64 n', .string s', .string t'] (by rfl) (by rfl) (World.news_of_block (cs := #[.int .i64 id', .int .i64 n', .string s', .string t']) (t := 47) (fr := (0, 0)) (by first | exact heap_alloc_at (by first | rfl | omega | (simp; omega) | (simp; done)) | exact hRc.out.blk1 hgr1 (by first | omega | (simp; omega) | (simp; done)) (by first | exact heap_alloc_at (by first | rfl | omega | (simp; omega) | (simp; done)) | exact (Below.heap_alloc _ _ _ (by first | omega | (simp; omega) | (simp; done))).trans (heap_alloc_at (by first | rfl | omega | (simp; omega) | (simp; done)))))) (by simp [Value.oneCell']) (by omega) (by unfold maxLen; omega) (by omega) (by first | omega | (simp; omega) | (simp; done)) _ (by rfl) ?_
             intro g2 cap2 w2 hown2 hgr2 hat2 hlt2_
             have hS2 : S4 wr.heap.size (.int .i64 id') (.int .i64 n') (.string s') (.string t') w2 := S4.grown (by first | exact hS1 | exact hS1.alloc (by first | omega | (simp; omega) | (simp; done)) _) hgr2 (by first | omega | (simp; omega) | (simp; done)) (fun e => by have := (hrows.out.2.lt _ e.symm).2; omega)))
      all_goals
        go_wp2_with fail
        go_roundw
        case rel =>
          obtain ⟨hM, hB⟩ := hRc.out.step ⟨id', n', s', t'⟩ (by have := Hal.out.size; omega) (by first | exact ((Below.refl wc.heap.size wc).alloc (Nat.le_refl _) _).drew | exact (((Below.refl wc.heap.size wc).alloc (Nat.le_refl _) _).alloc (by simp; done) _).drew) hgr1 (by rw [Hkl.out]; exact hown1) (by first | exact Below.refl w1.heap.size w1 | exact (Below.refl w1.heap.size w1).alloc (Nat.le_refl _) _) hgr2 (by rw [Hkl.out]; exact hown2)
          exact ⟨k + 1, by go_num, by omega, Lib.hid (by rw [E1.out]; exact hM), Lib.hid ((hbr.out.trans (Hal.out.mono hsr)).trans hB)⟩
        case measure => simp [intOf]; omega
    · have hkm : k = m := by omega
      subst hkm
      have Hkl := Lib.hid hkl
      clear hkl
      go_wp2
      go_ret2
      exact ⟨_, _, rfl, by rw [← Hm5.out]; exact hrows.out, hbr.out⟩
end Go.Proofs.YtmommbhhffhdgaaDoor
