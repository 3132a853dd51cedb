/- The law's own helper: the program's and the document's rows of properties.; Layer 5's law: its own helper: the program's and the document's rows of properties. (The text is that of layer 4's.); The law's helper that makes packets: what lies in memory on its way.; The law's helper that makes packets: its steps. -/
import Derived.Test.YtjajandjdclifaaGreatDoorPrApp
import Derived.Test.YtjajandjdclifaaGreatDoorVarClone
import Derived.Deep.RegionHeld3
import Derived.Deep.DrawnRows
import Derived.Deep.DeepCutAuto
import Derived.Deep.CutRange
import Derived.Deep.CutBlock
import Derived.Test.YtjajandjdclifaaGreatDoorME
namespace Go.Proofs.YtjajandjdclifaaGreatDoor
open Go.RowKit
attribute [local go_sem ↓] Go.wp_at_zero Go.wp_at_succ

theorem ppInfo : (Tryz.prog.info? 163).map (fun i => (i.zero, i.size, i.bytes)) = some (some (.agg #[.int .i64 0, .int .i64 0, .string ⟨#[]⟩, .string ⟨#[]⟩]), 4, 48) := by kernel_rfl
theorem rpInfo : (Tryz.prog.info? 162).map (fun i => (i.zero, i.size, i.bytes)) = some (some (.agg #[.int .i64 0, .int .i64 0, .string ⟨#[]⟩, .string ⟨#[]⟩]), 4, 48) := by kernel_rfl
theorem heap_alloc_at {w : World} {o : Obj} {k : Nat} (h : k = w.heap.size) : (w.alloc o).heap[k]? = some o := by subst h; exact heap_alloc_new w o
/-- Four cells of a block. -/
def S4 (b : Nat) (a0 a1 a2 a3 : Value) (w : World) : Prop := w.cell? ⟨b, 0, none⟩ = some a0 ∧ w.cell? ⟨b, 1, none⟩ = some a1 ∧ w.cell? ⟨b, 2, none⟩ = some a2 ∧ w.cell? ⟨b, 3, none⟩ = some a3
theorem S4.alloc {b : Nat} {a0 a1 a2 a3 : Value} {w : World} (h : S4 b a0 a1 a2 a3 w) (hb : b < w.heap.size) (o : Obj) : S4 b a0 a1 a2 a3 (w.alloc o) :=
  ⟨(World.cell?_alloc_lt _ _ _ hb).trans h.1, (World.cell?_alloc_lt _ _ _ hb).trans h.2.1, (World.cell?_alloc_lt _ _ _ hb).trans h.2.2.1, (World.cell?_alloc_lt _ _ _ hb).trans h.2.2.2⟩
theorem S4.grown {b : Nat} {a0 a1 a2 a3 : Value} {w w' : World} {row : Option Nat} (h : S4 b a0 a1 a2 a3 w) (hg : w.grownBy w' row) (hb : b < w.heap.size) (hne : some b ≠ row) : S4 b a0 a1 a2 a3 w' :=
  ⟨(hg.cell_far _ hb hne).trans h.1, (hg.cell_far _ hb hne).trans h.2.1, (hg.cell_far _ hb hne).trans h.2.2.1, (hg.cell_far _ hb hne).trans h.2.2.2⟩

/-- Two rows of the same properties. -/
def Rows2 (N : Nat) (w : World) (a b : Value) (l : List Pr) : Prop :=
  w.ownsRow N 163 4 a l.length (flatP l) ∧ w.ownsRow N 162 4 b l.length (flatP l)
theorem Rows2.below {N : Nat} {w w' : World} {a b : Value} {l : List Pr} (h : Rows2 N w a b l) (hb : Below w.heap.size w w') : Rows2 N w' a b l := ⟨own_below h.1 hb, own_below h.2 hb⟩

section
variable {N : Nat} {wc wa w1 wb w2 : World} {a b : Value} {l : List Pr}
theorem Rows2.kept1 (h : Rows2 N wc a b l) (hg : wa.grownBy w1 a.ownBlock) (ha : Below wc.heap.size wc wa) : w1.ownsRow N 162 4 b l.length (flatP l) :=
  (own_below h.2 ha).kept hg (rows_apart (own_below h.2 ha) (own_below h.1 ha) (by decide))
theorem Rows2.blk1 (h : Rows2 N wc a b l) (hg : wa.grownBy w1 a.ownBlock) {k : Nat} {o : Obj} (hb : wc.heap.size ≤ k) (hh : wa.heap[k]? = some o) : w1.heap[k]? = some o :=
  (hg.block k (lt_heap hh) (fun e => by have := (h.1.lt k e.symm).2; omega)).trans hh
theorem Rows2.step (h : Rows2 N wc a b l) (p : Pr) (hN : N ≤ wc.heap.size) {v1 v2 : Value}
    (ha : Below wc.heap.size wc wa) (q1 : wa.grownBy w1 a.ownBlock) (o1 : w1.ownsRow N 163 4 v1 (l.length + 1) (flatP l ++ [.int .i64 p.id, .int .i64 p.n, .string p.s, .string p.t]))
    (hb : Below w1.heap.size w1 wb) (q2 : wb.grownBy w2 b.ownBlock) (o2 : w2.ownsRow N 162 4 v2 (l.length + 1) (flatP l ++ [.int .i64 p.id, .int .i64 p.n, .string p.s, .string p.t])) :
    Rows2 N w2 v1 v2 (l ++ [p]) ∧ Below N wc w2 := by
  have k1 := h.kept1 q1 ha
  have sa := ha.size; have s1 := q1.size; have sb := hb.size
  have e1 := own_below o1 hb
  have e2 := e1.kept q2 (rows_apart e1 (own_below k1 hb) (by decide))
  refine ⟨⟨?_, ?_⟩, ?_⟩
  · rw [flatP_snoc]; simpa using e2
  · rw [flatP_snoc]; simpa using o2
  · have b1 := (ha.mono hN).grown q1 (by omega) (fun k hk => ((own_below h.1 ha).lt k hk).1)
    exact (b1.trans (hb.mono (by omega))).grown q2 (by omega) (fun k hk => ((own_below k1 hb).lt k hk).1)
end

/-- What the law's helper answers: the rows of the first 80. -/
def PropsP (w : World) (l : List Pr) (e : Ending) (w' : World) : Prop :=
  ∃ a b, e = .returned (.tuple #[a, b]) ∧ Rows2 w.heap.size w' a b (l.take 80) ∧ Below w.heap.size w w'
theorem ptake_at {l : List Pr} {k : Nat} {v : Pr} (h : l[k]? = some v) : l.take (k + 1) = l.take k ++ [v] := by
  obtain ⟨hk, he⟩ := List.getElem?_eq_some_iff.1 h
  rw [List.take_succ_eq_append_getElem hk, he]

end Go.Proofs.YtjajandjdclifaaGreatDoor
namespace Go.Proofs.YtjajandjdclifaaGreatDoor
open Go.RowKit
attribute [local go_sem ↓] Go.wp_at_zero Go.wp_at_succ

set_option maxRecDepth 100000 in
set_option maxHeartbeats 8000000 in
theorem props5_any (A : Option Addr) (cap : Nat) (l : List Pr) (hl : l.length ≤ maxLen) (w : World) (h : Props w A l) (hc : l.length ≤ cap) :
    Calls Tryz.prog 39 #[.slice A l.length cap] w (PropsP w l) := by
  unfold maxLen at hl
  have H := Lib.hid h
  clear h
  obtain ⟨m, hm, hm1, hm2, hm5⟩ : ∃ m : Nat, min (l.length : Int) 80 = (m : Int) ∧ m ≤ 80 ∧ m ≤ l.length ∧ l.take m = l.take 80 := by
    by_cases h80 : l.length ≤ 80
    · exact ⟨l.length, by omega, by omega, by omega, by rw [List.take_of_length_le (Nat.le_refl _), List.take_of_length_le h80]⟩
    · exact ⟨80, by omega, by omega, by omega, rfl⟩
  have hm3 : ((m : Int)).toNat = m := by omega
  have hm4 : max (m : Int) 0 = m := by omega
  have Hm5 := Lib.hid hm5
  have Hm := Lib.hid hm
  clear hm5 hm
  go_enter Tryz.func39, Tryz.ntmps39
  go_wp2
  rw [Hm.out, hm3, hm4]
  clear hm3 hm4 Hm
  go_loopw [14, 4, 5] (fun i a b wr => ∃ k : Nat, i = .int .i64 k ∧ k ≤ m ∧ Hid (Rows2 w.heap.size wr a b (l.take k)) ∧ Hid (Below w.heap.size w wr)) (fun i _ _ _ => m - (intOf i).toNat)
  case atStart => exact ⟨0, rfl, by omega, Lib.hid ⟨own_nil _ _ _ _, own_nil _ _ _ _⟩, Lib.hid (Below.refl _ _)⟩
  case round =>
    obtain ⟨k, rfl, hk, hrows, hbr⟩ := hrel
    have hsr := hbr.out.size
    have hkl : (l.take k).length = k := by simp; omega
    obtain ⟨Aa, ca, hva⟩ := own_form hrows.out.1
    obtain ⟨Ab, cb, hvb⟩ := own_form hrows.out.2
    rw [hkl] at hva hvb
    subst hva hvb
    by_cases hlt : k < m
    · obtain ⟨p, hp⟩ : ∃ p, l[k]? = some p := ⟨l[k]'(by omega), List.getElem?_eq_getElem _⟩
      obtain ⟨g, o, rfl, hg, r0, r1, r2, r3⟩ := H.out k p hp
      have E1 := Lib.hid (ptake_at hp)
      obtain ⟨id', n', s', t'⟩ := p
      simp only at r0 r1 r2 r3
      have q0 : wr.cell? ⟨g, o + k * 4, none⟩ = some (.int .i64 id') := by rw [hbr.out.cell (by simp; omega)]; exact r0
      have q1 : wr.cell? ⟨g, o + k * 4 + 1, none⟩ = some (.int .i64 n') := by rw [hbr.out.cell (by simp; omega)]; exact r1
      have q2 : wr.cell? ⟨g, o + k * 4 + 2, none⟩ = some (.string s') := by rw [hbr.out.cell (by simp; omega)]; exact r2
      have q3 : wr.cell? ⟨g, o + k * 4 + 3, none⟩ = some (.string t') := by rw [hbr.out.cell (by simp; omega)]; exact r3
      have i1 : (k : Int) < (m : Int) := by omega
      have i0 : (0 : Int) ≤ (k : Int) := by omega
      have hal := (Below.refl wr.heap.size wr).alloc (Nat.le_refl _) (.cells #[.int .i64 id', .int .i64 n', .string s', .string t'] 164)
      have hvb : (wr.alloc (.cells #[.int .i64 id', .int .i64 n', .string s', .string t'] 164)).heap[wr.heap.size]? = some (.cells #[.int .i64 id', .int .i64 n', .string s', .string t'] 164 (0, 0)) := heap_alloc_new wr _
      have hRc := Lib.hid (hrows.out.below hal)
      have Hal := Lib.hid hal
      have Hkl := Lib.hid hkl
      obtain ⟨iP, hiP, hP0, hP1, hP2⟩ := info_parts ppInfo
      obtain ⟨iR, hiR, hR0, hR1, hR2⟩ := info_parts rpInfo
      have hlt1 : wr.heap.size < (wr.alloc (.cells #[.int .i64 id', .int .i64 n', .string s', .string t'] 164)).heap.size := by simp
      clear r0 r1 r2 r3 hp hal hkl
      go_upto_region 6 with fail
      generalize wr.alloc (.cells #[.int .i64 id', .int .i64 n', .string s', .string t'] 164) = wc at *
      have hS0 : S4 wr.heap.size (.int .i64 id') (.int .i64 n') (.string s') (.string t') wc := ⟨by rw [cell_heap hvb]; rfl, by rw [cell_heap hvb]; rfl, by rw [cell_heap hvb]; rfl, by rw [cell_heap hvb]; rfl⟩
      have hcl : (l.take k).length = k := Hkl.out
      have hRa : wc.ownsRow w.heap.size 163 4 (.slice Aa k ca) k (flatP (l.take k)) := by have := hRc.out.1; rwa [hcl] at this
      have hRb : wc.ownsRow w.heap.size 162 4 (.slice Ab k cb) k (flatP (l.take k)) := by have := hRc.out.2; rwa [hcl] at this
      have HRa := Lib.hid hRa; have HRb := Lib.hid hRb
      clear hvb hcl hRa hRb q0 q1 q2 q3
      obtain ⟨c0, c1, c2, c3⟩ := hS0
      have hS0 : S4 wr.heap.size (.int .i64 id') (.int .i64 n') (.string s') (.string t') wc := ⟨c0, c1, c2, c3⟩
      go_region_held3 (fun w' => w'.cell? ⟨wr.heap.size, 0, none⟩ = some (.int .i64 id') ∧ w'.cell? ⟨wr.heap.size, 1, none⟩ = some (.int .i64 n') ∧ w'.cell? ⟨wr.heap.size, 2, none⟩ = some (.string s') ∧ w'.cell? ⟨wr.heap.size, 3, none⟩ = some (.string t'))
        (first
          | exact hS2
          | exact hS1
          | exact hS1.alloc (by first | omega | (simp; omega) | (simp; done)) _
          | exact hS0
          | exact hS0.alloc (by first | omega | (simp; omega) | (simp; done)) _
          | exact (hS0.alloc (by first | omega | (simp; omega) | (simp; done)) _).alloc (by first | omega | (simp; omega) | (simp; done)) _)
        (first
          | (refine step_append_lies _ (by rfl) (.tmp 18) (.tmp 20) _ (by rfl) w.heap.size 163 iP _ 4 48 Tryz.underlying25 hiP hP0 hP1 hP2 rfl (by omega) (.slice Aa k ca) k (flatP (l.take k)) (by rfl) (own_below HRa.out (by first | exact ((Below.refl wc.heap.size wc).alloc (Nat.le_refl _) _).drew | exact (((Below.refl wc.heap.size wc).alloc (Nat.le_refl _) _).alloc (by simp; done) _).drew)) _ 1 1 [.int .i64 id', .int .i64 n', .string s', .string t'] (by rfl) (by rfl) (World.news_of_block (cs := #[.int .i64 id', .int .i64 n', .string s', .string t']) (t := 163) (fr := (0, 0)) (by first | exact heap_alloc_at (by first | rfl | omega | (simp; omega) | (simp; done)) | exact (Below.heap_alloc _ _ _ (by first | omega | (simp; omega) | (simp; done))).trans (heap_alloc_at (by first | rfl | omega | (simp; omega) | (simp; done))))) (by simp [Value.oneCell']) (by omega) (by unfold maxLen; omega) (by omega) (by first | omega | (simp; omega) | (simp; done)) _ (by rfl) ?_
             intro g1 cap1 w1 hown1 hgr1 hat1 hlt1_
             have hk1 : w1.ownsRow w.heap.size 162 4 (.slice Ab k cb) k (flatP (l.take k)) := by
               have hk1' := hRc.out.kept1 hgr1 (by first | exact ((Below.refl wc.heap.size wc).alloc (Nat.le_refl _) _).drew | exact (((Below.refl wc.heap.size wc).alloc (Nat.le_refl _) _).alloc (by simp; done) _).drew)
               rwa [Hkl.out] at hk1'
             have hS1 : S4 wr.heap.size (.int .i64 id') (.int .i64 n') (.string s') (.string t') w1 := S4.grown (by first | exact hS0.alloc (by first | omega | (simp; omega) | (simp; done)) _ | exact (hS0.alloc (by first | omega | (simp; omega) | (simp; done)) _).alloc (by first | omega | (simp; omega) | (simp; done)) _) hgr1 (by first | omega | (simp; omega) | (simp; done)) (fun e => by have := (hrows.out.1.lt _ e.symm).2; omega)
             have hs1_ := hgr1.size
             try simp at hs1_)
          | (refine step_append_lies _ (by rfl) (.tmp 22) (.tmp 24) _ (by rfl) w.heap.size 162 iR _ 4 48 Tryz.underlying35 hiR hR0 hR1 hR2 rfl (by omega) (.slice Ab k cb) k (flatP (l.take k)) (by rfl) (own_below hk1 (by first | exact Below.refl w1.heap.size w1 | exact (Below.refl w1.heap.size w1).alloc (Nat.le_refl _) _)) _ 1 1 [.int .i64 id', .int .i64 n', .string s', .string t'] (by rfl) (by rfl) (World.news_of_block (cs := #[.int .i64 id', .int .i64 n', .string s', .string t']) (t := 162) (fr := (0, 0)) (by first | exact heap_alloc_at (by first | rfl | omega | (simp; omega) | (simp; done)) | exact hRc.out.blk1 hgr1 (by first | omega | (simp; omega) | (simp; done)) (by first | exact heap_alloc_at (by first | rfl | omega | (simp; omega) | (simp; done)) | exact (Below.heap_alloc _ _ _ (by first | omega | (simp; omega) | (simp; done))).trans (heap_alloc_at (by first | rfl | omega | (simp; omega) | (simp; done)))))) (by simp [Value.oneCell']) (by omega) (by unfold maxLen; omega) (by omega) (by first | omega | (simp; omega) | (simp; done)) _ (by rfl) ?_
             intro g2 cap2 w2 hown2 hgr2 hat2 hlt2_
             have hS2 : S4 wr.heap.size (.int .i64 id') (.int .i64 n') (.string s') (.string t') w2 := S4.grown (by first | exact hS1 | exact hS1.alloc (by first | omega | (simp; omega) | (simp; done)) _) hgr2 (by first | omega | (simp; omega) | (simp; done)) (fun e => by have := (hrows.out.2.lt _ e.symm).2; omega)))
      all_goals
        go_wp2_with fail
        go_roundw
        case rel =>
          obtain ⟨hM, hB⟩ := hRc.out.step ⟨id', n', s', t'⟩ (by have := Hal.out.size; omega) (by first | exact ((Below.refl wc.heap.size wc).alloc (Nat.le_refl _) _).drew | exact (((Below.refl wc.heap.size wc).alloc (Nat.le_refl _) _).alloc (by simp; done) _).drew) hgr1 (by rw [Hkl.out]; exact hown1) (by first | exact Below.refl w1.heap.size w1 | exact (Below.refl w1.heap.size w1).alloc (Nat.le_refl _) _) hgr2 (by rw [Hkl.out]; exact hown2)
          exact ⟨k + 1, by go_num, by omega, Lib.hid (by rw [E1.out]; exact hM), Lib.hid ((hbr.out.trans (Hal.out.mono hsr)).trans hB)⟩
        case measure => simp [intOf]; omega
    · have hkm : k = m := by omega
      subst hkm
      have Hkl := Lib.hid hkl
      clear hkl
      go_wp2
      go_ret2
      exact ⟨_, _, rfl, by rw [← Hm5.out]; exact hrows.out, hbr.out⟩
end Go.Proofs.YtjajandjdclifaaGreatDoor
namespace Go.Proofs.YtjajandjdclifaaGreatDoor
open Go.RowKit

/-- The cells of the document's packet. -/
def rkCells (p : Pk) (vc vp vw vs vf : Value) : Array Value :=
  #[.int .i64 p.kind, .bool p.dup, .bool p.ret, .int .i64 p.qos, .int .i64 p.id, .string p.topic, .string p.pay, .int .i64 p.code, vc, vp, .string p.client, .bool p.clean, .int .i64 p.keep, .bool p.hasWill,
    .string p.wtopic, .string p.wpay, .int .i64 p.wqos, .bool p.wret, vw, .bool p.hasUser, .bool p.hasPass, .string p.user, .string p.pass, .bool p.session, vs, vf]
def rkNil (P : Pk) : Array Value := rkCells P (.slice none 0 0) (.slice none 0 0) (.slice none 0 0) (.slice none 0 0) (.slice none 0 0)
def flatI (l : List Int) : List Value := l.map (Value.int .i64)
theorem flatI_snoc (l : List Int) (x : Int) : flatI (l ++ [x]) = flatI l ++ [.int .i64 x] := by simp [flatI]
structure Own5R (B : Nat) (P : Pk) (vc vp vw vs vf : Value) (w : World) : Prop where
  codes : w.ownsRow B 3 1 vc P.codes.length (flatI P.codes)
  props : w.ownsRow B 162 4 vp P.props.length (flatP P.props)
  wprops : w.ownsRow B 162 4 vw P.wprops.length (flatP P.wprops)
  subs : w.ownsRow B 111 5 vs P.subs.length (flatB P.subs)
  filters : w.ownsRow B 9 1 vf P.filters.length (flatT P.filters)
theorem Own5R.below {B : Nat} {P : Pk} {vc vp vw vs vf : Value} {w w' : World} (h : Own5R B P vc vp vw vs vf w) (hb : Below w.heap.size w w') : Own5R B P vc vp vw vs vf w' :=
  ⟨own_below h.codes hb, own_below h.props hb, own_below h.wprops hb, own_below h.subs hb, own_below h.filters hb⟩
theorem Own5R.set {B b j : Nat} {P : Pk} {vc vp vw vs vf u : Value} {w : World} (h : Own5R B P vc vp vw vs vf w) (hb : b < B) : Own5R B P vc vp vw vs vf (w.setCell ⟨b, j, none⟩ u) :=
  ⟨own_set h.codes (row_ne h.codes hb), own_set h.props (row_ne h.props hb), own_set h.wprops (row_ne h.wprops hb), own_set h.subs (row_ne h.subs hb), own_set h.filters (row_ne h.filters hb)⟩
theorem rk_one (P : Pk) {B : Nat} {vc vp vw vs vf : Value} {w : World} (h : Own5R B P vc vp vw vs vf w) : (rkCells P vc vp vw vs vf).all (·.oneCell') = true := by
  obtain ⟨A1, n1, rfl⟩ := own_form h.codes
  obtain ⟨A2, n2, rfl⟩ := own_form h.props
  obtain ⟨A3, n3, rfl⟩ := own_form h.wprops
  obtain ⟨A4, n4, rfl⟩ := own_form h.subs
  obtain ⟨A5, n5, rfl⟩ := own_form h.filters
  simp [rkCells, Value.oneCell']
theorem rk_info : (Tryz.prog.info? 40).map (·.size) = some 26 := by kernel_rfl

/-- On the way: the argument's box, the two answers' cells, the two packets so far. -/
structure PS (t0 : TypeId) (w : World) (C0 : Array Value) (P : Pk) (vc vp vw vs vf uc up uw us uf : Value) (W : World) : Prop where
  b0 : W.heap[w.heap.size]? = some (.cells C0 t0 (0, 0))
  b1 : W.heap[w.heap.size + 1]? = some (.cells (pkNil PK.zeroPk) 31 (0, 0))
  b2 : W.heap[w.heap.size + 2]? = some (.cells (rkNil PK.zeroPk) 40 (0, 0))
  b3 : W.heap[w.heap.size + 3]? = some (.cells (pkCells P vc vp vw vs vf) 31 (0, 0))
  b4 : W.heap[w.heap.size + 4]? = some (.cells (rkCells P uc up uw us uf) 40 (0, 0))
  own : Own5 (w.heap.size + 5) P vc vp vw vs vf W
  ref : Own5R (w.heap.size + 5) P uc up uw us uf W
  apart : uf.ownBlock = none ∨ uf.ownBlock ≠ vf.ownBlock
  below : Below w.heap.size w W

section
variable {t0 : TypeId} {w : World} {C0 : Array Value} {P : Pk} {vc vp vw vs vf uc up uw us uf : Value} {W W' : World}
theorem PS.size (h : PS t0 w C0 P vc vp vw vs vf uc up uw us uf W) : w.heap.size + 5 ≤ W.heap.size := lt_heap h.b4
theorem PS.next (h : PS t0 w C0 P vc vp vw vs vf uc up uw us uf W) (hb : Below W.heap.size W W') : PS t0 w C0 P vc vp vw vs vf uc up uw us uf W' :=
  ⟨(hb.block _ (lt_heap h.b0)).trans h.b0, (hb.block _ (lt_heap h.b1)).trans h.b1, (hb.block _ (lt_heap h.b2)).trans h.b2, (hb.block _ (lt_heap h.b3)).trans h.b3, (hb.block _ (lt_heap h.b4)).trans h.b4,
    own5_below h.own hb, h.ref.below hb, h.apart, h.below.trans (hb.mono (by have := h.size; omega))⟩
theorem below_set {n g j : Nat} {u : Value} {w w' : World} (h : Below n w w') (hg : n ≤ g) : Below n w (w'.setCell ⟨g, j, none⟩ u) := h.setCell (p := ⟨g, j, none⟩) hg u
/-- A store into the program's packet. -/
theorem PS.set3 {j : Nat} {u : Value} {P' : Pk} {vc' vp' vw' vs' vf' : Value} (h : PS t0 w C0 P vc vp vw vs vf uc up uw us uf W) (hc : (pkCells P vc vp vw vs vf).set! j u = pkCells P' vc' vp' vw' vs' vf') :
    (W.setCell ⟨w.heap.size + 3, j, none⟩ u).heap[w.heap.size + 3]? = some (.cells (pkCells P' vc' vp' vw' vs' vf') 31 (0, 0)) := set_block h.b3 hc

/-- The rows of a packet that was laid aside for a while. -/
theorem AppP.keep {N : Nat} {wc w2 : World} {eA eB : TypeId} {kA kB : Nat} {va vb v1 v2 : Value} {n : Nat} {xs ys csA csB : List Value} (hp : AppP N wc eA eB kA kB va vb n xs ys csA csB v1 v2 w2)
    {M : Nat} {e : TypeId} {k : Nat} {v : Value} {m : Nat} {zs : List Value} (h : wc.ownsRow M e k v m zs) (ha : v.ownBlock = none ∨ v.ownBlock ≠ va.ownBlock) (hb : v.ownBlock = none ∨ v.ownBlock ≠ vb.ownBlock) : w2.ownsRow M e k v m zs := by
  obtain ⟨wa, w1, wb, g1, c1, g2, c2, rfl, rfl, b1, q1, o1, t1, b2, q2, o2, t2⟩ := hp
  exact (own_below ((own_below h b1).kept q1 ha) b2).kept q2 hb
theorem AppP.block {N : Nat} {wc w2 : World} {eA eB : TypeId} {kA kB : Nat} {va vb v1 v2 : Value} {n : Nat} {xs ys csA csB : List Value} (hp : AppP N wc eA eB kA kB va vb n xs ys csA csB v1 v2 w2) {b : Nat} {o : Obj} (ho : wc.heap[b]? = some o)
    (ha : va.ownBlock ≠ some b) (hb : vb.ownBlock ≠ some b) : w2.heap[b]? = some o := by
  obtain ⟨wa, w1, wb, g1, c1, g2, c2, rfl, rfl, b1, q1, o1, t1, b2, q2, o2, t2⟩ := hp
  have h1 := (b1.block _ (lt_heap ho)).trans ho
  have h2 := (q1.block _ (lt_heap h1) (Ne.symm ha)).trans h1
  have h3 := (b2.block _ (lt_heap h2)).trans h2
  exact (q2.block _ (lt_heap h3) (Ne.symm hb)).trans h3
theorem AppP.below {N K : Nat} {wc w2 : World} {eA eB : TypeId} {kA kB : Nat} {va vb v1 v2 : Value} {n : Nat} {xs ys csA csB : List Value} (hp : AppP N wc eA eB kA kB va vb n xs ys csA csB v1 v2 w2) (hA : wc.ownsRow N eA kA va n xs) (hB : wc.ownsRow N eB kB vb n ys) (hN : K ≤ N) (hs : K ≤ wc.heap.size) : Below K wc w2 := by
  obtain ⟨wa, w1, wb, g1, c1, g2, c2, rfl, rfl, b1, q1, o1, t1, b2, q2, o2, t2⟩ := hp
  have s1 := b1.size; have s2 := q1.size; have s3 := b2.size
  have h1 := (b1.mono hs).grown q1 (by omega) (fun k hk => Nat.le_trans hN (hA.lt k hk).1)
  exact (h1.trans (b2.mono (by omega))).grown q2 (by omega) (fun k hk => Nat.le_trans hN (hB.lt k hk).1)
theorem AppP.rows {N : Nat} {wc w2 : World} {eA eB : TypeId} {kA kB : Nat} {va vb v1 v2 : Value} {n : Nat} {xs ys csA csB : List Value} (hp : AppP N wc eA eB kA kB va vb n xs ys csA csB v1 v2 w2) (hB : wc.ownsRow N eB kB vb n ys) (hap : vb.ownBlock = none ∨ vb.ownBlock ≠ va.ownBlock) :
    w2.ownsRow N eA kA v1 (n + 1) (xs ++ csA) ∧ w2.ownsRow N eB kB v2 (n + 1) (ys ++ csB) ∧ v2.ownBlock ≠ v1.ownBlock := by
  obtain ⟨wa, w1, wb, g1, c1, g2, c2, rfl, rfl, b1, q1, o1, t1, b2, q2, o2, t2⟩ := hp
  have l1 := (o1.lt g1 rfl).2
  have s1 := b1.size; have s2 := q1.size
  have ne : vb.ownBlock ≠ some g1 := fun e => by
    rcases t1 with t | t
    · rcases hap with h | h
      · rw [h] at e; cases e
      · exact h (e.trans t.symm)
    · have := (hB.lt g1 e).2; omega
  refine ⟨(own_below o1 b2).kept q2 (.inr (Ne.symm ne)), o2, fun e => ?_⟩
  have e' : g2 = g1 := by simpa [Value.ownBlock] using e
  subst e'
  rcases t2 with t | t
  · exact ne t
  · omega
end
end Go.Proofs.YtjajandjdclifaaGreatDoor
namespace Go.Proofs.YtjajandjdclifaaGreatDoor
open Go.RowKit

section
variable {t0 : TypeId} {w : World} {C0 : Array Value} {P P' : Pk} {vc vp vw vs vf uc up uw us uf vc' vp' vw' vs' vf' uc' up' uw' us' uf' v1 v2 : Value} {W W2 : World}
/-- Two stores behind all that was made. -/
theorem PS.of (j : Nat) (h0 : W2.heap[w.heap.size]? = some (.cells C0 t0 (0, 0))) (h1 : W2.heap[w.heap.size + 1]? = some (.cells (pkNil PK.zeroPk) 31 (0, 0))) (h2 : W2.heap[w.heap.size + 2]? = some (.cells (rkNil PK.zeroPk) 40 (0, 0)))
    (h3 : W2.heap[w.heap.size + 3]? = some (.cells (pkCells P vc vp vw vs vf) 31 (0, 0))) (h4 : W2.heap[w.heap.size + 4]? = some (.cells (rkCells P uc up uw us uf) 40 (0, 0)))
    (ho : Own5 (w.heap.size + 5) P' vc' vp' vw' vs' vf' W2) (hr : Own5R (w.heap.size + 5) P' uc' up' uw' us' uf' W2) (ha : uf'.ownBlock = none ∨ uf'.ownBlock ≠ vf'.ownBlock) (hb : Below w.heap.size w W2)
    (e3 : (pkCells P vc vp vw vs vf).set! j v1 = pkCells P' vc' vp' vw' vs' vf') (e4 : (rkCells P uc up uw us uf).set! j v2 = rkCells P' uc' up' uw' us' uf') :
    PS t0 w C0 P' vc' vp' vw' vs' vf' uc' up' uw' us' uf' ((W2.setCell ⟨w.heap.size + 3, j, none⟩ v1).setCell ⟨w.heap.size + 4, j, none⟩ v2) := by
  have far : ∀ {b : Nat} {o : Obj}, b ≠ w.heap.size + 3 → b ≠ w.heap.size + 4 → W2.heap[b]? = some o → ((W2.setCell ⟨w.heap.size + 3, j, none⟩ v1).setCell ⟨w.heap.size + 4, j, none⟩ v2).heap[b]? = some o := fun n3 n4 h =>
    (Below.heap_setCell _ _ _ _ n4).trans ((Below.heap_setCell _ _ _ _ n3).trans h)
  exact ⟨far (by omega) (by omega) h0, far (by omega) (by omega) h1, far (by omega) (by omega) h2, (Below.heap_setCell _ _ _ _ (show w.heap.size + 3 ≠ w.heap.size + 4 by omega)).trans (set_block h3 e3), set_block ((Below.heap_setCell _ _ _ _ (show w.heap.size + 4 ≠ w.heap.size + 3 by omega)).trans h4) e4,
    own5_set (own5_set ho (by omega)) (by omega), (hr.set (by omega)).set (by omega), ha, below_set (below_set hb (by omega)) (by omega)⟩

theorem PS.codes (h : PS t0 w C0 P vc vp vw vs vf uc up uw us uf W) (c : Int)
    (hp : AppP (w.heap.size + 5) W 23 3 1 1 vc uc P.codes.length (flatC P.codes) (flatI P.codes) [.int .u8 c] [.int .i64 c] v1 v2 W2) :
    PS t0 w C0 { P with codes := P.codes ++ [c] } v1 vp vw vs vf v2 up uw us uf ((W2.setCell ⟨w.heap.size + 3, 8, none⟩ v1).setCell ⟨w.heap.size + 4, 8, none⟩ v2) := by
  have o := h.own; have r := h.ref
  obtain ⟨r1, r2, _⟩ := hp.rows r.codes (rows_apart r.codes o.codes (by decide))
  have K := fun {M : Nat} {e : TypeId} {k : Nat} {v : Value} {m : Nat} {zs : List Value} (ho : W.ownsRow M e k v m zs) (n1 : e ≠ 23) (n2 : e ≠ 3) => hp.keep ho (rows_apart ho o.codes n1) (rows_apart ho r.codes n2)
  have F := fun {b : Nat} {x : Obj} (hb : b < w.heap.size + 5) (hx : W.heap[b]? = some x) => hp.block hx (row_ne o.codes hb) (row_ne r.codes hb)
  refine PS.of 8 (F (by omega) h.b0) (F (by omega) h.b1) (F (by omega) h.b2) (F (by omega) h.b3) (F (by omega) h.b4) ⟨?_, K o.props (by decide) (by decide), K o.wprops (by decide) (by decide), K o.subs (by decide) (by decide), K o.filters (by decide) (by decide)⟩
    ⟨?_, K r.props (by decide) (by decide), K r.wprops (by decide) (by decide), K r.subs (by decide) (by decide), K r.filters (by decide) (by decide)⟩ h.apart (h.below.trans (hp.below o.codes r.codes (by omega) (by have := h.size; omega))) rfl rfl
  · show W2.ownsRow _ _ _ _ (P.codes ++ [c]).length (flatC (P.codes ++ [c]))
    rw [flatC_snoc, List.length_append]; exact r1
  · show W2.ownsRow _ _ _ _ (P.codes ++ [c]).length (flatI (P.codes ++ [c]))
    rw [flatI_snoc, List.length_append]; exact r2
theorem PS.subs (h : PS t0 w C0 P vc vp vw vs vf uc up uw us uf W) (s : Sb)
    (hp : AppP (w.heap.size + 5) W 90 111 5 5 vs us P.subs.length (flatB P.subs) (flatB P.subs) [.string s.f, .int .i64 s.q, .bool s.nl, .bool s.ap, .int .i64 s.h] [.string s.f, .int .i64 s.q, .bool s.nl, .bool s.ap, .int .i64 s.h] v1 v2 W2) :
    PS t0 w C0 { P with subs := P.subs ++ [s] } vc vp vw v1 vf uc up uw v2 uf ((W2.setCell ⟨w.heap.size + 3, 24, none⟩ v1).setCell ⟨w.heap.size + 4, 24, none⟩ v2) := by
  have o := h.own; have r := h.ref
  obtain ⟨r1, r2, _⟩ := hp.rows r.subs (rows_apart r.subs o.subs (by decide))
  have K := fun {M : Nat} {e : TypeId} {k : Nat} {v : Value} {m : Nat} {zs : List Value} (ho : W.ownsRow M e k v m zs) (n1 : e ≠ 90) (n2 : e ≠ 111) => hp.keep ho (rows_apart ho o.subs n1) (rows_apart ho r.subs n2)
  have F := fun {b : Nat} {x : Obj} (hb : b < w.heap.size + 5) (hx : W.heap[b]? = some x) => hp.block hx (row_ne o.subs hb) (row_ne r.subs hb)
  refine PS.of 24 (F (by omega) h.b0) (F (by omega) h.b1) (F (by omega) h.b2) (F (by omega) h.b3) (F (by omega) h.b4) ⟨K o.codes (by decide) (by decide), K o.props (by decide) (by decide), K o.wprops (by decide) (by decide), ?_, K o.filters (by decide) (by decide)⟩
    ⟨K r.codes (by decide) (by decide), K r.props (by decide) (by decide), K r.wprops (by decide) (by decide), ?_, K r.filters (by decide) (by decide)⟩ h.apart (h.below.trans (hp.below o.subs r.subs (by omega) (by have := h.size; omega))) rfl rfl
  · show W2.ownsRow _ _ _ _ (P.subs ++ [s]).length (flatB (P.subs ++ [s]))
    rw [flatB_snoc, List.length_append]; exact r1
  · show W2.ownsRow _ _ _ _ (P.subs ++ [s]).length (flatB (P.subs ++ [s]))
    rw [flatB_snoc, List.length_append]; exact r2
theorem PS.texts (h : PS t0 w C0 P vc vp vw vs vf uc up uw us uf W) (s : ByteArray)
    (hp : AppP (w.heap.size + 5) W 9 9 1 1 vf uf P.filters.length (flatT P.filters) (flatT P.filters) [.string s] [.string s] v1 v2 W2) :
    PS t0 w C0 { P with filters := P.filters ++ [s] } vc vp vw vs v1 uc up uw us v2 ((W2.setCell ⟨w.heap.size + 3, 25, none⟩ v1).setCell ⟨w.heap.size + 4, 25, none⟩ v2) := by
  have o := h.own; have r := h.ref
  obtain ⟨r1, r2, r3⟩ := hp.rows r.filters h.apart
  have K := fun {M : Nat} {e : TypeId} {k : Nat} {v : Value} {m : Nat} {zs : List Value} (ho : W.ownsRow M e k v m zs) (n1 : e ≠ 9) => hp.keep ho (rows_apart ho o.filters n1) (rows_apart ho r.filters n1)
  have F := fun {b : Nat} {x : Obj} (hb : b < w.heap.size + 5) (hx : W.heap[b]? = some x) => hp.block hx (row_ne o.filters hb) (row_ne r.filters hb)
  refine PS.of 25 (F (by omega) h.b0) (F (by omega) h.b1) (F (by omega) h.b2) (F (by omega) h.b3) (F (by omega) h.b4) ⟨K o.codes (by decide), K o.props (by decide), K o.wprops (by decide), K o.subs (by decide), ?_⟩
    ⟨K r.codes (by decide), K r.props (by decide), K r.wprops (by decide), K r.subs (by decide), ?_⟩ (.inr r3) (h.below.trans (hp.below o.filters r.filters (by omega) (by have := h.size; omega))) rfl rfl
  · show W2.ownsRow _ _ _ _ (P.filters ++ [s]).length (flatT (P.filters ++ [s]))
    rw [flatT_snoc, List.length_append]; exact r1
  · show W2.ownsRow _ _ _ _ (P.filters ++ [s]).length (flatT (P.filters ++ [s]))
    rw [flatT_snoc, List.length_append]; exact r2
theorem PS.props (h : PS t0 w C0 P vc vp vw vs vf uc up uw us uf W) {l : List Pr} (hp : Rows2 W.heap.size W2 v1 v2 l) (hb : Below W.heap.size W W2) :
    PS t0 w C0 { P with props := l } vc v1 vw vs vf uc v2 uw us uf ((W2.setCell ⟨w.heap.size + 3, 9, none⟩ v1).setCell ⟨w.heap.size + 4, 9, none⟩ v2) := by
  have n := h.next hb
  exact PS.of 9 n.b0 n.b1 n.b2 n.b3 n.b4 ⟨n.own.codes, own_base' hp.1 h.size, n.own.wprops, n.own.subs, n.own.filters⟩ ⟨n.ref.codes, own_base' hp.2 h.size, n.ref.wprops, n.ref.subs, n.ref.filters⟩ n.apart n.below rfl rfl
theorem PS.wprops (h : PS t0 w C0 P vc vp vw vs vf uc up uw us uf W) {l : List Pr} (hp : Rows2 W.heap.size W2 v1 v2 l) (hb : Below W.heap.size W W2) :
    PS t0 w C0 { P with wprops := l } vc vp v1 vs vf uc up v2 us uf ((W2.setCell ⟨w.heap.size + 3, 18, none⟩ v1).setCell ⟨w.heap.size + 4, 18, none⟩ v2) := by
  have n := h.next hb
  exact PS.of 18 n.b0 n.b1 n.b2 n.b3 n.b4 ⟨n.own.codes, n.own.props, own_base' hp.1 h.size, n.own.subs, n.own.filters⟩ ⟨n.ref.codes, n.ref.props, own_base' hp.2 h.size, n.ref.subs, n.ref.filters⟩ n.apart n.below rfl rfl
end
end Go.Proofs.YtjajandjdclifaaGreatDoor
