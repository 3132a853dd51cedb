/- The function that Feed hands a packet's bytes to.; A reader's Feed.; stream.New, a reader's Left; the laws' wakes.; Pieces of bytes, and what is left of them: the plain side.; What pieces tell, one behind the other: as all of them at once.; What was read is such as a machine can hold.; A packet that was read is such as Put takes.; The laws' told: all packets that pieces tell, put again, and the code.; The laws' told, walked.; StreamPieces: in whatever pieces bytes come, the packets are the same, and the code.; The laws' arguments, opened: rows of texts; what the bound on the bulk gives.; The laws' arguments, opened: rows of numbers. -/
import Derived.Test.YtjajandjdclifaaGreatDoorMI
import Derived.Test.YtjajandjdclifaaGreatDoorMB
import Derived.Test.YtjajandjdclifaaGreatDoorMA
import Derived.Test.YtjajandjdclifaaGreatDoorMC
import Derived.Test.YtjajandjdclifaaGreatDoorME
import Derived.BigQuiet
import Derived.Test.YtjajandjdclifaaGreatDoorRows
import Derived.Deep.Strs
import Derived.Deep.Slices
import Derived.ChangeOld
import Derived.OpenShut
import Derived.Lib.Strings
import Derived.ChangeSlices
namespace Go.Proofs.YtjajandjdclifaaGreatDoor
open Go.RowKit
attribute [local go_sem ↓] Go.wp_at_zero Go.wp_at_succ

/-- A packet and the values of its five rows. -/
structure Pv where
  p : Pk
  vc : Value
  vp : Value
  vw : Value
  vs : Value
  vf : Value
def Pv.cells (x : Pv) : List Value := (pkCells x.p x.vc x.vp x.vw x.vs x.vf).toList
def Pv.Own (x : Pv) (B : Nat) (w : World) : Prop := Own5 B x.p x.vc x.vp x.vw x.vs x.vf w
/-- A row of packets. -/
structure PkRow (B : Nat) (v : Value) (L : List Pv) (w : World) : Prop where
  row : w.ownsRow B 31 26 v L.length (L.flatMap Pv.cells)
  own : ∀ x ∈ L, x.Own B w
theorem own5_kept {B : Nat} {P : Pk} {vc vp vw vs vf : Value} {w w' : World} {row : Option Nat} (h : Own5 B P vc vp vw vs vf w) (hg : w.grownBy w' row) (hr : ∀ g, row = some g → ∃ c fz, w.heap[g]? = some (.cells c 31 fz)) : Own5 B P vc vp vw vs vf w' := by
  have key : ∀ {e : TypeId} {k : Nat} {v : Value} {n : Nat} {xs : List Value}, e ≠ 31 → w.ownsRow B e k v n xs → w'.ownsRow B e k v n xs := fun {e k v n xs} he ho => by
    refine ho.kept hg ?_
    cases hv : v.ownBlock with
    | none => exact .inl rfl
    | some g =>
      refine .inr (fun e' => ?_)
      obtain ⟨c, fz, h1⟩ := hr g e'.symm
      obtain ⟨c2, fz2, h2⟩ := own_row ho g hv
      rw [h1] at h2
      simp at h2
      exact he h2.2.1.symm
  exact ⟨key (by decide) h.codes, key (by decide) h.props, key (by decide) h.wprops, key (by decide) h.subs, key (by decide) h.filters⟩
theorem own5_base {B C : Nat} {P : Pk} {vc vp vw vs vf : Value} {w : World} (h : Own5 B P vc vp vw vs vf w) (hC : C ≤ B) : Own5 C P vc vp vw vs vf w :=
  ⟨own_base' h.codes hC, own_base' h.props hC, own_base' h.wprops hC, own_base' h.subs hC, own_base' h.filters hC⟩
theorem own5_below {B : Nat} {P : Pk} {vc vp vw vs vf : Value} {w w' : World} (h : Own5 B P vc vp vw vs vf w) (hb : Below w.heap.size w w') : Own5 B P vc vp vw vs vf w' :=
  ⟨own_below h.codes hb, own_below h.props hb, own_below h.wprops hb, own_below h.subs hb, own_below h.filters hb⟩
theorem own5_set {B b j : Nat} {P : Pk} {vc vp vw vs vf u : Value} {w : World} (h : Own5 B P vc vp vw vs vf w) (hb : b < B) : Own5 B P vc vp vw vs vf (w.setCell ⟨b, j, none⟩ u) :=
  ⟨own_set h.codes (row_ne h.codes hb), own_set h.props (row_ne h.props hb), own_set h.wprops (row_ne h.wprops hb), own_set h.subs (row_ne h.subs hb), own_set h.filters (row_ne h.filters hb)⟩
theorem PkRow.below {B : Nat} {v : Value} {L : List Pv} {w w' : World} (h : PkRow B v L w) (hb : Below w.heap.size w w') : PkRow B v L w' := ⟨own_below h.row hb, fun x hx => own5_below (h.own x hx) hb⟩
theorem PkRow.base {B C : Nat} {v : Value} {L : List Pv} {w : World} (h : PkRow B v L w) (hC : C ≤ B) : PkRow C v L w := ⟨own_base' h.row hC, fun x hx => own5_base (h.own x hx) hC⟩
theorem PkRow.set {B b j : Nat} {v u : Value} {L : List Pv} {w : World} (h : PkRow B v L w) (hb : b < B) : PkRow B v L (w.setCell ⟨b, j, none⟩ u) := ⟨own_set h.row (row_ne h.row hb), fun x hx => own5_set (h.own x hx) hb⟩
theorem pkInfo : ∃ z n, (Tryz.prog.info? 31).map (fun i => (i.zero, i.size, i.bytes)) = some (some z, 26, n) ∧ z.cells.size = 26 ∧ n ≤ 1000 := ⟨.agg (pkNil PK.zeroPk), 328, by kernel_rfl, rfl, by decide⟩

theorem fill_pk26 (P : Pk) (vc vp vw vs vf : Value) : Array.foldl (fun (cs : Array Value) (x : Value × Nat) => cs.setIfInBounds x.2 x.1) #[.int .i64 0, .bool false, .bool false, .int .i64 0, .int .i64 0, .string ⟨#[]⟩, .string ⟨#[]⟩, .int .u8 0, .slice none 0 0, .slice none 0 0, .string ⟨#[]⟩, .bool false, .int .i64 0, .bool false, .string ⟨#[]⟩, .string ⟨#[]⟩, .int .i64 0, .bool false, .slice none 0 0, .bool false, .bool false, .string ⟨#[]⟩, .string ⟨#[]⟩, .bool false, .slice none 0 0, .slice none 0 0] (pkCells P vc vp vw vs vf).zipIdx 0 26 = pkCells P vc vp vw vs vf := by
  kernel_rfl

/-- What Feed's function keeps: the packets so far, in a row that the variable in block p holds. -/
def FoI (p : Nat) (w : World) (l : List ByteArray) (W : World) : Prop :=
  ∃ v L, W.heap[p]? = some (.cells #[v] 65 (0, 0)) ∧ PkRow (p + 1) v L W ∧ L.map Pv.p = l.map (fun b => (PK.getPk b).1) ∧ p + 1 ≤ W.heap.size ∧ Below p w W
theorem FoI.below {p : Nat} {w W W' : World} {l : List ByteArray} (h : FoI p w l W) (hb : Below W.heap.size W W') : FoI p w l W' := by
  obtain ⟨v, L, h1, h2, h3, h4, h5⟩ := h
  exact ⟨v, L, (hb.block _ (lt_heap h1)).trans h1, h2.below hb, h3, Nat.le_trans h4 hb.size, h5.trans (hb.mono (by omega))⟩

set_option maxRecDepth 100000 in
set_option maxHeartbeats 1000000 in
theorem feed1_any (p : Nat) (w : World) (l : List ByteArray) (b : ByteArray) (hb : b.size ≤ 140737488351232) (hl : l.length < 1000000) (hT : ∀ W, Below p w W → Tabs W) (W : World) (h : FoI p w l W) :
    Calls Tryz.prog 49 #[.string b, .pointer (some ⟨p, 0, none⟩)] W fun e W' => e = .returned (.int .u8 (PK.getPk b).2) ∧ ((PK.getPk b).2 = 0 → FoI p w (l ++ [b]) W') ∧ ((PK.getPk b).2 ≠ 0 → FoI p w l W') := by
  obtain ⟨v, L, hv, hrow, hLl, hp1, hbe⟩ := id h
  have HF := Lib.hid h
  have CG := Lib.hid (get_pk_any b hb W (fun W' hW => hT W' (hbe.trans (hW.mono (by omega)))))
  obtain ⟨P, hP⟩ : ∃ P, P = (PK.getPk b).1 := ⟨_, rfl⟩
  have HPE := Lib.hid hP
  unfold GtP at CG
  rw [← hP] at CG
  generalize (PK.getPk b).2 = c at *
  clear hP h hT
  have HV := Lib.hid hv
  have HR := Lib.hid hrow
  have HL := Lib.hid hLl
  have HB := Lib.hid hbe
  have hLn : L.length = l.length := by have := congrArg List.length hLl; simpa using this
  clear hv hrow hLl hbe
  by_cases hc : c = 0
  · subst hc
    go_enter Tryz.func49, Tryz.ntmps49
    go_wp2_with fail
    refine CG.out.mono ?_
    rintro e w1 ⟨h1, _, b1⟩
    obtain ⟨vc, vp, vw, vs, vf, rfl, o1⟩ := h1 trivial
    have W1 := Lib.hid (pk_one P o1)
    have Z1 : Hid ((w1.alloc (.cells (pkNil PK.zeroPk) 31)).heap[w1.heap.size]? = some (.cells (pkNil PK.zeroPk) 31 (0, 0))) := Lib.hid (heap_alloc_new w1 _)
    go_upto_region 2 with (refine wpList_store_row (by rfl) 31 (.tmp 4) (.tmp 9) (by rfl) w1.heap.size (pkCells P vc vp vw vs vf) (by rfl) (by rfl) 31 (pkNil PK.zeroPk) Z1.out pk_info rfl W1.out ?_)
    obtain ⟨wA, hwA⟩ : ∃ wA, wA = (w1.alloc (.cells (pkNil PK.zeroPk) 31)).setRow w1.heap.size (pkCells P vc vp vw vs vf) := ⟨_, rfl⟩
    have PA : Hid (wA.heap[w1.heap.size]? = some (.cells (pkCells P vc vp vw vs vf) 31 (0, 0))) := Lib.hid (by rw [hwA]; exact setRow_heap Z1.out)
    have bA : Below w1.heap.size w1 wA := by rw [hwA]; exact below_setRow ((Below.refl _ _).alloc (Nat.le_refl _) _) (Nat.le_refl _) _
    change Code.wp _ _ _ _ ((w1.alloc (.cells (pkNil PK.zeroPk) 31)).setRow w1.heap.size (pkCells P vc vp vw vs vf))
    rw [← hwA]
    have hWA : Below W.heap.size W wA := b1.trans (bA.mono b1.size)
    have vA := (hWA.block _ (lt_heap HV.out)).trans HV.out
    have rA := HR.out.below hWA
    have oA := own5_base (own5_below o1 bA) hp1
    obtain ⟨z, nb, hinf, hzs, hnb⟩ := pkInfo
    obtain ⟨i0, hi0, hz0, hz1, hz2⟩ := info_parts hinf
    have hpA : p + 1 ≤ wA.heap.size := Nat.le_trans hp1 hWA.size
    obtain ⟨v2, w2, hr2, hown2, hg2, hb2⟩ := app1 Tryz.underlying65 hi0 hz0 hz1 hz2 hzs (by decide) hnb (p + 1) v L.length _ wA rA.row hpA (pkCells P vc vp vw vs vf) rfl (fun u hu => by have := W1.out; rw [Array.all_eq_true'] at this; exact this u (by simpa using hu)) (by omega)
    have hp2 := (hg2.block p (by omega) (fun e => by have := (rA.row.lt _ e.symm).1; omega)).trans vA
    obtain ⟨A2, c2, rfl⟩ := own_form hown2
    have q0 : wA.cell? ⟨p, 0, none⟩ = some v := by rw [cell_heap vA]; rfl
    have q2 : w2.cell? ⟨p, 0, none⟩ = some v := by rw [cell_heap hp2]; rfl
    have f2 : w2.frozen? ⟨p, 0, none⟩ = false := frozen_heap hp2
    have HN : Hid (FoI p w (l ++ [b]) (w2.setCell ⟨p, 0, none⟩ (.slice A2 (L.length + 1) c2))) := Lib.hid (by
      have hrr : ∀ g, v.ownBlock = some g → ∃ c fz, wA.heap[g]? = some (.cells c 31 fz) := own_row rA.row
      refine ⟨_, L ++ [⟨P, vc, vp, vw, vs, vf⟩], one_setCell hp2, PkRow.set ⟨by simpa [Pv.cells] using hown2, fun x hx => ?_⟩ (by omega), by rw [List.map_append, List.map_append, HL.out, HPE.out]; rfl, by simp [World.setCell]; have := hg2.size; omega, ?_⟩
      · rcases List.mem_append.1 hx with hx | hx
        · exact own5_kept (rA.own x hx) hg2 hrr
        · simp at hx; subst hx; exact own5_kept oA hg2 hrr
      · have h5 := ((HB.out.trans (hWA.mono (by omega))).trans (hb2.mono (Nat.le_succ p)))
        exact ⟨h5.os, h5.tape, h5.output, by simp [World.setCell]; exact h5.size, fun i hi => (Below.heap_setCell _ _ _ _ (fun e => by simp at e; omega)).trans (h5.block i hi)⟩)
    have hcz : (pkCells P vc vp vw vs vf).size = 26 := rfl
    clear hLn
    clear hwA Z1 b1 bA hWA vA rA oA o1 hinf hzs hnb hi0 hz0 hz1 hz2 hown2 hg2 hb2 hp2 HB HR HL HV CG HF
    go_wp2_with (first
      | refine wpl_load_pk (by rfl) (.tmp 4) (by rfl) w1.heap.size (by rfl) PA.out ?_
      | (at_builtin; simp only [fill_pk26]; refine wpList_run (by rfl) (.tmp 13) (.tmp 15) _ _ (by rfl) (by rfl) (by rfl) hr2 ?_; clear hr2))
    go_ret
    exact ⟨rfl, fun _ => HN.out, fun h => absurd rfl h⟩
  · have e1 : (c == 0) = false := by rw [beq_eq_false_iff_ne]; exact hc
    have HC := Lib.hid hc
    clear hc
    go_enter Tryz.func49, Tryz.ntmps49
    go_wp2_with fail
    refine CG.out.mono ?_
    rintro e w1 ⟨_, h1, b1⟩
    obtain rfl := h1 HC.out
    have O1 := Lib.hid (pkNil_one PK.zeroPk)
    have Z1 : Hid ((w1.alloc (.cells (pkNil PK.zeroPk) 31)).heap[w1.heap.size]? = some (.cells (pkNil PK.zeroPk) 31 (0, 0))) := Lib.hid (heap_alloc_new w1 _)
    have HN : Hid (FoI p w l ((w1.alloc (.cells (pkNil PK.zeroPk) 31)).setRow w1.heap.size (pkNil PK.zeroPk))) := Lib.hid (HF.out.below (b1.trans ((below_setRow ((Below.refl _ _).alloc (Nat.le_refl _) _) (Nat.le_refl _) _ : Below w1.heap.size w1 _).mono b1.size)))
    clear b1 h1 HF CG HV HR HL HB
    go_wp2_with (refine wpList_store_row (by rfl) 31 (.tmp 4) (.tmp 9) (by rfl) w1.heap.size (pkNil PK.zeroPk) (by rfl) (by rfl) 31 (pkNil PK.zeroPk) Z1.out pk_info rfl O1.out ?_)
    go_ret
    exact ⟨rfl, fun h => absurd h HC.out, fun _ => HN.out⟩
end Go.Proofs.YtjajandjdclifaaGreatDoor
namespace Go.Proofs.YtjajandjdclifaaGreatDoor
open Go.RowKit Go.Shelf
attribute [local go_sem ↓] Go.wp_at_zero Go.wp_at_succ

theorem own_kp {r B : Nat} {e : TypeId} {k : Nat} {v : Value} {n : Nat} {xs : List Value} {w w' : World} (h : w.ownsRow B e k v n xs) (hk : Kp r w w') (hr : r < B) (he : e ≠ 5) : w'.ownsRow B e k v n xs := by
  refine ⟨h.1, ?_⟩
  rcases h.2 with hn | ⟨g, cap, cur, hv, hb, hg, rest⟩
  · exact .inl hn
  · exact .inr ⟨g, cap, cur, hv, hb, hk.block hg (by omega) he, rest⟩
theorem PkRow.kp {r B : Nat} {v : Value} {L : List Pv} {w w' : World} (h : PkRow B v L w) (hk : Kp r w w') (hr : r < B) : PkRow B v L w' :=
  ⟨own_kp h.row hk hr (by decide), fun x hx => ⟨own_kp (h.own x hx).codes hk hr (by decide), own_kp (h.own x hx).props hk hr (by decide), own_kp (h.own x hx).wprops hk hr (by decide), own_kp (h.own x hx).subs hk hr (by decide), own_kp (h.own x hx).filters hk hr (by decide)⟩⟩
theorem Fd.code {r : Nat} {m : Int} {l : List UInt8} {c : Int} {w : World} (h : Fd r m l c w) (c' : Int) : Fd r m l c' (w.setCell ⟨r, 3, none⟩ (.int .u8 c')) := by
  rcases h with ⟨v, h1, h2, h3⟩ | ⟨v, h1, h2, h3⟩
  · exact .inl ⟨v, set_block h1 rfl, ownF_set h2 h3, h3⟩
  · exact .inr ⟨v, set_block h1 rfl, ownF_set h2 h3, h3⟩
theorem Fd.most {r : Nat} {m : Int} {l : List UInt8} {c : Int} {w : World} (h : Fd r m l c w) : w.cell? ⟨r, 0, none⟩ = some (.int .i64 m) ∧ w.cell? ⟨r, 3, none⟩ = some (.int .u8 c) ∧ w.frozen? ⟨r, 3, none⟩ = false := by
  rcases h with ⟨v, h1, _, _⟩ | ⟨v, h1, _, _⟩
  · exact ⟨by rw [cell_heap h1]; rfl, by rw [cell_heap h1]; rfl, frozen_heap h1⟩
  · exact ⟨by rw [cell_heap h1]; rfl, by rw [cell_heap h1]; rfl, frozen_heap h1⟩
theorem kp_of_below {r B : Nat} {w w' : World} (hr : r ≤ B) (hB : B ≤ w.heap.size) (h : Below w.heap.size w w') : Kp r w w' := Kp.of_below (by omega) h
theorem feed1_enters (args : Array Value) (W : World) : (callFunc 49 args).run Tryz.prog W = .ok (.enter 49 args) W :=
  enters_of Tryz.func49 (by kernel_rfl) rfl args W

namespace ST
/-- What a reader with the bytes U tells: the packets' bytes, the place behind them, the code. -/
def fed (m : Int) (U : ByteArray) : List ByteArray × Nat × Int := thr U m (fun b => (PK.getPk b).2) (U.size + 1) 0
/-- What is left of them. -/
def left (m : Int) (U : ByteArray) : List UInt8 := if (fed m U).2.2 ≠ 0 then [] else (U.extract (fed m U).2.1 U.size).data.toList
theorem fed_le (m : Int) (U : ByteArray) : (fed m U).2.1 ≤ U.size := by
  have : ∀ (u a : Nat), a ≤ U.size → (thr U m (fun b => (PK.getPk b).2) u a).2.1 ≤ U.size := by
    intro u
    induction u with
    | zero => intro a h; exact h
    | succ u ih =>
      intro a h
      rw [thr]
      split
      · rename_i h1
        obtain ⟨k, hk, hk1, hk2⟩ := first_ok _ _ h1
        rw [ByteArray.size_extract] at hk2
        rw [hk]
        simp only [Int.toNat_natCast]
        split
        · exact ih (a + k) (by omega)
        · exact h
      · exact h
  exact this _ _ (Nat.zero_le _)
end ST
/-- What Feed answers. -/
def FeP (r : Nat) (m : Int) (U : ByteArray) (w : World) (e : Ending) (w' : World) : Prop :=
  ∃ v L, e = .returned (.tuple #[v, .int .u8 (ST.fed m U).2.2]) ∧ PkRow w.heap.size v L w' ∧ L.map Pv.p = (ST.fed m U).1.map (fun b => (PK.getPk b).1) ∧ Fd r m (ST.left m U) (ST.fed m U).2.2 w' ∧ Kp r w w'

set_option maxRecDepth 100000 in
set_option maxHeartbeats 2000000 in
theorem feed_nil (s : ByteArray) (w : World) : Calls Tryz.prog 20 #[.pointer none, .string s] w fun e w' => e = .returned (.tuple #[.slice none 0 0, .int .u8 128]) ∧ w = w' := by
  go_enter Tryz.func20, Tryz.ntmps20
  go_wp2
  go_ret2
  exact ⟨rfl, rfl⟩
set_option maxRecDepth 100000 in
set_option maxHeartbeats 2000000 in
theorem feed_over (r : Nat) (m : Int) (l : List UInt8) (c : Int) (s : ByteArray) (w : World) (hc : c ≠ 0) (h : Fd r m l c w) :
    Calls Tryz.prog 20 #[.pointer (some ⟨r, 0, none⟩), .string s] w fun e w' => e = .returned (.tuple #[.slice none 0 0, .int .u8 c]) ∧ Below w.heap.size w w' := by
  obtain ⟨_, q3, _⟩ := h.most
  have hne : (c != 0) = true := by rw [bne_iff_ne]; exact hc
  clear h hc
  go_enter Tryz.func20, Tryz.ntmps20
  go_wp2_with fail
  go_quiet (fail)
  go_wp2
  go_ret2
  exact ⟨rfl, drewN_below _ _ _⟩

set_option maxRecDepth 100000 in
set_option maxHeartbeats 2000000 in
theorem feed_any (r : Nat) (m : Int) (l : List UInt8) (s : ByteArray) (w : World) (h : Fd r m l 0 w) (hsz : l.length + s.size ≤ 1900000) (hT : ∀ W, Below r w W → Tabs W) :
    Calls Tryz.prog 20 #[.pointer (some ⟨r, 0, none⟩), .string s] w (FeP r m ⟨(l ++ s.data.toList).toArray⟩ w) := by
  have hmf : ∀ (fn : Fn) (first cap : Array Value) (w : World), (Instr.makeFunc fn first cap).run Tryz.prog w = .ok (.func fn first cap) w := fun _ _ _ _ => rfl
  have hlt := h.lt
  obtain ⟨_, q3, _⟩ := h.most
  have C1 := Lib.hid (fwrite_any r m l 0 s w h (by omega))
  have hUs : (⟨(l ++ s.data.toList).toArray⟩ : ByteArray).size ≤ 1900000 := by
    show (l ++ s.data.toList).toArray.size ≤ _
    have : s.data.toList.length = s.size := by rw [Array.length_toList]; rfl
    simp; omega
  have hUl : ∀ L : List UInt8, L = l ++ s.data.toList → L = (⟨L.toArray⟩ : ByteArray).data.toList := fun L _ => by simp
  generalize l ++ s.data.toList = l2 at *
  obtain ⟨U, hU⟩ : ∃ U : ByteArray, U = ⟨l2.toArray⟩ := ⟨_, rfl⟩
  rw [← hU] at hUs ⊢
  have HU := Lib.hid hU
  have HTb := Lib.hid hT
  clear hU hT hUl h
  go_enter Tryz.func20, Tryz.ntmps20
  go_wp2_with fail
  refine C1.out.mono ?_
  rintro e w1 ⟨rfl, h1, k1⟩
  have C2 := Lib.hid (fstring_any r m l2 0 w1 h1)
  have K1 := Lib.hid k1
  clear h1 k1 C1 q3
  rw [← HU.out] at C2
  go_wp2_with fail
  refine C2.out.mono ?_
  rintro e w2 ⟨rfl, h2, k2⟩
  have K2 := Lib.hid (K1.out.trans k2)
  have hlt2 := h2.lt
  have hal := (Below.refl w2.heap.size w2).alloc (Nat.le_refl _) (.cells #[.slice none 0 0] 65)
  have h3 := h2.below hal
  obtain ⟨q0, _, _⟩ := h3.most
  have I0 : FoI w2.heap.size w2 [] (w2.alloc (.cells #[.slice none 0 0] 65)) := ⟨_, [], heap_alloc_new w2 _, ⟨own_nil _ _ _ _, fun x hx => by cases hx⟩, rfl, by simp, hal⟩
  have CT := Lib.hid (through_any 49 #[.pointer (some ⟨w2.heap.size, 0, none⟩)] (fun b => (PK.getPk b).2) (FoI w2.heap.size w2) U m (by omega) feed1_enters
    (fun l a k W hI hl2 hk1 hk2 => feed1_any w2.heap.size w2 l (U.extract a (a + k)) (by rw [ByteArray.size_extract]; omega) (by omega) (fun W' hW' => HTb.out W' (K2.out.1.trans (hW'.mono (by omega)))) W hI) _ I0)
  have hle := ST.fed_le m U
  have HLf : Hid (ST.left m U = if (ST.fed m U).2.2 ≠ 0 then [] else (U.extract (ST.fed m U).2.1 U.size).data.toList) := Lib.hid rfl
  rw [show ST.thr U m (fun b => (PK.getPk b).2) (U.size + 1) 0 = ST.fed m U from rfl] at CT
  obtain ⟨ls, a, c, hX⟩ : ∃ ls a c, ST.fed m U = (ls, a, c) := ⟨_, _, _, rfl⟩
  have FIN : Hid (∀ e w', (∃ v L, e = .returned (.tuple #[v, .int .u8 c]) ∧ PkRow w.heap.size v L w' ∧ L.map Pv.p = ls.map (fun b => (PK.getPk b).1) ∧ Fd r m (ST.left m U) c w' ∧ Kp r w w') → FeP r m U w e w') := Lib.hid (by unfold FeP; rw [hX]; exact fun _ _ h => h)
  rw [hX] at CT hle HLf
  simp only at CT hle HLf
  clear hX
  have H2 := Lib.hid h2
  clear h2 k2 C2 hal h3 I0 K1
  go_wp2_with fail
  refine CT.out.mono ?_
  rintro e w4 ⟨rfl, v, L, hv, hrow, hmap, hp1, hbe⟩
  have h4 := H2.out.below hbe
  obtain ⟨_, q3, f3⟩ := h4.most
  have h5 := h4.code c
  have K5 : Kp r w (w4.setCell ⟨r, 3, none⟩ (.int .u8 c)) := (K2.out.trans (Kp.of_below (Nat.le_of_lt hlt2) hbe)).setCell 3 _
  have v5 : (w4.setCell ⟨r, 3, none⟩ (.int .u8 c)).heap[w2.heap.size]? = some (.cells #[v] 65 (0, 0)) := (Below.heap_setCell _ _ _ _ (fun e => by simp at e; omega)).trans hv
  have r5 : PkRow (w2.heap.size + 1) v L (w4.setCell ⟨r, 3, none⟩ (.int .u8 c)) := hrow.set (by omega)
  have hz := K2.out.1.size
  obtain ⟨ao, co, rfl⟩ := own_form hrow.row
  have H5 := Lib.hid h5; have HK5 := Lib.hid K5; have V5 := Lib.hid v5; have R5 := Lib.hid r5; have HM := Lib.hid hmap
  clear h4 h5 K5 v5 r5 hmap hrow hv hbe CT H2 K2 hp1
  by_cases hc : c = 0
  · subst hc
    have EL : Hid (ST.left m U = (U.extract a U.size).data.toList) := Lib.hid (by rw [HLf.out, if_neg (by decide)])
    clear HLf
    by_cases ha : a = 0
    · subst ha
      have q6 := cell_of_one V5.out
      go_wp2_with fail
      go_ret2
      refine FIN.out _ _ ⟨_, L, rfl, R5.out.base (by omega), HM.out, ?_, HK5.out⟩
      rw [EL.out, HU.out]
      have := H5.out
      simpa using this
    · have hapos : (0 : Int) < (a : Int) := by omega
      have CR := Lib.hid (freset_any r m l2 0 _ H5.out)
      go_wp2_with fail
      refine CR.out.mono ?_
      rintro e w6 ⟨rfl, h6, k6⟩
      have hsl := st_from U a hle
      have CW := Lib.hid (fun W (hW : Below w6.heap.size w6 W) => fwrite_any r m [] 0 (U.extract a U.size) W (h6.below hW) (by rw [ByteArray.size_extract]; simp; omega))
      have K6 := Lib.hid (HK5.out.trans k6)
      have V6 := Lib.hid (k6.block V5.out (by omega) (by decide))
      have R6 := Lib.hid (R5.out.kp k6 (by omega))
      have hl6 := h6.lt
      clear CR h6 k6 H5 HK5 V5 R5
      go_wp2_with fail
      go_region_with
        (go_at_call 47
         refine (CW.out _ (Below.drew (Below.refl _ w6))).mono ?_
         rintro e w7 ⟨rfl, h7, k7⟩)
      all_goals
        have k7' := Kp.drew k7
        have V7 := Lib.hid (k7'.block V6.out (by omega) (by decide))
        have R7 := Lib.hid (R6.out.kp k7' (by omega))
        have K7 := Lib.hid (K6.out.trans k7')
        have H7 := Lib.hid h7
        have q7 := cell_of_one V7.out
        clear h7 k7 k7' V6 R6 K6 CW
        go_wp2_with fail
        go_ret2
        exact FIN.out _ _ ⟨_, L, rfl, R7.out.base (by omega), HM.out, by rw [EL.out]; simpa using H7.out, K7.out⟩
  · have hne : (c != 0) = true := by rw [bne_iff_ne]; exact hc
    have EL : Hid (ST.left m U = []) := Lib.hid (by rw [HLf.out, if_pos hc])
    have CR := Lib.hid (freset_any r m l2 c _ H5.out)
    clear HLf hc
    go_wp2_with fail
    refine CR.out.mono ?_
    rintro e w6 ⟨rfl, h6, k6⟩
    have K6 := Lib.hid (HK5.out.trans k6)
    have V6 := Lib.hid (k6.block V5.out (by omega) (by decide))
    have R6 := Lib.hid (R5.out.kp k6 (by omega))
    have H6 := Lib.hid h6
    have q7 := cell_of_one V6.out
    clear CR h6 k6 H5 HK5 V5 R5
    go_wp2_with fail
    go_ret2
    exact FIN.out _ _ ⟨_, L, rfl, R6.out.base (by omega), HM.out, by rw [EL.out]; exact H6.out, K6.out⟩
end Go.Proofs.YtjajandjdclifaaGreatDoor
namespace Go.Proofs.YtjajandjdclifaaGreatDoor
open Go.RowKit
attribute [local go_sem ↓] Go.wp_at_zero Go.wp_at_succ

set_option maxRecDepth 100000 in
theorem new_any (m : Int) (w : World) : Calls Tryz.prog 18 #[.int .i64 m] w fun e w' => e = .returned (.pointer (some ⟨w.heap.size, 0, none⟩)) ∧ Fd w.heap.size m [] 0 w' ∧ Below w.heap.size w w' := by
  have H1 : Hid (Fd w.heap.size m [] 0 (w.alloc (.cells #[.int .i64 m, .pointer none, .slice none 0 0, .int .u8 0] 128))) := Lib.hid (.inl ⟨_, heap_alloc_new w _, World.ownsRowF_nil _ _ _ _, by simp [Value.ownBlock]⟩)
  have H2 : Hid (Below w.heap.size w (w.alloc (.cells #[.int .i64 m, .pointer none, .slice none 0 0, .int .u8 0] 128))) := Lib.hid ((Below.refl _ _).alloc (Nat.le_refl _) _)
  go_enter Tryz.func18, Tryz.ntmps18
  go_wp2
  go_ret
  exact ⟨rfl, H1.out, H2.out⟩
theorem left_nil (w : World) : Calls Tryz.prog 22 #[.pointer none] w fun e w' => e = .returned (.string ⟨#[]⟩) ∧ w = w' := by
  go_enter Tryz.func22, Tryz.ntmps22
  go_wp2
  go_ret
  exact ⟨rfl, rfl⟩
set_option maxRecDepth 100000 in
theorem left_any (r : Nat) (m : Int) (l : List UInt8) (c : Int) (w : World) (h : Fd r m l c w) (hl : l.length ≤ 281474976710656) :
    Calls Tryz.prog 22 #[.pointer (some ⟨r, 0, none⟩)] w fun e w' => e = .returned (.string ⟨l.toArray⟩) ∧ Fd r m l c w' ∧ Kp r w w' := by
  have C := Lib.hid (fstring_any r m l c w h)
  have CC := Lib.hid (clone_any ⟨l.toArray⟩)
  have hs : (⟨l.toArray⟩ : ByteArray).size ≤ 281474976710656 := by show l.toArray.size ≤ _; simp; exact hl
  clear h
  go_enter Tryz.func22, Tryz.ntmps22
  go_wp2_with fail
  refine C.out.mono ?_
  rintro e w1 ⟨rfl, h1, k1⟩
  have hlt := h1.lt
  have H1 := Lib.hid h1
  have K1 := Lib.hid k1
  clear h1 k1 C
  go_wp2_with fail
  refine (CC.out _ hs).mono ?_
  rintro e w2 ⟨rfl, b2⟩
  have H2 := Lib.hid (H1.out.below b2)
  have K2 := Lib.hid (K1.out.trans (Kp.of_below (Nat.le_of_lt hlt) b2))
  clear b2 H1 K1 CC
  go_wp2_with fail
  go_ret
  exact ⟨rfl, H2.out, K2.out⟩

theorem fed_half : ST.fed 100 ⟨#[192]⟩ = ([], 0, 0) := by kernel_rfl
theorem ping_pk : PK.getPk ⟨#[192, 0]⟩ = (PK.barePk 12 false false 0, 0) := by kernel_rfl
theorem fed_two : ST.fed 100 ⟨#[192, 0, 192, 0]⟩ = ([⟨#[192, 0]⟩, ⟨#[192, 0]⟩], 4, 0) := by kernel_rfl

theorem two_len {L : List Pv} (h : L.length = 2) : ∃ x y, L = [x, y] := by
  cases L with
  | nil => simp at h
  | cons x t => cases t with
    | nil => simp at h
    | cons y u => cases u with
      | nil => exact ⟨x, y, rfl⟩
      | cons z u => simp at h
theorem two_of {L : List Pv} {a b : Pk} (h : L.map Pv.p = [a, b]) : ∃ x y, L = [x, y] :=
  two_len (by have := congrArg List.length h; rw [List.length_map] at this; exact this)
set_option maxRecDepth 100000 in
set_option maxHeartbeats 1000000 in
theorem swakes_any (w : World) (hT : ∀ W, Below w.heap.size w W → Tabs W) : Calls Tryz.prog 19 #[] w fun e w' => e = .returned (.bool true) ∧ Below w.heap.size w w' := by
  have CN := Lib.hid (new_any 100 w)
  have HTb := Lib.hid hT
  clear hT
  go_enter Tryz.func19, Tryz.ntmps19
  go_wp2_with fail
  refine CN.out.mono ?_
  rintro e w1 ⟨rfl, h1, b1⟩
  have C1 : Hid (Calls Tryz.prog 20 #[.pointer (some ⟨w.heap.size, 0, none⟩), .string ⟨#[192]⟩] w1 (FeP w.heap.size 100 ⟨#[192]⟩ w1)) := Lib.hid (feed_any w.heap.size 100 [] ⟨#[192]⟩ w1 h1 (by decide) (fun W hW => HTb.out W (b1.trans hW)))
  have B1 := Lib.hid b1
  clear h1 b1 CN
  go_wp2_with fail
  refine C1.out.mono ?_
  rintro e w2 hF
  obtain ⟨v2, L2, rfl, r2, m2, h2, k2⟩ := hF
  rw [fed_half] at m2 h2 ⊢
  have hL2 : ST.left 100 ⟨#[192]⟩ = [192] := by kernel_rfl
  rw [hL2] at h2
  have hl0 : L2 = [] := by simpa using m2
  subst hl0
  obtain ⟨A2, c2, rfl⟩ := own_form r2.row
  have C2 := Lib.hid (left_any w.heap.size 100 [192] 0 w2 h2 (by decide))
  have K2 := Lib.hid k2
  clear C1 r2 m2 h2 k2 hL2
  go_wp2_with fail
  refine C2.out.mono ?_
  rintro e w3 ⟨rfl, h3, k3⟩
  have C3 : Hid (Calls Tryz.prog 20 #[.pointer (some ⟨w.heap.size, 0, none⟩), .string ⟨#[0, 192, 0]⟩] w3 (FeP w.heap.size 100 ⟨#[192, 0, 192, 0]⟩ w3)) := Lib.hid (feed_any w.heap.size 100 [192] ⟨#[0, 192, 0]⟩ w3 h3 (by decide) (fun W hW => HTb.out W ((B1.out.trans K2.out.1).trans (k3.1.trans hW))))
  have B3 := Lib.hid ((B1.out.trans K2.out.1).trans k3.1)
  clear h3 k3 C2 K2 B1
  go_wp2_with fail
  refine C3.out.mono ?_
  rintro e w4 hF
  obtain ⟨v4, L4, rfl, r4, m4, h4, k4⟩ := hF
  rw [fed_two] at m4 h4 ⊢
  have HB := Lib.hid (B3.out.trans k4.1)
  simp only [List.map_cons, List.map_nil, ping_pk] at m4
  obtain ⟨x, y, rfl⟩ := two_of m4
  simp only [List.map_cons, List.map_nil, List.cons.injEq, and_true] at m4
  obtain ⟨g, p4', hv4, hg4, hg4'⟩ := r4.row.form (by simp)
  subst hv4
  have e4 : w4.cell? ⟨g, 26, none⟩ = some (.int .i64 12) := by
    rw [← add0]
    have := r4.row.cells (g := g) rfl 26 (.int .i64 y.p.kind) (by simp [Pv.cells, pkCells])
    rw [m4.2] at this
    exact this
  clear r4 m4 h4 k4 C3 B3
  go_wp2_with fail
  go_ret
  exact ⟨rfl, HB.out⟩
end Go.Proofs.YtjajandjdclifaaGreatDoor
namespace Go.Proofs.YtjajandjdclifaaGreatDoor
open Go.RowKit

/-- How many bytes pieces have together. -/
def bytesOf (l : List ByteArray) : Nat := (l.map ByteArray.size).sum
theorem bytes_take {l : List ByteArray} {k : Nat} {x : ByteArray} (h : l[k]? = some x) : bytesOf (l.take (k + 1)) = bytesOf (l.take k) + x.size := by
  have e : l.take (k + 1) = l.take k ++ [x] := by rw [List.take_add_one, h]; rfl
  rw [e]; simp [bytesOf]
theorem bytes_le (l : List ByteArray) : ∀ k, bytesOf (l.take k) ≤ bytesOf l := by
  induction l with
  | nil => intro k; simp [bytesOf]
  | cons x l ih => intro k; cases k with
    | zero => simp [bytesOf]
    | succ k => have := ih k; simp [bytesOf] at this ⊢; omega
theorem left_len (m : Int) (U : ByteArray) : (ST.left m U).length ≤ U.size := by
  unfold ST.left
  split
  · simp
  · have h : ∀ X : ByteArray, X.data.toList.length = X.size := fun X => by rw [Array.length_toList]; rfl
    rw [h, ByteArray.size_extract]; omega
theorem left_bad {m : Int} {U : ByteArray} (h : (ST.fed m U).2.2 ≠ 0) : ST.left m U = [] := by unfold ST.left; rw [if_pos h]
theorem join_size (l : List UInt8) (s : ByteArray) : (⟨(l ++ s.data.toList).toArray⟩ : ByteArray).size = l.length + s.size := by
  show (l ++ s.data.toList).toArray.size = _
  simp
end Go.Proofs.YtjajandjdclifaaGreatDoor
namespace Go.Proofs.YtjajandjdclifaaGreatDoor
namespace ST
def bs (l : List UInt8) : ByteArray := ⟨l.toArray⟩
theorem bs_size (l : List UInt8) : (bs l).size = l.length := by show l.toArray.size = _; simp
theorem bs_at (l : List UInt8) (i : Nat) (h : i < (bs l).size) (h' : i < l.length) : (bs l)[i]'h = l[i]'h' := rfl
theorem bs_self (X : ByteArray) : bs X.data.toList = X := by cases X; simp [bs]
theorem beg_app (l t : List UInt8) : Beg (bs l) (bs (l ++ t)) := by
  refine ⟨by rw [bs_size, bs_size]; simp, fun j h1 h2 => ?_⟩
  rw [bs_size] at h1 h2
  rw [bs_at l j (by rw [bs_size]; exact h1) h1, bs_at (l ++ t) j (by rw [bs_size]; exact h2) h2, List.getElem_append_left h1]
theorem bs_drop (l t : List UInt8) (a : Nat) (ha : a ≤ l.length) : (bs (l ++ t)).extract a (bs (l ++ t)).size = bs (((bs l).extract a (bs l).size).data.toList ++ t) := by
  have hz : ((bs l).extract a (bs l).size).size = l.length - a := by rw [ByteArray.size_extract, bs_size]; omega
  have hz' : ((bs l).extract a (bs l).size).data.toList.length = l.length - a := by rw [Array.length_toList]; exact hz
  apply ByteArray.ext_getElem
  · rw [ByteArray.size_extract, bs_size, bs_size, List.length_append, List.length_append, hz']; omega
  · intro i h1 h2
    rw [ByteArray.size_extract, bs_size, List.length_append] at h1
    rw [ByteArray.getElem_extract, bs_at (l ++ t) (a + i) (by rw [bs_size, List.length_append]; omega) (by rw [List.length_append]; omega)]
    rw [bs_at _ i h2 (by rw [List.length_append, hz']; omega)]
    by_cases hi : i < l.length - a
    · rw [List.getElem_append_left (by omega), List.getElem_append_left (by rw [hz']; exact hi)]
      have e : ((bs l).extract a (bs l).size).data.toList[i]'(by rw [hz']; exact hi) = ((bs l).extract a (bs l).size)[i]'(by rw [hz]; exact hi) := by rw [Array.getElem_toList]; rfl
      rw [e, ByteArray.getElem_extract, bs_at l (a + i) (by rw [bs_size]; omega) (by omega)]
    · rw [List.getElem_append_right (by omega), List.getElem_append_right (by rw [hz']; omega)]
      congr 1
      rw [hz']; omega
/-- The packets that a reader with the bytes U tells. -/
def pks (m : Int) (U : ByteArray) : List Pk := (fed m U).1.map (fun b => (PK.getPk b).1)
/-- What pieces tell, behind the bytes that are left, up to the first code. -/
def tell (m : Int) : List ByteArray → List UInt8 → List Pk × Int
  | [], _ => ([], 0)
  | s :: ps, l => if (fed m (bs (l ++ s.data.toList))).2.2 ≠ 0 then (pks m (bs (l ++ s.data.toList)), (fed m (bs (l ++ s.data.toList))).2.2)
    else (pks m (bs (l ++ s.data.toList)) ++ (tell m ps (left m (bs (l ++ s.data.toList)))).1, (tell m ps (left m (bs (l ++ s.data.toList)))).2)
def joined (ps : List ByteArray) : List UInt8 := ps.flatMap fun s => s.data.toList
/-- The same, over whatever reads a packet. -/
def fedF (f : ByteArray → Int) (m : Int) (U : ByteArray) : List ByteArray × Nat × Int := thr U m f (U.size + 1) 0
def leftF (f : ByteArray → Int) (m : Int) (U : ByteArray) : List UInt8 := if (fedF f m U).2.2 ≠ 0 then [] else (U.extract (fedF f m U).2.1 U.size).data.toList
theorem fedF_none (f : ByteArray → Int) (m : Int) (l : List UInt8) (h : (first (bs l) m).2 = 242) : fedF f m (bs l) = ([], 0, 0) := by
  unfold fedF
  have e : (bs l).extract 0 (bs l).size = bs l := by simp
  rw [thr, e, if_neg (by rw [h]; decide), if_pos h]
theorem fedF_more (f : ByteArray → Int) (m : Int) (l t : List UInt8) : ((fedF f m (bs l)).2.2 ≠ 0 → (fedF f m (bs (l ++ t))).1 = (fedF f m (bs l)).1 ∧ (fedF f m (bs (l ++ t))).2.2 = (fedF f m (bs l)).2.2) ∧
    ((fedF f m (bs l)).2.2 = 0 → (first (bs (leftF f m (bs l))) m).2 = 242 ∧ (fedF f m (bs (l ++ t))).1 = (fedF f m (bs l)).1 ++ (fedF f m (bs (leftF f m (bs l) ++ t))).1 ∧ (fedF f m (bs (l ++ t))).2.2 = (fedF f m (bs (leftF f m (bs l) ++ t))).2.2) := by
  have h := thr_more (beg_app l t) m f ((bs l).size + 1) ((bs (l ++ t)).size + 1) 0 (Nat.zero_le _) (by omega) (by omega)
  have e1 : thr (bs l) m f ((bs l).size + 1) 0 = fedF f m (bs l) := rfl
  have e2 : thr (bs (l ++ t)) m f ((bs (l ++ t)).size + 1) 0 = fedF f m (bs (l ++ t)) := rfl
  rw [e1, e2] at h
  refine ⟨h.1, fun h0 => ?_⟩
  obtain ⟨h1, h2, h3⟩ := h.2 h0
  have hl : leftF f m (bs l) = ((bs l).extract (fedF f m (bs l)).2.1 (bs l).size).data.toList := by unfold leftF; rw [if_neg (by simp [h0])]
  generalize leftF f m (bs l) = lf at *
  generalize fedF f m (bs l) = X at *
  obtain ⟨ls, a, c⟩ := X
  simp only at *
  have h1' : a ≤ l.length := by rw [← bs_size l]; exact h1
  have e := bs_drop l t a h1'
  rw [← hl] at e
  have ez : (bs (lf ++ t)).size = (bs (l ++ t)).size - a := by rw [← e, ByteArray.size_extract]; omega
  have h4 := h3 ((bs (lf ++ t)).size + 1) (by omega)
  have h5 := thr_drop (bs (l ++ t)) m f a ((bs (lf ++ t)).size + 1) 0
  rw [e] at h5
  simp only [Nat.add_zero] at h5
  refine ⟨?_, h4.1.trans ?_, h4.2.trans ?_⟩
  · rw [hl, bs_self]; exact h2
  · rw [h5.1]; rfl
  · rw [h5.2]; rfl
theorem fed_eq (m : Int) (U : ByteArray) : fed m U = fedF (fun b => (PK.getPk b).2) m U := by unfold fed fedF; rfl
theorem left_eq (m : Int) (U : ByteArray) : left m U = leftF (fun b => (PK.getPk b).2) m U := by unfold left leftF; rw [fed_eq]
theorem fed_none (m : Int) (l : List UInt8) (h : (first (bs l) m).2 = 242) : fed m (bs l) = ([], 0, 0) := by rw [fed_eq]; exact fedF_none _ m l h
theorem fed_more (m : Int) (l t : List UInt8) : ((fed m (bs l)).2.2 ≠ 0 → (fed m (bs (l ++ t))).1 = (fed m (bs l)).1 ∧ (fed m (bs (l ++ t))).2.2 = (fed m (bs l)).2.2) ∧
    ((fed m (bs l)).2.2 = 0 → (first (bs (left m (bs l))) m).2 = 242 ∧ (fed m (bs (l ++ t))).1 = (fed m (bs l)).1 ++ (fed m (bs (left m (bs l) ++ t))).1 ∧ (fed m (bs (l ++ t))).2.2 = (fed m (bs (left m (bs l) ++ t))).2.2) := by
  simp only [fed_eq, left_eq]
  exact fedF_more _ m l t
theorem tell_all (m : Int) : ∀ (ps : List ByteArray) (l : List UInt8), (first (bs l) m).2 = 242 → tell m ps l = (pks m (bs (l ++ joined ps)), (fed m (bs (l ++ joined ps))).2.2)
  | [], l, h => by
    rw [tell, joined, List.flatMap_nil, List.append_nil, pks, fed_none m l h]; rfl
  | s :: ps, l, _ => by
    have hm := fed_more m (l ++ s.data.toList) (joined ps)
    have e : l ++ joined (s :: ps) = l ++ s.data.toList ++ joined ps := by simp [joined]
    rw [tell, e]
    by_cases hc : (fed m (bs (l ++ s.data.toList))).2.2 ≠ 0
    · rw [if_pos hc]
      obtain ⟨h1, h2⟩ := hm.1 hc
      rw [pks, pks, h1, h2]
    · rw [if_neg hc]
      obtain ⟨h0, h1, h2⟩ := hm.2 (Classical.not_not.1 hc)
      rw [tell_all m ps _ h0, pks, pks, pks, h1, h2, List.map_append]
theorem first_nil (m : Int) : (first (bs []) m).2 = 242 := by unfold first; rw [if_pos (show (bs []).size = 0 by rw [bs_size]; rfl)]
/-- From the beginning. -/
theorem tell_start (m : Int) (ps : List ByteArray) : tell m ps [] = (pks m (bs (joined ps)), (fed m (bs (joined ps))).2.2) := by
  rw [tell_all m ps [] (first_nil m), List.nil_append]
end ST
end Go.Proofs.YtjajandjdclifaaGreatDoor
namespace Go.Proofs.YtjajandjdclifaaGreatDoor

namespace PK
theorem getG_zero (s : ByteArray) (k : Nat) : ∀ (u i : Nat) (n : Int), (VP.getG s k u i n).2.2 ≠ 0 → (VP.getG s k u i n).1 = 0
  | 0, _, _, _ => by rw [VP.getG_0]
  | u + 1, i, n, h => by
    rw [VP.getG] at h ⊢
    split
    · rename_i h1
      rw [dif_pos h1] at h
      split
      · rename_i h2
        rw [if_pos h2] at h
        split
        · rename_i h3
          rw [if_pos h3] at h
          exact absurd rfl h
        · rfl
      · rename_i h2
        rw [if_neg h2] at h
        exact getG_zero s k u (i + 1) _ h
    · rfl
theorem get_le (s : ByteArray) (a : Int) : (VP.get s a).1 ≤ 268435455 := by
  by_cases ho : a < 0 ∨ (s.size : Int) < a
  · rw [VP.get_out s a ho]; decide
  · obtain ⟨k, rfl⟩ := Int.eq_ofNat_of_zero_le (show 0 ≤ a by omega)
    by_cases hc : (VP.get s (k : Int)).2.2 = 0
    · obtain ⟨x, m, _, _, h3, h4, _, h6, _⟩ := VP.get_inv s k (by omega) hc
      rw [h6]; exact h4
    · rw [VP.get_in s k (by omega)] at hc ⊢
      rw [getG_zero s k 4 0 0 hc]; decide
theorem dat_le (s : ByteArray) (a : Int) : (VP.dat s a).1.size ≤ s.size := by
  unfold VP.dat
  split
  · split
    · exact Nat.zero_le _
    · simp only; rw [ByteArray.size_extract]; omega
  · exact Nat.zero_le _
theorem getT_le (s : ByteArray) (a : Int) : (TX.getT s a).1.size ≤ s.size := by
  unfold TX.getT
  split
  · exact Nat.zero_le _
  · split
    · exact Nat.zero_le _
    · exact dat_le s a
theorem rdv_fine (T : ByteArray) (p id : Int) (hT : T.size ≤ 140737488351232) : Fine (PR.rdv T p id).1 := by
  have z : (ByteArray.mk #[]).size = 0 := rfl
  have g1 := PR.get_nn T p
  have g2 := get_le T p
  have d1 := dat_le T p
  have t1 := getT_le T p
  have t2 := getT_le T (TX.getT T p).2.1
  have r1 := rd_nn T p (PR.wd (PR.kd id))
  unfold PR.rdv
  repeat' split
  all_goals
    refine ⟨⟨?_, ?_⟩, ?_, ?_⟩ <;> simp only [z] <;> omega
theorem g1_fine (T : ByteArray) (p : Int) (out : List Pr) (hT : T.size ≤ 140737488351232) (h : (PR.g1 T p out).2.2 = 0) : Fine (PR.g1 T p out).1 := by
  unfold PR.g1 at h ⊢
  split at h
  · exact absurd h (by simp)
  · rename_i c1
    rw [if_neg c1]
    split at h
    · exact absurd h (by simp)
    · rename_i c2
      rw [if_neg c2]
      split at h
      · rename_i c3; exact absurd h c3
      · rename_i c3
        rw [if_neg c3]
        split at h
        · exact absurd h (by simp)
        · rename_i c4
          rw [if_neg c4]
          exact rdv_fine _ _ _ hT
theorem gl_fine (U : ByteArray) (hU : U.size ≤ 140737488351232) : ∀ (u : Nat) (p : Int) (out : List Pr), (∀ q ∈ out, Fine q) → ∀ q ∈ (PR.gl U u p out).1, Fine q
  | 0, _, _, _ => by intro q hq; simp [PR.gl] at hq
  | u + 1, p, out, ho => by
    rw [PR.gl]
    split
    · exact ho
    · split
      · intro q hq; simp at hq
      · rename_i h1
        refine gl_fine U hU u _ _ ?_
        intro q hq
        rcases List.mem_append.1 hq with hq | hq
        · exact ho q hq
        · simp at hq; subst hq; exact g1_fine U p out hU (Classical.not_not.1 h1)
theorem getL_fine (s : ByteArray) (a : Int) (hs : s.size ≤ 140737488351232) : ∀ q ∈ (PR.getL s a).1, Fine q := by
  unfold PR.getL
  repeat' split
  all_goals first
    | (intro q hq; simp at hq; done)
    | exact gl_fine _ (by rw [ByteArray.size_extract]; omega) 66 0 [] (fun q hq => by cases hq)
end PK
/-- A packet whose every part a machine can hold. -/
structure PkF (P : Pk) : Prop where
  fine : PkFine P
  pr : P.props.length ≤ 100 ∧ ∀ p ∈ P.props, Fine p
  wpr : P.wprops.length ≤ 100 ∧ ∀ p ∈ P.wprops, Fine p
namespace PK
theorem and3 (n : Int) (h0 : 0 ≤ n) (h1 : n ≤ 255) : 0 ≤ bits .and .i64 n 3 ∧ bits .and .i64 n 3 ≤ 3 := by
  obtain ⟨k, rfl⟩ := Int.eq_ofNat_of_zero_le h0
  have h : ∀ k : Fin 256, 0 ≤ bits .and .i64 ((k.val : Nat) : Int) 3 ∧ bits .and .i64 ((k.val : Nat) : Int) 3 ≤ 3 := by decide +kernel
  exact h ⟨k, by omega⟩
theorem i64_of {n : Int} (h0 : 0 ≤ n) (h1 : n ≤ 4294967295) : I64 n := ⟨by omega, by omega⟩
theorem bnd_f {α : Type} {P : Pk} {x : α × Int × Int} {f : α → Int → Pk × Int × Int} (hP : PkF P) (h : PkF (f x.1 x.2.1).1) : PkF (bnd P x f).1 := by
  unfold bnd
  split
  · exact hP
  · exact h
theorem rdPr_f (s : ByteArray) (a k : Int) (hs : s.size ≤ 140737488351232) : (rdPr s a k).1.length ≤ 100 ∧ ∀ p ∈ (rdPr s a k).1, Fine p :=
  ⟨by have := (PR.getL_facts s a).2.2; show (PR.getL s a).1.length ≤ 100; omega, getL_fine s a hs⟩
theorem lst_le {α : Type} (rd : Int → α × Int × Int) (sz : Nat) : ∀ (u : Nat) (a : Int) (out : List α), out.length ≤ 64 → (lst rd sz u a out).1.length ≤ 64
  | 0, _, _, _ => by simp [lst]
  | u + 1, a, out, h => by
    rw [lst]
    split
    · split
      · simp
      · exact h
    · split
      · simp
      · split
        · simp
        · exact lst_le rd sz u _ _ (by simp; omega)
theorem lst_all {α : Type} (rd : Int → α × Int × Int) (sz : Nat) (p : α → Prop) (hp : ∀ a, p (rd a).1) : ∀ (u : Nat) (a : Int) (out : List α), (∀ x ∈ out, p x) → ∀ x ∈ (lst rd sz u a out).1, p x
  | 0, _, _, _ => by intro x hx; simp [lst] at hx
  | u + 1, a, out, h => by
    rw [lst]
    split
    · split
      · intro x hx; simp at hx
      · exact h
    · split
      · intro x hx; simp at hx
      · split
        · intro x hx; simp at hx
        · refine lst_all rd sz p hp u _ _ ?_
          intro x hx
          rcases List.mem_append.1 hx with hx | hx
          · exact h x hx
          · simp at hx; subst hx; exact hp a
end PK
end Go.Proofs.YtjajandjdclifaaGreatDoor
namespace Go.Proofs.YtjajandjdclifaaGreatDoor
open Go.RowKit

namespace PK
theorem rdC_u8 (s : ByteArray) (a : Int) : 0 ≤ (rdC s a).1 ∧ (rdC s a).1 ≤ 255 := ⟨(rd_nn s a 1).1, rd_1le s a⟩
theorem rdSub_f (s : ByteArray) (hs : s.size ≤ 140737488351232) (a : Int) : SbFine (rdSub s a).1 := by
  have h1 := getT_le s a
  have h2 := rd_nn s (TX.getT s a).2.1 1
  have h3 := rd_1le s (TX.getT s a).2.1
  have b1 := and3 _ h2.1 h3
  have b2 := and3 ((VP.rd s (TX.getT s a).2.1 1).1 / 16) (by omega) (by omega)
  exact ⟨Nat.le_trans h1 hs, ⟨by show _ ≤ bits .and .i64 _ 3; omega, by show bits .and .i64 _ 3 ≤ _; omega⟩, ⟨by show _ ≤ bits .and .i64 _ 3; omega, by show bits .and .i64 _ 3 ≤ _; omega⟩⟩
theorem rdN_i (s : ByteArray) (a wd : Int) : I64 (rdN s a wd).1 := i64_of (rd_nn s a wd).1 (rd_nn s a wd).2
theorem rdId_i (s : ByteArray) (a : Int) : I64 (rdId s a).1 := i64_of (rd_nn s a 2).1 (rd_nn s a 2).2
theorem rdT_s (s : ByteArray) (hs : s.size ≤ 140737488351232) (a : Int) : Short (rdT s a).1 := Nat.le_trans (getT_le s a) hs
theorem rdD_s (s : ByteArray) (hs : s.size ≤ 140737488351232) (a : Int) : Short (rdD s a).1 := Nat.le_trans (dat_le s a) hs
section
variable {s : ByteArray} (hs : s.size ≤ 140737488351232)
include hs
theorem rdPass_f' (a : Int) (P : Pk) (h : PkF P) : PkF (rdPass s a P).1 := by
  unfold rdPass
  split
  · refine bnd_f h ?_
    obtain ⟨⟨k1, k2, k3, k4, k5, k6, k7, k8, k9, k10, k11, k12, k13, k14, k15, k16⟩, p1, p2⟩ := h
    exact ⟨⟨k1, k2, k3, k4, k5, k6, k7, k8, k9, k10, k11, k12, rdD_s s hs a, k14, k15, k16⟩, p1, p2⟩
  · exact h
theorem rdUser_f' (a : Int) (P : Pk) (h : PkF P) : PkF (rdUser s a P).1 := by
  unfold rdUser
  split
  · refine bnd_f h (rdPass_f' hs _ _ ?_)
    obtain ⟨⟨k1, k2, k3, k4, k5, k6, k7, k8, k9, k10, k11, k12, k13, k14, k15, k16⟩, p1, p2⟩ := h
    exact ⟨⟨k1, k2, k3, k4, k5, k6, k7, k8, k9, k10, k11, rdT_s s hs a, k13, k14, k15, k16⟩, p1, p2⟩
  · exact rdPass_f' hs _ _ h
theorem rdWill_f' (a : Int) (P : Pk) (h : PkF P) : PkF (rdWill s a P).1 := by
  unfold rdWill
  split
  · refine bnd_f h (bnd_f h (bnd_f h (rdUser_f' hs _ _ ?_)))
    obtain ⟨⟨k1, k2, k3, k4, k5, k6, k7, k8, k9, k10, k11, k12, k13, k14, k15, k16⟩, p1, p2⟩ := h
    exact ⟨⟨k1, k2, k3, k4, k5, k6, k7, k8, rdT_s s hs _, rdD_s s hs _, k11, k12, k13, k14, k15, k16⟩, p1, rdPr_f s a 0 hs⟩
  · exact rdUser_f' hs _ _ h
theorem rdConn1_f (a : Int) (P : Pk) (h : PkF P) : PkF (rdConn1 s a P).1 := by
  unfold rdConn1
  refine bnd_f h (bnd_f h (bnd_f h (rdWill_f' hs _ _ ?_)))
  obtain ⟨⟨k1, k2, k3, k4, k5, k6, k7, k8, k9, k10, k11, k12, k13, k14, k15, k16⟩, p1, p2⟩ := h
  exact ⟨⟨k1, k2, k3, k4, k5, k6, rdT_s s hs _, rdN_i s _ 2, k9, k10, k11, k12, k13, k14, k15, k16⟩, rdPr_f s _ P.kind hs, p2⟩
theorem rdConn_f (a : Int) (P : Pk) (h : PkF P) : PkF (rdConn s a P).1 := by
  unfold rdConn
  refine bnd_f h ?_
  split
  · exact h
  · refine bnd_f h ?_
    split
    · exact h
    · refine bnd_f h (rdConn1_f hs _ _ ?_)
      have n0 := (rd_nn s (rdN s (rdT s a).2.1 1).2.1 1).1
      have n1 := rd_1le s (rdN s (rdT s a).2.1 1).2.1
      have b := and3 ((VP.rd s (rdN s (rdT s a).2.1 1).2.1 1).1 / 8) (by omega) (by omega)
      obtain ⟨⟨k1, k2, k3, k4, k5, k6, k7, k8, k9, k10, k11, k12, k13, k14, k15, k16⟩, p1, p2⟩ := h
      exact ⟨⟨k1, k2, k3, k4, k5, k6, k7, k8, k9, k10, i64_of b.1 (Int.le_trans b.2 (by decide)), k12, k13, k14, k15, k16⟩, p1, p2⟩
theorem rdEndP_f (a k : Int) (P : Pk) (h : PkF P) : PkF (rdEndP s a k P).1 := by
  obtain ⟨⟨k1, k2, k3, k4, k5, k6, k7, k8, k9, k10, k11, k12, k13, k14, k15, k16⟩, p1, p2⟩ := h
  have e : (0 ≤ (rdEnd s a k).1.1 ∧ (rdEnd s a k).1.1 ≤ 255) ∧ ((rdEnd s a k).1.2.length ≤ 100 ∧ ∀ p ∈ (rdEnd s a k).1.2, Fine p) := by
    unfold rdEnd
    repeat' split
    · exact ⟨⟨Int.le_refl 0, (by decide : (0 : Int) ≤ 255)⟩, by simp, fun p hp => by cases hp⟩
    · exact ⟨⟨Int.le_refl 0, (by decide : (0 : Int) ≤ 255)⟩, by simp, fun p hp => by cases hp⟩
    · exact ⟨rdC_u8 s a, by simp, fun p hp => by cases hp⟩
    · exact ⟨rdC_u8 s a, rdPr_f s _ k hs⟩
  exact ⟨⟨k1, k2, k3, k4, k5, e.1, k7, k8, k9, k10, k11, k12, k13, k14, k15, k16⟩, e.2, p2⟩
theorem partsK_f (k a : Int) (P : Pk) (h : PkF P) : PkF (partsK k s a P).1 := by
  unfold partsK
  split
  · exact rdConn_f hs a P h
  split
  · refine bnd_f h (bnd_f h (bnd_f h ?_))
    obtain ⟨⟨k1, k2, k3, k4, k5, k6, k7, k8, k9, k10, k11, k12, k13, k14, k15, k16⟩, p1, p2⟩ := h
    exact ⟨⟨k1, k2, k3, k4, k5, rdC_u8 s _, k7, k8, k9, k10, k11, k12, k13, k14, k15, k16⟩, rdPr_f s _ k hs, p2⟩
  split
  · obtain ⟨⟨k1, k2, k3, k4, k5, k6, k7, k8, k9, k10, k11, k12, k13, k14, k15, k16⟩, p1, p2⟩ := h
    refine ⟨⟨k1, k2, ?_, rdT_s s hs a, ?_, k6, k7, k8, k9, k10, k11, k12, k13, k14, k15, k16⟩, rdPr_f s _ k hs, p2⟩
    · show I64 (rdI s (rdT s a).2.1 P.qos P.id).1
      unfold rdI
      split
      · exact rdId_i s _
      · exact k3
    · show (s.extract _ s.size).size ≤ _
      rw [ByteArray.size_extract]; omega
  split
  · refine bnd_f h (bnd_f h ?_)
    obtain ⟨⟨k1, k2, k3, k4, k5, k6, k7, k8, k9, k10, k11, k12, k13, k14, k15, k16⟩, p1, p2⟩ := h
    exact ⟨⟨k1, k2, rdId_i s a, k4, k5, k6, k7, k8, k9, k10, k11, k12, k13, k14, ⟨Nat.le_trans (lst_le _ _ 66 _ [] (by simp)) (by decide), lst_all _ _ _ (rdSub_f s hs) 66 _ [] (fun x hx => by cases hx)⟩, k16⟩, rdPr_f s _ k hs, p2⟩
  split
  · refine bnd_f h (bnd_f h ?_)
    obtain ⟨⟨k1, k2, k3, k4, k5, k6, k7, k8, k9, k10, k11, k12, k13, k14, k15, k16⟩, p1, p2⟩ := h
    exact ⟨⟨k1, k2, rdId_i s a, k4, k5, k6, k7, k8, k9, k10, k11, k12, k13, k14, k15, ⟨Nat.le_trans (lst_le _ _ 66 _ [] (by simp)) (by decide), lst_all _ _ _ (rdT_s s hs) 66 _ [] (fun x hx => by cases hx)⟩⟩, rdPr_f s _ k hs, p2⟩
  split
  · refine bnd_f h (bnd_f h ?_)
    obtain ⟨⟨k1, k2, k3, k4, k5, k6, k7, k8, k9, k10, k11, k12, k13, k14, k15, k16⟩, p1, p2⟩ := h
    exact ⟨⟨k1, k2, rdId_i s a, k4, k5, k6, k7, k8, k9, k10, k11, k12, k13, ⟨Nat.le_trans (lst_le _ _ 66 _ [] (by simp)) (by decide), lst_all _ _ (fun c => 0 ≤ c ∧ c ≤ 255) (rdC_u8 s) 66 _ [] (fun x hx => by cases hx)⟩, k15, k16⟩, rdPr_f s _ k hs, p2⟩
  split
  · refine bnd_f h (rdEndP_f hs _ _ _ ?_)
    obtain ⟨⟨k1, k2, k3, k4, k5, k6, k7, k8, k9, k10, k11, k12, k13, k14, k15, k16⟩, p1, p2⟩ := h
    exact ⟨⟨k1, k2, rdId_i s a, k4, k5, k6, k7, k8, k9, k10, k11, k12, k13, k14, k15, k16⟩, p1, p2⟩
  split
  · exact rdEndP_f hs _ _ _ h
  · exact h
end
theorem bare_f (k : Int) (d r : Bool) (q : Int) (hk : I64 k) (hq : I64 q) : PkF (barePk k d r q) := by
  have z : Short (ByteArray.mk #[]) := Nat.zero_le _
  have i0 : I64 0 := ⟨by decide, by decide⟩
  exact ⟨⟨hk, hq, i0, z, z, ⟨(by decide : (0 : Int) ≤ 0), (by decide : (0 : Int) ≤ 255)⟩, z, i0, z, z, i0, z, z, ⟨Nat.zero_le _, fun c hc => by cases hc⟩, ⟨Nat.zero_le _, fun c hc => by cases hc⟩, ⟨Nat.zero_le _, fun c hc => by cases hc⟩⟩, ⟨Nat.zero_le _, fun c hc => by cases hc⟩, ⟨Nat.zero_le _, fun c hc => by cases hc⟩⟩
theorem begPk_f (n : Int) (h0 : 0 ≤ n) (h1 : n ≤ 255) : PkF (begPk n) := by
  unfold begPk
  split
  · have b := and3 (n % 16 / 2) (by omega) (by omega)
    exact bare_f _ _ _ _ ⟨by decide, by decide⟩ (i64_of b.1 (Int.le_trans b.2 (by decide)))
  · exact bare_f _ _ _ _ ⟨by omega, by omega⟩ ⟨by decide, by decide⟩
theorem b0_u8 (s : ByteArray) : 0 ≤ b0 s ∧ b0 s ≤ 255 := by
  unfold b0
  split
  · rename_i h
    have := VP.byte_lt s 0 h
    omega
  · exact ⟨by decide, by decide⟩
theorem getPk_f (s : ByteArray) (hs : s.size ≤ 140737488351232) : PkF (getPk s).1 := by
  have hz : PkF zeroPk := bare_f 0 false false 0 ⟨by decide, by decide⟩ ⟨by decide, by decide⟩
  unfold getPk
  repeat' split
  all_goals first
    | exact hz
    | exact partsK_f hs _ _ _ (begPk_f _ (b0_u8 s).1 (b0_u8 s).2)
end PK
theorem own_codes {w : World} {B : Nat} {A : Option Addr} {n cap : Nat} {l : List Int} (h : w.ownsRow B 23 1 (.slice A n cap) n (flatC l)) : Codes w A l := fun i x hx => by
  have hn : l.length = n := by simpa [flatC] using h.1
  have hi : i < l.length := (List.getElem?_eq_some_iff.1 hx).1
  obtain ⟨g, c', hv, hg, hg'⟩ := h.form (by omega)
  injection hv with hv _ _
  subst hv
  refine ⟨g, 0, rfl, hg', ?_⟩
  rw [Nat.zero_add, ← add0]
  exact h.cells (g := g) rfl i _ (by rw [flatC, List.getElem?_map, hx]; rfl)
theorem own_texts {w : World} {B : Nat} {A : Option Addr} {n cap : Nat} {l : List ByteArray} (h : w.ownsRow B 9 1 (.slice A n cap) n (flatT l)) : Texts w A l := fun i x hx => by
  have hn : l.length = n := by simpa [flatT] using h.1
  have hi : i < l.length := (List.getElem?_eq_some_iff.1 hx).1
  obtain ⟨g, c', hv, hg, hg'⟩ := h.form (by omega)
  injection hv with hv _ _
  subst hv
  refine ⟨g, 0, rfl, hg', ?_⟩
  rw [Nat.zero_add, ← add0]
  exact h.cells (g := g) rfl i _ (by rw [flatT, List.getElem?_map, hx]; rfl)
theorem flatB_at : ∀ (l : List Sb) (i : Nat) (s : Sb), l[i]? = some s → (flatB l)[i * 5]? = some (.string s.f) ∧ (flatB l)[i * 5 + 1]? = some (.int .i64 s.q) ∧ (flatB l)[i * 5 + 2]? = some (.bool s.nl) ∧ (flatB l)[i * 5 + 3]? = some (.bool s.ap) ∧ (flatB l)[i * 5 + 4]? = some (.int .i64 s.h)
  | [], i, s, h => by simp at h
  | x :: l, 0, s, h => by simp at h; subst h; simp [flatB, Sb.cells]
  | x :: l, i + 1, s, h => by
    have ih := flatB_at l i s (by simpa using h)
    have e : ∀ j, (flatB (x :: l))[(i + 1) * 5 + j]? = (flatB l)[i * 5 + j]? := fun j => by
      have : (i + 1) * 5 + j = 5 + (i * 5 + j) := by omega
      rw [this]
      simp only [flatB, List.flatMap_cons]
      rw [List.getElem?_append_right (by simp [Sb.cells])]
      simp [Sb.cells]
    have e0 := e 0
    simp only [Nat.add_zero] at e0
    rw [e0, e 1, e 2, e 3, e 4]
    exact ih
theorem own_subs {w : World} {B : Nat} {A : Option Addr} {n cap : Nat} {l : List Sb} (hn : l.length = n) (h : w.ownsRow B 90 5 (.slice A n cap) n (flatB l)) : Subs w A l := fun i x hx => by
  have hi : i < l.length := (List.getElem?_eq_some_iff.1 hx).1
  obtain ⟨g, c', hv, hg, hg'⟩ := h.form (by omega)
  injection hv with hv _ _
  subst hv
  obtain ⟨f0, f1, f2, f3, f4⟩ := flatB_at l i x hx
  refine ⟨g, 0, rfl, hg', ?_, ?_, ?_, ?_, ?_⟩
  · rw [Nat.zero_add, ← add0]; exact h.cells (g := g) rfl _ _ f0
  · rw [Nat.zero_add, ← add0]; exact h.cells (g := g) rfl _ _ f1
  · rw [Nat.zero_add, ← add0]; exact h.cells (g := g) rfl _ _ f2
  · rw [Nat.zero_add, ← add0]; exact h.cells (g := g) rfl _ _ f3
  · rw [Nat.zero_add, ← add0]; exact h.cells (g := g) rfl _ _ f4
/-- A packet that was read, as Put takes one. -/
theorem own5_in {B : Nat} {P : Pk} {vc vp vw vs vf : Value} {w : World} (h : Own5 B P vc vp vw vs vf w) (hf : PkF P) (hT : ∀ W, Below w.heap.size w W → Tabs W) : PkIn w.heap.size w P vc vp vw vs vf := by
  obtain ⟨A1, n1, rfl⟩ := own_form h.codes
  obtain ⟨A2, n2, rfl⟩ := own_form h.props
  obtain ⟨A3, n3, rfl⟩ := own_form h.wprops
  obtain ⟨A4, n4, rfl⟩ := own_form h.subs
  obtain ⟨A5, n5, rfl⟩ := own_form h.filters
  exact ⟨hf.fine, hT, ⟨A2, n2, rfl, fun W hW => ⟨(own_props h.props).below hW, hf.pr.1, own_cap h.props, own_capmax h.props, hf.pr.2⟩⟩, ⟨A3, n3, rfl, fun W hW => ⟨(own_props h.wprops).below hW, hf.wpr.1, own_cap h.wprops, own_capmax h.wprops, hf.wpr.2⟩⟩,
    ⟨A1, n1, rfl, fun W hW => (own_codes h.codes).below hW⟩, ⟨A4, n4, rfl, fun W hW => (own_subs rfl h.subs).below hW⟩, ⟨A5, n5, rfl, fun W hW => (own_texts h.filters).below hW⟩⟩
end Go.Proofs.YtjajandjdclifaaGreatDoor
namespace Go.Proofs.YtjajandjdclifaaGreatDoor
open Go.RowKit
attribute [local go_sem ↓] Go.wp_at_zero Go.wp_at_succ

theorem own_range {B : Nat} {e : TypeId} {k : Nat} {v : Value} {n : Nat} {xs : List Value} {w w' : World} (h : w.ownsRow B e k v n xs) (hk : ∀ i, B ≤ i → i < w.heap.size → w'.heap[i]? = w.heap[i]?) : w'.ownsRow B e k v n xs := by
  refine ⟨h.1, ?_⟩
  rcases h.2 with hn | ⟨g, cap, cur, hv, hb, hg, rest⟩
  · exact .inl hn
  · exact .inr ⟨g, cap, cur, hv, hb, (hk g hb (lt_heap hg)).trans hg, rest⟩
theorem PkRow.range {B : Nat} {v : Value} {L : List Pv} {w w' : World} (h : PkRow B v L w) (hk : ∀ i, B ≤ i → i < w.heap.size → w'.heap[i]? = w.heap[i]?) : PkRow B v L w' :=
  ⟨own_range h.row hk, fun x hx => ⟨own_range (h.own x hx).codes hk, own_range (h.own x hx).props hk, own_range (h.own x hx).wprops hk, own_range (h.own x hx).subs hk, own_range (h.own x hx).filters hk⟩⟩
theorem Fd.grown {r : Nat} {m : Int} {l : List UInt8} {c : Int} {w w' : World} {row : Option Nat} (h : Fd r m l c w) (hg : w.grownBy w' row) (hr : ∀ g, row = some g → ∃ cs fz, w.heap[g]? = some (.cells cs 9 fz)) : Fd r m l c w' := by
  have key : ∀ p, FdAt r m p l c w → FdAt r m p l c w' := fun p ⟨v, h1, h2, h3⟩ => by
    have hne : row ≠ some r := fun e => by
      obtain ⟨cs, fz, h⟩ := hr r e
      rw [h1] at h; simp at h
    refine ⟨v, (hg.block r (lt_heap h1) (fun e => hne e.symm)).trans h1, h2.kept hg ?_, h3⟩
    cases hv : v.ownBlock with
    | none => exact .inl rfl
    | some g =>
      refine .inr (fun e => ?_)
      obtain ⟨cs, fz, h⟩ := hr g e.symm
      obtain ⟨cs2, fz2, h'⟩ := ownF_row h2 g hv
      rw [h] at h'; simp at h'
  rcases h with h | h
  · exact .inl (key _ h)
  · exact .inr (key _ h)
/-- A packet of a row, loaded. -/
theorem wpl_load_at {ops : Array Oper} {rest : List Oper} {op : Oper} {a : Act} {w : World} {Q : Exit → Act → World → Prop} (hgd : op.guard = none) (x : Operand) (ho : op.op = .load 31 x)
    (g o : Nat) (hx : a.eval x = .pointer (some ⟨g, o, none⟩)) {p : Pk} {vc vp vw vs vf : Value} (hc : ∀ j v, (pkCells p vc vp vw vs vf).toList[j]? = some v → w.cell? ⟨g, o + j, none⟩ = some v)
    (h : wpList Tryz.prog ops Q rest (a.put op.dst (.agg (pkCells p vc vp vw vs vf))) w) : wpList Tryz.prog ops Q (op :: rest) a w :=
  wpList_load_mid hgd 31 x ho g o hx (pkCells p vc vp vw vs vf).toList _ hc Tryz.underlying31 rfl (by kernel_rfl) h
theorem flat_at : ∀ (L : List Pv) (i : Nat) (x : Pv), L[i]? = some x → ∀ j v, x.cells[j]? = some v → (L.flatMap Pv.cells)[i * 26 + j]? = some v
  | [], i, x, h => by simp at h
  | y :: L, 0, x, h => by
    simp at h; subst h
    intro j v hv
    have hj : j < y.cells.length := (List.getElem?_eq_some_iff.1 hv).1
    rw [Nat.zero_mul, Nat.zero_add, List.flatMap_cons, List.getElem?_append_left hj]
    exact hv
  | y :: L, i + 1, x, h => by
    intro j v hv
    have hy : y.cells.length = 26 := rfl
    rw [List.flatMap_cons, show (i + 1) * 26 + j = 26 + (i * 26 + j) by omega, List.getElem?_append_right (by omega), hy, Nat.add_sub_cancel_left]
    exact flat_at L i x (by simpa using h) j v hv
theorem thr_ends (s : ByteArray) (m : Int) (f : ByteArray → Int) : ∀ (u a : Nat), a ≤ s.size → 2 * (ST.thr s m f u a).1.length + a ≤ (ST.thr s m f u a).2.1 ∧ (ST.thr s m f u a).2.1 ≤ s.size ∧ ∀ b ∈ (ST.thr s m f u a).1, b.size ≤ s.size
  | 0, a, h => ⟨by simp [ST.thr], h, fun b hb => by simp [ST.thr] at hb⟩
  | u + 1, a, h => by
    rw [ST.thr]
    by_cases h1 : (ST.first (s.extract a s.size) m).2 = 0
    · obtain ⟨k, hk, hk1, hk2⟩ := ST.first_ok _ _ h1
      rw [ByteArray.size_extract] at hk2
      rw [hk]
      simp only [Int.toNat_natCast, if_true]
      by_cases hc : f (s.extract a (a + k)) = 0
      · rw [if_pos hc]
        obtain ⟨i1, i2, i3⟩ := thr_ends s m f u (a + k) (by omega)
        refine ⟨by simp only [List.length_cons]; omega, i2, fun b hb => ?_⟩
        rcases List.mem_cons.1 hb with rfl | hb
        · rw [ByteArray.size_extract]; omega
        · exact i3 b hb
      · rw [if_neg hc]
        exact ⟨by simp, h, fun b hb => by cases hb⟩
    · rw [if_neg h1]
      exact ⟨by simp, h, fun b hb => by cases hb⟩
theorem fed_ends (m : Int) (U : ByteArray) : 2 * (ST.fed m U).1.length + (ST.left m U).length ≤ U.size ∧ ∀ b ∈ (ST.fed m U).1, b.size ≤ U.size := by
  have e : ST.fed m U = ST.thr U m (fun b => (PK.getPk b).2) (U.size + 1) 0 := by unfold ST.fed; rfl
  obtain ⟨h1, h2, h3⟩ := thr_ends U m (fun b => (PK.getPk b).2) (U.size + 1) 0 (Nat.zero_le _)
  rw [← e] at h1 h2 h3
  refine ⟨?_, h3⟩
  unfold ST.left
  split
  · simp; omega
  · have h : ∀ X : ByteArray, X.data.toList.length = X.size := fun X => by rw [Array.length_toList]; rfl
    rw [h, ByteArray.size_extract]; omega
def putVs (l : List Pk) : List Value := l.map fun P => .string (PK.putS P)
theorem putVs_app (l : List Pk) (P : Pk) : putVs (l ++ [P]) = putVs l ++ [.string (PK.putS P)] := by simp [putVs]
/-- How told's loop over packets stands. -/
structure TiI (w wr w4 : World) (m : Int) (l : List UInt8) (c : Int) (done : List Pk) (out : Value) (wi : World) : Prop where
  fd : Fd w.heap.size m l c wi
  row : wi.ownsRow (w.heap.size + 1) 9 1 out done.length (putVs done)
  apart : ∀ g, out.ownBlock = some g → g < wr.heap.size ∨ w4.heap.size ≤ g
  range : ∀ i, wr.heap.size ≤ i → i < w4.heap.size → wi.heap[i]? = w4.heap[i]?
  size : w4.heap.size ≤ wi.heap.size
  below : Below w.heap.size w wi
theorem TiI.keep {w wr w4 : World} {m : Int} {l : List UInt8} {c : Int} {done : List Pk} {out : Value} {wi wi' : World} (h : TiI w wr w4 m l c done out wi) (hb : Below wi.heap.size wi wi') : TiI w wr w4 m l c done out wi' :=
  ⟨h.fd.below hb, own_below h.row hb, h.apart, fun i h1 h2 => (hb.block i (by have := h.size; omega)).trans (h.range i h1 h2), Nat.le_trans h.size hb.size, h.below.trans (hb.mono h.below.size)⟩
end Go.Proofs.YtjajandjdclifaaGreatDoor
namespace Go.Proofs.YtjajandjdclifaaGreatDoor
open Go.RowKit
attribute [local go_sem ↓] Go.wp_at_zero Go.wp_at_succ

/-- What told answers. -/
def ToP (w : World) (X : List Pk × Int) (e : Ending) (w' : World) : Prop :=
  ∃ v, e = .returned (.tuple #[v, .int .u8 X.2]) ∧ w'.ownsRow w.heap.size 9 1 v X.1.length (putVs X.1) ∧ Below w.heap.size w w'
/-- How told's loop over pieces stands. -/
def ToI (w : World) (m : Int) (ps : List ByteArray) (k : Nat) (out : Value) (wr : World) : Prop :=
  ∃ l done, Fd w.heap.size m l 0 wr ∧ wr.ownsRow (w.heap.size + 1) 9 1 out done.length (putVs done) ∧ Below w.heap.size w wr ∧ 2 * done.length + l.length ≤ bytesOf (ps.take k) ∧ ST.tell m ps [] = (done ++ (ST.tell m (ps.drop k) l).1, (ST.tell m (ps.drop k) l).2)
theorem tell_next {m : Int} {ps : List ByteArray} {k : Nat} {s : ByteArray} (hs : ps[k]? = some s) (l : List UInt8) : ST.tell m (ps.drop k) l = if (ST.fed m ⟨(l ++ s.data.toList).toArray⟩).2.2 ≠ 0 then (ST.pks m ⟨(l ++ s.data.toList).toArray⟩, (ST.fed m ⟨(l ++ s.data.toList).toArray⟩).2.2)
    else (ST.pks m ⟨(l ++ s.data.toList).toArray⟩ ++ (ST.tell m (ps.drop (k + 1)) (ST.left m ⟨(l ++ s.data.toList).toArray⟩)).1, (ST.tell m (ps.drop (k + 1)) (ST.left m ⟨(l ++ s.data.toList).toArray⟩)).2) := by
  have hk : k < ps.length := (List.getElem?_eq_some_iff.1 hs).1
  have e : ps.drop k = s :: ps.drop (k + 1) := by
    rw [List.drop_eq_getElem_cons hk]
    rw [List.getElem?_eq_getElem hk] at hs
    injection hs with hs
    rw [hs]
  rw [e, ST.tell]
  rfl
theorem take_snoc {α : Type} {l : List α} {k : Nat} {x : α} (h : l[k]? = some x) : l.take (k + 1) = l.take k ++ [x] := by rw [List.take_add_one, h]; rfl

theorem app2 {T e : TypeId} {i : TypeInfo} {z : Value} {size bytes : Nat} (ht : Tryz.prog.underlying T = some (.slice e)) (hi : Tryz.prog.info? e = some i) (hz : i.zero = some z) (hz1 : i.size = size) (hz2 : i.bytes = bytes) (hzs : z.cells.size = size) (hs0 : 0 < size) (hby : bytes ≤ 1000)
    (base : Nat) (v : Value) (n : Nat) (xs : List Value) (w : World) (hown : w.ownsRow base e size v n xs) (hbase : base ≤ w.heap.size) (cs : Array Value) (hcs : cs.size = size) (h1 : ∀ u ∈ cs.toList, u.oneCell' = true) (hn : n < 1000000) :
    ∃ v' w', (Builtin.append_ #[T, T] T #[v, .slice (some ⟨w.heap.size, 0, none⟩) 1 1]).run Tryz.prog (w.alloc (.cells cs e)) = .ok v' w' ∧ w'.ownsRow base e size v' (n + 1) (xs ++ cs.toList) ∧ w.grownBy w' v.ownBlock ∧ Below base w w' ∧ (v'.ownBlock = v.ownBlock ∨ v'.ownBlock = some (w.heap.size + 1)) := by
  obtain ⟨v', w', hr, hown', hg, _, hat⟩ := run_append_own_at (P := Tryz.prog) (w.alloc (.cells cs e)) base T T e i z size bytes ht hi hz hz1 hz2 hzs hs0 v n xs (hown.alloc _) ⟨w.heap.size, 0, none⟩ 1 1 cs.toList
    (by simp [hcs]) (fun j u hu => World.news_of_block (heap_alloc_new w _) j u hu) h1 (by unfold maxLen; omega) (by have := Nat.mul_le_mul (show n + 1 ≤ 1000000 by omega) hby; omega) (by simp; omega)
  refine ⟨v', w', hr, hown', ⟨hg.os, hg.tape, hg.output, by have := hg.size; simp at this; omega, fun k hk hne => (hg.block k (by simp; omega) hne).trans (Below.heap_alloc w _ k hk)⟩, ?_, by simpa using hat⟩
  exact ((Below.refl base w).alloc hbase _).grown hg (by simp; omega) fun k hk => (hown.lt k hk).1

set_option maxRecDepth 100000 in
set_option maxHeartbeats 4000000 in
theorem told_any (w : World) (A : Option Addr) (cap : Nat) (ps : List ByteArray) (hl : ps.length ≤ 1000) (h : Texts w A ps) (m : Int) (hsum : bytesOf ps ≤ 1048576) (hT : ∀ W, Below w.heap.size w W → Tabs W) :
    Calls Tryz.prog 24 #[.slice A ps.length cap, .int .i64 m] w (ToP w (ST.tell m ps [])) := by
  have H := Lib.hid h
  have HTb := Lib.hid hT
  have HSum := Lib.hid hsum
  have CN := Lib.hid (new_any m w)
  obtain ⟨i0, hi0, hz0, hz1, hz2⟩ := info_parts strInfo
  have Hi := Lib.hid hi0; have Hz0 := Lib.hid hz0; have Hz1 := Lib.hid hz1; have Hz2 := Lib.hid hz2
  clear h hT hsum hi0 hz0 hz1 hz2
  obtain ⟨R, hR⟩ : ∃ R, R = ST.tell m ps [] := ⟨_, rfl⟩
  rw [← hR]
  have HR := Lib.hid hR
  clear hR
  go_enter Tryz.func24, Tryz.ntmps24
  go_wp2_with fail
  refine CN.out.mono ?_
  rintro e w1 ⟨rfl, h1, b1⟩
  have HI : Hid (ToI w m ps 0 (.slice none 0 0) w1) := Lib.hid ⟨[], [], h1, own_nil _ _ _ _, b1, by simp, by simp⟩
  clear h1 b1 CN
  go_wp2_with fail
  go_loopw [20, 7] (fun i out wr => ∃ k : Nat, i = .int .i64 k ∧ k ≤ ps.length ∧ Hid (ToI w m ps k out wr)) (fun i _ _ => ps.length - (intOf i).toNat)
  case atStart => exact ⟨0, rfl, by omega, HI⟩
  case round =>
    obtain ⟨k, rfl, hk, hst⟩ := hrel
    generalize wr = w3 at *
    obtain ⟨l, done, hf, hrow, hb, hcnt, htell⟩ := hst.out
    obtain ⟨Ao, co, rfl⟩ := own_form hrow
    have hk0 : (0 : Int) ≤ (k : Int) := by omega
    by_cases hlt : k < ps.length
    · obtain ⟨s, hs⟩ : ∃ s, ps[k]? = some s := ⟨ps[k]'hlt, List.getElem?_eq_getElem _⟩
      obtain ⟨g, o, rfl, hg, r0⟩ := H.out k s hs
      have q0 : w3.cell? ⟨g, o + k, none⟩ = some (.string s) := by rw [hb.cell (p := ⟨g, o + k, none⟩) hg]; exact r0
      have hbt := bytes_take hs
      have hbl := bytes_le ps (k + 1)
      have hsu := HSum.out
      have CF := Lib.hid (feed_any w.heap.size m l s w3 hf (by omega) (fun W hW => HTb.out W (hb.trans hW)))
      have hjs := join_size l s
      have hke := tell_next (m := m) hs l
      have hfe := fed_ends m ⟨(l ++ s.data.toList).toArray⟩
      have hpk : ST.pks m ⟨(l ++ s.data.toList).toArray⟩ = (ST.fed m ⟨(l ++ s.data.toList).toArray⟩).1.map (fun b => (PK.getPk b).1) := rfl
      have hlb := left_bad (m := m) (U := ⟨(l ++ s.data.toList).toArray⟩)
      generalize (⟨(l ++ s.data.toList).toArray⟩ : ByteArray) = U at *
      have i1 : (k : Int) < (ps.length : Int) := by omega
      have hUs : U.size ≤ 1900000 := by omega
      have hdn : 2 * done.length + U.size ≤ bytesOf (ps.take (k + 1)) := by omega
      have HB := Lib.hid hb; have HRow := Lib.hid hrow; have HTell := Lib.hid htell; have HKe := Lib.hid hke; have HPk := Lib.hid hpk; have HLb := Lib.hid hlb; have HFe := Lib.hid hfe
      have hsu2 : bytesOf (ps.take (k + 1)) ≤ 1048576 := by omega
      clear r0 hs hst hf hb hbt hbl hsu hjs hrow htell hke hpk hlb hfe hcnt
      go_wp2_with fail
      refine CF.out.mono ?_
      rintro e w4 hF
      obtain ⟨v, L, rfl, hpr, hmap, h4, k4⟩ := hF
      obtain ⟨c, hcd⟩ : ∃ c, c = (ST.fed m U).2.2 := ⟨_, rfl⟩
      have HLp : Hid (L.map Pv.p = ST.pks m U) := Lib.hid (by rw [HPk.out, hmap])
      have HLF : Hid (∀ x ∈ L, PkF x.p) := Lib.hid (fun x hx => by
        have h1 : x.p ∈ L.map Pv.p := List.mem_map.2 ⟨x, hx, rfl⟩
        rw [hmap] at h1
        obtain ⟨b, hb1, hb2⟩ := List.mem_map.1 h1
        rw [← hb2]
        exact PK.getPk_f b (Nat.le_trans (HFe.out.2 b hb1) (by omega)))
      have hLn : L.length = (ST.fed m U).1.length := by have := congrArg List.length hmap; simpa using this
      have hL2 : 2 * L.length + (ST.left m U).length ≤ U.size := by rw [hLn]; exact HFe.out.1
      rw [← hcd] at HKe HLb h4 ⊢
      have hbs := HB.out.size
      have HT4 : Hid (TiI w w3 w4 m (ST.left m U) c done (.slice Ao done.length co) w4) := Lib.hid ⟨h4, own_kp HRow.out k4 (by omega) (by decide), fun g hg => .inl (HRow.out.lt g hg).2, fun i _ _ => rfl, Nat.le_refl _, HB.out.trans k4.1⟩
      have HPR := Lib.hid hpr
      have hb4 := (HB.out.trans k4.1).size
      have hz4 := k4.1.size
      obtain ⟨Av, cv, rfl⟩ := own_form hpr.row
      clear CF h4 k4 hcd hmap hpr HPk HFe HRow hLn
      go_wp2_with fail
      go_loopw [32, 7] (fun i out wi => ∃ j : Nat, i = .int .i64 j ∧ j ≤ L.length ∧ Hid (TiI w w3 w4 m (ST.left m U) c (done ++ (L.take j).map Pv.p) out wi)) (fun i _ _ => L.length - (intOf i).toNat)
      case atStart => exact ⟨0, rfl, by omega, by simpa using HT4⟩
      case round =>
        obtain ⟨j, rfl, hj, hti⟩ := hrel
        have hlen : (done ++ (L.take j).map Pv.p).length = done.length + j := by simp; omega
        have hrow3 := hti.out.row
        rw [hlen] at hrow3
        obtain ⟨A3, c3, rfl⟩ := own_form hrow3
        have HLen := Lib.hid hlen
        clear hrow3 hlen
        have hj0 : (0 : Int) ≤ (j : Int) := by omega
        by_cases hjl : j < L.length
        · obtain ⟨x, hx⟩ : ∃ x, L[j]? = some x := ⟨L[j]'hjl, List.getElem?_eq_getElem _⟩
          have hpw := HPR.out.range hti.out.range
          obtain ⟨g2, p2', hv2, hg2, hg2'⟩ := hpw.row.form (by omega)
          injection hv2 with hv2 _ hcv
          subst hv2
          subst hcv
          have hcell : ∀ jj u, (pkCells x.p x.vc x.vp x.vw x.vs x.vf).toList[jj]? = some u → wr.cell? ⟨g2, j * 26 + jj, none⟩ = some u := fun jj u hu => by
            rw [← add0]
            exact hpw.row.cells (g := g2) rfl (j * 26 + jj) u (flat_at L j x hx jj u hu)
          have ho5 := hpw.own x (List.mem_of_getElem? hx)
          have W1 := Lib.hid (pk_one x.p ho5)
          have Z1 : Hid ((wr.alloc (.cells (pkNil PK.zeroPk) 31)).heap[wr.heap.size]? = some (.cells (pkNil PK.zeroPk) 31 (0, 0))) := Lib.hid (heap_alloc_new wr _)
          obtain ⟨wA, hwA⟩ : ∃ wA, wA = (wr.alloc (.cells (pkNil PK.zeroPk) 31)).setRow wr.heap.size (pkCells x.p x.vc x.vp x.vw x.vs x.vf) := ⟨_, rfl⟩
          have PA : Hid (wA.heap[wr.heap.size]? = some (.cells (pkCells x.p x.vc x.vp x.vw x.vs x.vf) 31 (0, 0))) := Lib.hid (by rw [hwA]; exact setRow_heap Z1.out)
          have bA : Below wr.heap.size wr wA := by rw [hwA]; exact below_setRow ((Below.refl _ _).alloc (Nat.le_refl _) _) (Nat.le_refl _) _
          have tA := hti.out.keep bA
          have CP := Lib.hid (pput_any x.p x.vc x.vp x.vw x.vs x.vf wA (own5_in (own5_below ho5 bA) (HLF.out x (List.mem_of_getElem? hx)) (fun W hW => HTb.out W (tA.below.trans (hW.mono tA.below.size)))))
          have hi1 : (j : Int) < (L.length : Int) := by omega
          have HTA := Lib.hid tA
          have HX := Lib.hid (take_snoc hx)
          have hcl := hcell
          have HWA := Lib.hid hwA
          clear hpw ho5 bA tA hti hx hwA hcell
          go_upto_region 10 with (first
            | refine wpl_load_at (by rfl) (.tmp 34) (by rfl) g2 (j * 26) (by rfl) hcl ?_
            | refine wpList_store_row (by rfl) 31 (.tmp 13) (.tmp 35) (by rfl) wr.heap.size (pkCells x.p x.vc x.vp x.vw x.vs x.vf) (by rfl) (by rfl) 31 (pkNil PK.zeroPk) Z1.out pk_info rfl W1.out ?_)
          change Code.wp _ _ _ _ ((wr.alloc (.cells (pkNil PK.zeroPk) 31)).setRow wr.heap.size (pkCells x.p x.vc x.vp x.vw x.vs x.vf))
          rw [← HWA.out]
          clear hcl HWA Z1 W1
          go_wp2_with (refine wpl_load_pk (by rfl) (.tmp 13) (by rfl) wr.heap.size (by rfl) PA.out ?_)
          refine CP.out.mono ?_
          rintro e w5 ⟨rfl, b5⟩
          have t5 := HTA.out.keep b5
          have r5 := t5.row
          rw [HLen.out] at r5
          have hlt5 := t5.fd.lt
          obtain ⟨v2, w2, hr2, hown2, hgr2, hbe2, hat2⟩ := app2 Tryz.underlying29 Hi.out Hz0.out Hz1.out Hz2.out rfl (by omega) (by omega) (w.heap.size + 1) (.slice A3 (done.length + j) c3) _ _ w5 r5 (by omega) #[.string (PK.putS x.p)] rfl (by simp [Value.oneCell']) (by omega)
          have HN : Hid (TiI w w3 w4 m (ST.left m U) c (done ++ (L.take (j + 1)).map Pv.p) v2 w2) := Lib.hid (by
            have e1 : done ++ (L.take (j + 1)).map Pv.p = (done ++ (L.take j).map Pv.p) ++ [x.p] := by rw [HX.out, List.map_append, ← List.append_assoc]; rfl
            rw [e1]
            refine ⟨t5.fd.grown hgr2 (own_row r5), ?_, fun g hg => ?_, fun i h1 h2 => ?_, Nat.le_trans t5.size hgr2.size, t5.below.trans (hbe2.mono (Nat.le_succ _))⟩
            · rw [putVs_app, List.length_append, HLen.out]
              exact hown2
            · rcases hat2 with e | e
              · exact t5.apart g (by rw [← e]; exact hg)
              · rw [e] at hg; injection hg with hg; have := t5.size; exact .inr (by omega)
            · have := t5.size
              refine (hgr2.block i (by omega) (fun e => ?_)).trans (t5.range i h1 h2)
              rcases t5.apart i e.symm with h | h <;> omega)
          obtain ⟨A4, c4, rfl⟩ := own_form hown2
          clear t5 r5 hown2 hgr2 hbe2 hat2 b5 CP HTA HX PA
          go_wp2_with (at_builtin; refine wpList_run (by rfl) (.tmp 41) (.tmp 43) _ _ (by rfl) (by rfl) (by rfl) hr2 ?_; clear hr2)
          go_roundw
          case rel => exact ⟨j + 1, by go_num, by omega, HN⟩
          case measure => simp [intOf]; omega
        · have hjL : j = L.length := by omega
          subst hjL
          have ht := hti.out
          rw [List.take_length, HLp.out] at ht
          have HTt := Lib.hid ht
          have hn1 : (done ++ ST.pks m U).length = done.length + L.length := by rw [List.length_append, ← HLp.out, List.length_map]
          have HN1 := Lib.hid hn1
          clear ht hti hn1 HLen
          by_cases hc : c = 0
          · subst hc
            have HN : Hid (ToI w m ps (k + 1) (.slice A3 (done.length + L.length) c3) wr) := Lib.hid (by
              refine ⟨ST.left m U, done ++ ST.pks m U, HTt.out.fd, HTt.out.row, HTt.out.below, by rw [HN1.out]; omega, ?_⟩
              rw [HTell.out, HKe.out, if_neg (by decide), List.append_assoc])
            clear HTt HTell HKe HN1
            go_wp2_with fail
            go_roundw
            case rel => exact ⟨k + 1, by go_num, by omega, HN⟩
            case measure => simp [intOf]; omega
          · have hne : (c != 0) = true := by rw [bne_iff_ne]; exact hc
            have HE : Hid (R = (done ++ ST.pks m U, c)) := Lib.hid (by rw [HR.out, HTell.out, HKe.out, if_pos hc])
            clear hc HTell HKe
            go_wp2_with fail
            go_ret2
            rw [HE.out]
            exact ⟨_, rfl, own_base' HTt.out.row (Nat.le_succ _), HTt.out.below⟩
    · have hkl : k = ps.length := by omega
      subst hkl
      have HE : Hid (R = (done, 0)) := Lib.hid (by rw [HR.out, htell, List.drop_length, ST.tell, List.append_nil])
      have HRow := Lib.hid hrow
      have HB := Lib.hid hb
      clear hf hrow hb hst htell hcnt
      go_wp2
      go_ret2
      rw [HE.out]
      exact ⟨_, rfl, own_base' HRow.out (Nat.le_succ _), HB.out⟩
end Go.Proofs.YtjajandjdclifaaGreatDoor
namespace Go.Proofs.YtjajandjdclifaaGreatDoor
open Go.RowKit
attribute [local go_sem ↓] Go.wp_at_zero Go.wp_at_succ

/-- A row of numbers. -/
def Ints (w : World) (A : Option Addr) (l : List Int) : Prop := ∀ (i : Nat) x, l[i]? = some x → ∃ g o, A = some ⟨g, o, none⟩ ∧ g < w.heap.size ∧ w.cell? ⟨g, o + i, none⟩ = some (.int .i64 x)
theorem joined_snoc (l : List ByteArray) (x : ByteArray) : ST.joined (l ++ [x]) = ST.joined l ++ x.data.toList := by simp [ST.joined]
theorem bytes_joined (l : List ByteArray) : bytesOf l = (ST.joined l).length := by
  induction l with
  | nil => rfl
  | cons x l ih =>
    have e : x.data.toList.length = x.size := by rw [Array.length_toList]; rfl
    simp only [ST.joined, List.flatMap_cons, List.length_append, e] at ih ⊢
    rw [← ih]
    simp [bytesOf]
theorem cut_join (X : ByteArray) (k : Nat) : (X.extract 0 k).data.toList ++ (X.extract k X.size).data.toList = X.data.toList := by
  have e : X.data.toList.length = X.size := by rw [Array.length_toList]; rfl
  have e2 : List.take (X.size - k) (List.drop k X.data.toList) = List.drop k X.data.toList := List.take_of_length_le (by rw [List.length_drop, e]; omega)
  simp
  rw [e2, List.take_append_drop]
/-- How the loop that cuts stands. -/
def CuI (w : World) (s : ByteArray) (k : Nat) (out : Value) (rest : ByteArray) (wr : World) : Prop :=
  ∃ l : List ByteArray, l.length = k ∧ wr.ownsRow w.heap.size 9 1 out l.length (flatT l) ∧ ST.joined l ++ rest.data.toList = s.data.toList ∧ Below w.heap.size w wr

set_option maxRecDepth 100000 in
set_option maxHeartbeats 2000000 in
theorem streamPieces_walk (w : World) (s : ByteArray) (A : Option Addr) (cap : Nat) (xs : List Int) (hl : xs.length ≤ maxLen) (h : Ints w A xs) (hc : xs.length ≤ cap) (m : Int) (hsum : s.size ≤ 1048576) (hT : ∀ W, Below w.heap.size w W → Tabs W) :
    Calls Tryz.prog 9 #[.string s, .slice A xs.length cap, .int .i64 m] w fun e w' => e = .returned (.bool true) ∧ Below w.heap.size w w' := by
  unfold maxLen at hl
  have H := Lib.hid h
  have HTb := Lib.hid hT
  obtain ⟨i0, hi0, hz0, hz1, hz2⟩ := info_parts strInfo
  have Hi := Lib.hid hi0; have Hz0 := Lib.hid hz0; have Hz1 := Lib.hid hz1; have Hz2 := Lib.hid hz2
  obtain ⟨n, hm, hm1, hm2⟩ : ∃ n : Nat, min (xs.length : Int) 100 = (n : Int) ∧ n ≤ 100 ∧ n ≤ xs.length := by
    by_cases h80 : xs.length ≤ 100
    · exact ⟨xs.length, by omega, by omega, by omega⟩
    · exact ⟨100, by omega, by omega, by omega⟩
  have hm3 : ((n : Int)).toNat = n := by omega
  have hm4 : max (n : Int) 0 = n := by omega
  have Hm := Lib.hid hm
  have HI : Hid (CuI w s 0 (.slice none 0 0) s w) := Lib.hid ⟨[], rfl, own_nil _ _ _ _, by simp [ST.joined], Below.refl _ _⟩
  clear h hT hm hi0 hz0 hz1 hz2
  go_enter Tryz.func9, Tryz.ntmps9
  go_wp2
  rw [Hm.out, hm3, hm4]
  clear hm3 hm4 Hm
  go_loopw [24, 7, 8] (fun i out rest wr => ∃ (k : Nat) (R : ByteArray), i = .int .i64 k ∧ k ≤ n ∧ rest = .string R ∧ Hid (CuI w s k out R wr)) (fun i _ _ _ => n - (intOf i).toNat)
  case atStart => exact ⟨0, s, rfl, by omega, rfl, HI⟩
  case round =>
    obtain ⟨k, R, rfl, hk, rfl, hst⟩ := hrel
    obtain ⟨l, hlk, hrow, hjo, hb⟩ := hst.out
    obtain ⟨Ao, co, rfl⟩ := own_form hrow
    have hk0 : (0 : Int) ≤ (k : Int) := by omega
    have hRs : R.size ≤ 1048576 := by
      have := congrArg List.length hjo
      have e : ∀ X : ByteArray, X.data.toList.length = X.size := fun X => by rw [Array.length_toList]; rfl
      rw [List.length_append, e, e] at this; omega
    by_cases hlt : k < n
    · obtain ⟨x, hx⟩ : ∃ x, xs[k]? = some x := ⟨xs[k]'(by omega), List.getElem?_eq_getElem _⟩
      obtain ⟨g, o, rfl, hg, r0⟩ := H.out k x hx
      have q0 : wr.cell? ⟨g, o + k, none⟩ = some (.int .i64 x) := by rw [hb.cell (p := ⟨g, o + k, none⟩) hg]; exact r0
      have i1 : (k : Int) < (n : Int) := by omega
      have hsr := hb.size
      obtain ⟨q, hq, hq1⟩ : ∃ q : Nat, min (max 0 x % 8) (R.size : Int) = (q : Int) ∧ q ≤ R.size := by
        have h1 : 0 ≤ max 0 x % 8 := by omega
        obtain ⟨y, hy⟩ := Int.eq_ofNat_of_zero_le h1
        rw [hy]
        exact ⟨min y R.size, by omega, by omega⟩
      have hs1 := st_upto R q hq1
      have hs2 := st_from R q hq1
      have hcj := cut_join R q
      generalize hX1 : R.extract 0 q = X1 at *
      generalize hX2 : R.extract q R.size = X2 at *
      obtain ⟨v2, w2, hr2, hown2, _, hb2⟩ := app1 Tryz.underlying29 Hi.out Hz0.out Hz1.out Hz2.out rfl (by omega) (by omega) w.heap.size (.slice Ao l.length co) l.length _ wr hrow (by omega) #[.string X1] rfl (by simp [Value.oneCell']) (by omega)
      have HN : Hid (CuI w s (k + 1) v2 X2 w2) := Lib.hid ⟨l ++ [X1], by simp [hlk], by simpa [flatT] using hown2, by rw [joined_snoc, List.append_assoc, hcj]; exact hjo, hb.trans hb2⟩
      obtain ⟨A4, c4, rfl⟩ := own_form hown2
      clear r0 hx hst hrow hjo hb hown2 hb2 hcj hX1 hX2 hlk
      go_wp2_with (at_builtin; refine wpList_run (by rfl) (.tmp 34) (.tmp 38) _ _ (by rfl) (by rfl) (by rfl) hr2 ?_; clear hr2)
      go_roundw
      case rel => exact ⟨k + 1, X2, by go_num, by omega, rfl, HN⟩
      case measure => simp [intOf]; omega
    · have hkn : k = n := by omega
      subst hkn
      have hsr := hb.size
      obtain ⟨v2, w2, hr2, hown2, _, hb2⟩ := app1 Tryz.underlying29 Hi.out Hz0.out Hz1.out Hz2.out rfl (by omega) (by omega) w.heap.size (.slice Ao l.length co) l.length _ wr hrow (by omega) #[.string R] rfl (by simp [Value.oneCell']) (by omega)
      have hjn : ST.joined (l ++ [R]) = s.data.toList := by rw [joined_snoc]; exact hjo
      have hrow2 : w2.ownsRow w.heap.size 9 1 v2 (l ++ [R]).length (flatT (l ++ [R])) := by simpa [flatT] using hown2
      have hpl : (l ++ [R]).length ≤ 1000 := by simp; omega
      have hb3 := hb.trans hb2
      generalize hps : l ++ [R] = ps at *
      obtain ⟨A4, c4, rfl⟩ := own_form hrow2
      have e : ∀ X : ByteArray, X.data.toList.length = X.size := fun X => by rw [Array.length_toList]; rfl
      have hby : bytesOf ps ≤ 1048576 := by rw [bytes_joined, hjn, e]; exact hsum
      have HX : Hid (ST.tell m ps [] = ST.tell m [s] []) := Lib.hid (by
        rw [ST.tell_start, ST.tell_start, hjn]
        simp [ST.joined])
      have hal := (Below.refl w2.heap.size w2).alloc (Nat.le_refl _) (.cells #[.string s] 9)
      have hsz2 := hb3.size
      have hB1 : Below w.heap.size w (w2.alloc (.cells #[.string s] 9)) := hb3.trans (hal.mono hsz2)
      have hTx1 : Texts (w2.alloc (.cells #[.string s] 9)) (some ⟨w2.heap.size, 0, none⟩) [s] := fun i x hx => by
        match i, hx with
        | 0, hx =>
          simp at hx; subst hx
          exact ⟨w2.heap.size, 0, rfl, by simp, by rw [cell_heap (heap_alloc_new w2 _)]; rfl⟩
      have C1 := Lib.hid (told_any (w2.alloc (.cells #[.string s] 9)) (some ⟨w2.heap.size, 0, none⟩) 1 [s] (by simp) hTx1 m (by simpa [bytesOf] using hsum) (fun W hW => HTb.out W (hB1.trans (hW.mono hB1.size))))
      have HB1 := Lib.hid hB1
      have HTx2 := Lib.hid (own_texts hrow2)
      have HAl := Lib.hid hal
      have hpl2 : ps.length = l.length + 1 := by rw [← hps]; simp
      have HPl := Lib.hid hpl2
      have HBy := Lib.hid hby
      obtain ⟨X, hXd⟩ : ∃ X, X = ST.tell m [s] [] := ⟨_, rfl⟩
      rw [← hXd] at C1 HX
      have Hstr : Hid (∀ u ∈ putVs X.1, ∃ su, u = .string su) := Lib.hid (fun u hu => by obtain ⟨a, _, rfl⟩ := List.mem_map.1 hu; exact ⟨_, rfl⟩)
      have hle : (putVs X.1).length ≤ 1048576 := by
        have h1 := fed_ends m (ST.bs s.data.toList)
        have h2 : X.1 = ST.pks m (ST.bs s.data.toList) := by
          rw [hXd, ST.tell_start]
          simp [ST.joined]
        have h3 : (putVs X.1).length = (ST.fed m (ST.bs s.data.toList)).1.length := by rw [h2]; simp [putVs, ST.pks]
        rw [ST.bs_size, e] at h1
        omega
      have Hll : Hid (X.1.length = (putVs X.1).length) := Lib.hid (by simp [putVs])
      unfold ToP at C1
      rw [Hll.out] at C1
      obtain ⟨c, hcd⟩ : ∃ c, c = X.2 := ⟨_, rfl⟩
      have HCd := Lib.hid hcd
      rw [← hcd] at C1
      clear hrow hjo hb hst hown2 hrow2 hjn hb2 hb3 hal hB1 hTx1 hps hXd e hby hpl2 hlk hcd HI H
      go_wp2_with (at_builtin; refine wpList_run (by rfl) (.tmp 44) (.tmp 46) _ _ (by rfl) (by rfl) (by rfl) hr2 ?_; clear hr2)
      refine C1.out.mono ?_
      rintro e w5 ⟨v5, rfl, ho5, b5⟩
      obtain ⟨A5, c5, rfl⟩ := own_form ho5
      have hB5 := HB1.out.trans (b5.mono HB1.out.size)
      have hA5 := HAl.out.trans (b5.mono HAl.out.size)
      have C2 : Hid (Calls Tryz.prog 24 #[.slice A4 ps.length c4, .int .i64 m] w5 fun e w' => ∃ v, e = .returned (.tuple #[v, .int .u8 c]) ∧ w'.ownsRow w5.heap.size 9 1 v (putVs X.1).length (putVs X.1) ∧ Below w5.heap.size w5 w') := Lib.hid (by
        have := told_any w5 A4 c4 ps hpl (HTx2.out.below hA5) m HBy.out (fun W hW => HTb.out W (hB5.trans (hW.mono hB5.size)))
        rw [HX.out] at this
        unfold ToP at this
        rw [Hll.out, ← HCd.out] at this
        exact this)
      have HB5 := Lib.hid hB5
      have Ho5 := Lib.hid ho5
      clear C1 HX Hll b5 hB5 hA5 ho5 HB1 HAl HTx2 HCd HPl
      generalize putVs X.1 = us at *
      go_wp2_with fail
      refine C2.out.mono ?_
      rintro e w6 ⟨v6, rfl, ho6, b6⟩
      obtain ⟨A6, c6, rfl⟩ := own_form ho6
      have B6 := Lib.hid b6
      have Ho6 := Lib.hid ho6
      have HB6 := Lib.hid (HB5.out.trans (b6.mono HB5.out.size))
      have CW := Lib.hid (swakes_any w6 (fun W hW => HTb.out W (HB6.out.trans (hW.mono HB6.out.size))))
      clear C2 ho6 b6 HB5
      go_wp2_with fail
      refine CW.out.mono ?_
      rintro e w7 ⟨rfl, b7⟩
      have B7 := Lib.hid b7
      have HB7 := Lib.hid (HB6.out.trans (b7.mono HB6.out.size))
      have hnn : ((us.length : Int) != (us.length : Int)) = false := by simp
      have hcc : (c != c) = false := by simp
      have hs6 := B6.out.size
      have hs7 := B7.out.size
      clear CW b7 HB6
      go_wp2_with fail
      go_loopw [77] (fun i wr => ∃ k : Nat, i = .int .i64 k ∧ k ≤ us.length ∧ Hid (Below w7.heap.size w7 wr)) (fun i _ => us.length - (intOf i).toNat)
      case atStart => exact ⟨0, rfl, by omega, Lib.hid (Below.refl _ _)⟩
      case round =>
        obtain ⟨j, rfl, hj, hbr⟩ := hrel
        by_cases hlt2 : j < us.length
        · obtain ⟨u, hu⟩ : ∃ u, us[j]? = some u := ⟨us[j], List.getElem?_eq_getElem hlt2⟩
          obtain ⟨su, rfl⟩ := Hstr.out u (List.mem_of_getElem? hu)
          obtain ⟨g4, p4', hv4, hg4, hg4'⟩ := Ho5.out.form (by omega)
          injection hv4 with hv4 _ hc4'
          subst hv4
          obtain ⟨g5, p5', hv5, hg5, hg5'⟩ := Ho6.out.form (by omega)
          injection hv5 with hv5 _ hc5'
          subst hv5
          have e4 : w5.cell? ⟨g4, j, none⟩ = some (.string su) := by rw [← add0]; exact Ho5.out.cells (g := g4) rfl j _ hu
          have e5 : w6.cell? ⟨g5, j, none⟩ = some (.string su) := by rw [← add0]; exact Ho6.out.cells (g := g5) rfl j _ hu
          have f4 : wr.cell? ⟨g4, j, none⟩ = some (.string su) := by rw [hbr.out.cell (p := ⟨g4, j, none⟩) (by simp; omega), B7.out.cell (p := ⟨g4, j, none⟩) (by simp; omega), B6.out.cell (p := ⟨g4, j, none⟩) hg4']; exact e4
          have f5 : wr.cell? ⟨g5, j, none⟩ = some (.string su) := by rw [hbr.out.cell (p := ⟨g5, j, none⟩) (by simp; omega), B7.out.cell (p := ⟨g5, j, none⟩) hg5']; exact e5
          have i1 : (0 : Int) ≤ (j : Int) := by omega
          have i2 : (j : Int) < (us.length : Int) := by omega
          clear e4 e5 hu hc4' hc5'
          go_wp2_with fail
          go_quiet (fail)
          go_wp2
          go_roundw
          case rel => exact ⟨j + 1, by go_num, by omega, Lib.hid (hbr.out.trans (drewN_below _ _ _))⟩
          case measure => simp [intOf]; omega
        · have hkl : j = us.length := by omega
          subst hkl
          go_wp2
          go_ret
          exact ⟨rfl, HB7.out.trans (hbr.out.mono HB7.out.size)⟩
end Go.Proofs.YtjajandjdclifaaGreatDoor
namespace Go.Proofs.YtjajandjdclifaaGreatDoor
open Go.RowKit Go.ChangeShapes Go.WideShapes Go.Deep

theorem bulk_app {H : Type} (l r : List (DataW H)) : Rows.uptoBulkAll (l ++ r) = Rows.uptoBulkAll l + Rows.uptoBulkAll r := by
  induction l with
  | nil => simp [Rows.uptoBulkAll]
  | cons x l ih => simp only [List.cons_append, Rows.uptoBulkAll, ih]; omega
theorem bulk_bound {H : Type} {l : List (DataW H)} (hk : Rows.uptoSmall H l = true) : Rows.uptoBulkAll l ≤ 1048576 := of_decide_eq_true hk
theorem bulk_string {H : Type} (s : ByteArray) : Rows.uptoBulk (DataW.lit (H := H) (.string s.data.toList)) = s.size + 1 := by
  have e : s.data.toList.length = s.size := by rw [Array.length_toList]; rfl
  simp only [Rows.uptoBulk, e]
theorem bulk_texts {H : Type} (l : List ByteArray) : bytesOf l ≤ Rows.uptoBulkAll (l.map fun s => DataW.lit (H := H) (.string s.data.toList)) := by
  induction l with
  | nil => simp [bytesOf, Rows.uptoBulkAll]
  | cons x l ih =>
    simp only [List.map_cons, Rows.uptoBulkAll, bulk_string]
    simp [bytesOf] at ih ⊢
    omega
theorem trod_lt' {H : Type} {enc : TypeId × Value → H} {P : Program} {w : World} {base : Nat} {spare : Nat → Bool} {held : Bool} {t : TypeId} {v : Value} {d : DataW H} {ps : List MemPlace} (h : DataW.Trod enc P w base spare held t v d ps) : ∀ x ∈ ps, x.block < w.heap.size := by
  obtain ⟨n, hn⟩ := h
  exact DataW.trod_lt n t _ _ hn
theorem cell_in {w : World} {a : Addr} {v : Value} (h : w.cell? a = some v) : a.block < w.heap.size := by
  rcases Nat.lt_or_ge a.block w.heap.size with h' | h'
  · exact h'
  · exfalso
    have e : w.heap[a.block]? = none := Array.getElem?_eq_none h'
    simp [World.cell?, e] at h
theorem texts_len : Tryz.prog.cellsOf 9 = 1 := by kernel_rfl
set_option maxRecDepth 100000 in
/-- An argument of texts. -/
theorem open_texts {H : Type} {enc : TypeId × Value → H} {w : World} {v : Value} {d : DataW H} {ps : List MemPlace} {r : Reach} {b0 : Nat} (hv : Value.okWide Tryz.prog w r b0 29 v) (h : DataW.Trod enc Tryz.prog w 0 (fun _ => true) true 29 v d ps) :
    ∃ A cap l, v = .slice A l.length cap ∧ l.length ≤ maxLen ∧ Texts w A l ∧ l.length ≤ cap ∧ bytesOf l ≤ Rows.uptoBulk d := by
  obtain ⟨A0, l0, c0, rfl⟩ := okWide_slice Tryz.underlying29 hv
  obtain ⟨n, hn⟩ := h
  rcases open_strs Tryz.underlying29 Tryz.underlying9 texts_len hn with ⟨hc, hx⟩ | ⟨a, len, cap, m, Sx, hc, _, hl, hm, hmm, hx, hi⟩
  · have e1 : Value.slice A0 l0 c0 = .slice none 0 0 := (List.cons.inj (show [Value.slice A0 l0 c0] = _ from hc)).1
    exact ⟨none, 0, [], e1, by simp [maxLen], fun i x hx => by simp at hx, Nat.le_refl _, by simp [bytesOf]⟩
  · have e1 : Value.slice A0 l0 c0 = .slice (some a) len cap := (List.cons.inj (show [Value.slice A0 l0 c0] = _ from hc)).1
    have hmc : m = cap := by simpa using hmm
    have hd : d = .slice ((List.range len).map fun i => .lit (.string (Sx i).data.toList)) ((List.range (m - len)).map fun j => .lit (.string (Sx (len + j)).data.toList)) := congrArg Prod.fst hx
    refine ⟨some a, cap, (List.range len).map Sx, by simpa using e1, by simp; omega, ?_, by simpa using hl, ?_⟩
    · intro i x hx
      rw [List.getElem?_map] at hx
      have hil : i < len := by
        rcases Nat.lt_or_ge i len with h' | h'
        · exact h'
        · rw [List.getElem?_eq_none (by simpa using h')] at hx; cases hx
      rw [List.getElem?_range hil] at hx
      simp at hx
      subst hx
      have h1 := (hi i (by omega)).1
      obtain ⟨b, o, spot⟩ := a
      have hspot : spot = none := by simpa [Addr.add] using World.cell?_spot (hi 0 (by omega)).1
      subst hspot
      rw [add_plain] at h1
      exact ⟨b, o, rfl, cell_in h1, h1⟩
    · rw [hd]
      simp only [Rows.uptoBulk]
      have := bulk_texts (H := H) ((List.range len).map Sx)
      rw [List.map_map] at this
      have e : ((fun s : ByteArray => DataW.lit (H := H) (.string s.data.toList)) ∘ Sx) = fun i => .lit (.string (Sx i).data.toList) := rfl
      rw [e] at this
      omega
end Go.Proofs.YtjajandjdclifaaGreatDoor
namespace Go.Proofs.YtjajandjdclifaaGreatDoor
open Go.RowKit Go.ChangeShapes Go.WideShapes Go.Deep

theorem nums_len : Tryz.prog.cellsOf 3 = 1 := by kernel_rfl
set_option maxRecDepth 100000 in
/-- An argument of numbers. -/
theorem open_nums {H : Type} {enc : TypeId × Value → H} {w : World} {v : Value} {d : DataW H} {ps : List MemPlace} {r : Reach} {b0 : Nat} (hv : Value.okWide Tryz.prog w r b0 34 v) (h : DataW.Trod enc Tryz.prog w 0 (fun _ => true) true 34 v d ps) :
    ∃ A cap l, v = .slice A l.length cap ∧ l.length ≤ maxLen ∧ Ints w A l ∧ l.length ≤ cap ∧ 0 ≤ Rows.uptoBulk d := by
  obtain ⟨A0, l0, c0, rfl⟩ := okWide_slice Tryz.underlying34 hv
  obtain ⟨n, hn⟩ := h
  rcases open_ints Tryz.underlying34 Tryz.underlying3 nums_len hn with ⟨hc, hx⟩ | ⟨a, len, cap, zs, hc, _, hl, hm, hlen, hx, hi, _⟩
  · have e1 : Value.slice A0 l0 c0 = .slice none 0 0 := (List.cons.inj (show [Value.slice A0 l0 c0] = _ from hc)).1
    exact ⟨none, 0, [], e1, by simp [maxLen], fun i x hx => by simp at hx, Nat.le_refl _, Nat.zero_le _⟩
  · have e1 : Value.slice A0 l0 c0 = .slice (some a) len cap := (List.cons.inj (show [Value.slice A0 l0 c0] = _ from hc)).1
    have hzl : zs.length = cap := by simpa using hlen
    have htl : (zs.take len).length = len := by rw [List.length_take]; omega
    refine ⟨some a, cap, zs.take len, by rw [htl]; exact e1, by rw [htl]; omega, ?_, by rw [htl]; exact hl, Nat.zero_le _⟩
    intro i x hy
    have hil : i < len := by have := (List.getElem?_eq_some_iff.1 hy).1; omega
    have h1 := hi i (by omega)
    obtain ⟨b, o, spot⟩ := a
    have hspot : spot = none := by simpa [Addr.add] using World.cell?_spot (hi 0 (by omega))
    subst hspot
    rw [add_plain] at h1
    rw [List.getElem?_take_of_lt hil] at hy
    rw [List.getD_eq_getElem?_getD, hy] at h1
    exact ⟨b, o, rfl, cell_in h1, h1⟩
end Go.Proofs.YtjajandjdclifaaGreatDoor
