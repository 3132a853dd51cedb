/- stream.through, with whatever function it hands the packets to.; A stream's reader: a strings.Builder in a struct, that is written on behind its own String.; A stream's reader: what its builder holds, as a string.; The function that Feed hands a packet's bytes to.; A region that draws its order and whose last operations write what its first ones load: loads are taken first as long as the last ones wait.; A region of the law's made that draws its order: a Publish is built and laid down. (Written by wip/tools/gen_tw.py.) -/
import Derived.Test.YtemfcaaoobjgkaaGreatDoorMD
import Derived.WalkMore
import Derived.Test.YtemfcaaoobjgkaaGreatDoorPkWr
import Derived.Lib.FrozenHead
import Derived.Deep.RegionHeld3
import Derived.Deep.AppendLies
namespace Go.Proofs.YtemfcaaoobjgkaaGreatDoor
open Go.RowKit

set_option maxRecDepth 100000 in
set_option maxHeartbeats 2000000 in
/-- Inv l W: what holds behind the packets l. -/
theorem through_any (K : FuncId) (cap : Array Value) (f : ByteArray → Int) (Inv : List ByteArray → World → Prop) (s : ByteArray) (most : Int) (hs : s.size ≤ 140737488351232)
    (hK : ∀ (args : Array Value) (W : World), (callFunc K args).run Tryz.prog W = .ok (.enter K args) W)
    (hC : ∀ (l : List ByteArray) (a k : Nat) (W : World), Inv l W → 2 * l.length ≤ a → 2 ≤ k → a + k ≤ s.size → Calls Tryz.prog K (#[.string (s.extract a (a + k))] ++ cap) W fun e W' => e = .returned (.int .u8 (f (s.extract a (a + k)))) ∧ (f (s.extract a (a + k)) = 0 → Inv (l ++ [s.extract a (a + k)]) W') ∧ (f (s.extract a (a + k)) ≠ 0 → Inv l W'))
    (w : World) (h0 : Inv [] w) :
    Calls Tryz.prog 16 #[.string s, .int .i64 most, .func (.func K) #[] cap] w fun e w' =>
      e = .returned (.tuple #[.int .i64 (ST.thr s most f (s.size + 1) 0).2.1, .int .u8 (ST.thr s most f (s.size + 1) 0).2.2]) ∧ Inv (ST.thr s most f (s.size + 1) 0).1 w' := by
  have HC := Lib.hid hC
  have HI := Lib.hid h0
  have HT := Lib.hid (ST.Thr.start s most f)
  obtain ⟨R, hR⟩ : ∃ R, R = ST.thr s most f (s.size + 1) 0 := ⟨_, rfl⟩
  rw [← hR]
  have HR := Lib.hid hR
  clear hC h0 hR
  go_enter Tryz.func16, Tryz.ntmps16
  go_wp2
  go_step3
  go_wp2
  go_step3
  go_wp2
  go_loopw [8] (fun i wr => ∃ (a : Nat) (l : List ByteArray), i = .int .i64 a ∧ a ≤ s.size ∧ Hid (ST.Thr s most f l a ∧ Inv l wr)) (fun i _ => s.size - (intOf i).toNat)
  case atStart => exact ⟨0, [], rfl, by omega, Lib.hid ⟨HT.out, HI.out⟩⟩
  case round =>
    obtain ⟨a, l, rfl, ha, hrl⟩ := hrel
    obtain ⟨ht, hi⟩ := hrl.out
    have hsl := st_from s a ha
    have CF := Lib.hid (first_any (s.extract a s.size) most (by rw [ByteArray.size_extract]; omega))
    have h2 := ht.size.2
    by_cases hf : (ST.first (s.extract a s.size) most).2 = 0
    · obtain ⟨k, hk, hk1, hk2⟩ := ST.first_ok _ _ hf
      rw [ByteArray.size_extract] at hk2
      rw [hk] at CF
      simp only at CF
      have hak : a + k ≤ s.size := by omega
      have hsp := st_part s a k hak
      have D := Lib.hid (HC.out l a k wr hi h2 hk1 hak)
      have HT2 := Lib.hid (fun h => ht.step hk hk1 hak h)
      have HL2 := Lib.hid (fun h => ht.left hk h)
      generalize f (s.extract a (a + k)) = c at *
      clear hf hk ht hi hrl hk2
      by_cases hc : c = 0
      · subst hc
        go_wp2_with fail
        refine (CF.out _).mono ?_
        rintro e w' ⟨rfl, rfl⟩
        go_wp2_with fail
        refine D.out.mono ?_
        rintro e w' ⟨rfl, hi, _⟩
        have HN : Hid (ST.Thr s most f (l ++ [s.extract a (a + k)]) (a + k) ∧ Inv (l ++ [s.extract a (a + k)]) w') := Lib.hid ⟨HT2.out trivial, hi trivial⟩
        clear D HT2 HL2 hi CF HC HI HT
        go_wp2
        go_roundw
        case rel => exact ⟨a + k, _, by go_num, by omega, HN⟩
        case measure => simp [intOf]; omega
      · have hne : (c != 0) = true := by rw [bne_iff_ne]; exact hc
        go_wp2_with fail
        refine (CF.out _).mono ?_
        rintro e w' ⟨rfl, rfl⟩
        go_wp2_with fail
        refine D.out.mono ?_
        rintro e w' ⟨rfl, _, hi⟩
        have HE : Hid (R = (l, a, c)) := Lib.hid (by rw [HR.out]; exact HL2.out hc)
        have HN : Hid (Inv l w') := Lib.hid (hi hc)
        clear D HT2 HL2 hi CF HC HI HT hc
        go_wp2
        try rw [Exit.noGoto_ret]
        go_ret2
        rw [HE.out]
        exact ⟨rfl, HN.out⟩
    · have HL := Lib.hid (ht.stop hf)
      have HN := Lib.hid hi
      generalize ST.first (s.extract a s.size) most = X at *
      obtain ⟨k, c⟩ := X
      simp only at CF hf HL
      have hne : (c == 0) = false := by rw [beq_eq_false_iff_ne]; exact hf
      clear ht hi hrl HC HI HT
      by_cases h242 : c = 242
      · subst h242
        go_wp2_with fail
        refine (CF.out _).mono ?_
        rintro e w' ⟨rfl, rfl⟩
        go_wp2
        try rw [Exit.noGoto_ret]
        go_ret2
        rw [HR.out, HL.out]
        exact ⟨rfl, HN.out⟩
      · have h2 : (c == 242) = false := by rw [beq_eq_false_iff_ne]; exact h242
        have HL2 : Hid (R = (l, a, c)) := Lib.hid (by rw [HR.out, HL.out, if_neg h242])
        clear HL HR h242 hf
        go_wp2_with fail
        refine (CF.out _).mono ?_
        rintro e w' ⟨rfl, rfl⟩
        go_wp2
        try rw [Exit.noGoto_ret]
        go_ret2
        rw [HL2.out]
        exact ⟨rfl, HN.out⟩
end Go.Proofs.YtemfcaaoobjgkaaGreatDoor
namespace Go.Proofs.YtemfcaaoobjgkaaGreatDoor
open Go.RowKit

/-- The reader in block r: the most, the bytes l that are left, the code c; 'p': whether its builder was used. -/
def FdAt (r : Nat) (m : Int) (p : Value) (l : List UInt8) (c : Int) (w : World) : Prop :=
  ∃ v, w.heap[r]? = some (.cells #[.int .i64 m, p, v, .int .u8 c] 68 (0, 0)) ∧ w.ownsRowF r 5 1 v l.length (Lib.byteCells l) ∧ v.ownBlock ≠ some r
def Fd (r : Nat) (m : Int) (l : List UInt8) (c : Int) (w : World) : Prop := FdAt r m (.pointer none) l c w ∨ FdAt r m (.pointer (some ⟨r, 1, none⟩)) l c w
theorem FdAt.lt {r : Nat} {m : Int} {p : Value} {l : List UInt8} {c : Int} {w : World} (h : FdAt r m p l c w) : r < w.heap.size := by
  obtain ⟨v, h1, _⟩ := h; exact lt_heap h1
theorem Fd.lt {r : Nat} {m : Int} {l : List UInt8} {c : Int} {w : World} (h : Fd r m l c w) : r < w.heap.size := by
  rcases h with h | h <;> exact h.lt
theorem ownF_below {B : Nat} {e : TypeId} {k : Nat} {v : Value} {n : Nat} {xs : List Value} {w w' : World} (h : w.ownsRowF B e k v n xs) (hb : Below w.heap.size w w') : w'.ownsRowF B e k v n xs :=
  h.kept (row := none) ⟨hb.os, hb.tape, hb.output, hb.size, fun i hi _ => hb.block i hi⟩ (by cases hv : v.ownBlock <;> simp)
theorem FdAt.below {r : Nat} {m : Int} {p : Value} {l : List UInt8} {c : Int} {w w' : World} (h : FdAt r m p l c w) (hb : Below w.heap.size w w') : FdAt r m p l c w' := by
  obtain ⟨v, h1, h2, h3⟩ := h
  exact ⟨v, (hb.block r (lt_heap h1)).trans h1, ownF_below h2 hb, h3⟩
theorem Fd.below {r : Nat} {m : Int} {l : List UInt8} {c : Int} {w w' : World} (h : Fd r m l c w) (hb : Below w.heap.size w w') : Fd r m l c w' := by
  rcases h with h | h
  · exact .inl (h.below hb)
  · exact .inr (h.below hb)
theorem ownF_set {w : World} {b j : Nat} {B : Nat} {e : TypeId} {k : Nat} {v u : Value} {n : Nat} {xs : List Value} (h : w.ownsRowF B e k v n xs) (hne : v.ownBlock ≠ some b) : (w.setCell ⟨b, j, none⟩ u).ownsRowF B e k v n xs :=
  h.kept (row := some b) ⟨rfl, rfl, rfl, by simp [World.setCell], fun i _ hi => Below.heap_setCell _ _ _ _ (fun e => hi (by simp [e]))⟩ (.inr hne)
theorem ownF_row {w : World} {B : Nat} {e : TypeId} {k : Nat} {v : Value} {n : Nat} {xs : List Value} (h : w.ownsRowF B e k v n xs) : ∀ g, v.ownBlock = some g → ∃ c fz, w.heap[g]? = some (.cells c e fz) := by
  intro g hg
  rcases h.2 with ⟨rfl, _⟩ | ⟨g', c, u, fz, rfl, _, hh, _⟩
  · cases hg
  · simp only [Value.ownBlock, Option.some.injEq] at hg
    subst hg
    exact ⟨_, _, hh⟩
theorem ownF_form {B : Nat} {e : TypeId} {k : Nat} {v : Value} {n : Nat} {xs : List Value} {w : World} (h : w.ownsRowF B e k v n xs) : ∃ A cap, v = .slice A n cap := by
  rcases h.2 with ⟨rfl, rfl⟩ | ⟨g, cap, cur, fz, rfl, _⟩
  · exact ⟨_, _, rfl⟩
  · exact ⟨_, _, rfl⟩
theorem fbldLies : liesAt Tryz.prog Tryz.prog.depth 68 (4 / Tryz.prog.cellsOf 68) 1 66 1 = true := by kernel_rfl

set_option maxHeartbeats 1000000 in
set_option maxRecDepth 100000 in
theorem fcopy_used (r : Nat) (w : World) (h0 : w.cell? ⟨r, 1, none⟩ = some (.pointer (some ⟨r, 1, none⟩))) :
    Calls Tryz.prog 30 #[.pointer (some ⟨r, 1, none⟩)] w fun e w' => e = .returned (.tuple #[]) ∧ w = w' := by
  obtain ⟨j, hj, _⟩ := bldInfo
  have hn := Lib.run_neq_ptr_same (P := Tryz.prog) w ⟨r, 1, none⟩ Tryz.underlying63 hj
  clear hj
  go_enter Tryz.func30, Tryz.ntmps30
  go_wp2
  go_end0
  exact ⟨rfl, rfl⟩
set_option maxHeartbeats 1000000 in
set_option maxRecDepth 100000 in
theorem fcopy_fresh (r : Nat) (w : World) (h0 : w.cell? ⟨r, 1, none⟩ = some (.pointer none)) (hsh : w.shape? r = some (68, 4)) (hfz : w.frozen? ⟨r, 1, none⟩ = false) :
    Calls Tryz.prog 30 #[.pointer (some ⟨r, 1, none⟩)] w fun e w' => e = .returned (.tuple #[]) ∧ w.setCell ⟨r, 1, none⟩ (.pointer (some ⟨r, 1, none⟩)) = w' := by
  obtain ⟨j, hj, hjs⟩ := bldInfo
  have r1 := Lib.run_to_unsafe (P := Tryz.prog) w ⟨r, 1, none⟩ Tryz.underlying63 Tryz.underlying132 hj (by rw [hjs]; decide) hsh (show (1 : Nat) < 4 by decide)
  have r2 := Lib.run_from_unsafe (P := Tryz.prog) w ⟨r, 1, none⟩ Tryz.underlying132 Tryz.underlying63 hj hsh fbldLies
  clear hj hjs hsh
  go_enter Tryz.func30, Tryz.ntmps30
  go_wp2
  rw [run_callFunc_extern Tryz.func62 (by kernel_rfl) (by kernel_rfl) (by kernel_rfl) (e := Extern.AbiNoEscape.same) (by kernel_rfl)]
  rw [Lib.run_noEscape]
  simp only [Result.andThen]
  rw [Oper.upon_value]
  go_wp2
  go_end0
  exact ⟨rfl, rfl⟩
theorem fcopy_any (r : Nat) (m : Int) (l : List UInt8) (c : Int) (w : World) (h : Fd r m l c w) :
    Calls Tryz.prog 30 #[.pointer (some ⟨r, 1, none⟩)] w fun e w' => e = .returned (.tuple #[]) ∧ FdAt r m (.pointer (some ⟨r, 1, none⟩)) l c w' ∧ Kp r w w' := by
  rcases h with ⟨v, h1, h2, h3⟩ | ⟨v, h1, h2, h3⟩
  · refine (fcopy_fresh r w (by rw [cell_heap h1]; rfl) (by simp [World.shape?, h1]) (frozen_heap h1)).mono ?_
    rintro e w' ⟨rfl, rfl⟩
    exact ⟨rfl, ⟨v, set_block h1 rfl, ownF_set h2 h3, h3⟩, (Kp.refl r w).setCell 1 _⟩
  · refine (fcopy_used r w (by rw [cell_heap h1]; rfl)).mono ?_
    rintro e w' ⟨rfl, rfl⟩
    exact ⟨rfl, ⟨v, h1, h2, h3⟩, Kp.refl r w⟩

set_option maxHeartbeats 2000000 in
set_option maxRecDepth 100000 in
theorem fwrite_any (r : Nat) (m : Int) (l : List UInt8) (c : Int) (s : ByteArray) (w : World) (h : Fd r m l c w) (hn : l.length + s.size ≤ 140737488355328) :
    Calls Tryz.prog 14 #[.pointer (some ⟨r, 1, none⟩), .string s] w fun e w' => e = .returned (.tuple #[.int .i64 s.size, .nilIface]) ∧ Fd r m (l ++ s.data.toList) c w' ∧ Kp r w w' := by
  have C := Lib.hid (fcopy_any r m l c w h)
  obtain ⟨i0, hi, hz0, hz1, hz2⟩ := info_parts byteInfo
  have Hi := Lib.hid hi; have Hz0 := Lib.hid hz0; have Hz1 := Lib.hid hz1; have Hz2 := Lib.hid hz2
  clear hi hz0 hz1 hz2 h
  go_enter Tryz.func14, Tryz.ntmps14
  go_wp2_with fail
  refine C.out.mono ?_
  rintro e w1 ⟨rfl, ⟨v, h1, h2, h3⟩, k1⟩
  obtain ⟨ao, cap, rfl⟩ := ownF_form h2
  have hlt := lt_heap h1
  obtain ⟨v', w2, hr, ho, hg, _⟩ := Lib.run_append_own_stringF (P := Tryz.prog) w1 r 64 9 64 5 i0 Tryz.underlying64 Tryz.underlying9 Hi.out Hz0.out Hz1.out Hz2.out _ _ _ h2 s (by unfold maxLen; omega) hn (Nat.le_of_lt hlt)
  have hb2 : w2.heap[r]? = some (.cells #[.int .i64 m, .pointer (some ⟨r, 1, none⟩), .slice ao l.length cap, .int .u8 c] 68 (0, 0)) := (hg.block r hlt (fun e => h3 e.symm)).trans h1
  have k2 : Kp r w w2 := k1.trans ⟨(Below.refl r w1).grown hg (Nat.le_of_lt hlt) (fun k hk => (h2.lt k hk).1), (Lib.OthersKept.refl _ _ _).grown hg (ownF_row h2)⟩
  have hne := Lib.ownBlock_neF ho hb2 (by decide)
  have HW : Hid (Fd r m (l ++ s.data.toList) c (w2.setCell ⟨r, 2, none⟩ v')) := .inr ⟨v', set_block hb2 rfl, by
    refine ownF_set ?_ hne
    rw [byteCells_app] at ho
    have e : (l ++ s.data.toList).length = l.length + s.size := by rw [List.length_append]; congr 1
    rw [e]; exact ho, hne⟩
  have HK : Hid (Kp r w (w2.setCell ⟨r, 2, none⟩ v')) := k2.setCell 2 _
  have c0 : w1.cell? ⟨r, 1, none⟩ = some (.pointer (some ⟨r, 1, none⟩)) := by rw [cell_heap h1]; rfl
  have c1 : w1.cell? ⟨r, 2, none⟩ = some (.slice ao l.length cap) := by rw [cell_heap h1]; rfl
  have d1 : w2.cell? ⟨r, 2, none⟩ = some (.slice ao l.length cap) := by rw [cell_heap hb2]; rfl
  have f1 : w2.frozen? ⟨r, 2, none⟩ = false := frozen_heap hb2
  obtain ⟨A2, cap2, rfl⟩ := ownF_form ho
  clear C h1 h2 h3 k1 ho hg hb2 k2 hne Hi Hz0 Hz1 Hz2
  go_wp2_with (at_builtin; refine wpList_run (by rfl) (.tmp 12) (.tmp 13) _ _ (by rfl) (by rfl) (by rfl) hr ?_; clear hr)
  go_ret2
  exact ⟨rfl, HW.out, HK.out⟩

set_option maxHeartbeats 1000000 in
set_option maxRecDepth 100000 in
theorem freset_any (r : Nat) (m : Int) (l : List UInt8) (c : Int) (w : World) (h : Fd r m l c w) :
    Calls Tryz.prog 19 #[.pointer (some ⟨r, 1, none⟩)] w fun e w' => e = .returned (.tuple #[]) ∧ Fd r m [] c w' ∧ Kp r w w' := by
  obtain ⟨p, v, h1, h2, h3⟩ : ∃ p, FdAt r m p l c w := by
    rcases h with h | h
    · exact ⟨_, h⟩
    · exact ⟨_, h⟩
  have HB1 := set_block (j := 1) (u := .pointer none) (cs' := #[.int .i64 m, .pointer none, v, .int .u8 c]) h1 rfl
  have HB2 := set_block (j := 2) (u := .slice none 0 0) (cs' := #[.int .i64 m, .pointer none, .slice none 0 0, .int .u8 c]) HB1 rfl
  have HW : Hid (Fd r m [] c ((w.setCell ⟨r, 1, none⟩ (.pointer none)).setCell ⟨r, 2, none⟩ (.slice none 0 0))) := .inl ⟨_, HB2, World.ownsRowF_nil _ _ _ _, by simp [Value.ownBlock]⟩
  have HK : Hid (Kp r w ((w.setCell ⟨r, 1, none⟩ (.pointer none)).setCell ⟨r, 2, none⟩ (.slice none 0 0))) := ((Kp.refl r w).setCell 1 _).setCell 2 _
  have c1 : w.cell? ⟨r, 1, none⟩ = some p := by rw [cell_heap h1]; rfl
  have c2 : w.cell? ⟨r, 2, none⟩ = some v := by rw [cell_heap h1]; rfl
  have f1 : w.frozen? ⟨r, 1, none⟩ = false := frozen_heap h1
  have f2 : w.frozen? ⟨r, 2, none⟩ = false := frozen_heap h1
  clear h h1 h2 h3 HB1 HB2
  go_enter Tryz.func19, Tryz.ntmps19
  go_wp2
  go_end0
  exact ⟨rfl, HW.out, HK.out⟩
end Go.Proofs.YtemfcaaoobjgkaaGreatDoor
namespace Go.Proofs.YtemfcaaoobjgkaaGreatDoor
open Go.RowKit

theorem freeze_other {w : World} {g k n : Nat} (h : k ≠ g) : (w.freeze ⟨g, 0, none⟩ n).heap[k]? = w.heap[k]? := by
  unfold World.freeze
  split
  · rfl
  · simp [Array.getElem?_modify, Ne.symm h]
theorem freeze_self {w : World} {g n m : Nat} {cur : Array Value} {e : TypeId} {fz : Nat × Nat} (h : w.heap[g]? = some (.cells cur e fz)) (hf : fz.2 ≤ m) (hn : n ≤ m) : ∃ fz', (w.freeze ⟨g, 0, none⟩ n).heap[g]? = some (.cells cur e fz') ∧ fz'.2 ≤ m := by
  obtain ⟨lo, hi⟩ := fz
  unfold World.freeze
  split
  · exact ⟨_, h, hf⟩
  · simp [Array.getElem?_modify, h]
    simp only at hf
    split
    · simp; omega
    · simp; omega
theorem freeze_size {w : World} {g n : Nat} : (w.freeze ⟨g, 0, none⟩ n).heap.size = w.heap.size := by
  unfold World.freeze
  split
  · rfl
  · simp
theorem Kp.freeze {r g n : Nat} {w : World} {cur : Array Value} {fz : Nat × Nat} (hr : r ≤ g) (h : w.heap[g]? = some (.cells cur 5 fz)) : Kp r w (w.freeze ⟨g, 0, none⟩ n) :=
  ⟨Lib.below_freeze (Below.refl r w) (p := ⟨g, 0, none⟩) hr n, fun k o hk hb he => by
    by_cases e : k = g
    · subst e; rw [h] at hk; injection hk with hk; exact absurd hk.symm (he _ _)
    · exact (freeze_other e).trans hk⟩
theorem Kp.drew {b : Nat} {w w' : World} (h : Kp b w.drew w') : Kp b w w' := ⟨⟨h.1.os, h.1.tape, h.1.output, h.1.size, h.1.block⟩, h.2⟩

set_option maxHeartbeats 2000000 in
set_option maxRecDepth 100000 in
theorem fstr_any (r : Nat) (m : Int) (x : UInt8) (t : List UInt8) (c : Int) (w : World) (h : Fd r m (x :: t) c w) :
    Calls Tryz.prog 15 #[.pointer (some ⟨r, 1, none⟩)] w fun e w' => e = .returned (.string ⟨(x :: t).toArray⟩) ∧ Fd r m (x :: t) c w' ∧ Kp r w w' := by
  obtain ⟨p, hp, v, h1, h2, h3⟩ : ∃ p, (p = .pointer none ∨ p = .pointer (some ⟨r, 1, none⟩)) ∧ FdAt r m p (x :: t) c w := by
    rcases h with h | h
    · exact ⟨_, .inl rfl, h⟩
    · exact ⟨_, .inr rfl, h⟩
  obtain ⟨g, cap, cur, fz, rfl, hbg, hg, hfz, hnc, hcm, hcs, htake⟩ : ∃ g cap cur fz, v = .slice (some ⟨g, 0, none⟩) (x :: t).length cap ∧ r ≤ g ∧ w.heap[g]? = some (.cells cur 5 fz) ∧ fz.2 ≤ (x :: t).length * 1 ∧ (x :: t).length ≤ cap ∧ cap ≤ maxLen ∧ cur.size = cap * 1 ∧ cur.toList.take ((x :: t).length * 1) = Lib.byteCells (x :: t) := by
    rcases h2.2 with ⟨_, hz⟩ | ⟨g, cap, cur, fz, hv, rr⟩
    · simp at hz
    · exact ⟨g, cap, cur, fz, hv, rr⟩
  have hl0 : 0 < (x :: t).length := by simp
  have hrg : r ≠ g := fun e => h3 (by simp [Value.ownBlock, e])
  have c1 : w.cell? ⟨r, 2, none⟩ = some (.slice (some ⟨g, 0, none⟩) (x :: t).length cap) := by rw [cell_heap h1]; rfl
  have hSD : (Builtin.unsafeSliceData_ #[64] 94 #[.slice (some ⟨g, 0, none⟩) (x :: t).length cap]).run Tryz.prog w.drew = .ok (.pointer (some ⟨g, 0, none⟩)) w.drew := Lib.run_unsafeSliceData_row _ _ _ _ _ _ (by omega)
  have hUS : (Builtin.unsafeString_ #[94, 3] 9 #[.pointer (some ⟨g, 0, none⟩), .int .i64 (x :: t).length]).run Tryz.prog w.drew = .ok (.string ⟨(x :: t).toArray⟩) (w.drew.freeze ⟨g, 0, none⟩ (x :: t).length) := by
    refine Lib.run_unsafeString_row w.drew 94 3 9 5 Tryz.underlying94 (by kernel_rfl) g cur.size (by have hg' : w.drew.heap[g]? = some (.cells cur 5 fz) := hg; simp [World.shape?, hg']) (x :: t) (by simp) (by omega) (by unfold maxLen at hcm; omega) ?_
    intro j y hy
    exact h2.cells (g := g) rfl j (.int .u8 y.toNat) (by rw [Lib.byteCells, List.getElem?_map, hy]; rfl)
  have HF : Hid (Fd r m (x :: t) c (w.drew.freeze ⟨g, 0, none⟩ (x :: t).length)) := Lib.hid (by
    obtain ⟨fz', e1, e2⟩ := freeze_self (n := (x :: t).length) (m := (x :: t).length * 1) (show w.drew.heap[g]? = some (.cells cur 5 fz) from hg) hfz (by omega)
    have e3 : (w.drew.freeze ⟨g, 0, none⟩ (x :: t).length).heap[r]? = some (.cells #[.int .i64 m, p, .slice (some ⟨g, 0, none⟩) (x :: t).length cap, .int .u8 c] 68 (0, 0)) := (freeze_other hrg).trans h1
    have e4 : FdAt r m p (x :: t) c (w.drew.freeze ⟨g, 0, none⟩ (x :: t).length) := ⟨_, e3, ⟨h2.1, .inr ⟨g, cap, cur, fz', rfl, hbg, e1, e2, hnc, hcm, hcs, htake⟩⟩, h3⟩
    rcases hp with rfl | rfl
    · exact .inl e4
    · exact .inr e4)
  have HK : Hid (Kp r w (w.drew.freeze ⟨g, 0, none⟩ (x :: t).length)) := Lib.hid (Kp.drew (Kp.freeze hbg (show w.drew.heap[g]? = some (.cells cur 5 fz) from hg)))
  generalize x :: t = l at *
  clear h h1 h2 h3 hg hcs htake hnc hcm hl0 hfz hp
  go_enter Tryz.func15, Tryz.ntmps15
  go_wp2
  go_region
  all_goals
    go_wp2
    go_ret
    exact ⟨rfl, HF.out, HK.out⟩

set_option maxHeartbeats 2000000 in
set_option maxRecDepth 100000 in
theorem fstr_empty (r : Nat) (m : Int) (c : Int) (w : World) (h : Fd r m [] c w) :
    Calls Tryz.prog 15 #[.pointer (some ⟨r, 1, none⟩)] w fun e w' => e = .returned (.string ⟨#[]⟩) ∧ Fd r m [] c w' ∧ Kp r w w' := by
  have hlt := h.lt
  have HH := Lib.hid h
  obtain ⟨p, v, h1, h2, h3⟩ : ∃ p, FdAt r m p [] c w := by
    rcases h with h | h
    · exact ⟨_, h⟩
    · exact ⟨_, h⟩
  have hUS := us_none
  have fin : ∀ w', Below w.heap.size w w' → Fd r m [] c w' ∧ Kp r w w' := fun w' hb => ⟨HH.out.below hb, Kp.of_below (Nat.le_of_lt hlt) hb⟩
  have FIN := Lib.hid fin
  clear fin
  rcases h2.2 with ⟨rfl, _⟩ | ⟨g, cap, cur, fz, rfl, hbg, hg, _, _, _, _, _⟩
  · have c1 : w.cell? ⟨r, 2, none⟩ = some (.slice none 0 0) := by rw [cell_heap h1]; rfl
    have hSD : (Builtin.unsafeSliceData_ #[64] 94 #[.slice none 0 0]).run Tryz.prog w.drew = .ok (.pointer none) w.drew := rfl
    clear h h1 h2 h3
    go_enter Tryz.func15, Tryz.ntmps15
    go_wp2
    go_region
    all_goals
      go_wp2
      go_ret
      exact ⟨rfl, FIN.out _ (Below.drew (Below.refl _ w))⟩
  · have c1 : w.cell? ⟨r, 2, none⟩ = some (.slice (some ⟨g, 0, none⟩) 0 cap) := by rw [cell_heap h1]; rfl
    by_cases hc0 : cap = 0
    · subst hc0
      have hSD : (Builtin.unsafeSliceData_ #[64] 94 #[.slice (some ⟨g, 0, none⟩) 0 0]).run Tryz.prog w.drew = .ok (.pointer (some ⟨w.drew.heap.size, 0, none⟩)) (w.drew.alloc (.view ⟨g, 0, none⟩ 5)) :=
        Lib.run_unsafeSliceData_zero w.drew _ _ 5 Tryz.underlying94 ⟨g, 0, none⟩ 0 (5, cur.size) (by have hg' : w.drew.heap[g]? = some (.cells cur 5 fz) := hg; simp [World.shape?, hg'])
      have c3 : (w.alloc (.view ⟨g, 0, none⟩ 5)).drew.cell? ⟨r, 2, none⟩ = some (.slice (some ⟨g, 0, none⟩) 0 0) := by
        have e : (w.alloc (.view ⟨g, 0, none⟩ 5)).drew.heap[r]? = some (.cells #[.int .i64 m, p, .slice (some ⟨g, 0, none⟩) 0 0, .int .u8 c] 68 (0, 0)) := (heap_alloc_old w _ hlt).trans h1
        rw [cell_heap e]; rfl
      clear h h1 h2 h3 hg
      go_enter Tryz.func15, Tryz.ntmps15
      go_wp2
      go_region
      all_goals
        go_wp2
        go_ret
        exact ⟨rfl, FIN.out _ ((Below.drew (Below.refl _ w)).alloc (Nat.le_refl _) _)⟩
    · have hSD : (Builtin.unsafeSliceData_ #[64] 94 #[.slice (some ⟨g, 0, none⟩) 0 cap]).run Tryz.prog w.drew = .ok (.pointer (some ⟨g, 0, none⟩)) w.drew := Lib.run_unsafeSliceData_row _ _ _ _ _ _ hc0
      clear h h1 h2 h3 hg hc0
      go_enter Tryz.func15, Tryz.ntmps15
      go_wp2
      go_region
      all_goals
        go_wp2
        go_ret
        exact ⟨rfl, FIN.out _ (Below.drew (Below.refl _ w))⟩
theorem fstring_any (r : Nat) (m : Int) (l : List UInt8) (c : Int) (w : World) (h : Fd r m l c w) :
    Calls Tryz.prog 15 #[.pointer (some ⟨r, 1, none⟩)] w fun e w' => e = .returned (.string ⟨l.toArray⟩) ∧ Fd r m l c w' ∧ Kp r w w' := by
  cases l with
  | nil => exact fstr_empty r m c w h
  | cons x t => exact fstr_any r m x t c w h
end Go.Proofs.YtemfcaaoobjgkaaGreatDoor
namespace Go.Proofs.YtemfcaaoobjgkaaGreatDoor
open Go.RowKit
attribute [local go_sem ↓] Go.wp_at_zero Go.wp_at_succ

/-- A packet and the values of its five rows. -/
structure Pv where
  p : Pk
  vc : Value
  vp : Value
  vw : Value
  vs : Value
  vf : Value
def Pv.cells (x : Pv) : List Value := (pkCells x.p x.vc x.vp x.vw x.vs x.vf).toList
def Pv.Own (x : Pv) (B : Nat) (w : World) : Prop := Own5 B x.p x.vc x.vp x.vw x.vs x.vf w
/-- A row of packets. -/
structure PkRow (B : Nat) (v : Value) (L : List Pv) (w : World) : Prop where
  row : w.ownsRow B 45 26 v L.length (L.flatMap Pv.cells)
  own : ∀ x ∈ L, x.Own B w
theorem own5_kept {B : Nat} {P : Pk} {vc vp vw vs vf : Value} {w w' : World} {row : Option Nat} (h : Own5 B P vc vp vw vs vf w) (hg : w.grownBy w' row) (hr : ∀ g, row = some g → ∃ c fz, w.heap[g]? = some (.cells c 45 fz)) : Own5 B P vc vp vw vs vf w' := by
  have key : ∀ {e : TypeId} {k : Nat} {v : Value} {n : Nat} {xs : List Value}, e ≠ 45 → w.ownsRow B e k v n xs → w'.ownsRow B e k v n xs := fun {e k v n xs} he ho => by
    refine ho.kept hg ?_
    cases hv : v.ownBlock with
    | none => exact .inl rfl
    | some g =>
      refine .inr (fun e' => ?_)
      obtain ⟨c, fz, h1⟩ := hr g e'.symm
      obtain ⟨c2, fz2, h2⟩ := own_row ho g hv
      rw [h1] at h2
      simp at h2
      exact he h2.2.1.symm
  exact ⟨key (by decide) h.codes, key (by decide) h.props, key (by decide) h.wprops, key (by decide) h.subs, key (by decide) h.filters⟩
theorem own5_base {B C : Nat} {P : Pk} {vc vp vw vs vf : Value} {w : World} (h : Own5 B P vc vp vw vs vf w) (hC : C ≤ B) : Own5 C P vc vp vw vs vf w :=
  ⟨own_base' h.codes hC, own_base' h.props hC, own_base' h.wprops hC, own_base' h.subs hC, own_base' h.filters hC⟩
theorem own5_below {B : Nat} {P : Pk} {vc vp vw vs vf : Value} {w w' : World} (h : Own5 B P vc vp vw vs vf w) (hb : Below w.heap.size w w') : Own5 B P vc vp vw vs vf w' :=
  ⟨own_below h.codes hb, own_below h.props hb, own_below h.wprops hb, own_below h.subs hb, own_below h.filters hb⟩
theorem own5_set {B b j : Nat} {P : Pk} {vc vp vw vs vf u : Value} {w : World} (h : Own5 B P vc vp vw vs vf w) (hb : b < B) : Own5 B P vc vp vw vs vf (w.setCell ⟨b, j, none⟩ u) :=
  ⟨own_set h.codes (row_ne h.codes hb), own_set h.props (row_ne h.props hb), own_set h.wprops (row_ne h.wprops hb), own_set h.subs (row_ne h.subs hb), own_set h.filters (row_ne h.filters hb)⟩
theorem PkRow.below {B : Nat} {v : Value} {L : List Pv} {w w' : World} (h : PkRow B v L w) (hb : Below w.heap.size w w') : PkRow B v L w' := ⟨own_below h.row hb, fun x hx => own5_below (h.own x hx) hb⟩
theorem PkRow.base {B C : Nat} {v : Value} {L : List Pv} {w : World} (h : PkRow B v L w) (hC : C ≤ B) : PkRow C v L w := ⟨own_base' h.row hC, fun x hx => own5_base (h.own x hx) hC⟩
theorem PkRow.set {B b j : Nat} {v u : Value} {L : List Pv} {w : World} (h : PkRow B v L w) (hb : b < B) : PkRow B v L (w.setCell ⟨b, j, none⟩ u) := ⟨own_set h.row (row_ne h.row hb), fun x hx => own5_set (h.own x hx) hb⟩
theorem pkInfo : ∃ z n, (Tryz.prog.info? 45).map (fun i => (i.zero, i.size, i.bytes)) = some (some z, 26, n) ∧ z.cells.size = 26 ∧ n ≤ 1000 := ⟨.agg (pkNil PK.zeroPk), 328, by kernel_rfl, rfl, by decide⟩

theorem fill_pk26 (P : Pk) (vc vp vw vs vf : Value) : Array.foldl (fun (cs : Array Value) (x : Value × Nat) => cs.setIfInBounds x.2 x.1) #[.int .i64 0, .bool false, .bool false, .int .i64 0, .int .i64 0, .string ⟨#[]⟩, .string ⟨#[]⟩, .int .u8 0, .slice none 0 0, .slice none 0 0, .string ⟨#[]⟩, .bool false, .int .i64 0, .bool false, .string ⟨#[]⟩, .string ⟨#[]⟩, .int .i64 0, .bool false, .slice none 0 0, .bool false, .bool false, .string ⟨#[]⟩, .string ⟨#[]⟩, .bool false, .slice none 0 0, .slice none 0 0] (pkCells P vc vp vw vs vf).zipIdx 0 26 = pkCells P vc vp vw vs vf := by
  kernel_rfl

/-- What Feed's function keeps: the packets so far, in a row that the variable in block p holds. -/
def FoI (p : Nat) (w : World) (l : List ByteArray) (W : World) : Prop :=
  ∃ v L, W.heap[p]? = some (.cells #[v] 29 (0, 0)) ∧ PkRow (p + 1) v L W ∧ L.map Pv.p = l.map (fun b => (PK.getPk b).1) ∧ p + 1 ≤ W.heap.size ∧ Below p w W
theorem FoI.below {p : Nat} {w W W' : World} {l : List ByteArray} (h : FoI p w l W) (hb : Below W.heap.size W W') : FoI p w l W' := by
  obtain ⟨v, L, h1, h2, h3, h4, h5⟩ := h
  exact ⟨v, L, (hb.block _ (lt_heap h1)).trans h1, h2.below hb, h3, Nat.le_trans h4 hb.size, h5.trans (hb.mono (by omega))⟩

set_option maxRecDepth 100000 in
set_option maxHeartbeats 1000000 in
theorem feed1_any (p : Nat) (w : World) (l : List ByteArray) (b : ByteArray) (hb : b.size ≤ 140737488351232) (hl : l.length < 1000000) (hT : ∀ W, Below p w W → Tabs W) (W : World) (h : FoI p w l W) :
    Calls Tryz.prog 17 #[.string b, .pointer (some ⟨p, 0, none⟩)] W fun e W' => e = .returned (.int .u8 (PK.getPk b).2) ∧ ((PK.getPk b).2 = 0 → FoI p w (l ++ [b]) W') ∧ ((PK.getPk b).2 ≠ 0 → FoI p w l W') := by
  obtain ⟨v, L, hv, hrow, hLl, hp1, hbe⟩ := id h
  have HF := Lib.hid h
  have CG := Lib.hid (get_pk_any b hb W (fun W' hW => hT W' (hbe.trans (hW.mono (by omega)))))
  obtain ⟨P, hP⟩ : ∃ P, P = (PK.getPk b).1 := ⟨_, rfl⟩
  have HPE := Lib.hid hP
  unfold GtP at CG
  rw [← hP] at CG
  generalize (PK.getPk b).2 = c at *
  clear hP h hT
  have HV := Lib.hid hv
  have HR := Lib.hid hrow
  have HL := Lib.hid hLl
  have HB := Lib.hid hbe
  have hLn : L.length = l.length := by have := congrArg List.length hLl; simpa using this
  clear hv hrow hLl hbe
  by_cases hc : c = 0
  · subst hc
    go_enter Tryz.func17, Tryz.ntmps17
    go_wp2_with fail
    refine CG.out.mono ?_
    rintro e w1 ⟨h1, _, b1⟩
    obtain ⟨vc, vp, vw, vs, vf, rfl, o1⟩ := h1 trivial
    have W1 := Lib.hid (pk_one P o1)
    have Z1 : Hid ((w1.alloc (.cells (pkNil PK.zeroPk) 45)).heap[w1.heap.size]? = some (.cells (pkNil PK.zeroPk) 45 (0, 0))) := Lib.hid (heap_alloc_new w1 _)
    go_upto_region 2 with (refine wpList_store_row (by rfl) 45 (.tmp 4) (.tmp 9) (by rfl) w1.heap.size (pkCells P vc vp vw vs vf) (by rfl) (by rfl) 45 (pkNil PK.zeroPk) Z1.out pk_info rfl W1.out ?_)
    obtain ⟨wA, hwA⟩ : ∃ wA, wA = (w1.alloc (.cells (pkNil PK.zeroPk) 45)).setRow w1.heap.size (pkCells P vc vp vw vs vf) := ⟨_, rfl⟩
    have PA : Hid (wA.heap[w1.heap.size]? = some (.cells (pkCells P vc vp vw vs vf) 45 (0, 0))) := Lib.hid (by rw [hwA]; exact setRow_heap Z1.out)
    have bA : Below w1.heap.size w1 wA := by rw [hwA]; exact below_setRow ((Below.refl _ _).alloc (Nat.le_refl _) _) (Nat.le_refl _) _
    change Code.wp _ _ _ _ ((w1.alloc (.cells (pkNil PK.zeroPk) 45)).setRow w1.heap.size (pkCells P vc vp vw vs vf))
    rw [← hwA]
    have hWA : Below W.heap.size W wA := b1.trans (bA.mono b1.size)
    have vA := (hWA.block _ (lt_heap HV.out)).trans HV.out
    have rA := HR.out.below hWA
    have oA := own5_base (own5_below o1 bA) hp1
    obtain ⟨z, nb, hinf, hzs, hnb⟩ := pkInfo
    obtain ⟨i0, hi0, hz0, hz1, hz2⟩ := info_parts hinf
    have hpA : p + 1 ≤ wA.heap.size := Nat.le_trans hp1 hWA.size
    obtain ⟨v2, w2, hr2, hown2, hg2, hb2⟩ := app1 Tryz.underlying29 hi0 hz0 hz1 hz2 hzs (by decide) hnb (p + 1) v L.length _ wA rA.row hpA (pkCells P vc vp vw vs vf) rfl (fun u hu => by have := W1.out; rw [Array.all_eq_true'] at this; exact this u (by simpa using hu)) (by omega)
    have hp2 := (hg2.block p (by omega) (fun e => by have := (rA.row.lt _ e.symm).1; omega)).trans vA
    obtain ⟨A2, c2, rfl⟩ := own_form hown2
    have q0 : wA.cell? ⟨p, 0, none⟩ = some v := by rw [cell_heap vA]; rfl
    have q2 : w2.cell? ⟨p, 0, none⟩ = some v := by rw [cell_heap hp2]; rfl
    have f2 : w2.frozen? ⟨p, 0, none⟩ = false := frozen_heap hp2
    have HN : Hid (FoI p w (l ++ [b]) (w2.setCell ⟨p, 0, none⟩ (.slice A2 (L.length + 1) c2))) := Lib.hid (by
      have hrr : ∀ g, v.ownBlock = some g → ∃ c fz, wA.heap[g]? = some (.cells c 45 fz) := own_row rA.row
      refine ⟨_, L ++ [⟨P, vc, vp, vw, vs, vf⟩], one_setCell hp2, PkRow.set ⟨by simpa [Pv.cells] using hown2, fun x hx => ?_⟩ (by omega), by rw [List.map_append, List.map_append, HL.out, HPE.out]; rfl, by simp [World.setCell]; have := hg2.size; omega, ?_⟩
      · rcases List.mem_append.1 hx with hx | hx
        · exact own5_kept (rA.own x hx) hg2 hrr
        · simp at hx; subst hx; exact own5_kept oA hg2 hrr
      · have h5 := ((HB.out.trans (hWA.mono (by omega))).trans (hb2.mono (Nat.le_succ p)))
        exact ⟨h5.os, h5.tape, h5.output, by simp [World.setCell]; exact h5.size, fun i hi => (Below.heap_setCell _ _ _ _ (fun e => by simp at e; omega)).trans (h5.block i hi)⟩)
    have hcz : (pkCells P vc vp vw vs vf).size = 26 := rfl
    clear hLn
    clear hwA Z1 b1 bA hWA vA rA oA o1 hinf hzs hnb hi0 hz0 hz1 hz2 hown2 hg2 hb2 hp2 HB HR HL HV CG HF
    go_wp2_with (first
      | refine wpl_load_pk (by rfl) (.tmp 4) (by rfl) w1.heap.size (by rfl) PA.out ?_
      | (at_builtin; simp only [fill_pk26]; refine wpList_run (by rfl) (.tmp 13) (.tmp 15) _ _ (by rfl) (by rfl) (by rfl) hr2 ?_; clear hr2))
    go_ret
    exact ⟨rfl, fun _ => HN.out, fun h => absurd rfl h⟩
  · have e1 : (c == 0) = false := by rw [beq_eq_false_iff_ne]; exact hc
    have HC := Lib.hid hc
    clear hc
    go_enter Tryz.func17, Tryz.ntmps17
    go_wp2_with fail
    refine CG.out.mono ?_
    rintro e w1 ⟨_, h1, b1⟩
    obtain rfl := h1 HC.out
    have O1 := Lib.hid (pkNil_one PK.zeroPk)
    have Z1 : Hid ((w1.alloc (.cells (pkNil PK.zeroPk) 45)).heap[w1.heap.size]? = some (.cells (pkNil PK.zeroPk) 45 (0, 0))) := Lib.hid (heap_alloc_new w1 _)
    have HN : Hid (FoI p w l ((w1.alloc (.cells (pkNil PK.zeroPk) 45)).setRow w1.heap.size (pkNil PK.zeroPk))) := Lib.hid (HF.out.below (b1.trans ((below_setRow ((Below.refl _ _).alloc (Nat.le_refl _) _) (Nat.le_refl _) _ : Below w1.heap.size w1 _).mono b1.size)))
    clear b1 h1 HF CG HV HR HL HB
    go_wp2_with (refine wpList_store_row (by rfl) 45 (.tmp 4) (.tmp 9) (by rfl) w1.heap.size (pkNil PK.zeroPk) (by rfl) (by rfl) 45 (pkNil PK.zeroPk) Z1.out pk_info rfl O1.out ?_)
    go_ret
    exact ⟨rfl, fun h => absurd h HC.out, fun _ => HN.out⟩
end Go.Proofs.YtemfcaaoobjgkaaGreatDoor
namespace Go.Proofs.YtemfcaaoobjgkaaGreatDoor
open Go.RowKit

section
variable {P : Program} {ops : Array Oper} {Q : Exit → Act → World → Prop} {md : Region.Mode} {S : World → Prop} {T : Nat}

/-- Whatever order is picked, and S holds behind each operation below T. -/
def wpAnyT (P : Program) (md : Region.Mode) (ops : Array Oper) (Q : Exit → Act → World → Prop) (S : World → Prop) (T : Nat) : Nat → Array Bool → Act → World → Prop
  | 0, listed, a, w => Region.ready md ops listed = [] ∧ Q .normal a w
  | fuel + 1, listed, a, w => (Region.ready md ops listed = [] → Q .normal a w) ∧
    ∀ i ∈ Region.ready md ops listed, wpOp P ops Q i (fun a' w' => (i < T → S w') ∧ wpAnyT P md ops Q S T fuel (listed.setIfInBounds i true) a' w') a w
theorem wpAny_of_T : ∀ (fuel : Nat) (listed : Array Bool) (a : Act) (w : World), wpAnyT P md ops Q S T fuel listed a w → wpAny P md ops Q fuel listed a w
  | 0, _, _, _, h => h
  | fuel + 1, _, _, _, h => ⟨h.1, fun i hi => wpOp_mono (fun a' w' h' => wpAny_of_T fuel _ a' w' h'.2) (h.2 i hi)⟩
/-- Number j waits for number i. -/
def waitsB (md : Region.Mode) (ops : Array Oper) (j i : Nat) : Bool :=
  match ops[j]? with
  | some o => o.after.any fun e => Region.binds md e && e.on == i
  | none => false
theorem waitsB_spec {j i : Nat} {oj : Oper} (h : waitsB md ops j i = true) (hj : ops[j]? = some oj) : ∃ e ∈ oj.after, Region.binds md e = true ∧ e.on = i := by
  unfold waitsB at h
  rw [hj] at h
  obtain ⟨e, he, hb⟩ := Array.any_eq_true'.1 h
  simp only [Bool.and_eq_true, beq_iff_eq] at hb
  exact ⟨e, he, hb⟩
/-- Number c is i or waits for it, by way of others too. -/
def reachB (md : Region.Mode) (ops : Array Oper) (i : Nat) : Nat → Nat → Bool
  | 0, c => c == i
  | f + 1, c => c == i || match ops[c]? with
    | some o => o.after.any fun e => Region.binds md e && reachB md ops i f e.on
    | none => false
/-- All from T on wait for number c, which waits for i. -/
def gateB (md : Region.Mode) (ops : Array Oper) (T c i : Nat) : Bool := reachB md ops i 4 c && (List.range ops.size).all fun j => decide (j < T) || waitsB md ops j c
/-- Whoever has come up, those that it waits for have. -/
def Closed (md : Region.Mode) (ops : Array Oper) (listed : Array Bool) : Prop := ∀ j oj, ops[j]? = some oj → listed.getD j false = true → ∀ e ∈ oj.after, Region.binds md e = true → listed.getD e.on false = true
def closedB (md : Region.Mode) (ops : Array Oper) (listed : Array Bool) : Bool := (List.range ops.size).all fun j => !listed.getD j false || match ops[j]? with
  | some o => o.after.all fun e => !Region.binds md e || listed.getD e.on false
  | none => true
theorem closedB_spec {listed : Array Bool} (h : closedB md ops listed = true) : Closed md ops listed := fun j oj hj hl e he hb => by
  unfold closedB at h
  rw [List.all_eq_true] at h
  have h1 := h j (List.mem_range.2 (Array.getElem?_eq_some_iff.1 hj).1)
  rw [hl, hj] at h1
  simp only [Bool.not_true, Bool.false_or] at h1
  have h2 := Array.all_eq_true'.1 h1 e he
  rw [hb] at h2
  simpa using h2
theorem Closed.set {listed : Array Bool} (h : Closed md ops listed) {i : Nat} (hi : i ∈ Region.ready md ops listed) : Closed md ops (listed.setIfInBounds i true) := fun j oj hj hl e he hb => by
  obtain ⟨_, oi, hoi, hall⟩ := mem_ready.1 hi
  by_cases hij : i = j
  · subst hij
    have : oj = oi := Option.some.inj (hj.symm.trans hoi)
    subst this
    exact getD_set_true (hall e he hb)
  · rw [getD_set_ne false hij] at hl
    exact getD_set_true (h j oj hj hl e he hb)
theorem reach_unlisted {listed : Array Bool} (h : Closed md ops listed) {i : Nat} (hi : listed.getD i false = false) : ∀ (f c : Nat), reachB md ops i f c = true → listed.getD c false = false
  | 0, c, hr => by
    unfold reachB at hr
    rw [beq_iff_eq] at hr
    subst hr
    exact hi
  | f + 1, c, hr => by
    unfold reachB at hr
    rw [Bool.or_eq_true] at hr
    rcases hr with hr | hr
    · rw [beq_iff_eq] at hr
      subst hr
      exact hi
    · cases hc : ops[c]? with
      | none => rw [hc] at hr; cases hr
      | some o =>
        rw [hc] at hr
        obtain ⟨e, he, hb⟩ := Array.any_eq_true'.1 hr
        rw [Bool.and_eq_true] at hb
        have h1 := reach_unlisted h hi f e.on hb.2
        cases hl : listed.getD c false with
        | false => rfl
        | true =>
          have h2 := h c o hc hl e he hb.1
          rw [h1] at h2
          cases h2
theorem ready_waits {listed : Array Bool} {j i : Nat} (hj : j ∈ Region.ready md ops listed) (hw : waitsB md ops j i = true) : listed.getD i false = true := by
  obtain ⟨_, oj, hoj, hall⟩ := mem_ready.1 hj
  obtain ⟨e, he, hb, hon⟩ := waitsB_spec hw hoj
  rw [← hon]
  exact hall e he hb
theorem unlisted {listed : Array Bool} {i : Nat} (h : listed.getD i true = false) : listed.getD i false = false := by
  rcases Nat.lt_or_ge i listed.size with h' | h'
  · simp [h'] at h ⊢; exact h
  · simp [Array.getElem?_eq_none h'] at h

theorem wpAnyT_first {i c : Nat} {oi : Oper} {v : Value} (hi : ops[i]? = some oi) (hsel : ∀ (j : Nat) (o : Oper) cs b, ops[j]? = some o → o.op ≠ .select cs b)
    (hQ : ∀ c a w, Q (.panic c) (a.put oi.dst v) w → Q (.panic c) a w) (hg : gateB md ops T c i = true) :
    ∀ (fuel : Nat) (listed : Array Bool) (a : Act) (w : World),
      (∀ j oj, ops[j]? = some oj → j ≠ i → listed.getD j true = false → (∀ e ∈ oj.after, Region.binds md e = true → e.on ≠ i) → oi.apart ops oj = true) →
      i ∈ Region.ready md ops listed → Closed md ops listed → YieldsIf P ops S oi v a → S w →
      wpAnyT P md ops Q S T fuel (listed.setIfInBounds i true) (a.put oi.dst v) w → wpAnyT P md ops Q S T (fuel + 1) listed a w := by
  unfold gateB at hg
  rw [Bool.and_eq_true, List.all_eq_true] at hg
  obtain ⟨hg1, hg2⟩ := hg
  intro fuel
  induction fuel with
  | zero =>
    intro listed a w _ hr _ hy hS H
    refine ⟨fun h => (by rw [h] at hr; cases hr), fun j hj => ?_⟩
    by_cases hji : j = i
    · subst hji; exact hy.wpOp hi hS ⟨fun _ => hS, H⟩
    · have := ready_mono hj hji
      rw [H.1] at this
      cases this
  | succ fuel ih =>
    intro listed a w hfree hr hcu hy hS H
    refine ⟨fun h => (by rw [h] at hr; cases hr), fun j hj => ?_⟩
    by_cases hji : j = i
    · subst hji; exact hy.wpOp hi hS ⟨fun _ => hS, H⟩
    · have h1 := H.2 j (ready_mono hj hji)
      obtain ⟨hjun, oj, hoj, hall⟩ := mem_ready.1 hj
      have h0 := unlisted (mem_ready.1 hr).1
      have hnot : ∀ e ∈ oj.after, Region.binds md e = true → e.on ≠ i := fun e he hb heq => by
        have h1 := hall e he hb
        rw [heq, h0] at h1
        cases h1
      have hjT : j < T := by
        have h3 := hg2 j (List.mem_range.2 (Array.getElem?_eq_some_iff.1 hoj).1)
        rw [Bool.or_eq_true, decide_eq_true_eq] at h3
        rcases h3 with h3 | h3
        · exact h3
        · have := ready_waits hj h3
          rw [reach_unlisted hcu h0 _ _ hg1] at this
          cases this
      have h2 := wpOp_putIf hoj (hfree j oj hoj hji hjun hnot) (fun cs b => hsel i oi cs b hi) (fun cs b => hsel j oj cs b hoj) hQ hy h1
      have hfree' : ∀ k ok, ops[k]? = some ok → k ≠ i → (listed.setIfInBounds j true).getD k true = false →
          (∀ e ∈ ok.after, Region.binds md e = true → e.on ≠ i) → oi.apart ops ok = true := fun k ok hk hki hun hno => by
        refine hfree k ok hk hki ?_ hno
        by_cases hjk : j = k
        · subst hjk; exact hjun
        · rw [getD_set_ne true hjk] at hun; exact hun
      refine wpOp_mono (fun a' w' h3 => ⟨h3.2.1, ih (listed.setIfInBounds j true) a' w' hfree' (ready_mono hr (Ne.symm hji)) (hcu.set hj) h3.1 (h3.2.1 hjT) ?_⟩) h2
      rw [Array.setIfInBounds_comm _ _ hji]
      exact h3.2.2
/-- Take number i first. -/
theorem wpAnyT_take (i c : Nat) {oi : Oper} {v : Value} {fuel : Nat} {listed : Array Bool} {a : Act} {w : World} (hi : ops[i]? = some oi) (hgd : oi.guard = none)
    (hs : Region.noSelect ops = true) (hf : Region.free md ops listed i = true) (hr : (Region.ready md ops listed).contains i = true) (hg : gateB md ops T c i = true) (hcu : closedB md ops listed = true)
    (hQ : ∀ c a w, Q (.panic c) (a.put oi.dst v) w → Q (.panic c) a w) (hy : ∀ w, S w → (execOp a.eval oi).run P w = .ok (.value v) w) (hS : S w)
    (h : wpAnyT P md ops Q S T fuel (listed.setIfInBounds i true) (a.put oi.dst v) w) : wpAnyT P md ops Q S T (fuel + 1) listed a w :=
  wpAnyT_first hi (Region.noSelect_spec hs) hQ hg fuel listed a w (Region.free_spec hi hf) (by simpa using hr) (closedB_spec hcu) (.inl ⟨by simp [Region.wanted, hgd], hy⟩) hS h
/-- One of those that may come up is carried out. -/
theorem opT {i : Nat} {o : Oper} {K : Act → World → Prop} {a : Act} {w w' : World} {v : Value} (ho : ops[i]? = some o) (hgd : o.guard = none) (hrun : (execOp a.eval o).run P w = .ok (.value v) w') (h : K (a.put o.dst v) w') : wpOp P ops Q i K a w := by
  unfold wpOp
  simp only [ho]
  rw [if_pos (by simp [Region.wanted, hgd])]
  refine .inl ?_
  unfold Oper.wp
  rw [hrun]
  exact h
theorem opT_skip {i : Nat} {o : Oper} {K : Act → World → Prop} {a : Act} {w w' : World} (ho : ops[i]? = some o) (hgd : o.guard = none) (hd : o.dst = none) (hrun : (execOp a.eval o).run P w = .ok .skip w') (h : K a w') : wpOp P ops Q i K a w := by
  unfold wpOp
  simp only [ho]
  rw [if_pos (by simp [Region.wanted, hgd])]
  refine .inl ?_
  unfold Oper.wp
  rw [hrun]
  show K (a.put o.dst undef) w'
  rw [hd]
  exact h
theorem wpAnyT_one (i : Nat) {fuel : Nat} {listed : Array Bool} {a : Act} {w : World} (hr : Region.ready md ops listed = [i])
    (h : wpOp P ops Q i (fun a' w' => (i < T → S w') ∧ wpAnyT P md ops Q S T fuel (listed.setIfInBounds i true) a' w') a w) : wpAnyT P md ops Q S T (fuel + 1) listed a w :=
  ⟨fun h0 => (by rw [hr] at h0; cases h0), fun j hj => (by rw [hr] at hj; simp at hj; subst hj; exact h)⟩
theorem wpAnyT_two (i k : Nat) {fuel : Nat} {listed : Array Bool} {a : Act} {w : World} (hr : Region.ready md ops listed = [i, k])
    (h : wpOp P ops Q i (fun a' w' => (i < T → S w') ∧ wpAnyT P md ops Q S T fuel (listed.setIfInBounds i true) a' w') a w)
    (h' : wpOp P ops Q k (fun a' w' => (k < T → S w') ∧ wpAnyT P md ops Q S T fuel (listed.setIfInBounds k true) a' w') a w) : wpAnyT P md ops Q S T (fuel + 1) listed a w := by
  refine ⟨fun h0 => (by rw [hr] at h0; cases h0), fun j hj => ?_⟩
  rw [hr] at hj
  simp at hj
  rcases hj with rfl | rfl
  · exact h
  · exact h'
theorem wpAnyT_done {listed : Array Bool} {a : Act} {w : World} (hr : Region.ready md ops listed = []) (h : Q .normal a w) : wpAnyT P md ops Q S T 0 listed a w := ⟨hr, h⟩
theorem wp_region_T {id : Nat} {a : Act} {w : World} (hm : P.follows .mixedOrders = true) (h : wpAnyT P .any ops Q S T ops.size (Array.replicate ops.size false) a w.drew) : (Code.region id ops true).wp P Q a w :=
  wp_region_any hm (wpAny_of_T _ _ _ _ h)
end

/-- A region of a body. -/
def findR (k : Nat) : Code → Option (Array Oper)
  | .region n o _ => match n == k with
    | true => some o
    | false => none
  | .loop c => findR k c
  | .seq a b => match findR k a with
    | some o => some o
    | none => findR k b
  | .block _ c => findR k c
  | .scope c => findR k c
  | .cond _ a b => match findR k a with
    | some o => some o
    | none => findR k b
  | _ => none

theorem ev_same {a : Act} {d : Nat} {v : Value} (h : d < a.tmps.size) : (a.put (some d) v).eval (.tmp d) = v := by
  show ((a.tmps.setIfInBounds d v).getD d undef) = v
  simp [h]
theorem ev_ne {a : Act} {d e : Nat} {v : Value} (h : d ≠ e) : (a.put (some d) v).eval (.tmp e) = a.eval (.tmp e) := by
  show ((a.tmps.setIfInBounds d v).getD e undef) = a.tmps.getD e undef
  rw [Array.getD_eq_getD_getElem?, Array.getD_eq_getD_getElem?, Array.getElem?_setIfInBounds_ne h]
theorem put_sz {a : Act} {d : Nat} {v : Value} : (a.put (some d) v).tmps.size = a.tmps.size := by
  show (a.tmps.setIfInBounds d v).size = _
  simp
theorem pc {a : Act} {d e : Nat} {u v : Value} (h : d ≠ e) : (a.put (some d) u).put (some e) v = (a.put (some e) v).put (some d) u := by
  show Act.mk ((a.tmps.setIfInBounds d u).setIfInBounds e v) _ = Act.mk ((a.tmps.setIfInBounds e v).setIfInBounds d u) _
  rw [Array.setIfInBounds_comm _ _ h]
  rfl

/-- An append, run. -/
theorem run_app {P : Program} {o : Oper} {a : Act} {s x : Operand} {t1 t2 : TypeId} {v u v' : Value} {w w' : World} (ho : o.op = .call { callee := .builtin .append, args := #[s, x], argTypes := #[t1, t2] }) (hs : a.eval s = v) (hx : a.eval x = u)
    (hr : (Builtin.append_ #[t1, t2] o.type #[v, u]).run P w = .ok v' w') : (execOp a.eval o).run P w = .ok (.value v') w' := by
  unfold execOp
  simp only [ho, resolve, invoke, builtin, Sem.run_bind, Sem.run_pure, Result.andThen_ok, List.map_toArray, List.map_cons, List.map_nil, hs, hx, hr]

/-- One element more behind a row of the call's own; the element lies in a block of its own. -/
theorem app_at {t ty e : TypeId} {z : Value} {size bytes : Nat} (ht : Tryz.prog.underlying t = some (.slice e)) (hinf : (Tryz.prog.info? e).map (fun i => (i.zero, i.size, i.bytes)) = some (some z, size, bytes)) (hzs : z.cells.size = size) (hsz : 0 < size) (hby : bytes ≤ 1000)
    {N : Nat} {v : Value} {n : Nat} {xs : List Value} {w : World} (hown : w.ownsRow N e size v n xs) {p : Nat} {cs : Array Value} {fz : Nat × Nat} (hb : w.heap[p]? = some (.cells cs e fz)) (hcs : cs.size = size) (h1 : ∀ u ∈ cs.toList, u.oneCell' = true) (hn : n < 1000) (hN : N ≤ w.heap.size) :
    ∃ g cap w', (Builtin.append_ #[t, t] ty #[v, .slice (some ⟨p, 0, none⟩) 1 1]).run Tryz.prog w = .ok (.slice (some ⟨g, 0, none⟩) (n + 1) cap) w' ∧
      w'.ownsRow N e size (.slice (some ⟨g, 0, none⟩) (n + 1) cap) (n + 1) (xs ++ cs.toList) ∧ w.grownBy w' v.ownBlock ∧ (v.ownBlock = some g ∨ g = w.heap.size) ∧ g < w'.heap.size := by
  obtain ⟨i, hi, hz, hz1, hz2⟩ := info_parts hinf
  exact run_append_lies w t ty N e i z size bytes ht hi hz hz1 hz2 hzs hsz v n xs hown ⟨p, 0, none⟩ 1 1 cs.toList (by simp [hcs]) (World.news_of_block hb) h1 (by omega) (by unfold maxLen; omega) (by have := Nat.mul_le_mul (show n + 1 ≤ 1000 by omega) hby; omega) hN _ rfl

/-- Two rows that were appended to, one behind the other. -/
def AppP (N : Nat) (wc : World) (eA eB : TypeId) (kA kB : Nat) (va vb : Value) (n : Nat) (xs ys csA csB : List Value) (v1 v2 : Value) (w2 : World) : Prop :=
  ∃ wa w1 wb g1 c1 g2 c2, v1 = .slice (some ⟨g1, 0, none⟩) (n + 1) c1 ∧ v2 = .slice (some ⟨g2, 0, none⟩) (n + 1) c2 ∧
    Below wc.heap.size wc wa ∧ wa.grownBy w1 va.ownBlock ∧ w1.ownsRow N eA kA v1 (n + 1) (xs ++ csA) ∧ (va.ownBlock = some g1 ∨ wc.heap.size ≤ g1) ∧
    Below w1.heap.size w1 wb ∧ wb.grownBy w2 vb.ownBlock ∧ w2.ownsRow N eB kB v2 (n + 1) (ys ++ csB) ∧ (vb.ownBlock = some g2 ∨ w1.heap.size ≤ g2)
theorem blk_grown {w w' : World} {v : Value} {N : Nat} {e : TypeId} {k n : Nat} {xs : List Value} (hg : w.grownBy w' v.ownBlock) {wc : World} (ho : wc.ownsRow N e k v n xs) {b : Nat} {o : Obj} (hb : wc.heap.size ≤ b) (hh : w.heap[b]? = some o) : w'.heap[b]? = some o :=
  (hg.block b (lt_heap hh) (fun e => by have := (ho.lt b e.symm).2; omega)).trans hh
theorem blk_far {w w' : World} {v : Value} {N : Nat} {e : TypeId} {k n : Nat} {xs : List Value} (hg : w.grownBy w' v.ownBlock) {wc : World} (ho : wc.ownsRow N e k v n xs) {b : Nat} {o : Obj} (hb : b < N) (hh : w.heap[b]? = some o) : w'.heap[b]? = some o :=
  (hg.block b (lt_heap hh) (fun e => by have := (ho.lt b e.symm).1; omega)).trans hh
end Go.Proofs.YtemfcaaoobjgkaaGreatDoor
namespace Go.Proofs.YtemfcaaoobjgkaaGreatDoor
open Go.RowKit
section
variable {ops : Array Oper} {Q : Exit → Act → World → Prop}
theorem opV_wp {i : Nat} {o : Oper} {K : Act → World → Prop} {a : Act} {w : World} (ho : ops[i]? = some o) (hgd : o.guard = none) (h : o.wp Tryz.prog a w K Q) : wpOp Tryz.prog ops Q i K a w := by
  unfold wpOp
  simp only [ho]
  rw [if_pos (by simp [Region.wanted, hgd])]
  exact .inl h
theorem opV_store {i : Nat} {o : Oper} {K : Act → World → Prop} {a : Act} {w : World} (ho : ops[i]? = some o) (hgd : o.guard = none) (hd : o.dst = none) (ty : TypeId) (x y : Operand) (hop : o.op = .store ty x y)
    (g : Nat) (cells : Array Value) (hx : a.eval x = .pointer (some ⟨g, 0, none⟩)) (hy : a.eval y = .agg cells)
    (t : TypeId) (old : Array Value) (hg : w.heap[g]? = some (.cells old t (0, 0))) (hi : (Tryz.prog.info? ty).map (·.size) = some cells.size)
    (hold : old.size = cells.size) (h1 : cells.all (·.oneCell') = true) (h : K a (w.setRow g cells)) : wpOp Tryz.prog ops Q i K a w := by
  refine opV_wp ho hgd (wp_store_row ty x y hop g cells hx hy t old hg hi hold h1 ?_)
  rw [hd]
  exact h
end
set_option linter.unusedSimpArgs false in
set_option linter.unusedVariables false in
set_option maxHeartbeats 8000000 in
set_option maxRecDepth 100000 in
theorem rg_made {Q : Exit → Act → World → Prop} (hQ : ∀ c d v a w, Q (.panic c) (a.put d v) w → Q (.panic c) a w) (ops : Array Oper) (hops : Tryz.f12.body.bind (findR 10) = some ops)
    (a : Act) (hsz : a.tmps.size = 60) (b : Nat) (T B : ByteArray) (u q : Int) (m : Nat) (h1 : a.eval (.tmp 1) = .pointer (some ⟨b, 0, none⟩)) (h4 : a.eval (.tmp 4) = .string T)
    (W : World) (hb : b < W.heap.size) (c1 : W.cell? ⟨b, 1, none⟩ = some (.int .i64 u)) (c4 : W.cell? ⟨b, 4, none⟩ = some (.string B)) (hu0 : 0 ≤ max 0 u) (hu : max 0 u % 3 = q) (hm : min (B.size : Int) 300 = (m : Int)) (hm1 : m ≤ B.size)
    (hK : ∀ w', Below W.heap.size W w' → w'.heap[W.heap.size]? = some (.cells (pkNil (TW.p3 q 0 T (B.extract 0 m))) 45 (0, 0)) → Q .normal ((((((((((((((a.put (some 41) (.pointer (some ⟨b, 1, none⟩))).put (some 42) (.int .i64 u)).put (some 43) (.int .i64 (max 0 u))).put (some 44) (.int .i64 q)).put (some 45) (.string T)).put (some 46) (.pointer (some ⟨b, 4, none⟩))).put (some 47) (.string B)).put (some 48) (.pointer (some ⟨b, 4, none⟩))).put (some 49) (.string B)).put (some 50) (.int .i64 (B.size : Int))).put (some 51) (.int .i64 (m : Int))).put (some 52) (.string (B.extract 0 m))).put (some 53) (.agg (pkNil (TW.p3 q 0 T (B.extract 0 m))))).put (some 5) (.pointer (some ⟨W.heap.size, 0, none⟩))) w') :
    wpAnyT Tryz.prog .any ops Q (fun w' => Below W.heap.size W w') 15 ops.size (Array.replicate ops.size false) a W := by
  conv at hops => lhs; whnf
  obtain rfl := Option.some.inj hops
  clear hops
  have S0 : (fun w' => Below W.heap.size W w') W := Below.refl _ _
  have hsl := slice_upto B m hm1
  change wpAnyT _ _ _ _ _ _ 15 (Array.replicate 15 false) _ _
  refine wpAnyT_take 0 0 (v := (.pointer (some ⟨b, 1, none⟩))) (by rfl) (by rfl) (by kernel_rfl) (by kernel_rfl) (by kernel_rfl) (by kernel_rfl) (by kernel_rfl) (fun _ _ _ h => hQ _ _ _ _ _ h) (fun w hSw => (by show Sem.run _ (execOp _ ⟨_, .fieldAddr 56 (.tmp 1) 1, _, _, _, _⟩) _ = _; unfold execOp; simp only [show a.eval (.tmp 1) = _ from h1]; go_simp)) S0 ?_
  change wpAnyT _ _ _ _ _ _ _ _ (a.put (some 41) (.pointer (some ⟨b, 1, none⟩))) _
  refine wpAnyT_take 1 1 (v := (.int .i64 u)) (by rfl) (by rfl) (by kernel_rfl) (by kernel_rfl) (by kernel_rfl) (by kernel_rfl) (by kernel_rfl) (fun _ _ _ h => hQ _ _ _ _ _ h) (fun w hSw => (by have q0 := (hSw.cell (p := ⟨b, 1, none⟩) hb).trans c1; show Sem.run _ (execOp _ ⟨_, .load 3 (.tmp 41), _, _, _, _⟩) _ = _; unfold execOp; simp only [show (a.put (some 41) (.pointer (some ⟨b, 1, none⟩))).eval (.tmp 41) = _ from (ev_same (by simp only [put_sz, hsz]; decide))]; go_simp)) S0 ?_
  change wpAnyT _ _ _ _ _ _ _ _ ((a.put (some 41) (.pointer (some ⟨b, 1, none⟩))).put (some 42) (.int .i64 u)) _
  refine wpAnyT_take 2 2 (v := (.int .i64 (max 0 u))) (by rfl) (by rfl) (by kernel_rfl) (by kernel_rfl) (by kernel_rfl) (by kernel_rfl) (by kernel_rfl) (fun _ _ _ h => hQ _ _ _ _ _ h) (fun w hSw => (by show Sem.run _ (execOp _ ⟨_, .call { callee := .builtin .max, args := #[.const (.int .i64 0), .tmp 42], argTypes := #[3, 3] }, _, _, _, _⟩) _ = _; unfold execOp; simp only [List.map_toArray, List.map_cons, List.map_nil, show ((a.put (some 41) (.pointer (some ⟨b, 1, none⟩))).put (some 42) (.int .i64 u)).eval (.tmp 42) = _ from (ev_same (by simp only [put_sz, hsz]; decide))]; go_simp)) S0 ?_
  change wpAnyT _ _ _ _ _ _ _ _ (((a.put (some 41) (.pointer (some ⟨b, 1, none⟩))).put (some 42) (.int .i64 u)).put (some 43) (.int .i64 (max 0 u))) _
  refine wpAnyT_take 3 3 (v := (.int .i64 q)) (by rfl) (by rfl) (by kernel_rfl) (by kernel_rfl) (by kernel_rfl) (by kernel_rfl) (by kernel_rfl) (fun _ _ _ h => hQ _ _ _ _ _ h) (fun w hSw => (by show Sem.run _ (execOp _ ⟨_, .binOp .rem 3 (.tmp 43) (.const (.int .i64 3)) 3, _, _, _, _⟩) _ = _; unfold execOp; simp only [show (((a.put (some 41) (.pointer (some ⟨b, 1, none⟩))).put (some 42) (.int .i64 u)).put (some 43) (.int .i64 (max 0 u))).eval (.tmp 43) = _ from (ev_same (by simp only [put_sz, hsz]; decide))]; go_simp; try simp [hu, Int.tmod_eq_emod_of_nonneg hu0])) S0 ?_
  change wpAnyT _ _ _ _ _ _ _ _ ((((a.put (some 41) (.pointer (some ⟨b, 1, none⟩))).put (some 42) (.int .i64 u)).put (some 43) (.int .i64 (max 0 u))).put (some 44) (.int .i64 q)) _
  refine wpAnyT_take 4 4 (v := (.string T)) (by rfl) (by rfl) (by kernel_rfl) (by kernel_rfl) (by kernel_rfl) (by kernel_rfl) (by kernel_rfl) (fun _ _ _ h => hQ _ _ _ _ _ h) (fun w hSw => (by show Sem.run _ (execOp _ ⟨_, .move (.tmp 4), _, _, _, _⟩) _ = _; unfold execOp; simp only [show ((((a.put (some 41) (.pointer (some ⟨b, 1, none⟩))).put (some 42) (.int .i64 u)).put (some 43) (.int .i64 (max 0 u))).put (some 44) (.int .i64 q)).eval (.tmp 4) = _ from ((ev_ne (by decide)).trans ((ev_ne (by decide)).trans ((ev_ne (by decide)).trans ((ev_ne (by decide)).trans h4))))]; go_simp)) S0 ?_
  change wpAnyT _ _ _ _ _ _ _ _ (((((a.put (some 41) (.pointer (some ⟨b, 1, none⟩))).put (some 42) (.int .i64 u)).put (some 43) (.int .i64 (max 0 u))).put (some 44) (.int .i64 q)).put (some 45) (.string T)) _
  refine wpAnyT_take 5 5 (v := (.pointer (some ⟨b, 4, none⟩))) (by rfl) (by rfl) (by kernel_rfl) (by kernel_rfl) (by kernel_rfl) (by kernel_rfl) (by kernel_rfl) (fun _ _ _ h => hQ _ _ _ _ _ h) (fun w hSw => (by show Sem.run _ (execOp _ ⟨_, .fieldAddr 56 (.tmp 1) 4, _, _, _, _⟩) _ = _; unfold execOp; simp only [show (((((a.put (some 41) (.pointer (some ⟨b, 1, none⟩))).put (some 42) (.int .i64 u)).put (some 43) (.int .i64 (max 0 u))).put (some 44) (.int .i64 q)).put (some 45) (.string T)).eval (.tmp 1) = _ from ((ev_ne (by decide)).trans ((ev_ne (by decide)).trans ((ev_ne (by decide)).trans ((ev_ne (by decide)).trans ((ev_ne (by decide)).trans h1)))))]; go_simp)) S0 ?_
  change wpAnyT _ _ _ _ _ _ _ _ ((((((a.put (some 41) (.pointer (some ⟨b, 1, none⟩))).put (some 42) (.int .i64 u)).put (some 43) (.int .i64 (max 0 u))).put (some 44) (.int .i64 q)).put (some 45) (.string T)).put (some 46) (.pointer (some ⟨b, 4, none⟩))) _
  refine wpAnyT_take 6 6 (v := (.string B)) (by rfl) (by rfl) (by kernel_rfl) (by kernel_rfl) (by kernel_rfl) (by kernel_rfl) (by kernel_rfl) (fun _ _ _ h => hQ _ _ _ _ _ h) (fun w hSw => (by have q0 := (hSw.cell (p := ⟨b, 4, none⟩) hb).trans c4; show Sem.run _ (execOp _ ⟨_, .load 9 (.tmp 46), _, _, _, _⟩) _ = _; unfold execOp; simp only [show ((((((a.put (some 41) (.pointer (some ⟨b, 1, none⟩))).put (some 42) (.int .i64 u)).put (some 43) (.int .i64 (max 0 u))).put (some 44) (.int .i64 q)).put (some 45) (.string T)).put (some 46) (.pointer (some ⟨b, 4, none⟩))).eval (.tmp 46) = _ from (ev_same (by simp only [put_sz, hsz]; decide))]; go_simp)) S0 ?_
  change wpAnyT _ _ _ _ _ _ _ _ (((((((a.put (some 41) (.pointer (some ⟨b, 1, none⟩))).put (some 42) (.int .i64 u)).put (some 43) (.int .i64 (max 0 u))).put (some 44) (.int .i64 q)).put (some 45) (.string T)).put (some 46) (.pointer (some ⟨b, 4, none⟩))).put (some 47) (.string B)) _
  refine wpAnyT_take 7 7 (v := (.pointer (some ⟨b, 4, none⟩))) (by rfl) (by rfl) (by kernel_rfl) (by kernel_rfl) (by kernel_rfl) (by kernel_rfl) (by kernel_rfl) (fun _ _ _ h => hQ _ _ _ _ _ h) (fun w hSw => (by show Sem.run _ (execOp _ ⟨_, .fieldAddr 56 (.tmp 1) 4, _, _, _, _⟩) _ = _; unfold execOp; simp only [show (((((((a.put (some 41) (.pointer (some ⟨b, 1, none⟩))).put (some 42) (.int .i64 u)).put (some 43) (.int .i64 (max 0 u))).put (some 44) (.int .i64 q)).put (some 45) (.string T)).put (some 46) (.pointer (some ⟨b, 4, none⟩))).put (some 47) (.string B)).eval (.tmp 1) = _ from ((ev_ne (by decide)).trans ((ev_ne (by decide)).trans ((ev_ne (by decide)).trans ((ev_ne (by decide)).trans ((ev_ne (by decide)).trans ((ev_ne (by decide)).trans ((ev_ne (by decide)).trans h1)))))))]; go_simp)) S0 ?_
  change wpAnyT _ _ _ _ _ _ _ _ ((((((((a.put (some 41) (.pointer (some ⟨b, 1, none⟩))).put (some 42) (.int .i64 u)).put (some 43) (.int .i64 (max 0 u))).put (some 44) (.int .i64 q)).put (some 45) (.string T)).put (some 46) (.pointer (some ⟨b, 4, none⟩))).put (some 47) (.string B)).put (some 48) (.pointer (some ⟨b, 4, none⟩))) _
  refine wpAnyT_take 8 8 (v := (.string B)) (by rfl) (by rfl) (by kernel_rfl) (by kernel_rfl) (by kernel_rfl) (by kernel_rfl) (by kernel_rfl) (fun _ _ _ h => hQ _ _ _ _ _ h) (fun w hSw => (by have q0 := (hSw.cell (p := ⟨b, 4, none⟩) hb).trans c4; show Sem.run _ (execOp _ ⟨_, .load 9 (.tmp 48), _, _, _, _⟩) _ = _; unfold execOp; simp only [show ((((((((a.put (some 41) (.pointer (some ⟨b, 1, none⟩))).put (some 42) (.int .i64 u)).put (some 43) (.int .i64 (max 0 u))).put (some 44) (.int .i64 q)).put (some 45) (.string T)).put (some 46) (.pointer (some ⟨b, 4, none⟩))).put (some 47) (.string B)).put (some 48) (.pointer (some ⟨b, 4, none⟩))).eval (.tmp 48) = _ from (ev_same (by simp only [put_sz, hsz]; decide))]; go_simp)) S0 ?_
  change wpAnyT _ _ _ _ _ _ _ _ (((((((((a.put (some 41) (.pointer (some ⟨b, 1, none⟩))).put (some 42) (.int .i64 u)).put (some 43) (.int .i64 (max 0 u))).put (some 44) (.int .i64 q)).put (some 45) (.string T)).put (some 46) (.pointer (some ⟨b, 4, none⟩))).put (some 47) (.string B)).put (some 48) (.pointer (some ⟨b, 4, none⟩))).put (some 49) (.string B)) _
  refine wpAnyT_take 9 9 (v := (.int .i64 (B.size : Int))) (by rfl) (by rfl) (by kernel_rfl) (by kernel_rfl) (by kernel_rfl) (by kernel_rfl) (by kernel_rfl) (fun _ _ _ h => hQ _ _ _ _ _ h) (fun w hSw => (by show Sem.run _ (execOp _ ⟨_, .call { callee := .builtin .len, args := #[.tmp 49], argTypes := #[9] }, _, _, _, _⟩) _ = _; unfold execOp; simp only [List.map_toArray, List.map_cons, List.map_nil, show (((((((((a.put (some 41) (.pointer (some ⟨b, 1, none⟩))).put (some 42) (.int .i64 u)).put (some 43) (.int .i64 (max 0 u))).put (some 44) (.int .i64 q)).put (some 45) (.string T)).put (some 46) (.pointer (some ⟨b, 4, none⟩))).put (some 47) (.string B)).put (some 48) (.pointer (some ⟨b, 4, none⟩))).put (some 49) (.string B)).eval (.tmp 49) = _ from (ev_same (by simp only [put_sz, hsz]; decide))]; go_simp)) S0 ?_
  change wpAnyT _ _ _ _ _ _ _ _ ((((((((((a.put (some 41) (.pointer (some ⟨b, 1, none⟩))).put (some 42) (.int .i64 u)).put (some 43) (.int .i64 (max 0 u))).put (some 44) (.int .i64 q)).put (some 45) (.string T)).put (some 46) (.pointer (some ⟨b, 4, none⟩))).put (some 47) (.string B)).put (some 48) (.pointer (some ⟨b, 4, none⟩))).put (some 49) (.string B)).put (some 50) (.int .i64 (B.size : Int))) _
  refine wpAnyT_take 10 10 (v := (.int .i64 (m : Int))) (by rfl) (by rfl) (by kernel_rfl) (by kernel_rfl) (by kernel_rfl) (by kernel_rfl) (by kernel_rfl) (fun _ _ _ h => hQ _ _ _ _ _ h) (fun w hSw => (by show Sem.run _ (execOp _ ⟨_, .call { callee := .builtin .min, args := #[.tmp 50, .const (.int .i64 300)], argTypes := #[3, 3] }, _, _, _, _⟩) _ = _; unfold execOp; simp only [List.map_toArray, List.map_cons, List.map_nil, show ((((((((((a.put (some 41) (.pointer (some ⟨b, 1, none⟩))).put (some 42) (.int .i64 u)).put (some 43) (.int .i64 (max 0 u))).put (some 44) (.int .i64 q)).put (some 45) (.string T)).put (some 46) (.pointer (some ⟨b, 4, none⟩))).put (some 47) (.string B)).put (some 48) (.pointer (some ⟨b, 4, none⟩))).put (some 49) (.string B)).put (some 50) (.int .i64 (B.size : Int))).eval (.tmp 50) = _ from (ev_same (by simp only [put_sz, hsz]; decide))]; go_simp)) S0 ?_
  change wpAnyT _ _ _ _ _ _ _ _ (((((((((((a.put (some 41) (.pointer (some ⟨b, 1, none⟩))).put (some 42) (.int .i64 u)).put (some 43) (.int .i64 (max 0 u))).put (some 44) (.int .i64 q)).put (some 45) (.string T)).put (some 46) (.pointer (some ⟨b, 4, none⟩))).put (some 47) (.string B)).put (some 48) (.pointer (some ⟨b, 4, none⟩))).put (some 49) (.string B)).put (some 50) (.int .i64 (B.size : Int))).put (some 51) (.int .i64 (m : Int))) _
  refine wpAnyT_take 11 11 (v := (.string (B.extract 0 m))) (by rfl) (by rfl) (by kernel_rfl) (by kernel_rfl) (by kernel_rfl) (by kernel_rfl) (by kernel_rfl) (fun _ _ _ h => hQ _ _ _ _ _ h) (fun w hSw => (by show Sem.run _ (execOp _ ⟨_, .slice 9 (.tmp 47) none (some (.tmp 51)) none, _, _, _, _⟩) _ = _; unfold execOp; simp only [Option.map_some, Option.map_none, show (((((((((((a.put (some 41) (.pointer (some ⟨b, 1, none⟩))).put (some 42) (.int .i64 u)).put (some 43) (.int .i64 (max 0 u))).put (some 44) (.int .i64 q)).put (some 45) (.string T)).put (some 46) (.pointer (some ⟨b, 4, none⟩))).put (some 47) (.string B)).put (some 48) (.pointer (some ⟨b, 4, none⟩))).put (some 49) (.string B)).put (some 50) (.int .i64 (B.size : Int))).put (some 51) (.int .i64 (m : Int))).eval (.tmp 47) = _ from ((ev_ne (by decide)).trans ((ev_ne (by decide)).trans ((ev_ne (by decide)).trans ((ev_ne (by decide)).trans (ev_same (by simp only [put_sz, hsz]; decide)))))), show (((((((((((a.put (some 41) (.pointer (some ⟨b, 1, none⟩))).put (some 42) (.int .i64 u)).put (some 43) (.int .i64 (max 0 u))).put (some 44) (.int .i64 q)).put (some 45) (.string T)).put (some 46) (.pointer (some ⟨b, 4, none⟩))).put (some 47) (.string B)).put (some 48) (.pointer (some ⟨b, 4, none⟩))).put (some 49) (.string B)).put (some 50) (.int .i64 (B.size : Int))).put (some 51) (.int .i64 (m : Int))).eval (.tmp 51) = _ from (ev_same (by simp only [put_sz, hsz]; decide))]; go_simp)) S0 ?_
  change wpAnyT _ _ _ _ _ _ _ _ ((((((((((((a.put (some 41) (.pointer (some ⟨b, 1, none⟩))).put (some 42) (.int .i64 u)).put (some 43) (.int .i64 (max 0 u))).put (some 44) (.int .i64 q)).put (some 45) (.string T)).put (some 46) (.pointer (some ⟨b, 4, none⟩))).put (some 47) (.string B)).put (some 48) (.pointer (some ⟨b, 4, none⟩))).put (some 49) (.string B)).put (some 50) (.int .i64 (B.size : Int))).put (some 51) (.int .i64 (m : Int))).put (some 52) (.string (B.extract 0 m))) _
  refine wpAnyT_take 12 12 (v := (.agg (pkNil (TW.p3 q 0 T (B.extract 0 m))))) (by rfl) (by rfl) (by kernel_rfl) (by kernel_rfl) (by kernel_rfl) (by kernel_rfl) (by kernel_rfl) (fun _ _ _ h => hQ _ _ _ _ _ h) (fun w hSw => (by show Sem.run _ (execOp _ ⟨_, .build 45 #[(0, .const (.int .i64 3)), (3, .tmp 44), (5, .tmp 45), (6, .tmp 52)], _, _, _, _⟩) _ = _; unfold execOp; simp only [List.map_toArray, List.map_cons, List.map_nil, show ((((((((((((a.put (some 41) (.pointer (some ⟨b, 1, none⟩))).put (some 42) (.int .i64 u)).put (some 43) (.int .i64 (max 0 u))).put (some 44) (.int .i64 q)).put (some 45) (.string T)).put (some 46) (.pointer (some ⟨b, 4, none⟩))).put (some 47) (.string B)).put (some 48) (.pointer (some ⟨b, 4, none⟩))).put (some 49) (.string B)).put (some 50) (.int .i64 (B.size : Int))).put (some 51) (.int .i64 (m : Int))).put (some 52) (.string (B.extract 0 m))).eval (.tmp 44) = _ from ((ev_ne (by decide)).trans ((ev_ne (by decide)).trans ((ev_ne (by decide)).trans ((ev_ne (by decide)).trans ((ev_ne (by decide)).trans ((ev_ne (by decide)).trans ((ev_ne (by decide)).trans ((ev_ne (by decide)).trans (ev_same (by simp only [put_sz, hsz]; decide)))))))))), show ((((((((((((a.put (some 41) (.pointer (some ⟨b, 1, none⟩))).put (some 42) (.int .i64 u)).put (some 43) (.int .i64 (max 0 u))).put (some 44) (.int .i64 q)).put (some 45) (.string T)).put (some 46) (.pointer (some ⟨b, 4, none⟩))).put (some 47) (.string B)).put (some 48) (.pointer (some ⟨b, 4, none⟩))).put (some 49) (.string B)).put (some 50) (.int .i64 (B.size : Int))).put (some 51) (.int .i64 (m : Int))).put (some 52) (.string (B.extract 0 m))).eval (.tmp 45) = _ from ((ev_ne (by decide)).trans ((ev_ne (by decide)).trans ((ev_ne (by decide)).trans ((ev_ne (by decide)).trans ((ev_ne (by decide)).trans ((ev_ne (by decide)).trans ((ev_ne (by decide)).trans (ev_same (by simp only [put_sz, hsz]; decide))))))))), show ((((((((((((a.put (some 41) (.pointer (some ⟨b, 1, none⟩))).put (some 42) (.int .i64 u)).put (some 43) (.int .i64 (max 0 u))).put (some 44) (.int .i64 q)).put (some 45) (.string T)).put (some 46) (.pointer (some ⟨b, 4, none⟩))).put (some 47) (.string B)).put (some 48) (.pointer (some ⟨b, 4, none⟩))).put (some 49) (.string B)).put (some 50) (.int .i64 (B.size : Int))).put (some 51) (.int .i64 (m : Int))).put (some 52) (.string (B.extract 0 m))).eval (.tmp 52) = _ from (ev_same (by simp only [put_sz, hsz]; decide))]; go_simp; try rfl)) S0 ?_
  change wpAnyT _ _ _ _ _ _ _ _ (((((((((((((a.put (some 41) (.pointer (some ⟨b, 1, none⟩))).put (some 42) (.int .i64 u)).put (some 43) (.int .i64 (max 0 u))).put (some 44) (.int .i64 q)).put (some 45) (.string T)).put (some 46) (.pointer (some ⟨b, 4, none⟩))).put (some 47) (.string B)).put (some 48) (.pointer (some ⟨b, 4, none⟩))).put (some 49) (.string B)).put (some 50) (.int .i64 (B.size : Int))).put (some 51) (.int .i64 (m : Int))).put (some 52) (.string (B.extract 0 m))).put (some 53) (.agg (pkNil (TW.p3 q 0 T (B.extract 0 m))))) _
  generalize hab : (((((((((((((a.put (some 41) (.pointer (some ⟨b, 1, none⟩))).put (some 42) (.int .i64 u)).put (some 43) (.int .i64 (max 0 u))).put (some 44) (.int .i64 q)).put (some 45) (.string T)).put (some 46) (.pointer (some ⟨b, 4, none⟩))).put (some 47) (.string B)).put (some 48) (.pointer (some ⟨b, 4, none⟩))).put (some 49) (.string B)).put (some 50) (.int .i64 (B.size : Int))).put (some 51) (.int .i64 (m : Int))).put (some 52) (.string (B.extract 0 m))).put (some 53) (.agg (pkNil (TW.p3 q 0 T (B.extract 0 m))))) = a2 at hK ⊢
  have e53 : a2.eval (.tmp 53) = .agg (pkNil (TW.p3 q 0 T (B.extract 0 m))) := by rw [← hab]; exact (ev_same (by simp only [put_sz, hsz]; decide))
  have esz : a2.tmps.size = 60 := by rw [← hab]; simp only [put_sz, hsz]
  clear hab h1 h4
  refine wpAnyT_one 13 (by kernel_rfl) ?_
  refine opT (w' := W.alloc (.cells (pkNil PK.zeroPk) 45)) (v := .pointer (some ⟨W.heap.size, 0, none⟩)) (by rfl) (by rfl) (by rfl) ?_
  have hal : Below W.heap.size W (W.alloc (.cells (pkNil PK.zeroPk) 45)) := (Below.refl _ _).alloc (Nat.le_refl _) _
  have z1 : (W.alloc (.cells (pkNil PK.zeroPk) 45)).heap[W.heap.size]? = some (.cells (pkNil PK.zeroPk) 45 (0, 0)) := heap_alloc_new W _
  refine ⟨fun _ => hal, ?_⟩
  generalize W.alloc (.cells (pkNil PK.zeroPk) 45) = WA at *
  refine wpAnyT_one 14 (by kernel_rfl) ?_
  refine opV_store (by rfl) (by rfl) (by rfl) 45 (.tmp 5) (.tmp 53) (by rfl) W.heap.size (pkNil (TW.p3 q 0 T (B.extract 0 m))) (ev_same (by rw [esz]; decide)) ((ev_ne (by decide)).trans e53) 45 (pkNil PK.zeroPk) z1 pk_info rfl (pkNil_one _) ?_
  have b2 := below_setRow hal (Nat.le_refl _) (pkNil (TW.p3 q 0 T (B.extract 0 m)))
  exact ⟨fun _ => b2, wpAnyT_done (by kernel_rfl) (hK _ b2 (setRow_heap z1))⟩
end Go.Proofs.YtemfcaaoobjgkaaGreatDoor
