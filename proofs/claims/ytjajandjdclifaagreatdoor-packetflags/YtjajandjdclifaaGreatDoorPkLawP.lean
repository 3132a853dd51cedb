/- Laws over a packet as plain data: what they share. -/
import Derived.Test.YtjajandjdclifaaGreatDoorPkPkW
import Derived.Test.YtjajandjdclifaaGreatDoorMG
import Derived.Test.YtjajandjdclifaaGreatDoorMH
import Derived.Lib.Strings
namespace Go.Proofs.YtjajandjdclifaaGreatDoor
open Go.RowKit

theorem cut80_f {X : Pk} (h : XFine X) : PkF (cut80 X) := by
  have t : ∀ {α : Type} (l : List α), (l.take 80).length ≤ 100 := fun l => by simp; omega
  exact ⟨⟨h.kind, h.qos, h.id, h.topic, h.pay, h.code, h.client, h.keep, h.wtopic, h.wpay, h.wqos, h.user, h.pass, ⟨t _, fun c hc => h.codes c (List.mem_of_mem_take hc)⟩, ⟨t _, fun c hc => h.subs c (List.mem_of_mem_take hc)⟩, ⟨t _, fun c hc => h.filters c (List.mem_of_mem_take hc)⟩⟩, ⟨t _, fun c hc => h.props c (List.mem_of_mem_take hc)⟩, ⟨t _, fun c hc => h.wprops c (List.mem_of_mem_take hc)⟩⟩
theorem wpl_load_x {ops : Array Oper} {rest : List Oper} {op : Oper} {a : Act} {w : World} {Q : Exit → Act → World → Prop} (hgd : op.guard = none) (x : Operand) (ho : op.op = .load 51 x)
    (n : Nat) (hx : a.eval x = .pointer (some ⟨n, 0, none⟩)) {p : Pk} {vc vp vw vs vf : Value} (hb : w.heap[n]? = some (.cells (pkCells p vc vp vw vs vf) 51 (0, 0)))
    (h : wpList Tryz.prog ops Q rest (a.put op.dst (.agg (pkCells p vc vp vw vs vf))) w) : wpList Tryz.prog ops Q (op :: rest) a w :=
  wpList_load_mid hgd 51 x ho n 0 hx (pkCells p vc vp vw vs vf).toList _ (fun j v hv => by rw [Nat.zero_add, cell_heap hb, ← hv]; simp) Tryz.underlying51 rfl (by kernel_rfl) h
theorem PK.putS_small (P : Pk) (hc : PK.putC P = 0) : (PK.putS P).size ≤ 65600 ∧ 0 < (PK.putS P).size := by
  obtain ⟨m, b, i1, i2, i3, i4, i5, i6, _⟩ := PK.getPk_inv (PK.put_read P hc).1
  have h := PK.len_mono (n := m) (m := 65536) i4 (Nat.le_refl _)
  have e : (strOfNums (VP.putL ((65536 : Nat) : Int))).size = 3 := by decide +kernel
  omega
theorem str_some {S : ByteArray} (h : 0 < S.size) : S.toList.isEmpty = false := by
  rw [Lib.toList_data, List.isEmpty_eq_false_iff]
  intro e
  have := congrArg List.length e
  rw [← Lib.size_eq] at this
  have h0 : S.size = 0 := this
  omega
theorem and240 (n : Int) (h0 : 0 ≤ n) (h1 : n ≤ 255) : bits .and .u8 n 240 = 16 * (n / 16) := by
  obtain ⟨k, rfl⟩ := Int.eq_ofNat_of_zero_le h0
  have h : ∀ k : Fin 256, bits .and .u8 ((k.val : Nat) : Int) 240 = 16 * (((k.val : Nat) : Int) / 16) := by decide +kernel
  exact h ⟨k, by omega⟩
theorem or_low (a b : Int) (h0 : 0 ≤ a) (h1 : a ≤ 15) (h2 : 0 ≤ b) (h3 : b ≤ 15) : bits .or .u8 (16 * a) b = 16 * a + b := by
  obtain ⟨x, rfl⟩ := Int.eq_ofNat_of_zero_le h0
  obtain ⟨y, rfl⟩ := Int.eq_ofNat_of_zero_le h2
  have h : ∀ x y : Fin 16, bits .or .u8 (16 * ((x.val : Nat) : Int)) ((y.val : Nat) : Int) = 16 * ((x.val : Nat) : Int) + ((y.val : Nat) : Int) := by decide +kernel
  exact h ⟨x, by omega⟩ ⟨y, by omega⟩
/-- The first byte with other flags. -/
def newFirst (S : ByteArray) (fl : Int) : ByteArray := strOfNums [16 * (PK.b0 S / 16) + fl % 16] ++ S.extract 1 S.size
theorem conv1_drew (w : World) (a : Int) : (convert 45 9 (.slice (some ⟨w.heap.size, 0, none⟩) 1 1)).run Tryz.prog ((w.alloc (.cells #[.int .u8 a] 5)).drew) = .ok (.string (strOfNums [a])) ((w.alloc (.cells #[.int .u8 a] 5)).drew) := by
  refine run_convert_bytes_arg _ 45 5 Tryz.underlying45 Tryz.underlying5 w.heap.size 0 1 1 [a] rfl (fun i hi => ?_) 9 Tryz.underlying9
  show (w.alloc (.cells #[.int .u8 a] 5)).cell? _ = _
  rw [World.cell?_alloc_at _ _ _ _ rfl]
  obtain rfl : i = 0 := by omega
  rfl
theorem PK.b0_lt (S : ByteArray) : 0 ≤ PK.b0 S ∧ PK.b0 S ≤ 255 := by
  unfold PK.b0
  split
  · rename_i h
    have := VP.byte_lt S 0 h
    omega
  · omega
theorem raw_first (S : ByteArray) (h : 0 < S.size) (fl : Int) (hf : 0 ≤ fl ∧ fl ≤ 255) : bits .or .u8 (bits .and .u8 ((S[0]'h).toNat : Int) 240) (bits .and .u8 fl 15) = 16 * (PK.b0 S / 16) + fl % 16 := by
  have e2 : ((S[0]'h).toNat : Int) = PK.b0 S := by unfold PK.b0; rw [dif_pos h]
  have hb := PK.b0_lt S
  rw [e2, and240 _ hb.1 hb.2, and15 _ hf.1 hf.2, or_low _ _ (by omega) (by omega) (by omega) (by omega)]
theorem first_is (S : ByteArray) (h : 0 < S.size) : strOfNums [PK.b0 S] ++ S.extract 1 S.size = S := by
  have e1 : (strOfNums [PK.b0 S]).size = 1 := rfl
  refine PR.ba_ext (by rw [ByteArray.size_append, ByteArray.size_extract, e1]; omega) (fun i h1 h2 => ?_)
  rcases Nat.eq_zero_or_pos i with rfl | hi
  · rw [ByteArray.getElem_append_left (by rw [e1]; decide)]
    have hb := PK.b0_lt S
    have := VP.str_at [PK.b0 S] 0 (by rw [e1]; decide) (by simp) (by simpa using hb.1) (by simp; omega)
    have e2 : ((S[0]'h).toNat : Int) = PK.b0 S := by unfold PK.b0; rw [dif_pos h]
    apply UInt8.toNat_inj.1
    have e3 : ([PK.b0 S] : List Int)[0] = PK.b0 S := rfl
    rw [e3] at this
    omega
  · rw [ByteArray.getElem_append_right (by rw [e1]; omega), ByteArray.getElem_extract]
    congr 1
    rw [e1]
    omega
theorem newFirst_b0 (S : ByteArray) (fl : Int) (_h : 0 ≤ fl ∧ fl ≤ 255) : 0 < (newFirst S fl).size ∧ PK.b0 (newFirst S fl) = 16 * (PK.b0 S / 16) + fl % 16 := by
  have e1 : (strOfNums [16 * (PK.b0 S / 16) + fl % 16]).size = 1 := rfl
  have hz : 0 < (newFirst S fl).size := by unfold newFirst; rw [ByteArray.size_append, e1]; omega
  refine ⟨hz, ?_⟩
  have hb := PK.b0_lt S
  have hs := VP.str_at [16 * (PK.b0 S / 16) + fl % 16] 0 (by rw [e1]; decide) (by simp) (by simp; omega) (by simp; omega)
  have e2 : (newFirst S fl)[0]'hz = (strOfNums [16 * (PK.b0 S / 16) + fl % 16])[0]'(by rw [e1]; decide) := ByteArray.getElem_append_left (by rw [e1]; decide)
  unfold PK.b0 at *
  rw [dif_pos hz, e2]
  exact hs
theorem PK.flags_or (P : Pk) (hc : PK.putC P = 0) (fl : Int) (hf : 0 ≤ fl ∧ fl ≤ 255) (h3 : P.kind ≠ 3) : ((PK.getPk (newFirst (PK.putS P) fl)).2 = 129 ∧ newFirst (PK.putS P) fl ≠ PK.putS P) ∨ newFirst (PK.putS P) fl = PK.putS P := by
  obtain ⟨z, hb⟩ := newFirst_b0 (PK.putS P) fl hf
  have hl := PK.b0_lt (PK.putS P)
  by_cases hr : fl % 16 = PK.b0 (PK.putS P) % 16
  · right
    unfold newFirst
    rw [show 16 * (PK.b0 (PK.putS P) / 16) + fl % 16 = PK.b0 (PK.putS P) by omega]
    exact first_is _ (PK.putS_small P hc).2
  · left
    refine ⟨PK.flags_bad P hc h3 _ z (by rw [hb]; omega) (by rw [hb]; omega), fun e => ?_⟩
    rw [e] at hb
    omega
theorem PK.putS_bad (P : Pk) (hc : PK.putC P ≠ 0) : PK.putS P = ⟨#[]⟩ := by unfold PK.putS; rw [if_pos hc]
/-- The two packets that the law's helper made, in variables of their own. -/
theorem two_vars {B : Nat} {w w1 : World} {P : Pk} {vc vp vw vs vf uc up uw us uf : Value} (o1 : Own5 B P vc vp vw vs vf w1) (hB : Below w.heap.size w w1) {wA : World} (hwA : wA = (((w1.alloc (.cells (pkNil PK.zeroPk) 31)).alloc (.cells (rkNil PK.zeroPk) 40)).setRow w1.heap.size (pkCells P vc vp vw vs vf)).setRow (w1.heap.size + 1) (rkCells P uc up uw us uf)) :
    ((w1.alloc (.cells (pkNil PK.zeroPk) 31)).alloc (.cells (rkNil PK.zeroPk) 40)).heap[w1.heap.size]? = some (.cells (pkNil PK.zeroPk) 31 (0, 0)) ∧
    (((w1.alloc (.cells (pkNil PK.zeroPk) 31)).alloc (.cells (rkNil PK.zeroPk) 40)).setRow w1.heap.size (pkCells P vc vp vw vs vf)).heap[w1.heap.size + 1]? = some (.cells (rkNil PK.zeroPk) 40 (0, 0)) ∧
    wA.heap[w1.heap.size]? = some (.cells (pkCells P vc vp vw vs vf) 31 (0, 0)) ∧ Own5 B P vc vp vw vs vf wA ∧ Below w.heap.size w wA := by
  have k1 := heap_alloc_new w1 (.cells (pkNil PK.zeroPk) 31)
  have sz : (w1.alloc (.cells (pkNil PK.zeroPk) 31)).heap.size = w1.heap.size + 1 := by simp
  have z1 : ((w1.alloc (.cells (pkNil PK.zeroPk) 31)).alloc (.cells (rkNil PK.zeroPk) 40)).heap[w1.heap.size]? = some (.cells (pkNil PK.zeroPk) 31 (0, 0)) := (Below.heap_alloc _ _ _ (by omega)).trans k1
  have z2 : ((w1.alloc (.cells (pkNil PK.zeroPk) 31)).alloc (.cells (rkNil PK.zeroPk) 40)).heap[w1.heap.size + 1]? = some (.cells (rkNil PK.zeroPk) 40 (0, 0)) := by rw [← sz]; exact heap_alloc_new _ _
  have bA : Below w1.heap.size w1 wA := by
    rw [hwA]
    exact below_setRow (below_setRow (((Below.refl _ _).alloc (Nat.le_refl _) _).alloc (by omega) _) (Nat.le_refl _) _) (by omega) _
  refine ⟨z1, (setRow_other _ (by omega)).trans z2, ?_, own5_below o1 bA, hB.trans (bA.mono hB.size)⟩
  rw [hwA]
  exact (setRow_other _ (by omega)).trans (setRow_heap z1)
end Go.Proofs.YtjajandjdclifaaGreatDoor
