/- The bytes of one property behind those ahead of it.; The bytes of properties: the program's Put.; The writer's small methods: add, refuse, number, text, data, reason, id.; Which properties a packet may have: the program's and the document's answer.; Small facts on codes, capacities and drawn worlds.; The writer's properties: allowedAll, properties.; A packet in memory.; What stands ahead of a list; endings; publish. -/
import Derived.Test.YtjajandjdclifaaGreatDoorMB
import Derived.Test.YtjajandjdclifaaGreatDoorMA
import Derived.Deep.RegionHeld3
import Derived.Test.YtjajandjdclifaaGreatDoorProg
import Derived.Below
import Derived.WalkKit
import Derived.OpenShut
import Derived.Deep.MidRow
namespace Go.Proofs.YtjajandjdclifaaGreatDoor
open Go.RowKit

theorem dup_38 (l : List Pr) : PR.dup l 38 = false := rfl
theorem dup_ix {l : List Pr} {id : Int} (h : (id == 38) = false) : PR.dup l id = decide (0 ≤ ix id 0 l) := by unfold PR.dup; rw [h]; rfl

set_option maxHeartbeats 1000000 in
theorem idc_any (A : Option Addr) (cap : Nat) (l : List Pr) (id : Int) (w : World) (hl : l.length ≤ 1000) (h : Props w A l) :
    Calls Tryz.prog 147 #[.slice A l.length cap, .int .i64 id] w fun e w' => e = .returned (.int .u8 (PR.idC l id)) ∧ Below w.heap.size w w' := by
  have CK := Lib.hid (kind_any id)
  have CI := Lib.hid (index_any A cap l id w hl h)
  clear h
  unfold PR.idC
  by_cases hk : PR.kd id = 0
  · rw [if_pos hk]
    rw [hk] at CK
    clear hk
    go_enter Tryz.func147, Tryz.ntmps147
    go_wp2_with fail
    refine (CK.out _).mono ?_
    rintro e w1 ⟨rfl, rfl⟩
    go_wp2
    go_ret
    exact ⟨rfl, Below.refl _ _⟩
  · rw [if_neg hk]
    have e0 : (PR.kd id == 0) = false := by rw [beq_eq_false_iff_ne]; exact hk
    clear hk
    generalize PR.kd id = k at *
    by_cases h38 : (id == 38) = true
    · have hid : id = 38 := by simpa using h38
      subst hid
      rw [dup_38, if_neg (by decide)]
      go_enter Tryz.func147, Tryz.ntmps147
      go_wp2_with fail
      refine (CK.out _).mono ?_
      rintro e w1 ⟨rfl, rfl⟩
      go_wp2
      go_ret
      exact ⟨rfl, Below.refl _ _⟩
    · have h38' : (id == 38) = false := by simpa using h38
      have n38 : (id != 38) = true := by rw [bne, h38']; rfl
      rw [dup_ix h38']
      clear h38
      by_cases hx : 0 ≤ ix id 0 l
      · rw [if_pos (by simpa using hx)]
        generalize ix id 0 l = x at *
        go_enter Tryz.func147, Tryz.ntmps147
        go_wp2_with fail
        refine (CK.out _).mono ?_
        rintro e w1 ⟨rfl, rfl⟩
        go_wp2_with fail
        refine CI.out.mono ?_
        rintro e w1 ⟨rfl, b1⟩
        have B1 := Lib.hid b1
        clear b1
        go_wp2
        go_ret
        exact ⟨rfl, B1.out⟩
      · rw [if_neg (by simpa using hx)]
        have hx' : ix id 0 l < 0 := by omega
        generalize ix id 0 l = x at *
        clear hx
        go_enter Tryz.func147, Tryz.ntmps147
        go_wp2_with fail
        refine (CK.out _).mono ?_
        rintro e w1 ⟨rfl, rfl⟩
        go_wp2_with fail
        refine CI.out.mono ?_
        rintro e w1 ⟨rfl, b1⟩
        have B1 := Lib.hid b1
        clear b1
        go_wp2
        go_ret
        exact ⟨rfl, B1.out⟩

/-- A property whose texts and number a machine can hold. -/
def Fine (p : Pr) : Prop := (p.s.size ≤ 140737488351232 ∧ p.t.size ≤ 140737488351232) ∧ (-9223372036854775808 ≤ p.n ∧ p.n ≤ 9223372036854775807)

set_option maxRecDepth 100000 in
set_option maxHeartbeats 2000000 in
theorem one_any (A : Option Addr) (cap : Nat) (l : List Pr) (p : Pr) (w : World) (hl : l.length ≤ 1000) (h : Props w A l) (hp : Fine p) (hT : Tabs w) :
    Calls Tryz.prog 134 #[.slice A l.length cap, .agg #[.int .i64 p.id, .int .i64 p.n, .string p.s, .string p.t]] w fun e w' => e = .returned (.tuple #[.string (if PR.oneC l p ≠ 0 then ⟨#[]⟩ else PR.oneS p), .int .u8 (PR.oneC l p)]) ∧ Below w.heap.size w w' := by
  have hbl := (Below.refl w.heap.size w).alloc (Nat.le_refl _) (.cells #[.int .i64 p.id, .int .i64 p.n, .string p.s, .string p.t] 163)
  have C1 := Lib.hid (idc_any A cap l p.id _ hl (h.below hbl))
  have C2 : Hid (∀ W', Below w.heap.size w W' → Calls Tryz.prog 148 #[.agg #[.int .i64 p.id, .int .i64 p.n, .string p.s, .string p.t]] W' fun e w' => e = .returned (.tuple #[.string (PR.valS p), .int .u8 (PR.valC p)]) ∧ Below W'.heap.size W' w') := fun W' hW => value_any p hp.1 hp.2 W' (hT.below hW)
  have C3 := Lib.hid (put_any p.id)
  have zv := PR.valS_size p
  have zp : (strOfNums (VP.putL p.id)).size ≤ 4 := by rw [strOfNums_size]; exact PR.putL_len p.id
  unfold PR.oneC PR.oneS
  obtain ⟨id, n, s, t⟩ := p
  simp only at *
  have Hb := Lib.hid hbl
  clear h hp hT hbl
  generalize PR.idC l id = c1 at *
  generalize PR.valS ⟨id, n, s, t⟩ = VS at *
  generalize PR.valC ⟨id, n, s, t⟩ = VC at *
  generalize strOfNums (VP.putL id) = PS at *
  generalize VP.putC id = PC at *
  by_cases h1 : c1 = 0
  · subst h1
    by_cases h2 : VC = 0
    · subst h2
      simp only [ne_eq, not_true_eq_false, if_false]
      go_enter Tryz.func134, Tryz.ntmps134
      go_wp2_with fail
      refine C1.out.mono ?_
      rintro e w1 ⟨rfl, b1⟩
      obtain ⟨q0, q1, q2, q3⟩ : w1.cell? ⟨w.heap.size, 0, none⟩ = some (.int .i64 id) ∧ w1.cell? ⟨w.heap.size, 1, none⟩ = some (.int .i64 n) ∧ w1.cell? ⟨w.heap.size, 2, none⟩ = some (.string s) ∧ w1.cell? ⟨w.heap.size, 3, none⟩ = some (.string t) := by
        refine ⟨?_, ?_, ?_, ?_⟩ <;> (rw [b1.cell (by simp), World.cell?_alloc_at _ _ _ _ rfl]; rfl)
      have B1 : Hid (Below w.heap.size w w1) := Hb.out.trans (b1.mono (by simp))
      have hs1 : w.heap.size < w1.heap.size := by have := b1.size; simp at this; omega
      clear b1
      go_wp2_with fail
      refine (C2.out _ B1.out).mono ?_
      rintro e w2 ⟨rfl, b2⟩
      have r0 : w2.cell? ⟨w.heap.size, 0, none⟩ = some (.int .i64 id) := by rw [b2.cell (p := ⟨w.heap.size, 0, none⟩) hs1]; exact q0
      have B2 : Hid (Below w.heap.size w w2) := B1.out.trans (b2.mono B1.out.size)
      clear b2 q0 q1 q2 q3
      go_wp2_with fail
      refine (C3.out _).mono ?_
      rintro e w3 ⟨rfl, b3⟩
      have B3 : Hid (Below w.heap.size w w3) := B2.out.trans (b3.mono B2.out.size)
      clear b3
      go_wp2
      go_ret2
      exact ⟨rfl, B3.out⟩
    · have hne : (VC != 0) = true := by rw [bne_iff_ne]; exact h2
      simp only [ne_eq, not_true_eq_false, if_false, h2, not_false_eq_true, if_true]
      clear h2
      go_enter Tryz.func134, Tryz.ntmps134
      go_wp2_with fail
      refine C1.out.mono ?_
      rintro e w1 ⟨rfl, b1⟩
      obtain ⟨q0, q1, q2, q3⟩ : w1.cell? ⟨w.heap.size, 0, none⟩ = some (.int .i64 id) ∧ w1.cell? ⟨w.heap.size, 1, none⟩ = some (.int .i64 n) ∧ w1.cell? ⟨w.heap.size, 2, none⟩ = some (.string s) ∧ w1.cell? ⟨w.heap.size, 3, none⟩ = some (.string t) := by
        refine ⟨?_, ?_, ?_, ?_⟩ <;> (rw [b1.cell (by simp), World.cell?_alloc_at _ _ _ _ rfl]; rfl)
      have B1 : Hid (Below w.heap.size w w1) := Hb.out.trans (b1.mono (by simp))
      clear b1
      go_wp2_with fail
      refine (C2.out _ B1.out).mono ?_
      rintro e w2 ⟨rfl, b2⟩
      have B2 : Hid (Below w.heap.size w w2) := B1.out.trans (b2.mono B1.out.size)
      clear b2 q0 q1 q2 q3
      go_wp2
      go_ret2
      exact ⟨rfl, B2.out⟩
  · have hne : (c1 != 0) = true := by rw [bne_iff_ne]; exact h1
    simp only [ne_eq, h1, not_false_eq_true, if_true]
    clear h1
    go_enter Tryz.func134, Tryz.ntmps134
    go_wp2_with fail
    refine C1.out.mono ?_
    rintro e w1 ⟨rfl, b1⟩
    have B1 : Hid (Below w.heap.size w w1) := Hb.out.trans (b1.mono (by simp))
    clear b1
    go_wp2
    go_ret2
    exact ⟨rfl, B1.out⟩

theorem plen_any (n : Int) (h0 : 0 ≤ n) (h1 : n ≤ 268435455) (w : World) :
    Calls Tryz.prog 135 #[.int .i64 n] w fun e w' => e = .returned (.tuple #[.string (strOfNums (VP.putL n)), .int .u8 0]) ∧ Below w.heap.size w w' := by
  have C := Lib.hid (put_any n w)
  rw [VP.putC_in h0 h1] at C
  go_enter Tryz.func135, Tryz.ntmps135
  go_wp2_with fail
  refine C.out.mono ?_
  rintro e w1 ⟨rfl, b1⟩
  have B1 := Lib.hid b1
  clear b1
  go_wp2
  go_ret2
  exact ⟨rfl, B1.out⟩

theorem blen_any (B b : Nat) (l : List UInt8) (w : World) (h : Bld B b l w) :
    Calls Tryz.prog 43 #[.pointer (some ⟨b, 0, none⟩)] w fun e w' => e = .returned (.int .i64 l.length) ∧ w = w' := by
  obtain ⟨v, hv, A, cap, rfl⟩ : ∃ v, w.cell? ⟨b, 1, none⟩ = some v ∧ ∃ A cap, v = .slice A l.length cap := by
    rcases h with ⟨_, v, h2, h3, _⟩ | ⟨_, v, h2, h3, _⟩
    all_goals
      obtain ⟨A, cap, hv⟩ := own_form h3
      rw [Lib.byteCells_length] at hv
      exact ⟨v, by rw [cell_heap h2]; rfl, A, cap, hv⟩
  clear h
  go_enter Tryz.func43, Tryz.ntmps43
  go_wp2
  go_ret
  exact ⟨rfl, rfl⟩
end Go.Proofs.YtjajandjdclifaaGreatDoor
namespace Go.Proofs.YtjajandjdclifaaGreatDoor
open Go.RowKit

theorem tolist_app (a b : ByteArray) : (a ++ b).data.toList = a.data.toList ++ b.data.toList := by simp [ByteArray.data_append]
theorem arr_of (s : ByteArray) : (⟨s.data.toList.toArray⟩ : ByteArray) = s := ByteArray.ext (by simp)
theorem len_of (s : ByteArray) : s.data.toList.length = s.size := Array.length_toList

/-- The relation of Put's loop. -/
def PutRel (w : World) (l : List Pr) (k : Nat) (wr : World) : Prop :=
  PR.restC l k (l.drop k) = PR.restC l 0 l ∧ Bld w.heap.size w.heap.size (PR.allS (l.take k)).data.toList wr ∧ Below w.heap.size w wr

theorem pr_take {l : List Pr} {k : Nat} {v : Pr} (h : l[k]? = some v) : l.take (k + 1) = l.take k ++ [v] := by
  obtain ⟨hk, he⟩ := List.getElem?_eq_some_iff.1 h
  rw [List.take_succ_eq_append_getElem hk, he]

set_option maxRecDepth 100000 in
set_option maxHeartbeats 4000000 in
theorem putall_any (A : Option Addr) (cap : Nat) (l : List Pr) (w : World) (hl : l.length ≤ 100) (hc : l.length ≤ cap) (hcm : cap ≤ 9223372036854775807) (h : Props w A l) (hf : ∀ p ∈ l, Fine p) (hT : Tabs w) :
    Calls Tryz.prog 115 #[.slice A l.length cap] w fun e w' => e = .returned (.tuple #[.string (PR.putS l), .int .u8 (PR.putC l)]) ∧ Below w.heap.size w w' := by
  unfold PR.putS PR.putC
  by_cases h64 : 64 < l.length
  · rw [if_pos h64, if_pos h64]
    have i1 : (64 : Int) < (l.length : Int) := by omega
    clear h hf hT
    go_enter Tryz.func115, Tryz.ntmps115
    go_wp2
    go_ret2
    exact ⟨rfl, Below.refl _ _⟩
  · rw [if_neg h64, if_neg h64]
    have i1 : (l.length : Int) ≤ 64 := by omega
    obtain ⟨PS, hPS⟩ : ∃ x, x = (if PR.restC l 0 l ≠ 0 then (⟨#[]⟩ : ByteArray) else strOfNums (VP.putL (PR.allS l).size) ++ PR.allS l) := ⟨_, rfl⟩
    obtain ⟨PC, hPC⟩ : ∃ x, x = (if PR.restC l 0 l ≠ 0 then PR.restC l 0 l else 0) := ⟨_, rfl⟩
    rw [← hPS, ← hPC]
    have HPS := Lib.hid hPS
    have HPC := Lib.hid hPC
    clear hPS hPC
    have H := Lib.hid h
    have HF := Lib.hid hf
    have HT := Lib.hid hT
    have hbl := (Below.refl w.heap.size w).alloc (Nat.le_refl _) (.cells #[.pointer none, .slice none 0 0] 118)
    have H0 : Hid (PutRel w l 0 (w.alloc (.cells #[.pointer none, .slice none 0 0] 118))) := ⟨rfl, Bld.new w, hbl⟩
    clear h hf hT h64 hbl
    go_enter Tryz.func115, Tryz.ntmps115
    go_wp2
    go_loopw [16] (fun i wr => ∃ k : Nat, i = .int .i64 k ∧ k ≤ l.length ∧ Hid (PutRel w l k wr)) (fun i _ => l.length - (intOf i).toNat)
    case atStart => exact ⟨0, rfl, by omega, H0⟩
    case round =>
      clear H0
      obtain ⟨k, rfl, hk, hrl⟩ := hrel
      obtain ⟨hr1, hbd, hb⟩ := hrl.out
      have Hr1 := Lib.hid hr1
      have Hbd := Lib.hid hbd
      have Hb := Lib.hid hb
      have hsr := hb.size
      have hAs := PR.allS_size (l.take k)
      have hkl : (l.take k).length = k := by simp; omega
      by_cases hlt : k < l.length
      · obtain ⟨p, hp⟩ : ∃ p, l[k]? = some p := ⟨l[k], List.getElem?_eq_getElem hlt⟩
        obtain ⟨g, o, rfl, hg, r0, r1, r2, r3⟩ := H.out k p hp
        have hfp := HF.out p (List.mem_of_getElem? hp)
        have hOs := PR.oneS_size p
        have hcode := PR.oneC_le (l.take k) p
        have E1 := Lib.hid (pr_take hp)
        have E2 : Hid (PR.oneC (l.take k) p = 0 → PR.restC l k (l.drop k) = PR.restC l (k + 1) (l.drop (k + 1))) := fun he => PR.rest_at hp he
        have E3 : Hid (PR.oneC (l.take k) p ≠ 0 → PR.restC l k (l.drop k) = PR.oneC (l.take k) p) := fun he => PR.rest_stop hp he
        have C1 : Hid (∀ W', Below w.heap.size w W' → Calls Tryz.prog 134 #[.slice (some ⟨g, o, none⟩) k cap, .agg #[.int .i64 p.id, .int .i64 p.n, .string p.s, .string p.t]] W' fun e w' => e = .returned (.tuple #[.string (if PR.oneC (l.take k) p ≠ 0 then ⟨#[]⟩ else PR.oneS p), .int .u8 (PR.oneC (l.take k) p)]) ∧ Below W'.heap.size W' w') := fun W' hW => by
          have h1 := one_any (some ⟨g, o, none⟩) cap (l.take k) p W' (by omega) ((H.out.take k).below hW) hfp (HT.out.below hW)
          rwa [hkl] at h1
        have hoS : (if PR.oneC (l.take k) p ≠ 0 then (⟨#[]⟩ : ByteArray) else PR.oneS p).size ≤ 131078 := by
          split
          · exact Nat.zero_le _
          · exact hOs
        have EO : Hid (PR.oneC (l.take k) p = 0 → (if PR.oneC (l.take k) p ≠ 0 then (⟨#[]⟩ : ByteArray) else PR.oneS p) = PR.oneS p) := fun he => if_neg (by simp [he])
        have EA : Hid (PR.allS (l.take (k + 1)) = PR.allS (l.take k) ++ PR.oneS p) := Lib.hid (by rw [E1.out, PR.all_snoc])
        generalize (if PR.oneC (l.take k) p ≠ 0 then (⟨#[]⟩ : ByteArray) else PR.oneS p) = OS at *
        generalize PR.oneC (l.take k) p = oc at *
        obtain ⟨id', n', s', t'⟩ := p
        simp only at r0 r1 r2 r3 C1
        have q0 : wr.cell? ⟨g, o + k * 4, none⟩ = some (.int .i64 id') := by rw [hb.cell (by simp; omega)]; exact r0
        have q1 : wr.cell? ⟨g, o + k * 4 + 1, none⟩ = some (.int .i64 n') := by rw [hb.cell (by simp; omega)]; exact r1
        have q2 : wr.cell? ⟨g, o + k * 4 + 2, none⟩ = some (.string s') := by rw [hb.cell (by simp; omega)]; exact r2
        have q3 : wr.cell? ⟨g, o + k * 4 + 3, none⟩ = some (.string t') := by rw [hb.cell (by simp; omega)]; exact r3
        have j0 : (0 : Int) ≤ (k : Int) := by omega
        have j1 : (k : Int) < (l.length : Int) := by omega
        have j2 : (k : Int) ≤ (cap : Int) := by omega
        have j3 : ((k : Int)).toNat = k := by omega
        have hal := (Below.refl wr.heap.size wr).alloc (Nat.le_refl _) (.cells #[.int .i64 id', .int .i64 n', .string s', .string t'] 163)
        have hvb : (wr.alloc (.cells #[.int .i64 id', .int .i64 n', .string s', .string t'] 163)).heap[wr.heap.size]? = some (.cells #[.int .i64 id', .int .i64 n', .string s', .string t'] 163 (0, 0)) := heap_alloc_new wr _
        have hvs : wr.heap.size + 1 ≤ (wr.alloc (.cells #[.int .i64 id', .int .i64 n', .string s', .string t'] 163)).heap.size := by simp
        have Hbd2 := Lib.hid (Bld.below hbd hal)
        have Hal := Lib.hid (hb.trans (hal.mono hsr))
        clear r0 r1 r2 r3 hp hal hr1 hbd hb hfp hrl
        go_wp2_with fail
        generalize wr.alloc (.cells #[.int .i64 id', .int .i64 n', .string s', .string t'] 163) = V at *
        have c0 : V.cell? ⟨wr.heap.size, 0, none⟩ = some (.int .i64 id') := by rw [cell_heap hvb]; rfl
        have c1 : V.cell? ⟨wr.heap.size, 1, none⟩ = some (.int .i64 n') := by rw [cell_heap hvb]; rfl
        have c2 : V.cell? ⟨wr.heap.size, 2, none⟩ = some (.string s') := by rw [cell_heap hvb]; rfl
        have c3 : V.cell? ⟨wr.heap.size, 3, none⟩ = some (.string t') := by rw [cell_heap hvb]; rfl
        have hlV : wr.heap.size < V.heap.size := by omega
        have hsV := Hal.out.size
        clear hvb q0 q1 q2 q3
        go_region_held3 (fun w' => w'.cell? ⟨wr.heap.size, 0, none⟩ = some (.int .i64 id') ∧ w'.cell? ⟨wr.heap.size, 1, none⟩ = some (.int .i64 n') ∧ w'.cell? ⟨wr.heap.size, 2, none⟩ = some (.string s') ∧ w'.cell? ⟨wr.heap.size, 3, none⟩ = some (.string t'))
          (first | exact ⟨c0, c1, c2, c3⟩ | exact ⟨k0, k1, k2, k3⟩)
          (first
            | (go_at_call 134
               refine (C1.out _ (Hal.out.trans ((Below.refl V.heap.size V).drew.mono hsV))).mono ?_
               rintro en w2 ⟨rfl, b2⟩
               have HV2 : Hid (Below V.heap.size V w2) := below_of_drew b2
               have k0 : w2.cell? ⟨wr.heap.size, 0, none⟩ = some (.int .i64 id') := by rw [HV2.out.cell (p := ⟨wr.heap.size, 0, none⟩) hlV]; exact c0
               have k1 : w2.cell? ⟨wr.heap.size, 1, none⟩ = some (.int .i64 n') := by rw [HV2.out.cell (p := ⟨wr.heap.size, 1, none⟩) hlV]; exact c1
               have k2 : w2.cell? ⟨wr.heap.size, 2, none⟩ = some (.string s') := by rw [HV2.out.cell (p := ⟨wr.heap.size, 2, none⟩) hlV]; exact c2
               have k3 : w2.cell? ⟨wr.heap.size, 3, none⟩ = some (.string t') := by rw [HV2.out.cell (p := ⟨wr.heap.size, 3, none⟩) hlV]; exact c3
               clear b2))
        have B2 : Hid (Below w.heap.size w w2) := Hal.out.trans (HV2.out.mono hsV)
        have hs2 := B2.out.size
        by_cases hoc : oc = 0
        · subst hoc
          have hOS := Lib.hid (EO.out rfl)
          have hAs' : (PR.allS (l.take k)).size ≤ 131078 * 64 := by omega
          have CW := Lib.hid (writes_any w.heap.size w.heap.size (PR.allS (l.take k)).data.toList OS w2 (Bld.below Hbd2.out HV2.out) (by rw [len_of]; omega) hs2)
          clear k0 k1 k2 k3 c0 c1 c2 c3
          go_wp2_with fail
          refine CW.out.mono ?_
          rintro en w3 ⟨rfl, h3, b3⟩
          have H3 := Lib.hid h3
          have B3 := Lib.hid b3
          clear h3 b3 CW
          go_wp2
          go_roundw
          case rel => exact ⟨k + 1, by go_num, by omega, Lib.hid ⟨(E2.out trivial).symm.trans Hr1.out, by rw [EA.out, tolist_app, ← hOS.out]; exact H3.out, B2.out.trans B3.out⟩⟩
          case measure => simp [intOf]; omega
        · have hne : (oc != 0) = true := by rw [bne_iff_ne]; exact hoc
          have hR : Hid (PR.restC l 0 l = oc) := Lib.hid (Hr1.out.symm.trans (E3.out hoc))
          have Hoc := Lib.hid hoc
          clear k0 k1 k2 k3 c0 c1 c2 c3 hoc
          go_wp2
          go_ret2
          refine ⟨?_, B2.out⟩
          have f1 := HPS.out
          have f2 := HPC.out
          rw [hR.out, if_pos Hoc.out] at f1 f2
          rw [f1, f2]
          rfl
      · have hkk : k = l.length := by omega
        subst hkk
        have hR : Hid (PR.restC l 0 l = 0) := Lib.hid (hr1.symm.trans (PR.rest_end l l))
        rw [List.take_length] at hAs Hbd
        have CL := Lib.hid (blen_any _ _ _ wr Hbd.out)
        rw [len_of] at CL
        have CP := Lib.hid (fun W => plen_any ((PR.allS l).size : Int) (by omega) (by omega) W)
        have CS : Hid (∀ W', Below wr.heap.size wr W' → Calls Tryz.prog 46 #[.pointer (some ⟨w.heap.size, 0, none⟩)] W' fun e w' => e = .returned (.string (PR.allS l)) ∧ Below w.heap.size W' w') := fun W' hW => by
          have h1 := str_any w.heap.size w.heap.size _ W' (Bld.below Hbd.out hW) (by have := hW.size; omega)
          rwa [arr_of] at h1
        have zp : (strOfNums (VP.putL (PR.allS l).size)).size ≤ 4 := by rw [strOfNums_size]; exact PR.putL_len _
        clear hr1 hbd hb hrl hlt
        go_wp2_with fail
        refine CL.out.mono ?_
        rintro en w2 ⟨rfl, rfl⟩
        go_wp2_with fail
        refine (CP.out _).mono ?_
        rintro en w2 ⟨rfl, b2⟩
        have B2 := Lib.hid b2
        clear b2
        go_wp2_with fail
        refine (CS.out _ B2.out).mono ?_
        rintro en w3 ⟨rfl, b3⟩
        have B3 := Lib.hid b3
        clear b3
        go_wp2
        go_ret2
        refine ⟨?_, Hb.out.trans ((B2.out.mono hsr).trans B3.out)⟩
        have f1 := HPS.out
        have f2 := HPC.out
        rw [hR.out, if_neg (by decide)] at f1 f2
        rw [f1, f2]
        rfl
end Go.Proofs.YtjajandjdclifaaGreatDoor
namespace Go.Proofs.YtjajandjdclifaaGreatDoor
open Go.RowKit

/-- The writer stands at the bytes and the code o, in at most N times 8388996 bytes; beside a code the bytes are any. -/
def WO (b N : Nat) (o : ByteArray × Int) (w : World) : Prop := ∃ l, Wr b l o.2 w ∧ l.length ≤ N * 8388996 ∧ (o.2 = 0 → (⟨l.toArray⟩ : ByteArray) = o.1) ∧ 0 ≤ o.2 ∧ o.2 ≤ 255
/-- What a method of the writer answers: nothing, but the writer stands at o. -/
def WP (b N : Nat) (o : ByteArray × Int) (w : World) (e : Ending) (w' : World) : Prop := e = .returned (.tuple #[]) ∧ WO b N o w' ∧ Kp b w w'
theorem WO.lt {b N : Nat} {o : ByteArray × Int} {w : World} (h : WO b N o w) : b < w.heap.size := by obtain ⟨l, h1, _⟩ := h; exact h1.lt
theorem WO.below {b N : Nat} {o : ByteArray × Int} {w w' : World} (h : WO b N o w) (hb : Below w.heap.size w w') : WO b N o w' := by
  obtain ⟨l, h1, h2⟩ := h; exact ⟨l, h1.below hb, h2⟩
theorem WO.mono {b N M : Nat} {o : ByteArray × Int} {w : World} (h : WO b N o w) (hN : N ≤ M) : WO b M o w := by
  obtain ⟨l, h1, h2, h3⟩ := h; exact ⟨l, h1, Nat.le_trans h2 (Nat.mul_le_mul_right _ hN), h3⟩
theorem WP.mono {b N M : Nat} {o : ByteArray × Int} {w w' : World} {e : Ending} (h : WP b N o w e w') (hN : N ≤ M) : WP b M o w e w' := ⟨h.1, h.2.1.mono hN, h.2.2⟩
theorem set_code {b : Nat} {l : List UInt8} {c c' : Int} {w : World} (h : Wr b l c w) : Wr b l c' (w.setCell ⟨b, 2, none⟩ (.int .u8 c')) := by
  rcases h with ⟨v, h1, h2, h3⟩ | ⟨v, h1, h2, h3⟩
  · exact .inl ⟨v, set_block h1 rfl, own_set h2 h3, h3⟩
  · exact .inr ⟨v, set_block h1 rfl, own_set h2 h3, h3⟩
theorem code_cell {b : Nat} {l : List UInt8} {c : Int} {w : World} (h : Wr b l c w) : w.cell? ⟨b, 2, none⟩ = some (.int .u8 c) ∧ w.frozen? ⟨b, 2, none⟩ = false := by
  rcases h with ⟨v, h1, h2, h3⟩ | ⟨v, h1, h2, h3⟩
  · exact ⟨by rw [cell_heap h1]; rfl, frozen_heap h1⟩
  · exact ⟨by rw [cell_heap h1]; rfl, frozen_heap h1⟩
theorem ba_app (l : List UInt8) (s : ByteArray) : (⟨(l ++ s.data.toList).toArray⟩ : ByteArray) = ⟨l.toArray⟩ ++ s := by
  apply ByteArray.ext; simp [ByteArray.data_append]

set_option maxHeartbeats 1000000 in
theorem wadd_any (b N M : Nat) (o : ByteArray × Int) (s : ByteArray) (c : Int) (w : World) (h : WO b N o w) (hs : s.size ≤ M * 8388996) (hM : s.size ≤ 140737488355328) (hN : N ≤ 1000) (_hM2 : M ≤ 16777000) (hc : 0 ≤ c ∧ c ≤ 255) :
    Calls Tryz.prog 112 #[.pointer (some ⟨b, 0, none⟩), .string s, .int .u8 c] w (WP b (N + M) (PK.ad o s c) w) := by
  obtain ⟨l, h1, h2, h3, h4⟩ := h
  obtain ⟨q, fz⟩ := code_cell h1
  have hsl : s.data.toList.length = s.size := Array.length_toList
  by_cases ho : o.2 = 0
  · have e0 : (o.2 == 0) = true := by simp [ho]
    have C := Lib.hid (wwrite_any b l c s _ (set_code (c' := c) h1) (by omega) (by omega))
    have HO : Hid (0 ≤ (PK.ad o s c).2 ∧ (PK.ad o s c).2 ≤ 255 ∧ (PK.ad o s c).2 = c ∧ ((PK.ad o s c).2 = 0 → (⟨(l ++ s.data.toList).toArray⟩ : ByteArray) = (PK.ad o s c).1)) := Lib.hid (by
      by_cases hc0 : c = 0
      · subst hc0
        rw [PK.ad_ok ho]
        exact ⟨Int.le_refl 0, (by decide : (0 : Int) ≤ 255), rfl, fun _ => by rw [ba_app, h3 ho]⟩
      · rw [PK.ad_code ho _ hc0]
        exact ⟨hc.1, hc.2, rfl, fun h => absurd h hc0⟩)
    have HK := Lib.hid ((Kp.refl b w).setCell 2 (.int .u8 c))
    have HL : Hid ((l ++ s.data.toList).length ≤ (N + M) * 8388996) := Lib.hid (by rw [List.length_append, Nat.add_mul]; omega)
    generalize PK.ad o s c = o' at *
    generalize o.2 = oc at *
    clear h1 h3 ho h4
    go_enter Tryz.func112, Tryz.ntmps112
    go_wp2_with fail
    refine C.out.mono ?_
    rintro e w1 ⟨rfl, hw, hk⟩
    have H1 := Lib.hid hw
    have H2 := Lib.hid hk
    clear hw hk C
    go_wp2
    go_end0
    exact ⟨rfl, ⟨_, by rw [HO.out.2.2.1]; exact H1.out, HL.out, HO.out.2.2.2, HO.out.1, HO.out.2.1⟩, HK.out.trans H2.out⟩
  · have e0 : (o.2 == 0) = false := by simp [ho]
    have C := Lib.hid (wwrite_any b l o.2 s w h1 (by omega) (by omega))
    have HE := Lib.hid (PK.ad_bad ho s c)
    have Ho := Lib.hid ho
    have HL : Hid ((l ++ s.data.toList).length ≤ (N + M) * 8388996) := Lib.hid (by rw [List.length_append, Nat.add_mul]; omega)
    have H4 := Lib.hid h4
    generalize PK.ad o s c = o' at *
    obtain ⟨os, oc⟩ := o
    simp only at C Ho H4 e0 q
    clear h1 h3 ho h4
    go_enter Tryz.func112, Tryz.ntmps112
    go_wp2_with fail
    refine C.out.mono ?_
    rintro e w1 ⟨rfl, hw, hk⟩
    have H1 := Lib.hid hw
    have H2 := Lib.hid hk
    clear hw hk C
    go_wp2
    go_end0
    exact ⟨rfl, by rw [HE.out]; exact ⟨_, H1.out, HL.out, fun h => absurd h Ho.out, H4.out⟩, H2.out⟩
theorem wrefuse_any (b N : Nat) (o : ByteArray × Int) (c : Int) (w : World) (h : WO b N o w) (hN : N ≤ 1000) (hc : 0 ≤ c ∧ c ≤ 255) :
    Calls Tryz.prog 73 #[.pointer (some ⟨b, 0, none⟩), .int .u8 c] w (WP b N (PK.rf o c) w) := by
  have C := Lib.hid (wadd_any b N 0 o ⟨#[]⟩ c w h (Nat.zero_le _) (Nat.zero_le _) hN (by decide) hc)
  unfold PK.rf
  generalize PK.ad o ⟨#[]⟩ c = o' at *
  clear h
  go_enter Tryz.func73, Tryz.ntmps73
  go_wp2_with fail
  refine C.out.mono ?_
  rintro e w1 ⟨rfl, hw, hk⟩
  have H1 := Lib.hid hw
  have H2 := Lib.hid hk
  clear hw hk C
  go_wp2
  go_end0
  exact ⟨rfl, H1.out, H2.out⟩

theorem fix_size (w n : Int) : (strOfNums (VP.fixL w n)).size ≤ 4 := by rw [strOfNums_size]; exact PR.fixL_len w n
theorem wnumber_any (b N : Nat) (o : ByteArray × Int) (wd n : Int) (w : World) (h : WO b N o w) (hN : N ≤ 1000) (hn : -9223372036854775808 ≤ n ∧ n ≤ 9223372036854775807) :
    Calls Tryz.prog 76 #[.pointer (some ⟨b, 0, none⟩), .int .i64 wd, .int .i64 n] w (WP b (N + 1) (PK.nm o wd n) w) := by
  have C1 := Lib.hid (fixed_any wd n hn.1 hn.2 w)
  have hc := VP.fixC_le wd n
  have C2 : Hid (∀ W, Below w.heap.size w W → Calls Tryz.prog 112 #[.pointer (some ⟨b, 0, none⟩), .string (strOfNums (VP.fixL wd n)), .int .u8 (VP.fixC wd n)] W (WP b (N + 1) (PK.nm o wd n) W)) := fun W hW => wadd_any b N 1 o _ _ W (h.below hW) (Nat.le_trans (fix_size wd n) (by decide)) (Nat.le_trans (fix_size wd n) (by decide)) hN (by decide) (by omega)
  have hb := h.lt
  generalize PK.nm o wd n = o' at *
  generalize strOfNums (VP.fixL wd n) = S at *
  generalize VP.fixC wd n = c at *
  clear h
  go_enter Tryz.func76, Tryz.ntmps76
  go_wp2_with fail
  refine C1.out.mono ?_
  rintro e w1 ⟨rfl, b1⟩
  have C3 := Lib.hid (C2.out w1 b1)
  have K1 : Hid (Kp b w w1) := Kp.of_below (Nat.le_of_lt hb) b1
  clear C1 C2 b1
  go_wp2_with fail
  refine C3.out.mono ?_
  rintro e w2 ⟨rfl, hw, hk⟩
  have H1 := Lib.hid hw
  have H2 := Lib.hid hk
  clear hw hk C3
  go_wp2
  go_end0
  exact ⟨rfl, H1.out, K1.out.trans H2.out⟩
theorem wtext_any (b N : Nat) (o : ByteArray × Int) (s : ByteArray) (w : World) (h : WO b N o w) (hN : N ≤ 1000) (hs : s.size ≤ 140737488351232) (hT : Tabs w) :
    Calls Tryz.prog 84 #[.pointer (some ⟨b, 0, none⟩), .string s] w (WP b (N + 1) (PK.tx o s) w) := by
  have C1 := Lib.hid (tput_any s hs w hT)
  have hc := TX.putC_le s
  have C2 : Hid (∀ W, Below w.heap.size w W → Calls Tryz.prog 112 #[.pointer (some ⟨b, 0, none⟩), .string (TX.putS s), .int .u8 (TX.putC s)] W (WP b (N + 1) (PK.tx o s) W)) := fun W hW => wadd_any b N 1 o _ _ W (h.below hW) (Nat.le_trans (PR.putS_size s) (by decide)) (Nat.le_trans (PR.putS_size s) (by decide)) hN (by decide) (by omega)
  have hb := h.lt
  generalize PK.tx o s = o' at *
  generalize TX.putS s = S at *
  generalize TX.putC s = c at *
  clear h
  go_enter Tryz.func84, Tryz.ntmps84
  go_wp2_with fail
  refine C1.out.mono ?_
  rintro e w1 ⟨rfl, b1⟩
  have C3 := Lib.hid (C2.out w1 b1)
  have K1 : Hid (Kp b w w1) := Kp.of_below (Nat.le_of_lt hb) b1
  clear C1 C2 b1
  go_wp2_with fail
  refine C3.out.mono ?_
  rintro e w2 ⟨rfl, hw, hk⟩
  have H1 := Lib.hid hw
  have H2 := Lib.hid hk
  clear hw hk C3
  go_wp2
  go_end0
  exact ⟨rfl, H1.out, K1.out.trans H2.out⟩
theorem wdata_any (b N : Nat) (o : ByteArray × Int) (s : ByteArray) (w : World) (h : WO b N o w) (hN : N ≤ 1000) (hs : s.size ≤ 140737488351232) :
    Calls Tryz.prog 114 #[.pointer (some ⟨b, 0, none⟩), .string s] w (WP b (N + 1) (PK.dt o s) w) := by
  have C1 : Hid (Calls Tryz.prog 133 #[.string s] w fun e w' => e = .returned (.tuple #[.string (TX.dataS s), .int .u8 (TX.dataC s)]) ∧ Below w.heap.size w w') := Lib.hid (data_any s (by unfold maxLen; omega) w)
  have hc := PR.dataC_le s
  have C2 : Hid (∀ W, Below w.heap.size w W → Calls Tryz.prog 112 #[.pointer (some ⟨b, 0, none⟩), .string (TX.dataS s), .int .u8 (TX.dataC s)] W (WP b (N + 1) (PK.dt o s) W)) := fun W hW => wadd_any b N 1 o _ _ W (h.below hW) (Nat.le_trans (PR.dataS_size s) (by decide)) (Nat.le_trans (PR.dataS_size s) (by decide)) hN (by decide) (by omega)
  have hb := h.lt
  generalize PK.dt o s = o' at *
  generalize TX.dataS s = S at *
  generalize TX.dataC s = c at *
  clear h
  go_enter Tryz.func114, Tryz.ntmps114
  go_wp2_with fail
  refine C1.out.mono ?_
  rintro e w1 ⟨rfl, b1⟩
  have C3 := Lib.hid (C2.out w1 b1)
  have K1 : Hid (Kp b w w1) := Kp.of_below (Nat.le_of_lt hb) b1
  clear C1 C2 b1
  go_wp2_with fail
  refine C3.out.mono ?_
  rintro e w2 ⟨rfl, hw, hk⟩
  have H1 := Lib.hid hw
  have H2 := Lib.hid hk
  clear hw hk C3
  go_wp2
  go_end0
  exact ⟨rfl, H1.out, K1.out.trans H2.out⟩
theorem wreason_any (b N : Nat) (o : ByteArray × Int) (c : Int) (w : World) (h : WO b N o w) (hN : N ≤ 1000) (hc : 0 ≤ c ∧ c ≤ 255) :
    Calls Tryz.prog 77 #[.pointer (some ⟨b, 0, none⟩), .int .u8 c] w (WP b (N + 1) (PK.nm o 1 c) w) := by
  have C := Lib.hid (wnumber_any b N o 1 c w h hN (by omega))
  generalize PK.nm o 1 c = o' at *
  have i1 := hc.1
  have i2 := hc.2
  clear h
  go_enter Tryz.func77, Tryz.ntmps77
  go_wp2_with fail
  refine C.out.mono ?_
  rintro e w1 ⟨rfl, hw, hk⟩
  have H1 := Lib.hid hw
  have H2 := Lib.hid hk
  clear hw hk C
  go_wp2
  go_end0
  exact ⟨rfl, H1.out, H2.out⟩
theorem wid_any (b N : Nat) (o : ByteArray × Int) (n : Int) (w : World) (h : WO b N o w) (hN : N ≤ 1000) (hn : -9223372036854775808 ≤ n ∧ n ≤ 9223372036854775807) :
    Calls Tryz.prog 86 #[.pointer (some ⟨b, 0, none⟩), .int .i64 n] w (WP b (N + 1) (PK.idd o n) w) := by
  unfold PK.idd
  have C2 : Hid (∀ o W, WO b N o W → Calls Tryz.prog 76 #[.pointer (some ⟨b, 0, none⟩), .int .i64 2, .int .i64 n] W (WP b (N + 1) (PK.nm o 2 n) W)) := fun o W hW => wnumber_any b N o 2 n W hW hN hn
  by_cases hr : n < 1 ∨ 65535 < n
  · rw [if_pos hr]
    have C := Lib.hid (wrefuse_any b N o 130 w h hN (by decide))
    generalize PK.rf o 130 = o1 at *
    clear h
    rcases hr with hr | hr
    · go_enter Tryz.func86, Tryz.ntmps86
      go_wp2_with fail
      refine C.out.mono ?_
      rintro e w1 ⟨rfl, hw, hk⟩
      have C3 := Lib.hid (C2.out _ _ hw)
      have K1 := Lib.hid hk
      clear hw hk C C2
      go_wp2_with fail
      refine C3.out.mono ?_
      rintro e w2 ⟨rfl, hw, hk⟩
      have H1 := Lib.hid hw
      have H2 := Lib.hid hk
      clear hw hk C3
      go_wp2
      go_end0
      exact ⟨rfl, H1.out, K1.out.trans H2.out⟩
    · have hr1 : ¬ n < 1 := by omega
      go_enter Tryz.func86, Tryz.ntmps86
      go_wp2_with fail
      refine C.out.mono ?_
      rintro e w1 ⟨rfl, hw, hk⟩
      have C3 := Lib.hid (C2.out _ _ hw)
      have K1 := Lib.hid hk
      clear hw hk C C2
      go_wp2_with fail
      refine C3.out.mono ?_
      rintro e w2 ⟨rfl, hw, hk⟩
      have H1 := Lib.hid hw
      have H2 := Lib.hid hk
      clear hw hk C3
      go_wp2
      go_end0
      exact ⟨rfl, H1.out, K1.out.trans H2.out⟩
  · rw [if_neg hr]
    have C3 := Lib.hid (C2.out _ _ h)
    have hr1 : ¬ n < 1 := by omega
    have hr2 : ¬ 65535 < n := by omega
    clear h C2 hr
    go_enter Tryz.func86, Tryz.ntmps86
    go_wp2_with fail
    refine C3.out.mono ?_
    rintro e w2 ⟨rfl, hw, hk⟩
    have H1 := Lib.hid hw
    have H2 := Lib.hid hk
    clear hw hk C3
    go_wp2
    go_end0
    exact ⟨rfl, H1.out, H2.out⟩

/-! Small tests. -/
theorem isqos_any (n : Int) (w : World) : Calls Tryz.prog 92 #[.int .i64 n] w fun e w' => e = .returned (.bool (PK.isQ n)) ∧ w = w' := by
  have E : Hid (PK.isQ n = (decide (0 ≤ n) && decide (n ≤ 2))) := rfl
  generalize PK.isQ n = q at *
  by_cases h0 : 0 ≤ n
  · go_enter Tryz.func92, Tryz.ntmps92
    go_wp2
    go_ret
    exact ⟨by rw [E.out]; simp [h0], rfl⟩
  · go_enter Tryz.func92, Tryz.ntmps92
    go_wp2
    go_ret
    exact ⟨by rw [E.out]; simp; omega, rfl⟩
theorem ishand_any (n : Int) (w : World) : Calls Tryz.prog 117 #[.int .i64 n] w fun e w' => e = .returned (.bool (PK.isQ n)) ∧ w = w' := by
  have E : Hid (PK.isQ n = (decide (0 ≤ n) && decide (n ≤ 2))) := rfl
  generalize PK.isQ n = q at *
  by_cases h0 : 0 ≤ n
  · go_enter Tryz.func117, Tryz.ntmps117
    go_wp2
    go_ret
    exact ⟨by rw [E.out]; simp [h0], rfl⟩
  · go_enter Tryz.func117, Tryz.ntmps117
    go_wp2
    go_ret
    exact ⟨by rw [E.out]; simp; omega, rfl⟩
theorem flag_any (on : Bool) (n : Int) (w : World) : Calls Tryz.prog 74 #[.bool on, .int .i64 n] w fun e w' => e = .returned (.int .i64 (PK.fl on n)) ∧ w = w' := by
  unfold PK.fl
  cases on
  · go_enter Tryz.func74, Tryz.ntmps74
    go_wp2
    go_ret
    exact ⟨rfl, rfl⟩
  · go_enter Tryz.func74, Tryz.ntmps74
    go_wp2
    go_ret
    exact ⟨rfl, rfl⟩
end Go.Proofs.YtjajandjdclifaaGreatDoor
namespace Go.Proofs.YtjajandjdclifaaGreatDoor
open Go.RowKit

/-- A row of numbers, at a place or none. -/
def NumsO (w : World) (A : Option Addr) (l : List Int) : Prop := ∀ (i : Nat) x, l[i]? = some x → ∃ g, A = some ⟨g, 0, none⟩ ∧ w.cell? ⟨g, i, none⟩ = some (.int .i64 x)
theorem numsO_new (w : World) (l : List Int) (t : TypeId) : NumsO (w.alloc (.cells (l.map (Value.int .i64)).toArray t)) (some ⟨w.heap.size, 0, none⟩) l := by
  intro i x hx
  refine ⟨w.heap.size, rfl, ?_⟩
  rw [World.cell?_alloc_at _ _ _ _ rfl]
  simp [hx]
theorem numsO_nil (w : World) (A : Option Addr) : NumsO w A [] := fun i x hx => by simp at hx

set_option maxHeartbeats 1000000 in
theorem sindex_any (n : Int) (A : Option Addr) (cap : Nat) (l : List Int) (w : World) (hl : l.length ≤ 100) (hc : NumsO w A l) :
    Calls Tryz.prog 159 #[.slice A l.length cap, .int .i64 n] w fun e w' => e = .returned (.int .i64 (PK.ixn n 0 l)) ∧ w = w' := by
  have H := Lib.hid hc
  clear hc
  go_enter Tryz.func159, Tryz.ntmps159
  go_wp2
  go_loop [8] (fun i => ∃ k : Nat, i = .int .i64 k ∧ k ≤ l.length ∧ Hid (PK.ixn n k (l.drop k) = PK.ixn n 0 l)) (fun i => l.length - (intOf i).toNat)
  case atStart => exact ⟨0, rfl, by omega, Lib.hid rfl⟩
  case round =>
    obtain ⟨k, rfl, hk, hk1⟩ := hrel
    by_cases hlt : k < l.length
    · obtain ⟨x, hx⟩ : ∃ x, l[k]? = some x := ⟨l[k], List.getElem?_eq_getElem hlt⟩
      obtain ⟨g, rfl, c1⟩ := H.out k x hx
      by_cases he : (n == x) = true
      · have E1 := Lib.hid (PK.ixn_yes hx he)
        clear hx
        go_wp2
        go_ret
        exact ⟨by rw [← hk1.out, E1.out]; rfl, rfl⟩
      · have he' : (n == x) = false := by simpa using he
        have E1 := Lib.hid (PK.ixn_no hx he')
        clear hx he
        go_wp2
        go_round
        case rel => exact ⟨k + 1, by go_num, by omega, Lib.hid (by rw [← E1.out]; exact hk1.out)⟩
        case measure => simp [intOf]; omega
    · have hkl : k = l.length := by omega
      subst hkl
      have E1 := Lib.hid (PK.ixn_end n l)
      go_wp2
      go_ret
      exact ⟨by rw [← hk1.out, E1.out]; rfl, rfl⟩
theorem contains_any (n : Int) (A : Option Addr) (cap : Nat) (l : List Int) (w : World) (hl : l.length ≤ 100) (hc : NumsO w A l) :
    Calls Tryz.prog 150 #[.slice A l.length cap, .int .i64 n] w fun e w' => e = .returned (.bool (PR.has n l)) ∧ w = w' := by
  have C := Lib.hid (sindex_any n A cap l w hl hc)
  have E := Lib.hid (PK.ixn_has n l 0)
  clear hc
  generalize PK.ixn n 0 l = x at *
  go_enter Tryz.func150, Tryz.ntmps150
  go_wp2_with fail
  refine C.out.mono ?_
  rintro e w' ⟨rfl, rfl⟩
  clear C
  go_wp2
  go_ret
  exact ⟨by rw [← E.out]; rfl, rfl⟩

/-- What tells the identifiers answers. -/
def IdsP (k : Int) (w : World) (e : Ending) (w' : World) : Prop := ∃ A, e = .returned (.slice A (PK.ids k).length (PK.ids k).length) ∧ NumsO w' A (PK.ids k) ∧ Below w.heap.size w w'
theorem idsP_new {k : Int} {l : List Int} (h : PK.ids k = l) {n : Nat} (hn : n = l.length) (w : World) (t : TypeId) {cs : Array Value} (hc : cs = (l.map (Value.int .i64)).toArray) : IdsP k w (.returned (.slice (some ⟨w.heap.size, 0, none⟩) n n)) (w.alloc (.cells cs t)) := by
  subst hc hn
  exact ⟨_, by rw [h], by rw [h]; exact numsO_new w l t, (Below.refl _ _).alloc (Nat.le_refl _) _⟩
set_option maxRecDepth 100000 in
set_option maxHeartbeats 4000000 in
theorem ids_small (k : Nat) (hk : k ≤ 15) (w : World) : Calls Tryz.prog 151 #[.int .i64 (k : Int)] w (IdsP k w) := by
  have h : k = 0 ∨ k = 1 ∨ k = 2 ∨ k = 3 ∨ k = 4 ∨ k = 5 ∨ k = 6 ∨ k = 7 ∨ k = 8 ∨ k = 9 ∨ k = 10 ∨ k = 11 ∨ k = 12 ∨ k = 13 ∨ k = 14 ∨ k = 15 := by omega
  rcases h with rfl | rfl | rfl | rfl | rfl | rfl | rfl | rfl | rfl | rfl | rfl | rfl | rfl | rfl | rfl | rfl
  all_goals
    go_enter Tryz.func151, Tryz.ntmps151
    go_wp2
    go_ret
    first
      | exact idsP_new rfl rfl w _ rfl
      | exact ⟨none, rfl, numsO_nil _ _, Below.refl _ _⟩
theorem ids_any (k : Int) (w : World) : Calls Tryz.prog 151 #[.int .i64 k] w (IdsP k w) := by
  by_cases h : k < 0 ∨ 15 < k
  · have h0 : ∀ c : Int, 0 ≤ c → c ≤ 15 → (k == c) = false := fun c h1 h2 => by rw [beq_eq_false_iff_ne]; omega
    have e0 := h0 0 (by decide) (by decide); have e1 := h0 1 (by decide) (by decide); have e2 := h0 2 (by decide) (by decide); have e3 := h0 3 (by decide) (by decide); have e4 := h0 4 (by decide) (by decide); have e5 := h0 5 (by decide) (by decide)
    have e6 := h0 6 (by decide) (by decide); have e7 := h0 7 (by decide) (by decide); have e8 := h0 8 (by decide) (by decide); have e9 := h0 9 (by decide) (by decide); have e10 := h0 10 (by decide) (by decide); have e11 := h0 11 (by decide) (by decide)
    have e14 := h0 14 (by decide) (by decide); have e15 := h0 15 (by decide) (by decide)
    have HI := Lib.hid (PK.ids_out h)
    clear h0 h
    go_enter Tryz.func151, Tryz.ntmps151
    go_wp2
    go_ret
    exact ⟨none, by rw [HI.out]; rfl, by rw [HI.out]; exact numsO_nil _ _, Below.refl _ _⟩
  · obtain ⟨m, rfl⟩ := Int.eq_ofNat_of_zero_le (show 0 ≤ k by omega)
    exact ids_small m (by omega) w
theorem allowed_any (k id : Int) (w : World) :
    Calls Tryz.prog 138 #[.int .i64 k, .int .i64 id] w fun e w' => e = .returned (.bool (PK.al k id)) ∧ Below w.heap.size w w' := by
  have C := Lib.hid (ids_any k w)
  have C2 := Lib.hid (contains_any id · (PK.ids k).length (PK.ids k) · (by have := PK.ids_len k; omega))
  have E : Hid (PK.al k id = PR.has id (PK.ids k)) := rfl
  have hn := PK.ids_len k
  unfold IdsP at C
  generalize PK.al k id = b at *
  generalize PK.ids k = l at *
  go_enter Tryz.func138, Tryz.ntmps138
  go_wp2_with fail
  refine C.out.mono ?_
  rintro e w1 ⟨A, rfl, hN, b1⟩
  have C3 := Lib.hid (C2.out A w1 hN)
  have B1 := Lib.hid b1
  clear C C2 hN b1
  go_wp2_with fail
  refine C3.out.mono ?_
  rintro e w2 ⟨rfl, rfl⟩
  clear C3
  go_wp2
  go_ret
  exact ⟨by rw [E.out]; rfl, B1.out⟩

/-! The document's. -/
set_option maxHeartbeats 1000000 in
theorem in5_any (n : Int) (g cap : Nat) (l : List Int) (w : World) (hl : l.length ≤ 100) (hc : NumsO w (some ⟨g, 0, none⟩) l) :
    Calls Tryz.prog 145 #[.int .i64 n, .slice (some ⟨g, 0, none⟩) l.length cap] w fun e w' => e = .returned (.bool (PR.has n l)) ∧ w = w' := by
  have H := Lib.hid hc
  clear hc
  go_enter Tryz.func145, Tryz.ntmps145
  go_wp2
  go_loop [5] (fun i => ∃ k : Nat, i = .int .i64 k ∧ k ≤ l.length ∧ Hid (PR.has n (l.drop k) = PR.has n l)) (fun i => l.length - (intOf i).toNat)
  case atStart => exact ⟨0, rfl, by omega, Lib.hid rfl⟩
  case round =>
    obtain ⟨k, rfl, hk, hk1⟩ := hrel
    by_cases hlt : k < l.length
    · obtain ⟨x, hx⟩ : ∃ x, l[k]? = some x := ⟨l[k], List.getElem?_eq_getElem hlt⟩
      obtain ⟨g', hg', c1⟩ := H.out k x hx
      obtain rfl : g = g' := by injection hg' with hg'; injection hg'
      by_cases he : (x == n) = true
      · have E1 := Lib.hid (PR.has_yes hx he)
        clear hx hg'
        go_wp2
        go_ret
        exact ⟨by rw [← hk1.out, E1.out]; rfl, rfl⟩
      · have he' : (x == n) = false := by simpa using he
        have E1 := Lib.hid (PR.has_no hx he')
        clear hx he hg'
        go_wp2
        go_round
        case rel => exact ⟨k + 1, by go_num, by omega, Lib.hid (by rw [← E1.out]; exact hk1.out)⟩
        case measure => simp [intOf]; omega
    · have hkl : k = l.length := by omega
      subst hkl
      have E1 := Lib.hid (PR.has_end n l)
      go_wp2
      go_ret
      exact ⟨by rw [← hk1.out, E1.out]; rfl, rfl⟩
theorem in5_new (n : Int) (l : List Int) (w : World) (hl : l.length ≤ 100) {cs : Array Value} (hc : cs = (l.map (Value.int .i64)).toArray) {m : Nat} (hm : m = l.length) :
    Calls Tryz.prog 145 #[.int .i64 n, .slice (some ⟨w.heap.size, 0, none⟩) m m] (w.alloc (.cells cs 3)) fun e w' => e = .returned (.bool (PR.has n l)) ∧ w.alloc (.cells cs 3) = w' := by
  subst hc hm
  exact in5_any n w.heap.size l.length l _ hl (numsO_new w l _)
/-- A kind whose identifiers the document lists. -/
def RAl (k : Int) (id : Int) (w : World) : Prop := Calls Tryz.prog 131 #[.int .i64 k, .int .i64 id] w fun e w' => e = .returned (.bool (PK.al k id)) ∧ Below w.heap.size w w'
set_option maxRecDepth 100000 in
set_option maxHeartbeats 4000000 in
theorem ral_list (k : Nat) (hk : k = 0 ∨ k = 1 ∨ k = 3 ∨ k = 14 ∨ k = 15) (id : Int) (w : World) : RAl k id w := by
  unfold RAl
  rcases hk with rfl | rfl | rfl | rfl | rfl
  · go_enter Tryz.func131, Tryz.ntmps131
    go_wp2_with fail
    refine (in5_new id [1, 2, 3, 8, 9, 24, 38] w (by decide) rfl rfl).mono ?_
    rintro e w' ⟨rfl, rfl⟩
    go_wp2
    go_ret
    exact ⟨rfl, (Below.refl _ _).alloc (Nat.le_refl _) _⟩
  · go_enter Tryz.func131, Tryz.ntmps131
    go_wp2_with fail
    refine (in5_new id [17, 21, 22, 23, 25, 33, 34, 38, 39] w (by decide) rfl rfl).mono ?_
    rintro e w' ⟨rfl, rfl⟩
    go_wp2
    go_ret
    exact ⟨rfl, (Below.refl _ _).alloc (Nat.le_refl _) _⟩
  · go_enter Tryz.func131, Tryz.ntmps131
    go_wp2_with fail
    refine (in5_new id [1, 2, 3, 8, 9, 11, 35, 38] w (by decide) rfl rfl).mono ?_
    rintro e w' ⟨rfl, rfl⟩
    go_wp2
    go_ret
    exact ⟨rfl, (Below.refl _ _).alloc (Nat.le_refl _) _⟩
  · go_enter Tryz.func131, Tryz.ntmps131
    go_wp2_with fail
    refine (in5_new id [17, 28, 31, 38] w (by decide) rfl rfl).mono ?_
    rintro e w' ⟨rfl, rfl⟩
    go_wp2
    go_ret
    exact ⟨rfl, (Below.refl _ _).alloc (Nat.le_refl _) _⟩
  · go_enter Tryz.func131, Tryz.ntmps131
    go_wp2_with fail
    refine (in5_new id [21, 22, 31, 38] w (by decide) rfl rfl).mono ?_
    rintro e w' ⟨rfl, rfl⟩
    go_wp2
    go_ret
    exact ⟨rfl, (Below.refl _ _).alloc (Nat.le_refl _) _⟩
set_option maxRecDepth 100000 in
set_option maxHeartbeats 4000000 in
theorem ral_conn (id : Int) (w : World) : RAl 2 id w := by
  unfold RAl
  have C := Lib.hid (in5_new id [17, 18, 19, 21, 22, 26, 28, 31, 33, 34] w (by decide) rfl rfl)
  have E := Lib.hid (PK.al_2 id)
  generalize PR.has id [17, 18, 19, 21, 22, 26, 28, 31, 33, 34] = b at *
  generalize PK.al 2 id = c at *
  cases b
  · by_cases h1 : 36 ≤ id
    · go_enter Tryz.func131, Tryz.ntmps131
      go_wp2_with fail
      refine C.out.mono ?_
      rintro e w' ⟨rfl, rfl⟩
      go_wp2
      go_ret
      exact ⟨ret_bool (by rw [E.out]; simp; omega), (Below.refl _ _).alloc (Nat.le_refl _) _⟩
    · go_enter Tryz.func131, Tryz.ntmps131
      go_wp2_with fail
      refine C.out.mono ?_
      rintro e w' ⟨rfl, rfl⟩
      go_wp2
      go_ret
      exact ⟨ret_bool (by rw [E.out]; simp; omega), (Below.refl _ _).alloc (Nat.le_refl _) _⟩
  · go_enter Tryz.func131, Tryz.ntmps131
    go_wp2_with fail
    refine C.out.mono ?_
    rintro e w' ⟨rfl, rfl⟩
    go_wp2
    go_ret
    exact ⟨ret_bool (by rw [E.out]; rfl), (Below.refl _ _).alloc (Nat.le_refl _) _⟩
set_option maxRecDepth 100000 in
set_option maxHeartbeats 4000000 in
theorem ral_two (k : Nat) (hk : k = 4 ∨ k = 5 ∨ k = 6 ∨ k = 7 ∨ k = 9 ∨ k = 11) (id : Int) (w : World) : RAl k id w := by
  unfold RAl
  have E : Hid (PK.al k id = (id == 31 || id == 38)) := by
    rcases hk with rfl | rfl | rfl | rfl | rfl | rfl <;> exact PK.has_2 id 31 38
  generalize PK.al k id = c at *
  rcases hk with rfl | rfl | rfl | rfl | rfl | rfl
  all_goals
    by_cases h : (id == 31) = true
    · go_enter Tryz.func131, Tryz.ntmps131
      go_wp2
      go_ret
      exact ⟨ret_bool (by rw [E.out, h]; rfl), Below.refl _ _⟩
    · have h' : (id == 31) = false := by simpa using h
      clear h
      go_enter Tryz.func131, Tryz.ntmps131
      go_wp2
      go_ret
      exact ⟨ret_bool (by rw [E.out, h']; rfl), Below.refl _ _⟩
set_option maxRecDepth 100000 in
set_option maxHeartbeats 4000000 in
theorem ral_few (k : Nat) (hk : k = 8 ∨ k = 10 ∨ k = 12 ∨ k = 13) (id : Int) (w : World) : RAl k id w := by
  unfold RAl
  rcases hk with rfl | rfl | rfl | rfl
  · have E : Hid (PK.al 8 id = (id == 11 || id == 38)) := PK.has_2 id 11 38
    show Calls Tryz.prog 131 #[.int .i64 8, .int .i64 id] w fun e w' => e = .returned (.bool (PK.al 8 id)) ∧ Below w.heap.size w w'
    generalize PK.al 8 id = c at *
    by_cases h : (id == 11) = true
    · go_enter Tryz.func131, Tryz.ntmps131
      go_wp2
      go_ret
      exact ⟨ret_bool (by rw [E.out, h]; rfl), Below.refl _ _⟩
    · have h' : (id == 11) = false := by simpa using h
      clear h
      go_enter Tryz.func131, Tryz.ntmps131
      go_wp2
      go_ret
      exact ⟨ret_bool (by rw [E.out, h']; rfl), Below.refl _ _⟩
  · have E : Hid (PK.al 10 id = (id == 38)) := PK.has_1 id 38
    show Calls Tryz.prog 131 #[.int .i64 10, .int .i64 id] w fun e w' => e = .returned (.bool (PK.al 10 id)) ∧ Below w.heap.size w w'
    generalize PK.al 10 id = c at *
    go_enter Tryz.func131, Tryz.ntmps131
    go_wp2
    go_ret
    exact ⟨ret_bool (by rw [E.out]), Below.refl _ _⟩
  · go_enter Tryz.func131, Tryz.ntmps131
    go_wp2
    go_ret
    exact ⟨rfl, Below.refl _ _⟩
  · go_enter Tryz.func131, Tryz.ntmps131
    go_wp2
    go_ret
    exact ⟨rfl, Below.refl _ _⟩
theorem rallowed_any (k id : Int) (w : World) :
    Calls Tryz.prog 131 #[.int .i64 k, .int .i64 id] w fun e w' => e = .returned (.bool (PK.al k id)) ∧ Below w.heap.size w w' := by
  by_cases h : k < 0 ∨ 15 < k
  · have h0 : ∀ c : Int, 0 ≤ c → c ≤ 15 → (k == c) = false := fun c h1 h2 => by rw [beq_eq_false_iff_ne]; omega
    have e0 := h0 0 (by decide) (by decide); have e1 := h0 1 (by decide) (by decide); have e2 := h0 2 (by decide) (by decide); have e3 := h0 3 (by decide) (by decide); have e4 := h0 4 (by decide) (by decide); have e5 := h0 5 (by decide) (by decide)
    have e6 := h0 6 (by decide) (by decide); have e7 := h0 7 (by decide) (by decide); have e8 := h0 8 (by decide) (by decide); have e9 := h0 9 (by decide) (by decide); have e10 := h0 10 (by decide) (by decide); have e11 := h0 11 (by decide) (by decide)
    have e14 := h0 14 (by decide) (by decide); have e15 := h0 15 (by decide) (by decide)
    have HI : Hid (PK.al k id = false) := Lib.hid (by unfold PK.al; rw [PK.ids_out h]; rfl)
    generalize PK.al k id = c at *
    clear h0 h
    go_enter Tryz.func131, Tryz.ntmps131
    go_wp2
    go_ret
    exact ⟨ret_bool HI.out.symm, Below.refl _ _⟩
  · obtain ⟨m, rfl⟩ := Int.eq_ofNat_of_zero_le (show 0 ≤ k by omega)
    have hm : m = 2 ∨ (m = 0 ∨ m = 1 ∨ m = 3 ∨ m = 14 ∨ m = 15) ∨ (m = 4 ∨ m = 5 ∨ m = 6 ∨ m = 7 ∨ m = 9 ∨ m = 11) ∨ (m = 8 ∨ m = 10 ∨ m = 12 ∨ m = 13) := by omega
    rcases hm with rfl | hm | hm | hm
    · exact ral_conn id w
    · exact ral_list m hm id w
    · exact ral_two m hm id w
    · exact ral_few m hm id w
end Go.Proofs.YtjajandjdclifaaGreatDoor
namespace Go.Proofs.YtjajandjdclifaaGreatDoor
open Go.RowKit Go.WideShapes Go.ChangeShapes

theorem wf_i64 {z : Int} (h : (Lit.int .i64 z).wf = true) : -9223372036854775808 ≤ z ∧ z ≤ 9223372036854775807 := bounds_i64 h
theorem putC_le (l : List Pr) : 0 ≤ PR.putC l ∧ PR.putC l ≤ 255 := by
  have hr : ∀ (r : List Pr) (k : Nat), 0 ≤ PR.restC l k r ∧ PR.restC l k r ≤ 149 := fun r => by
    induction r with
    | nil => intro k; exact ⟨Int.le_refl 0, (by decide : (0 : Int) ≤ 149)⟩
    | cons p r ih =>
      intro k
      unfold PR.restC
      split
      · exact PR.oneC_le _ _
      · exact ih _
  have := hr l 0
  unfold PR.putC
  split
  · omega
  · split <;> omega
theorem own_capmax {w : World} {N : Nat} {t : TypeId} {s : Nat} {A : Option Addr} {n cap : Nat} {l : List Value} (h : w.ownsRow N t s (.slice A n cap) n l) : cap ≤ 9223372036854775807 := by
  rcases h.2 with ⟨hx, hy⟩ | ⟨g, c, cur, hx, _, _, h3, h4, _⟩
  · injection hx with _ _ hx; omega
  · injection hx with _ _ hx; subst hx; unfold maxLen at h4; omega

theorem drewN_below (B : Nat) (w : World) (n : Nat) : Below B w (w.drewN n) := ⟨rfl, rfl, rfl, Nat.le_refl _, fun _ _ => rfl⟩
end Go.Proofs.YtjajandjdclifaaGreatDoor
namespace Go.Proofs.YtjajandjdclifaaGreatDoor
open Go.RowKit

namespace PK
/-- Where the first property stands that may not be. -/
def ixb (k : Int) (j : Nat) : List Pr → Int
  | [] => -1
  | p :: l => if al k p.id = true then ixb k (j + 1) l else (j : Int)
theorem ixb_all (k : Int) : ∀ (l : List Pr) (j : Nat), decide (0 ≤ ixb k j l) = !alAll k l
  | [], j => rfl
  | p :: l, j => by
    unfold ixb alAll
    rw [List.all_cons]
    by_cases h : al k p.id = true
    · rw [if_pos h, h, Bool.true_and]; exact ixb_all k l (j + 1)
    · rw [if_neg h]
      have h' : al k p.id = false := by simpa using h
      rw [h']; simp
theorem ixb_yes {k : Int} {l : List Pr} {j : Nat} {p : Pr} (h : l[j]? = some p) (he : al k p.id = false) : ixb k j (l.drop j) = j := by rw [prop_drop h, ixb, if_neg (by rw [he]; decide)]
theorem ixb_no {k : Int} {l : List Pr} {j : Nat} {p : Pr} (h : l[j]? = some p) (he : al k p.id = true) : ixb k j (l.drop j) = ixb k (j + 1) (l.drop (j + 1)) := by rw [prop_drop h, ixb, if_pos he]
theorem ixb_end (k : Int) (l : List Pr) : ixb k l.length (l.drop l.length) = -1 := by rw [List.drop_length]; rfl
end PK

theorem aclo_any (p : Pr) (b : Nat) (k : Int) (w : World) (hc : w.cell? ⟨b, 0, none⟩ = some (.int .i64 k)) (hb : b < w.heap.size) :
    Calls Tryz.prog 137 #[.agg #[.int .i64 p.id, .int .i64 p.n, .string p.s, .string p.t], .pointer (some ⟨b, 0, none⟩)] w fun e w' => e = .returned (.bool (!PK.al k p.id)) ∧ Below w.heap.size w w' := by
  have hne : b ≠ w.heap.size := by omega
  have hal := (Below.refl w.heap.size w).alloc (Nat.le_refl _) (.cells #[.int .i64 p.id, .int .i64 p.n, .string p.s, .string p.t] 163)
  have C := Lib.hid (allowed_any k p.id (w.alloc (.cells #[.int .i64 p.id, .int .i64 p.n, .string p.s, .string p.t] 163)))
  have Hal := Lib.hid hal
  generalize PK.al k p.id = q at *
  clear hal
  go_enter Tryz.func137, Tryz.ntmps137
  go_wp2_with fail
  refine C.out.mono ?_
  rintro e w1 ⟨rfl, b1⟩
  have B1 := Lib.hid b1
  clear b1 C
  go_wp2
  go_ret
  exact ⟨rfl, Hal.out.trans (B1.out.mono (by simp))⟩

set_option maxRecDepth 100000 in
set_option maxHeartbeats 1000000 in
theorem aifn_any (A : Option Addr) (cap : Nat) (l : List Pr) (b : Nat) (kd : Int) (w : World) (hl : l.length ≤ 1000) (h : Props w A l) (hc : w.cell? ⟨b, 0, none⟩ = some (.int .i64 kd)) (hb : b < w.heap.size) :
    Calls Tryz.prog 149 #[.slice A l.length cap, .func (.func 137) #[] #[.pointer (some ⟨b, 0, none⟩)]] w fun e w' => e = .returned (.int .i64 (PK.ixb kd 0 l)) ∧ Below w.heap.size w w' := by
  have H := Lib.hid h
  have HC := Lib.hid hc
  clear h hc
  go_enter Tryz.func149, Tryz.ntmps149
  go_wp2
  go_loopw [8] (fun i wr => ∃ k : Nat, i = .int .i64 k ∧ k ≤ l.length ∧ Hid (PK.ixb kd k (l.drop k) = PK.ixb kd 0 l) ∧ Hid (Below w.heap.size w wr)) (fun i _ => l.length - (intOf i).toNat)
  case atStart => exact ⟨0, rfl, by omega, Lib.hid rfl, Lib.hid (Below.refl _ _)⟩
  case round =>
    obtain ⟨k, rfl, hk, hk1, hbr⟩ := hrel
    have hsr := hbr.out.size
    by_cases hlt : k < l.length
    · obtain ⟨p, hp⟩ : ∃ p, l[k]? = some p := ⟨l[k], List.getElem?_eq_getElem hlt⟩
      obtain ⟨g, o, rfl, hg, r0, r1, r2, r3⟩ := H.out k p hp
      have q0 : wr.cell? ⟨g, o + k * 4, none⟩ = some (.int .i64 p.id) := by rw [hbr.out.cell (by simp; omega)]; exact r0
      have q1 : wr.cell? ⟨g, o + k * 4 + 1, none⟩ = some (.int .i64 p.n) := by rw [hbr.out.cell (by simp; omega)]; exact r1
      have q2 : wr.cell? ⟨g, o + k * 4 + 2, none⟩ = some (.string p.s) := by rw [hbr.out.cell (by simp; omega)]; exact r2
      have q3 : wr.cell? ⟨g, o + k * 4 + 3, none⟩ = some (.string p.t) := by rw [hbr.out.cell (by simp; omega)]; exact r3
      have C := Lib.hid (aclo_any p b kd wr (by rw [hbr.out.cell (p := ⟨b, 0, none⟩) hb]; exact HC.out) (by omega))
      have i1 : (k : Int) < (l.length : Int) := by omega
      have i0 : (0 : Int) ≤ (k : Int) := by omega
      clear r0 r1 r2 r3
      by_cases he : PK.al kd p.id = true
      · have E1 := Lib.hid (PK.ixb_no hp he)
        rw [he] at C
        clear hp he
        go_wp2_with fail
        refine C.out.mono ?_
        rintro e w1 ⟨rfl, b1⟩
        have B1 := Lib.hid b1
        clear b1 C
        go_wp2
        go_roundw
        case rel => exact ⟨k + 1, by go_num, by omega, Lib.hid (by rw [← E1.out]; exact hk1.out), Lib.hid (hbr.out.trans (B1.out.mono hsr))⟩
        case measure => simp [intOf]; omega
      · have he' : PK.al kd p.id = false := by simpa using he
        have E1 := Lib.hid (PK.ixb_yes hp he')
        rw [he'] at C
        clear hp he he'
        go_wp2_with fail
        refine C.out.mono ?_
        rintro e w1 ⟨rfl, b1⟩
        have B1 := Lib.hid b1
        clear b1 C
        go_wp2
        go_ret
        exact ⟨by rw [← hk1.out, E1.out]; rfl, hbr.out.trans (B1.out.mono hsr)⟩
    · have hkl : k = l.length := by omega
      subst hkl
      have E1 := Lib.hid (PK.ixb_end kd l)
      go_wp2
      go_ret
      exact ⟨by rw [← hk1.out, E1.out]; rfl, hbr.out⟩
theorem acon_any (A : Option Addr) (cap : Nat) (l : List Pr) (b : Nat) (kd : Int) (w : World) (hl : l.length ≤ 1000) (h : Props w A l) (hc : w.cell? ⟨b, 0, none⟩ = some (.int .i64 kd)) (hb : b < w.heap.size) :
    Calls Tryz.prog 136 #[.slice A l.length cap, .func (.func 137) #[] #[.pointer (some ⟨b, 0, none⟩)]] w fun e w' => e = .returned (.bool (!PK.alAll kd l)) ∧ Below w.heap.size w w' := by
  have C := Lib.hid (aifn_any A cap l b kd w hl h hc hb)
  have E := Lib.hid (PK.ixb_all kd l 0)
  clear h hc
  generalize PK.ixb kd 0 l = x at *
  generalize PK.alAll kd l = y at *
  go_enter Tryz.func136, Tryz.ntmps136
  go_wp2_with fail
  refine C.out.mono ?_
  rintro e w1 ⟨rfl, b1⟩
  have B1 := Lib.hid b1
  clear b1 C
  go_wp2
  go_ret
  exact ⟨by rw [← E.out]; rfl, B1.out⟩
theorem alall_any (A : Option Addr) (cap : Nat) (l : List Pr) (kd : Int) (w : World) (hl : l.length ≤ 1000) (h : Props w A l) :
    Calls Tryz.prog 116 #[.int .i64 kd, .slice A l.length cap] w fun e w' => e = .returned (.bool (PK.alAll kd l)) ∧ Below w.heap.size w w' := by
  have hbl := (Below.refl w.heap.size w).alloc (Nat.le_refl _) (.cells #[.int .i64 kd] 22)
  have C := Lib.hid (acon_any A cap l w.heap.size kd (w.alloc (.cells #[.int .i64 kd] 22)) hl (h.below hbl) (by rw [World.cell?_alloc_at _ _ _ _ rfl]; rfl) (by simp))
  have hmf : ∀ (fn : Fn) (first cap : Array Value) (w : World), (Instr.makeFunc fn first cap).run Tryz.prog w = .ok (.func fn first cap) w := fun _ _ _ _ => rfl
  have Hb := Lib.hid hbl
  generalize PK.alAll kd l = y at *
  clear h hbl
  go_enter Tryz.func116, Tryz.ntmps116
  go_wp2_with fail
  refine C.out.mono ?_
  rintro e w1 ⟨rfl, b1⟩
  have B1 := Lib.hid b1
  clear b1 C
  go_wp2
  go_ret
  exact ⟨by simp, Hb.out.trans (B1.out.mono (by simp))⟩

namespace PR
theorem putS_small (l : List Pr) : (putS l).size ≤ 8388996 := by
  unfold putS
  split
  · exact Nat.zero_le _
  · split
    · exact Nat.zero_le _
    · rw [ByteArray.size_append, strOfNums_size]
      have := putL_len (allS l).size; have := allS_size l
      omega
end PR
/-- A row of properties that the program can put. -/
def PrRow (w : World) (A : Option Addr) (cap : Nat) (l : List Pr) : Prop := Props w A l ∧ l.length ≤ 100 ∧ l.length ≤ cap ∧ cap ≤ 9223372036854775807 ∧ ∀ p ∈ l, Fine p
theorem PrRow.below {w w' : World} {A : Option Addr} {cap : Nat} {l : List Pr} (h : PrRow w A cap l) (hb : Below w.heap.size w w') : PrRow w' A cap l := ⟨h.1.below hb, h.2⟩
theorem wprops_any (b N : Nat) (o : ByteArray × Int) (k : Int) (A : Option Addr) (cap : Nat) (l : List Pr) (w : World) (h : WO b N o w) (hN : N ≤ 999) (hl : ∀ W, Kp b w W → PrRow W A cap l) (hT : ∀ W, Kp b w W → Tabs W) :
    Calls Tryz.prog 78 #[.pointer (some ⟨b, 0, none⟩), .int .i64 k, .slice A l.length cap] w (WP b (N + 1) (PK.pr o k l) w) := by
  obtain ⟨p1, p2, p3, p4, p5⟩ := hl w (Kp.refl _ _)
  have C1 := Lib.hid (putall_any A cap l w p2 p3 p4 p1 p5 (hT w (Kp.refl _ _)))
  have hc := putC_le l
  have hb := h.lt
  have C2 : Hid (∀ W, Below w.heap.size w W → Calls Tryz.prog 112 #[.pointer (some ⟨b, 0, none⟩), .string (PR.putS l), .int .u8 (PR.putC l)] W (WP b (N + 1) (PK.ad o (PR.putS l) (PR.putC l)) W)) := fun W hW => wadd_any b N 1 o _ _ W (h.below hW) (by have := PR.putS_small l; omega) (Nat.le_trans (PR.putS_small l) (by decide)) (by omega) (by decide) hc
  have C4 : Hid (∀ W, Kp b w W → Calls Tryz.prog 116 #[.int .i64 k, .slice A l.length cap] W fun e w' => e = .returned (.bool (PK.alAll k l)) ∧ Below W.heap.size W w') := fun W hW => alall_any A cap l k W (by omega) (hl W hW).1
  have C5 : Hid (∀ o W, WO b (N + 1) o W → Calls Tryz.prog 73 #[.pointer (some ⟨b, 0, none⟩), .int .u8 130] W (WP b (N + 1) (PK.rf o 130) W)) := fun o W hW => wrefuse_any b _ o 130 W hW (by omega) (by decide)
  unfold PK.pr
  generalize PK.ad o (PR.putS l) (PR.putC l) = o' at *
  generalize PR.putS l = S at *
  generalize PR.putC l = c at *
  generalize PK.alAll k l = y at *
  obtain ⟨O2, hO2⟩ : ∃ x, x = (if y = true then o' else PK.rf o' 130) := ⟨_, rfl⟩
  rw [← hO2]
  have HO2 := Lib.hid hO2
  clear h hl hT p1 p2 p3 p4 p5 hO2
  go_enter Tryz.func78, Tryz.ntmps78
  go_wp2_with fail
  refine C1.out.mono ?_
  rintro e w1 ⟨rfl, b1⟩
  have C3 := Lib.hid (C2.out w1 b1)
  have K1 : Hid (Kp b w w1) := Kp.of_below (Nat.le_of_lt hb) b1
  clear C1 C2 b1
  go_wp2_with fail
  refine C3.out.mono ?_
  rintro e w2 ⟨rfl, hw, hk⟩
  have H1 := Lib.hid hw
  have K2 : Hid (Kp b w w2) := K1.out.trans hk
  have C6 := Lib.hid (C4.out w2 K2.out)
  have hb2 := hw.lt
  clear hw hk C3 C4
  go_wp2_with fail
  refine C6.out.mono ?_
  rintro e w3 ⟨rfl, b3⟩
  have H3 : Hid (WO b (N + 1) o' w3) := H1.out.below b3
  have K3 : Hid (Kp b w w3) := K2.out.trans (Kp.of_below (Nat.le_of_lt hb2) b3)
  clear b3 C6
  cases y
  · have C7 := Lib.hid (C5.out _ _ H3.out)
    clear C5
    go_wp2_with fail
    refine C7.out.mono ?_
    rintro e w4 ⟨rfl, hw, hk⟩
    have H4 := Lib.hid hw
    have K4 : Hid (Kp b w w4) := K3.out.trans hk
    clear hw hk C7
    go_wp2
    go_end0
    exact ⟨rfl, by rw [HO2.out]; exact H4.out, K4.out⟩
  · clear C5
    go_wp2
    go_end0
    exact ⟨rfl, by rw [HO2.out]; exact H3.out, K3.out⟩
end Go.Proofs.YtjajandjdclifaaGreatDoor
namespace Go.Proofs.YtjajandjdclifaaGreatDoor
open Go.RowKit

/-- The cells of a packet; its rows are told apart. -/
def pkCells (p : Pk) (vc vp vw vs vf : Value) : Array Value :=
  #[.int .i64 p.kind, .bool p.dup, .bool p.ret, .int .i64 p.qos, .int .i64 p.id, .string p.topic, .string p.pay, .int .u8 p.code, vc, vp, .string p.client, .bool p.clean, .int .i64 p.keep, .bool p.hasWill,
    .string p.wtopic, .string p.wpay, .int .i64 p.wqos, .bool p.wret, vw, .bool p.hasUser, .bool p.hasPass, .string p.user, .string p.pass, .bool p.session, vs, vf]
theorem pk_cells {w : World} {N : Nat} {p : Pk} {vc vp vw vs vf : Value} {t : TypeId} (h : w.heap[N]? = some (.cells (pkCells p vc vp vw vs vf) t (0, 0))) :
    w.cell? ⟨N, 0, none⟩ = some (.int .i64 p.kind) ∧ w.cell? ⟨N, 1, none⟩ = some (.bool p.dup) ∧ w.cell? ⟨N, 2, none⟩ = some (.bool p.ret) ∧ w.cell? ⟨N, 3, none⟩ = some (.int .i64 p.qos) ∧ w.cell? ⟨N, 4, none⟩ = some (.int .i64 p.id) ∧
    w.cell? ⟨N, 5, none⟩ = some (.string p.topic) ∧ w.cell? ⟨N, 6, none⟩ = some (.string p.pay) ∧ w.cell? ⟨N, 7, none⟩ = some (.int .u8 p.code) ∧ w.cell? ⟨N, 8, none⟩ = some vc ∧ w.cell? ⟨N, 9, none⟩ = some vp ∧
    w.cell? ⟨N, 10, none⟩ = some (.string p.client) ∧ w.cell? ⟨N, 11, none⟩ = some (.bool p.clean) ∧ w.cell? ⟨N, 12, none⟩ = some (.int .i64 p.keep) ∧ w.cell? ⟨N, 13, none⟩ = some (.bool p.hasWill) ∧
    w.cell? ⟨N, 14, none⟩ = some (.string p.wtopic) ∧ w.cell? ⟨N, 15, none⟩ = some (.string p.wpay) ∧ w.cell? ⟨N, 16, none⟩ = some (.int .i64 p.wqos) ∧ w.cell? ⟨N, 17, none⟩ = some (.bool p.wret) ∧ w.cell? ⟨N, 18, none⟩ = some vw ∧
    w.cell? ⟨N, 19, none⟩ = some (.bool p.hasUser) ∧ w.cell? ⟨N, 20, none⟩ = some (.bool p.hasPass) ∧ w.cell? ⟨N, 21, none⟩ = some (.string p.user) ∧ w.cell? ⟨N, 22, none⟩ = some (.string p.pass) ∧ w.cell? ⟨N, 23, none⟩ = some (.bool p.session) ∧
    w.cell? ⟨N, 24, none⟩ = some vs ∧ w.cell? ⟨N, 25, none⟩ = some vf := by
  refine ⟨?_, ?_, ?_, ?_, ?_, ?_, ?_, ?_, ?_, ?_, ?_, ?_, ?_, ?_, ?_, ?_, ?_, ?_, ?_, ?_, ?_, ?_, ?_, ?_, ?_, ?_⟩
  all_goals
    rw [cell_heap h]
    rfl
theorem pk_load {w : World} {N : Nat} {p : Pk} {vc vp vw vs vf : Value} (h : w.heap[N]? = some (.cells (pkCells p vc vp vw vs vf) 31 (0, 0))) :
    (Instr.loadAt 31 (.pointer (some ⟨N, 0, none⟩))).run Tryz.prog w = .ok (.agg (pkCells p vc vp vw vs vf)) w :=
  run_loadAt_mid w N 0 31 (pkCells p vc vp vw vs vf).toList _ (fun j v hv => by rw [Nat.zero_add, cell_heap h, ← hv]; simp) Tryz.underlying31 rfl (by kernel_rfl)
/-- A whole packet, loaded. -/
theorem wpl_load_pk {ops : Array Oper} {rest : List Oper} {op : Oper} {a : Act} {w : World} {Q : Exit → Act → World → Prop} (hgd : op.guard = none) (x : Operand) (ho : op.op = .load 31 x)
    (n : Nat) (hx : a.eval x = .pointer (some ⟨n, 0, none⟩)) {p : Pk} {vc vp vw vs vf : Value} (hb : w.heap[n]? = some (.cells (pkCells p vc vp vw vs vf) 31 (0, 0)))
    (h : wpList Tryz.prog ops Q rest (a.put op.dst (.agg (pkCells p vc vp vw vs vf))) w) : wpList Tryz.prog ops Q (op :: rest) a w :=
  wpList_load_mid hgd 31 x ho n 0 hx (pkCells p vc vp vw vs vf).toList _ (fun j v hv => by rw [Nat.zero_add, cell_heap hb, ← hv]; simp) Tryz.underlying31 rfl (by kernel_rfl) h
/-- Rows of codes, of filters with their options, of texts. -/
def Codes (w : World) (A : Option Addr) (l : List Int) : Prop := ∀ (i : Nat) x, l[i]? = some x → ∃ g o, A = some ⟨g, o, none⟩ ∧ g < w.heap.size ∧ w.cell? ⟨g, o + i, none⟩ = some (.int .u8 x)
def Texts (w : World) (A : Option Addr) (l : List ByteArray) : Prop := ∀ (i : Nat) x, l[i]? = some x → ∃ g o, A = some ⟨g, o, none⟩ ∧ g < w.heap.size ∧ w.cell? ⟨g, o + i, none⟩ = some (.string x)
def Subs (w : World) (A : Option Addr) (l : List Sb) : Prop := ∀ (i : Nat) s, l[i]? = some s → ∃ g o, A = some ⟨g, o, none⟩ ∧ g < w.heap.size ∧
  w.cell? ⟨g, o + i * 5, none⟩ = some (.string s.f) ∧ w.cell? ⟨g, o + i * 5 + 1, none⟩ = some (.int .i64 s.q) ∧ w.cell? ⟨g, o + i * 5 + 2, none⟩ = some (.bool s.nl) ∧ w.cell? ⟨g, o + i * 5 + 3, none⟩ = some (.bool s.ap) ∧ w.cell? ⟨g, o + i * 5 + 4, none⟩ = some (.int .i64 s.h)
theorem Codes.below {w w' : World} {A : Option Addr} {l : List Int} (h : Codes w A l) (hb : Below w.heap.size w w') : Codes w' A l := fun i x hx => by
  obtain ⟨g, o, hA, hg, h0⟩ := h i x hx
  have := hb.size
  exact ⟨g, o, hA, by omega, (hb.cell (p := ⟨g, _, none⟩) hg).trans h0⟩
theorem Texts.below {w w' : World} {A : Option Addr} {l : List ByteArray} (h : Texts w A l) (hb : Below w.heap.size w w') : Texts w' A l := fun i x hx => by
  obtain ⟨g, o, hA, hg, h0⟩ := h i x hx
  have := hb.size
  exact ⟨g, o, hA, by omega, (hb.cell (p := ⟨g, _, none⟩) hg).trans h0⟩
theorem Subs.below {w w' : World} {A : Option Addr} {l : List Sb} (h : Subs w A l) (hb : Below w.heap.size w w') : Subs w' A l := fun i x hx => by
  obtain ⟨g, o, hA, hg, h0, h1, h2, h3, h4⟩ := h i x hx
  have := hb.size
  exact ⟨g, o, hA, by omega, (hb.cell (p := ⟨g, _, none⟩) hg).trans h0, (hb.cell (p := ⟨g, _, none⟩) hg).trans h1, (hb.cell (p := ⟨g, _, none⟩) hg).trans h2, (hb.cell (p := ⟨g, _, none⟩) hg).trans h3, (hb.cell (p := ⟨g, _, none⟩) hg).trans h4⟩

def I64 (n : Int) : Prop := -9223372036854775808 ≤ n ∧ n ≤ 9223372036854775807
def Short (s : ByteArray) : Prop := s.size ≤ 140737488351232
def SbFine (s : Sb) : Prop := Short s.f ∧ I64 s.q ∧ I64 s.h
/-- Numbers and texts that a machine can hold. -/
structure PkFine (p : Pk) : Prop where
  kind : I64 p.kind
  qos : I64 p.qos
  id : I64 p.id
  topic : Short p.topic
  pay : Short p.pay
  code : 0 ≤ p.code ∧ p.code ≤ 255
  client : Short p.client
  keep : I64 p.keep
  wtopic : Short p.wtopic
  wpay : Short p.wpay
  wqos : I64 p.wqos
  user : Short p.user
  pass : Short p.pass
  codes : p.codes.length ≤ 100 ∧ ∀ c ∈ p.codes, 0 ≤ c ∧ c ≤ 255
  subs : p.subs.length ≤ 100 ∧ ∀ s ∈ p.subs, SbFine s
  filters : p.filters.length ≤ 100 ∧ ∀ s ∈ p.filters, Short s
/-- A packet whose rows lie in blocks below b. -/
structure PkIn (b : Nat) (w : World) (p : Pk) (vc vp vw vs vf : Value) : Prop where
  fine : PkFine p
  tabs : ∀ W, Below b w W → Tabs W
  props : ∃ A cap, vp = .slice A p.props.length cap ∧ ∀ W, Below b w W → PrRow W A cap p.props
  wprops : ∃ A cap, vw = .slice A p.wprops.length cap ∧ ∀ W, Below b w W → PrRow W A cap p.wprops
  codes : ∃ A cap, vc = .slice A p.codes.length cap ∧ ∀ W, Below b w W → Codes W A p.codes
  subs : ∃ A cap, vs = .slice A p.subs.length cap ∧ ∀ W, Below b w W → Subs W A p.subs
  filters : ∃ A cap, vf = .slice A p.filters.length cap ∧ ∀ W, Below b w W → Texts W A p.filters
theorem PkIn.below {b : Nat} {w w' : World} {p : Pk} {vc vp vw vs vf : Value} (h : PkIn b w p vc vp vw vs vf) (hb : Below b w w') : PkIn b w' p vc vp vw vs vf where
  fine := h.fine
  tabs := fun W hW => h.tabs W (hb.trans hW)
  props := by obtain ⟨A, c, h1, h2⟩ := h.props; exact ⟨A, c, h1, fun W hW => h2 W (hb.trans hW)⟩
  wprops := by obtain ⟨A, c, h1, h2⟩ := h.wprops; exact ⟨A, c, h1, fun W hW => h2 W (hb.trans hW)⟩
  codes := by obtain ⟨A, c, h1, h2⟩ := h.codes; exact ⟨A, c, h1, fun W hW => h2 W (hb.trans hW)⟩
  subs := by obtain ⟨A, c, h1, h2⟩ := h.subs; exact ⟨A, c, h1, fun W hW => h2 W (hb.trans hW)⟩
  filters := by obtain ⟨A, c, h1, h2⟩ := h.filters; exact ⟨A, c, h1, fun W hW => h2 W (hb.trans hW)⟩

/-- The box of a packet that a method lays ahead of all: where it lies, and that the writer stands. -/
theorem boxed {b N : Nat} {o : ByteArray × Int} {w : World} (h : WO b N o w) (p : Pk) (vc vp vw vs vf : Value) :
    WO b N o (w.alloc (.cells (pkCells p vc vp vw vs vf) 31)) ∧ Kp b w (w.alloc (.cells (pkCells p vc vp vw vs vf) 31)) ∧
      (w.alloc (.cells (pkCells p vc vp vw vs vf) 31)).heap[w.heap.size]? = some (.cells (pkCells p vc vp vw vs vf) 31 (0, 0)) := by
  have hal := (Below.refl w.heap.size w).alloc (Nat.le_refl _) (.cells (pkCells p vc vp vw vs vf) 31)
  exact ⟨h.below hal, Kp.of_below (Nat.le_of_lt h.lt) hal, heap_alloc_new w _⟩
/-- .. and stands behind what a method does. -/
theorem boxed_kept {b n : Nat} {w w' : World} {p : Pk} {vc vp vw vs vf : Value} (hk : Kp b w w') (hn : n ≠ b) (h : w.heap[n]? = some (.cells (pkCells p vc vp vw vs vf) 31 (0, 0))) : w'.heap[n]? = some (.cells (pkCells p vc vp vw vs vf) 31 (0, 0)) :=
  hk.block h hn (by decide)
end Go.Proofs.YtjajandjdclifaaGreatDoor
namespace Go.Proofs.YtjajandjdclifaaGreatDoor
open Go.RowKit

set_option maxRecDepth 100000 in
set_option maxHeartbeats 2000000 in
theorem whead_any (b N : Nat) (o : ByteArray × Int) (p : Pk) (vc vp vw vs vf : Value) (w : World) (h : WO b N o w) (hN : N ≤ 990) (hp : PkIn b w p vc vp vw vs vf) :
    Calls Tryz.prog 80 #[.pointer (some ⟨b, 0, none⟩), .agg (pkCells p vc vp vw vs vf)] w (WP b (N + 1 + 1) (PK.head o p) w) := by
  obtain ⟨w0, k0, hb0⟩ := boxed h p vc vp vw vs vf
  obtain ⟨A, cap, rfl, hpr⟩ := hp.props
  have hne : w.heap.size ≠ b := by have := h.lt; omega
  have C1 := Lib.hid (wid_any b N o p.id _ w0 (by omega) hp.fine.id)
  have C2 : Hid (∀ W, Kp b w W → WO b (N + 1) (PK.idd o p.id) W → Calls Tryz.prog 78 #[.pointer (some ⟨b, 0, none⟩), .int .i64 p.kind, .slice A p.props.length cap] W (WP b (N + 1 + 1) (PK.head o p) W)) := fun W hW hO =>
    wprops_any b (N + 1) _ p.kind A cap p.props W hO (by omega) (fun W' hk => hpr W' (hW.1.trans hk.1)) (fun W' hk => hp.tabs W' (hW.1.trans hk.1))
  have K0 := Lib.hid k0
  have HB := Lib.hid hb0
  generalize PK.head o p = o2 at *
  generalize PK.idd o p.id = o1 at *
  clear h hp hpr w0 k0 hb0
  unfold pkCells at *
  go_enter Tryz.func80, Tryz.ntmps80
  go_wp2_with fail
  refine C1.out.mono ?_
  rintro e w1 ⟨rfl, hw, hk⟩
  have C3 := Lib.hid (C2.out w1 (K0.out.trans hk) hw)
  have K1 : Hid (Kp b w w1) := K0.out.trans hk
  obtain ⟨q0, _, _, _, _, _, _, _, _, q9, _⟩ := pk_cells (boxed_kept hk hne HB.out)
  clear C1 C2 hw hk
  go_wp2_with fail
  refine C3.out.mono ?_
  rintro e w2 ⟨rfl, hw, hk⟩
  have H1 := Lib.hid hw
  have K2 : Hid (Kp b w w2) := K1.out.trans hk
  clear hw hk C3
  go_wp2
  go_end0
  exact ⟨rfl, H1.out, K2.out⟩

set_option maxRecDepth 100000 in
set_option maxHeartbeats 2000000 in
theorem wending_any (b N : Nat) (o : ByteArray × Int) (p : Pk) (vc vp vw vs vf : Value) (w : World) (h : WO b N o w) (hN : N ≤ 990) (hp : PkIn b w p vc vp vw vs vf) :
    Calls Tryz.prog 87 #[.pointer (some ⟨b, 0, none⟩), .agg (pkCells p vc vp vw vs vf)] w (WP b (N + 1 + 1) (PK.ending o p) w) := by
  obtain ⟨w0, k0, hb0⟩ := boxed h p vc vp vw vs vf
  obtain ⟨A, cap, rfl, hpr⟩ := hp.props
  have hne : w.heap.size ≠ b := by have := h.lt; omega
  have C1 := Lib.hid (wreason_any b N o p.code _ w0 (by omega) hp.fine.code)
  have C2 : Hid (∀ W, Kp b w W → WO b (N + 1) (PK.nm o 1 p.code) W → Calls Tryz.prog 78 #[.pointer (some ⟨b, 0, none⟩), .int .i64 p.kind, .slice A p.props.length cap] W (WP b (N + 1 + 1) (PK.pr (PK.nm o 1 p.code) p.kind p.props) W)) := fun W hW hO =>
    wprops_any b (N + 1) _ p.kind A cap p.props W hO (by omega) (fun W' hk => hpr W' (hW.1.trans hk.1)) (fun W' hk => hp.tabs W' (hW.1.trans hk.1))
  have HK0 := Lib.hid k0
  have HB := Lib.hid hb0
  have HW0 := Lib.hid w0
  have hpl := (hpr w (Below.refl _ _)).2.1
  have E : Hid (PK.ending o p = if p.code = 0 ∧ p.props = [] then o else if p.props = [] then PK.nm o 1 p.code else PK.pr (PK.nm o 1 p.code) p.kind p.props) := rfl
  generalize PK.ending o p = o3 at *
  generalize PK.pr (PK.nm o 1 p.code) p.kind p.props = o2 at *
  generalize PK.nm o 1 p.code = o1 at *
  have hcode := hp.fine.code
  clear h hp hpr w0 k0 hb0
  by_cases hl : p.props = []
  · have hl0 : ((p.props.length : Int) == 0) = true := by rw [hl]; rfl
    have hl1 : ¬ (0 : Int) < (p.props.length : Int) := by rw [hl]; decide
    by_cases hc : p.code = 0
    · have hc0 : (p.code == 0) = true := by simp [hc]
      have E2 : Hid (o3 = o) := Lib.hid (by rw [E.out, if_pos ⟨hc, hl⟩])
      clear E hc hl C1 C2
      unfold pkCells at *
      go_enter Tryz.func87, Tryz.ntmps87
      go_wp2
      go_end0
      exact ⟨rfl, by rw [E2.out]; exact HW0.out.mono (by omega), HK0.out⟩
    · have hc0 : (p.code == 0) = false := by simp [hc]
      have E2 : Hid (o3 = o1) := Lib.hid (by rw [E.out, if_neg (fun h => hc h.1), if_pos hl])
      clear E hc hl C2
      unfold pkCells at *
      go_enter Tryz.func87, Tryz.ntmps87
      go_wp2_with fail
      refine C1.out.mono ?_
      rintro e w1 ⟨rfl, hw, hk⟩
      have H1 := Lib.hid hw
      have K1 : Hid (Kp b w w1) := HK0.out.trans hk
      obtain ⟨q0, _, _, _, _, _, _, _, _, q9, _⟩ := pk_cells (boxed_kept hk hne HB.out)
      clear C1 hw hk
      go_wp2
      go_end0
      exact ⟨rfl, by rw [E2.out]; exact H1.out.mono (by omega), K1.out⟩
  · have hlp : 0 < p.props.length := List.length_pos_iff.2 hl
    have hl0 : ((p.props.length : Int) == 0) = false := by rw [beq_eq_false_iff_ne]; omega
    have hl1 : (0 : Int) < (p.props.length : Int) := by omega
    have E2 : Hid (o3 = o2) := Lib.hid (by rw [E.out, if_neg (fun h => hl h.2), if_neg hl])
    clear E hl
    by_cases hc : p.code = 0
    · have hc0 : (p.code == 0) = true := by simp [hc]
      clear hc
      unfold pkCells at *
      go_enter Tryz.func87, Tryz.ntmps87
      go_wp2_with fail
      refine C1.out.mono ?_
      rintro e w1 ⟨rfl, hw, hk⟩
      have C3 := Lib.hid (C2.out w1 (HK0.out.trans hk) hw)
      have K1 : Hid (Kp b w w1) := HK0.out.trans hk
      obtain ⟨q0, _, _, _, _, _, _, _, _, q9, _⟩ := pk_cells (boxed_kept hk hne HB.out)
      clear C1 C2 hw hk
      go_wp2_with fail
      refine C3.out.mono ?_
      rintro e w2 ⟨rfl, hw, hk⟩
      have H1 := Lib.hid hw
      have K2 : Hid (Kp b w w2) := K1.out.trans hk
      clear hw hk C3
      go_wp2
      go_end0
      exact ⟨rfl, by rw [E2.out]; exact H1.out, K2.out⟩
    · have hc0 : (p.code == 0) = false := by simp [hc]
      clear hc
      unfold pkCells at *
      go_enter Tryz.func87, Tryz.ntmps87
      go_wp2_with fail
      refine C1.out.mono ?_
      rintro e w1 ⟨rfl, hw, hk⟩
      have C3 := Lib.hid (C2.out w1 (HK0.out.trans hk) hw)
      have K1 : Hid (Kp b w w1) := HK0.out.trans hk
      obtain ⟨q0, _, _, _, _, _, _, _, _, q9, _⟩ := pk_cells (boxed_kept hk hne HB.out)
      clear C1 C2 hw hk
      go_wp2_with fail
      refine C3.out.mono ?_
      rintro e w2 ⟨rfl, hw, hk⟩
      have H1 := Lib.hid hw
      have K2 : Hid (Kp b w w2) := K1.out.trans hk
      clear hw hk C3
      go_wp2
      go_end0
      exact ⟨rfl, by rw [E2.out]; exact H1.out, K2.out⟩

set_option maxRecDepth 100000 in
set_option maxHeartbeats 2000000 in
theorem wpublish_any (b N : Nat) (o : ByteArray × Int) (p : Pk) (vc vp vw vs vf : Value) (w : World) (h : WO b N o w) (hN : N ≤ 90) (hp : PkIn b w p vc vp vw vs vf) :
    Calls Tryz.prog 79 #[.pointer (some ⟨b, 0, none⟩), .agg (pkCells p vc vp vw vs vf)] w (WP b 16777000 (PK.pub o p) w) := by
  obtain ⟨w0, k0, hb0⟩ := boxed h p vc vp vw vs vf
  obtain ⟨A, cap, rfl, hpr⟩ := hp.props
  have hne : w.heap.size ≠ b := by have := h.lt; omega
  have C1 := Lib.hid (wtext_any b N o p.topic _ w0 (by omega) hp.fine.topic (hp.tabs _ k0.1))
  have C2 : Hid (∀ W, WO b (N + 1) (PK.tx o p.topic) W → Calls Tryz.prog 86 #[.pointer (some ⟨b, 0, none⟩), .int .i64 p.id] W (WP b (N + 1 + 1) (PK.idd (PK.tx o p.topic) p.id) W)) := fun W hO =>
    wid_any b (N + 1) _ p.id W hO (by omega) hp.fine.id
  have C3 : Hid (∀ O W, Kp b w W → WO b (N + 1 + 1) O W → Calls Tryz.prog 78 #[.pointer (some ⟨b, 0, none⟩), .int .i64 p.kind, .slice A p.props.length cap] W (WP b (N + 1 + 1 + 1) (PK.pr O p.kind p.props) W)) := fun O W hW hO =>
    wprops_any b (N + 1 + 1) _ p.kind A cap p.props W hO (by omega) (fun W' hk => hpr W' (hW.1.trans hk.1)) (fun W' hk => hp.tabs W' (hW.1.trans hk.1))
  have hpay : p.pay.size ≤ 140737488351232 := hp.fine.pay
  have C4 : Hid (∀ O W, WO b (N + 1 + 1 + 1) O W → Calls Tryz.prog 112 #[.pointer (some ⟨b, 0, none⟩), .string p.pay, .int .u8 0] W (WP b 16777000 (PK.ad O p.pay 0) W)) := fun O W hO =>
    (wadd_any b (N + 1 + 1 + 1) 16776500 O p.pay 0 W hO (by omega) (by omega) (by omega) (by decide) (by decide)).mono fun e w' h => WP.mono h (by omega)
  have HK0 := Lib.hid k0
  have HB := Lib.hid hb0
  have hq := hp.fine.qos
  by_cases hqos : 0 < p.qos
  · have E : Hid (PK.pub o p = PK.ad (PK.pr (PK.idd (PK.tx o p.topic) p.id) p.kind p.props) p.pay 0) := Lib.hid (by unfold PK.pub PK.pub1; rw [if_pos hqos])
    generalize PK.pub o p = o5 at *
    generalize PK.idd (PK.tx o p.topic) p.id = o2 at *
    generalize PK.tx o p.topic = o1 at *
    clear h hp hpr w0 k0 hb0
    unfold pkCells at *
    go_enter Tryz.func79, Tryz.ntmps79
    go_wp2_with fail
    refine C1.out.mono ?_
    rintro e w1 ⟨rfl, hw, hk⟩
    have D2 := Lib.hid (C2.out w1 hw)
    have K1 : Hid (Kp b w w1) := HK0.out.trans hk
    have hb1 := boxed_kept hk hne HB.out
    obtain ⟨_, _, _, q3, q4, _⟩ := pk_cells hb1
    have HB1 := Lib.hid hb1
    clear C1 C2 hw hk hb1
    go_wp2_with fail
    refine D2.out.mono ?_
    rintro e w2 ⟨rfl, hw, hk⟩
    have K2 : Hid (Kp b w w2) := K1.out.trans hk
    have D3 := Lib.hid (C3.out _ w2 K2.out hw)
    have hb2 := boxed_kept hk hne HB1.out
    obtain ⟨p0, _, _, _, _, _, _, _, _, p9, _⟩ := pk_cells hb2
    have HB2 := Lib.hid hb2
    clear D2 C3 hw hk hb2 q3 q4
    go_wp2_with fail
    refine D3.out.mono ?_
    rintro e w3 ⟨rfl, hw, hk⟩
    have K3 : Hid (Kp b w w3) := K2.out.trans hk
    have D4 := Lib.hid (C4.out _ w3 hw)
    obtain ⟨_, _, _, _, _, _, r6, _⟩ := pk_cells (boxed_kept hk hne HB2.out)
    clear D3 C4 hw hk p0 p9
    go_wp2_with fail
    refine D4.out.mono ?_
    rintro e w4 ⟨rfl, hw, hk⟩
    have H4 := Lib.hid hw
    have K4 : Hid (Kp b w w4) := K3.out.trans hk
    clear D4 hw hk
    go_wp2
    go_end0
    exact ⟨rfl, by rw [E.out]; exact H4.out, K4.out⟩
  · have E : Hid (PK.pub o p = PK.ad (PK.pr (PK.tx o p.topic) p.kind p.props) p.pay 0) := Lib.hid (by unfold PK.pub PK.pub1; rw [if_neg hqos])
    generalize PK.pub o p = o5 at *
    generalize PK.tx o p.topic = o1 at *
    clear h hp hpr w0 k0 hb0 C2
    unfold pkCells at *
    go_enter Tryz.func79, Tryz.ntmps79
    go_wp2_with fail
    refine C1.out.mono ?_
    rintro e w1 ⟨rfl, hw, hk⟩
    have K1 : Hid (Kp b w w1) := HK0.out.trans hk
    have D3 := Lib.hid (C3.out _ w1 K1.out (hw.mono (by omega)))
    have hb1 := boxed_kept hk hne HB.out
    obtain ⟨p0, _, _, q3, _, _, _, _, _, p9, _⟩ := pk_cells hb1
    have HB1 := Lib.hid hb1
    clear C1 hw hk hb1 C3
    go_wp2_with fail
    refine D3.out.mono ?_
    rintro e w3 ⟨rfl, hw, hk⟩
    have K3 : Hid (Kp b w w3) := K1.out.trans hk
    have D4 := Lib.hid (C4.out _ w3 hw)
    obtain ⟨_, _, _, _, _, _, r6, _⟩ := pk_cells (boxed_kept hk hne HB1.out)
    clear D3 C4 hw hk p0 p9 q3
    go_wp2_with fail
    refine D4.out.mono ?_
    rintro e w4 ⟨rfl, hw, hk⟩
    have H4 := Lib.hid hw
    have K4 : Hid (Kp b w w4) := K3.out.trans hk
    clear D4 hw hk
    go_wp2
    go_end0
    exact ⟨rfl, by rw [E.out]; exact H4.out, K4.out⟩
end Go.Proofs.YtjajandjdclifaaGreatDoor
