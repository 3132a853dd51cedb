/- The bytes of properties: the program's Put. -/
import Derived.Test.YtemfcaaoobjgkaaGreatDoorPrPutOne
import Derived.Deep.RegionHeld3
namespace Go.Proofs.YtemfcaaoobjgkaaGreatDoor
open Go.RowKit

theorem tolist_app (a b : ByteArray) : (a ++ b).data.toList = a.data.toList ++ b.data.toList := by simp [ByteArray.data_append]
theorem arr_of (s : ByteArray) : (⟨s.data.toList.toArray⟩ : ByteArray) = s := ByteArray.ext (by simp)
theorem len_of (s : ByteArray) : s.data.toList.length = s.size := Array.length_toList

/-- The relation of Put's loop. -/
def PutRel (w : World) (l : List Pr) (k : Nat) (wr : World) : Prop :=
  PR.restC l k (l.drop k) = PR.restC l 0 l ∧ Bld w.heap.size w.heap.size (PR.allS (l.take k)).data.toList wr ∧ Below w.heap.size w wr

theorem pr_take {l : List Pr} {k : Nat} {v : Pr} (h : l[k]? = some v) : l.take (k + 1) = l.take k ++ [v] := by
  obtain ⟨hk, he⟩ := List.getElem?_eq_some_iff.1 h
  rw [List.take_succ_eq_append_getElem hk, he]

set_option maxRecDepth 100000 in
set_option maxHeartbeats 4000000 in
theorem putall_any (A : Option Addr) (cap : Nat) (l : List Pr) (w : World) (hl : l.length ≤ 100) (hc : l.length ≤ cap) (hcm : cap ≤ 9223372036854775807) (h : Props w A l) (hf : ∀ p ∈ l, Fine p) (hT : Tabs w) :
    Calls Tryz.prog 82 #[.slice A l.length cap] w fun e w' => e = .returned (.tuple #[.string (PR.putS l), .int .u8 (PR.putC l)]) ∧ Below w.heap.size w w' := by
  unfold PR.putS PR.putC
  by_cases h64 : 64 < l.length
  · rw [if_pos h64, if_pos h64]
    have i1 : (64 : Int) < (l.length : Int) := by omega
    clear h hf hT
    go_enter Tryz.func82, Tryz.ntmps82
    go_wp2
    go_ret2
    exact ⟨rfl, Below.refl _ _⟩
  · rw [if_neg h64, if_neg h64]
    have i1 : (l.length : Int) ≤ 64 := by omega
    obtain ⟨PS, hPS⟩ : ∃ x, x = (if PR.restC l 0 l ≠ 0 then (⟨#[]⟩ : ByteArray) else strOfNums (VP.putL (PR.allS l).size) ++ PR.allS l) := ⟨_, rfl⟩
    obtain ⟨PC, hPC⟩ : ∃ x, x = (if PR.restC l 0 l ≠ 0 then PR.restC l 0 l else 0) := ⟨_, rfl⟩
    rw [← hPS, ← hPC]
    have HPS := Lib.hid hPS
    have HPC := Lib.hid hPC
    clear hPS hPC
    have H := Lib.hid h
    have HF := Lib.hid hf
    have HT := Lib.hid hT
    have hbl := (Below.refl w.heap.size w).alloc (Nat.le_refl _) (.cells #[.pointer none, .slice none 0 0] 66)
    have H0 : Hid (PutRel w l 0 (w.alloc (.cells #[.pointer none, .slice none 0 0] 66))) := ⟨rfl, Bld.new w, hbl⟩
    clear h hf hT h64 hbl
    go_enter Tryz.func82, Tryz.ntmps82
    go_wp2
    go_loopw [16] (fun i wr => ∃ k : Nat, i = .int .i64 k ∧ k ≤ l.length ∧ Hid (PutRel w l k wr)) (fun i _ => l.length - (intOf i).toNat)
    case atStart => exact ⟨0, rfl, by omega, H0⟩
    case round =>
      clear H0
      obtain ⟨k, rfl, hk, hrl⟩ := hrel
      obtain ⟨hr1, hbd, hb⟩ := hrl.out
      have Hr1 := Lib.hid hr1
      have Hbd := Lib.hid hbd
      have Hb := Lib.hid hb
      have hsr := hb.size
      have hAs := PR.allS_size (l.take k)
      have hkl : (l.take k).length = k := by simp; omega
      by_cases hlt : k < l.length
      · obtain ⟨p, hp⟩ : ∃ p, l[k]? = some p := ⟨l[k], List.getElem?_eq_getElem hlt⟩
        obtain ⟨g, o, rfl, hg, r0, r1, r2, r3⟩ := H.out k p hp
        have hfp := HF.out p (List.mem_of_getElem? hp)
        have hOs := PR.oneS_size p
        have hcode := PR.oneC_le (l.take k) p
        have E1 := Lib.hid (pr_take hp)
        have E2 : Hid (PR.oneC (l.take k) p = 0 → PR.restC l k (l.drop k) = PR.restC l (k + 1) (l.drop (k + 1))) := fun he => PR.rest_at hp he
        have E3 : Hid (PR.oneC (l.take k) p ≠ 0 → PR.restC l k (l.drop k) = PR.oneC (l.take k) p) := fun he => PR.rest_stop hp he
        have C1 : Hid (∀ W', Below w.heap.size w W' → Calls Tryz.prog 106 #[.slice (some ⟨g, o, none⟩) k cap, .agg #[.int .i64 p.id, .int .i64 p.n, .string p.s, .string p.t]] W' fun e w' => e = .returned (.tuple #[.string (if PR.oneC (l.take k) p ≠ 0 then ⟨#[]⟩ else PR.oneS p), .int .u8 (PR.oneC (l.take k) p)]) ∧ Below W'.heap.size W' w') := fun W' hW => by
          have h1 := one_any (some ⟨g, o, none⟩) cap (l.take k) p W' (by omega) ((H.out.take k).below hW) hfp (HT.out.below hW)
          rwa [hkl] at h1
        have hoS : (if PR.oneC (l.take k) p ≠ 0 then (⟨#[]⟩ : ByteArray) else PR.oneS p).size ≤ 131078 := by
          split
          · exact Nat.zero_le _
          · exact hOs
        have EO : Hid (PR.oneC (l.take k) p = 0 → (if PR.oneC (l.take k) p ≠ 0 then (⟨#[]⟩ : ByteArray) else PR.oneS p) = PR.oneS p) := fun he => if_neg (by simp [he])
        have EA : Hid (PR.allS (l.take (k + 1)) = PR.allS (l.take k) ++ PR.oneS p) := Lib.hid (by rw [E1.out, PR.all_snoc])
        generalize (if PR.oneC (l.take k) p ≠ 0 then (⟨#[]⟩ : ByteArray) else PR.oneS p) = OS at *
        generalize PR.oneC (l.take k) p = oc at *
        obtain ⟨id', n', s', t'⟩ := p
        simp only at r0 r1 r2 r3 C1
        have q0 : wr.cell? ⟨g, o + k * 4, none⟩ = some (.int .i64 id') := by rw [hb.cell (by simp; omega)]; exact r0
        have q1 : wr.cell? ⟨g, o + k * 4 + 1, none⟩ = some (.int .i64 n') := by rw [hb.cell (by simp; omega)]; exact r1
        have q2 : wr.cell? ⟨g, o + k * 4 + 2, none⟩ = some (.string s') := by rw [hb.cell (by simp; omega)]; exact r2
        have q3 : wr.cell? ⟨g, o + k * 4 + 3, none⟩ = some (.string t') := by rw [hb.cell (by simp; omega)]; exact r3
        have j0 : (0 : Int) ≤ (k : Int) := by omega
        have j1 : (k : Int) < (l.length : Int) := by omega
        have j2 : (k : Int) ≤ (cap : Int) := by omega
        have j3 : ((k : Int)).toNat = k := by omega
        have hal := (Below.refl wr.heap.size wr).alloc (Nat.le_refl _) (.cells #[.int .i64 id', .int .i64 n', .string s', .string t'] 116)
        have hvb : (wr.alloc (.cells #[.int .i64 id', .int .i64 n', .string s', .string t'] 116)).heap[wr.heap.size]? = some (.cells #[.int .i64 id', .int .i64 n', .string s', .string t'] 116 (0, 0)) := heap_alloc_new wr _
        have hvs : wr.heap.size + 1 ≤ (wr.alloc (.cells #[.int .i64 id', .int .i64 n', .string s', .string t'] 116)).heap.size := by simp
        have Hbd2 := Lib.hid (Bld.below hbd hal)
        have Hal := Lib.hid (hb.trans (hal.mono hsr))
        clear r0 r1 r2 r3 hp hal hr1 hbd hb hfp hrl
        go_wp2_with fail
        generalize wr.alloc (.cells #[.int .i64 id', .int .i64 n', .string s', .string t'] 116) = V at *
        have c0 : V.cell? ⟨wr.heap.size, 0, none⟩ = some (.int .i64 id') := by rw [cell_heap hvb]; rfl
        have c1 : V.cell? ⟨wr.heap.size, 1, none⟩ = some (.int .i64 n') := by rw [cell_heap hvb]; rfl
        have c2 : V.cell? ⟨wr.heap.size, 2, none⟩ = some (.string s') := by rw [cell_heap hvb]; rfl
        have c3 : V.cell? ⟨wr.heap.size, 3, none⟩ = some (.string t') := by rw [cell_heap hvb]; rfl
        have hlV : wr.heap.size < V.heap.size := by omega
        have hsV := Hal.out.size
        clear hvb q0 q1 q2 q3
        go_region_held3 (fun w' => w'.cell? ⟨wr.heap.size, 0, none⟩ = some (.int .i64 id') ∧ w'.cell? ⟨wr.heap.size, 1, none⟩ = some (.int .i64 n') ∧ w'.cell? ⟨wr.heap.size, 2, none⟩ = some (.string s') ∧ w'.cell? ⟨wr.heap.size, 3, none⟩ = some (.string t'))
          (first | exact ⟨c0, c1, c2, c3⟩ | exact ⟨k0, k1, k2, k3⟩)
          (first
            | (go_at_call 106
               refine (C1.out _ (Hal.out.trans ((Below.refl V.heap.size V).drew.mono hsV))).mono ?_
               rintro en w2 ⟨rfl, b2⟩
               have HV2 : Hid (Below V.heap.size V w2) := below_of_drew b2
               have k0 : w2.cell? ⟨wr.heap.size, 0, none⟩ = some (.int .i64 id') := by rw [HV2.out.cell (p := ⟨wr.heap.size, 0, none⟩) hlV]; exact c0
               have k1 : w2.cell? ⟨wr.heap.size, 1, none⟩ = some (.int .i64 n') := by rw [HV2.out.cell (p := ⟨wr.heap.size, 1, none⟩) hlV]; exact c1
               have k2 : w2.cell? ⟨wr.heap.size, 2, none⟩ = some (.string s') := by rw [HV2.out.cell (p := ⟨wr.heap.size, 2, none⟩) hlV]; exact c2
               have k3 : w2.cell? ⟨wr.heap.size, 3, none⟩ = some (.string t') := by rw [HV2.out.cell (p := ⟨wr.heap.size, 3, none⟩) hlV]; exact c3
               clear b2))
        have B2 : Hid (Below w.heap.size w w2) := Hal.out.trans (HV2.out.mono hsV)
        have hs2 := B2.out.size
        by_cases hoc : oc = 0
        · subst hoc
          have hOS := Lib.hid (EO.out rfl)
          have hAs' : (PR.allS (l.take k)).size ≤ 131078 * 64 := by omega
          have CW := Lib.hid (writes_any w.heap.size w.heap.size (PR.allS (l.take k)).data.toList OS w2 (Bld.below Hbd2.out HV2.out) (by rw [len_of]; omega) hs2)
          clear k0 k1 k2 k3 c0 c1 c2 c3
          go_wp2_with fail
          refine CW.out.mono ?_
          rintro en w3 ⟨rfl, h3, b3⟩
          have H3 := Lib.hid h3
          have B3 := Lib.hid b3
          clear h3 b3 CW
          go_wp2
          go_roundw
          case rel => exact ⟨k + 1, by go_num, by omega, Lib.hid ⟨(E2.out trivial).symm.trans Hr1.out, by rw [EA.out, tolist_app, ← hOS.out]; exact H3.out, B2.out.trans B3.out⟩⟩
          case measure => simp [intOf]; omega
        · have hne : (oc != 0) = true := by rw [bne_iff_ne]; exact hoc
          have hR : Hid (PR.restC l 0 l = oc) := Lib.hid (Hr1.out.symm.trans (E3.out hoc))
          have Hoc := Lib.hid hoc
          clear k0 k1 k2 k3 c0 c1 c2 c3 hoc
          go_wp2
          go_ret2
          refine ⟨?_, B2.out⟩
          have f1 := HPS.out
          have f2 := HPC.out
          rw [hR.out, if_pos Hoc.out] at f1 f2
          rw [f1, f2]
          rfl
      · have hkk : k = l.length := by omega
        subst hkk
        have hR : Hid (PR.restC l 0 l = 0) := Lib.hid (hr1.symm.trans (PR.rest_end l l))
        rw [List.take_length] at hAs Hbd
        have CL := Lib.hid (blen_any _ _ _ wr Hbd.out)
        rw [len_of] at CL
        have CP := Lib.hid (fun W => plen_any ((PR.allS l).size : Int) (by omega) (by omega) W)
        have CS : Hid (∀ W', Below wr.heap.size wr W' → Calls Tryz.prog 15 #[.pointer (some ⟨w.heap.size, 0, none⟩)] W' fun e w' => e = .returned (.string (PR.allS l)) ∧ Below w.heap.size W' w') := fun W' hW => by
          have h1 := str_any w.heap.size w.heap.size _ W' (Bld.below Hbd.out hW) (by have := hW.size; omega)
          rwa [arr_of] at h1
        have zp : (strOfNums (VP.putL (PR.allS l).size)).size ≤ 4 := by rw [strOfNums_size]; exact PR.putL_len _
        clear hr1 hbd hb hrl hlt
        go_wp2_with fail
        refine CL.out.mono ?_
        rintro en w2 ⟨rfl, rfl⟩
        go_wp2_with fail
        refine (CP.out _).mono ?_
        rintro en w2 ⟨rfl, b2⟩
        have B2 := Lib.hid b2
        clear b2
        go_wp2_with fail
        refine (CS.out _ B2.out).mono ?_
        rintro en w3 ⟨rfl, b3⟩
        have B3 := Lib.hid b3
        clear b3
        go_wp2
        go_ret2
        refine ⟨?_, Hb.out.trans ((B2.out.mono hsr).trans B3.out)⟩
        have f1 := HPS.out
        have f2 := HPC.out
        rw [hR.out, if_neg (by decide)] at f1 f2
        rw [f1, f2]
        rfl
end Go.Proofs.YtemfcaaoobjgkaaGreatDoor
