/-
  The walk of the law RefsPlaced. Conditions: bounds on the lengths.
-/
import Derived.Test.YtcmgafehidgkmaaRfArr
namespace Go.Proofs.Ytcmgafehidgkmaa
open Go.RowKit
set_option linter.unusedVariables false

set_option maxRecDepth 100000 in
set_option maxHeartbeats 4000000 in
theorem walk_RefsPlaced (w : World) (aa : Option Addr) (na capa : Nat) (ds : List (List UInt8)) (hA : IsA w aa na capa ds) (ab : Option Addr) (nb capb : Nat) (pb : List UInt8) (hBb : IsB w ab nb capb pb) (name : ByteArray) (hnm : name.size ≤ 140737488355328) :
    Calls Try.prog 5 #[.slice aa na capa, .slice ab nb capb, .string name] w fun e w' => e = .returned (.bool true) ∧ Below w.heap.size w w' := by
  obtain ⟨i0, hi, hz0, hz1, hz2⟩ := info_parts info_str
  have HI := Lib.hid hi
  have HZ0 := Lib.hid hz0
  have HZ1 := Lib.hid hz1
  have HZ2 := Lib.hid hz2
  obtain ⟨j0, hj, hy0, hy1, hy2⟩ := info_parts Nam.info_u8
  have HJ := Lib.hid hj
  have HY0 := Lib.hid hy0
  have HY1 := Lib.hid hy1
  have HY2 := Lib.hid hy2
  have HA := Lib.hid hA
  have HBC := Lib.hid hBb
  have hl1 := hA.length
  have hl2 := hBb.length
  have i20 : Hid ((Try.prog.info? 38).map (·.size) = some 20) := Lib.hid (by kernel_rfl)
  clear hi hz0 hz1 hz2 hj hy0 hy1 hy2 hA hBb
  go_enter Try.func5, Try.ntmps5
  go_wp2_with fail
  refine (awake_any w).mono ?_
  rintro e w1 ⟨rfl, b1⟩
  have B1 := Lib.hid b1
  clear b1
  by_cases hm : na ≤ 12
  · have hm' : ¬ (12 : Int) < (na : Int) := by omega
    by_cases hn : nb ≤ 200
    · have hn' : ¬ (200 : Int) < (nb : Int) := by omega
      go_wp2_with fail
      refine (Nam.rname_any name w1 hnm).mono ?_
      rintro e w1' ⟨rfl, rfl⟩
      cases hnn : Nam.isName name.data.toList with
      | false =>
        go_wp2_with fail
        refine (awake_any w1).mono ?_
        rintro e w2 ⟨rfl, b2⟩
        have B2 := Lib.hid (B1.out.trans (b2.mono B1.out.size))
        clear b2
        go_wp2_with fail
        refine bodyPost_ret (results_tmp rfl _ _ _) rfl ?_
        exact ⟨rfl, B2.out⟩
      | true =>
        have HNM := Lib.hid hnn
        have hns := Nam.name_small hnn
        have hnsz : name.size ≤ 40 := by simpa using hns.2
        clear hnn hns
        obtain ⟨B0, hB0⟩ : ∃ B0, B0 = w.heap.size := ⟨_, rfl⟩
        have HB0 := Lib.hid hB0
        rw [← hB0] at B1
        have hs1 : B0 ≤ w1.heap.size := by rw [hB0]; exact B1.out.size
        clear hB0
        go_wp2_with fail
        go_loopg [7, 8, 9] (na + 1) (fun gk v7 v8 v9 wr => ∃ (i N : Nat), gk = na + 1 - i ∧ i ≤ na ∧ v9 = .int .i64 i ∧ Below B0 w wr ∧ N ≤ i * 273 ∧ wr.ownsRow B0 5 1 v7 N ((layP pb name (ds.take i)).map Nam.bv) ∧ wr.ownsRow B0 9 1 v8 i ((pathsP name (ds.take i)).map Value.string))
        case atStart => exact ⟨0, 0, rfl, Nat.zero_le _, rfl, B1.out, Nat.le_refl _, World.ownsRow_nil _ _ _ _, World.ownsRow_nil _ _ _ _⟩
        case round =>
          obtain ⟨i, N, rfl, hin, rfl, hbr, hN, ho7, ho8⟩ := hrel
          have HBR := Lib.hid hbr
          have HO7 := Lib.hid ho7
          have HO8 := Lib.hid ho8
          have hsr : B0 ≤ wr.heap.size := by rw [HB0.out]; exact hbr.size
          clear hbr
          by_cases hlt : i < na
          · clear ho7 ho8
            rcases HA.out.at_ with h0 | ⟨b, off, rfl, hbb, hc⟩
            · omega
            have hii : (i : Int) < (na : Int) := by omega
            obtain ⟨d, hd⟩ : ∃ d, d = ds.getD i [] := ⟨_, rfl⟩
            have hdl : d.length = 20 := by rw [hd]; exact HA.out.each i hlt
            have hrange : wr.rangeAt b (off + i * 20) (d.map Nam.bv) := by
              rw [hd]
              intro j v hj
              exact (HBR.out.cell (p := ⟨b, _, none⟩) (by rw [HB0.out]; exact hbb)).trans (hc i hlt j v hj)
            have HRG := Lib.hid hrange
            have hD20 : Hid ((Try.prog.info? 38).map (·.size) = some (d.map Nam.bv).length) := Lib.hid (by rw [i20.out, List.length_map, hdl])
            have HD := Lib.hid hd
            have HDL := Lib.hid hdl
            clear hc hd hdl hrange hbb
            go_wp2_with (refine wpList_load_mid rfl 38 _ rfl b (off + i * 20) rfl (d.map Nam.bv) _ HRG.out Try.underlying38 rfl hD20.out ?_)
            refine (Nam.rpath_yes d name wr HDL.out hnsz).mono ?_
            rintro e w2 ⟨rfl, b2⟩
            obtain ⟨s, hs⟩ : ∃ s, s = Nam.pathB d name := ⟨_, rfl⟩
            rw [← hs]
            have hssz : s.size ≤ 73 := by rw [hs, path_size d name HDL.out]; omega
            have HB2 : Hid (Below B0 w w2) := Lib.hid (HBR.out.trans (b2.mono hsr))
            have HO7b := Lib.hid (own_later HO7.out b2)
            have HO8b := Lib.hid (own_later HO8.out b2)
            have hs2 : B0 ≤ w2.heap.size := by rw [HB0.out]; exact HB2.out.size
            have HSS := Lib.hid hs
            clear b2 HO7 HO8 hs
            go_wp2_with (at_builtin; go_must (refine Nam.wpList_append_bytes rfl (.tmp 41) (.tmp 42) 22 rfl B0 5 j0 Try.underlying22 HJ.out HY0.out HY1.out HY2.out _ N (layP pb name (ds.take i)) rfl HO7b.out ab nb capb pb rfl (toNam (HBC.out.later (by rw [← HB0.out]; exact HB2.out))) (by omega) hs2 ?_))
            intro v3 w3 ho3 hg3
            have ho3' : w3.ownsRow B0 5 1 v3 (N + nb) ((layP pb name (ds.take i) ++ pb).map Nam.bv) := by first | exact ho3 | (rw [List.map_append]; exact ho3)
            have hb3 : Below B0 w w3 := below_grown HB2.out hs2 HO7b.out hg3
            have HO8c := Lib.hid (HO8b.out.kept hg3 (own_two HO8b.out HO7b.out (by decide)))
            have HO3 := Lib.hid ho3'
            have HB3 := Lib.hid hb3
            have hs3 : B0 ≤ w3.heap.size := by rw [HB0.out]; exact hb3.size
            clear ho3 ho3' hb3 hg3 HO7b HO8b
            go_wp2_with (at_builtin; go_must (refine Lib.wpList_append_own_string _ rfl (.tmp 44) (.tmp 45) 22 9 rfl B0 5 j0 Try.underlying22 Try.underlying9 HJ.out HY0.out HY1.out HY2.out _ (N + nb) ((layP pb name (ds.take i) ++ pb).map Nam.bv) rfl HO3.out s rfl (by unfold maxLen; omega) (by omega) hs3 ?_))
            intro v4 w4 ho4 hg4 _
            have ho4' : w4.ownsRow B0 5 1 v4 (N + nb + s.size) ((layP pb name (ds.take (i + 1))).map Nam.bv) := by
              rw [layP_snoc pb name (by omega), ← HD.out, ← HSS.out, List.map_append, ← strCells_bv]
              first | exact ho4 | (rw [List.map_append, List.append_assoc]; exact ho4) | (rw [List.append_assoc]; exact ho4)
            have hb4 : Below B0 w w4 := below_grown HB3.out hs3 HO3.out hg4
            have HO8d := Lib.hid (HO8c.out.kept hg4 (own_two HO8c.out HO3.out (by decide)))
            have HO4 := Lib.hid ho4'
            have HB4 := Lib.hid hb4
            have hs4 : B0 ≤ w4.heap.size := by rw [HB0.out]; exact hb4.size
            clear ho4 ho4' hb4 hg4 HO3 HO8c
            obtain ⟨a8, c8, rfl⟩ := row_form2 HO8d.out
            go_wp2_with (at_builtin; go_must (refine wpList_append_strs rfl (.tmp 47) (.tmp 49) 23 rfl B0 9 i0 Try.underlying23 HI.out HZ0.out HZ1.out HZ2.out _ i (pathsP name (ds.take i)) rfl (HO8d.out.alloc _) (some ⟨w4.heap.size, 0, none⟩) 1 1 [s] rfl (isS_one (Has.new w4 [.string s] 9)) (by omega) (by simp; omega) ?_))
            intro v5 w5 ho5 hg5
            have ho5' : w5.ownsRow B0 9 1 v5 (i + 1) ((pathsP name (ds.take (i + 1))).map Value.string) := by
              rw [pathsP_snoc name (by omega), ← HD.out, ← HSS.out]
              first | exact ho5 | (rw [List.map_append]; exact ho5)
            have hb5 : Below B0 w w5 := below_grown (HB4.out.alloc hs4 _) (by simp; omega) (HO8d.out.alloc _) hg5
            have HO4b := Lib.hid ((HO4.out.alloc (.cells #[.string s] 9)).kept hg5 (own_two HO4.out HO8d.out (by decide)))
            have HO5 := Lib.hid ho5'
            have HB5 := Lib.hid hb5
            clear ho5 ho5' hb5 hg5 HO8d HO4
            go_wp2_with fail
            go_roundg (na + 1 - (i + 1))
            case rel => exact ⟨i + 1, N + nb + s.size, rfl, by omega, by go_num, HB5.out, by omega, HO4b.out, HO5.out⟩
            case measure => omega
          · obtain rfl : i = na := by omega
            have hii : ¬ (i : Int) < (i : Int) := by omega
            have htk : ds.take i = ds := List.take_of_length_le (by omega)
            rw [htk] at ho7 ho8
            have hpl : (pathsP name ds).length = i := by unfold pathsP; rw [List.length_map]; exact hl1
            obtain ⟨a7, c7, rfl, hI7⟩ := isB_owns ho7 (by omega)
            obtain ⟨a8, c8, e8, hI8, _⟩ := isS_of_owns ho8
            subst e8
            have HI7 := Lib.hid hI7
            have HI8 := Lib.hid hI8
            have hds : ∀ d ∈ ds, d.length = 20 := fun d hd => by
              obtain ⟨k, hk, e⟩ := List.getElem_of_mem hd
              have := HA.out.each k (by omega)
              rw [List.getD_eq_getElem?_getD, List.getElem?_eq_getElem hk, Option.getD_some, e] at this
              exact this
            have HDS := Lib.hid hds
            clear hI7 hI8 ho7 ho8 HO7 HO8 htk hds
            go_wp2_with fail
            refine (bytes_any a7 N c7 (layP pb name ds) a8 i c8 (pathsP name ds) wr HI7.out (by omega) HI8.out (by omega)).mono ?_
            rintro e w9 ⟨v9, o9, rfl, hq9, ho9, hl9, hb9⟩
            have HQ9 := Lib.hid hq9
            have HO9 := Lib.hid ho9
            have HI9 := Lib.hid (HI8.out.later hb9)
            have HB9 : Hid (Below B0 w w9) := Lib.hid (HBR.out.trans (hb9.mono hsr))
            have hs9 : B0 ≤ w9.heap.size := by rw [HB0.out]; exact HB9.out.size
            clear hq9 ho9 hb9
            go_wp2_with fail
            refine (rsort_any a8 i c8 (pathsP name ds) w9 HI9.out (by omega)).mono ?_
            rintro e w10 ⟨v10, o10, rfl, hq10, ho10, hl10, hb10⟩
            have HO10 := Lib.hid ho10
            have HO9' := Lib.hid (own_later HO9.out hb10)
            have HB10 : Hid (Below B0 w w10) := Lib.hid (HB9.out.trans (hb10.mono hs9))
            have hs10 : B0 ≤ w10.heap.size := by rw [HB0.out]; exact HB10.out.size
            have heq : o9.map btsOf = o10.map btsOf := by
              rw [HQ9.out, hq10]
              exact placed_math pb name ds HNM.out HDS.out
            have HSM := Lib.hid (same_lists HO9'.out HO10.out heq (by omega) (by omega))
            clear hq10 ho10 hb10 heq
            go_wp2_with fail
            refine HSM.out.mono ?_
            rintro e w11 ⟨rfl, b11⟩
            have HB11 := Lib.hid (HB10.out.trans (b11.mono hs10))
            clear b11
            go_wp2_with fail
            refine bodyPost_ret (results_tmp rfl _ _ _) rfl ?_
            exact ⟨rfl, by rw [← HB0.out]; exact HB11.out⟩
    · have hn' : (200 : Int) < (nb : Int) := by omega
      go_wp2_with fail
      refine (awake_any w1).mono ?_
      rintro e w2 ⟨rfl, b2⟩
      have B2 := Lib.hid (B1.out.trans (b2.mono B1.out.size))
      clear b2
      go_wp2_with fail
      refine bodyPost_ret (results_tmp rfl _ _ _) rfl ?_
      exact ⟨rfl, B2.out⟩
  · have hm' : (12 : Int) < (na : Int) := by omega
    go_wp2_with fail
    refine (awake_any w1).mono ?_
    rintro e w2 ⟨rfl, b2⟩
    have B2 := Lib.hid (B1.out.trans (b2.mono B1.out.size))
    clear b2
    go_wp2_with fail
    refine bodyPost_ret (results_tmp rfl _ _ _) rfl ?_
    exact ⟨rfl, B2.out⟩

end Go.Proofs.Ytcmgafehidgkmaa
