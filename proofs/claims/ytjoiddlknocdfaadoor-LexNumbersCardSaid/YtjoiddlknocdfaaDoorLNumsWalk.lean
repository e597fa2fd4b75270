/-
  The walk of the law LexNumbers. Conditions: the listed variables lie as the text lays them.
-/
import Derived.Test.YtjoiddlknocdfaaDoorLRTok
import Derived.Test.YtjoiddlknocdfaaDoorLRSame
import Derived.Laws.IdiomStrings
namespace Go.Proofs.YtjoiddlknocdfaaDoor
open Go.RowKit
set_option linter.unusedVariables false

theorem u64_bounds {n : Int} (h : (Lit.int .u64 n).wf = true) : 0 ≤ n ∧ n < 18446744073709551616 := by
  simp only [Lit.wf, Bool.and_eq_true, decide_eq_true_eq] at h
  have hmin : IntKind.u64.min = 0 := rfl
  have hmax : IntKind.u64.max = 18446744073709551615 := rfl
  omega
theorem u8_bounds {n : Int} (h : (Lit.int .u8 n).wf = true) : 0 ≤ n ∧ n < 256 := by
  simp only [Lit.wf, Bool.and_eq_true, decide_eq_true_eq] at h
  have hmin : IntKind.u8.min = 0 := rfl
  have hmax : IntKind.u8.max = 255 := rfl
  omega

/-- The digits of a number so far: v stands for what is left of it. -/
def DigS (n v : Nat) (ds : List UInt8) : Prop := (∀ c ∈ ds, digL c = true) ∧ v * 10 ^ ds.length + decA 0 ds = n ∧ ds.length ≤ 20 ∧ (ds = [] ∨ 0 < n ∨ v = 0)
def digB (v : Nat) : UInt8 := UInt8.ofNat (48 + v % 10)
theorem digB_nat (v : Nat) : (digB v).toNat = 48 + v % 10 := by unfold digB; simp [UInt8.toNat_ofNat']; omega
theorem DigS.start (n : Nat) : DigS n n [] := ⟨fun c hc => by simp at hc, by simp [decA], by simp, .inl rfl⟩
theorem DigS.step {n v : Nat} {ds : List UInt8} (h : DigS n v ds) (hn : n < 18446744073709551616) (hv : 0 < v ∨ ds = []) : DigS n (v / 10) (digB v :: ds) := by
  obtain ⟨h1, h2, h3, h4⟩ := h
  have hd : digL (digB v) = true := by unfold digL; rw [digB_nat]; simp; omega
  have hlen : ds.length ≤ 19 := by
    rcases hv with hv | rfl
    · apply Nat.le_of_not_lt; intro hlt
      have e1 : 10 ^ 20 ≤ 10 ^ ds.length := Nat.pow_le_pow_right (by omega) (by omega)
      have e2 : 1 * 10 ^ ds.length ≤ v * 10 ^ ds.length := Nat.mul_le_mul_right _ hv
      have e3 : (18446744073709551616 : Nat) < 10 ^ 20 := by decide
      omega
    · simp
  refine ⟨fun c hc => ?_, ?_, by simp; omega, ?_⟩
  · rcases List.mem_cons.1 hc with rfl | hc
    · exact hd
    · exact h1 c hc
  · rw [decA_cons, decA_eq, digB_nat, List.length_cons, Nat.pow_succ, ← h2]
    generalize 10 ^ ds.length = P
    have e : v = v / 10 * 10 + v % 10 := by omega
    have e2 : v * P = v / 10 * (P * 10) + v % 10 * P := by
      rw [Nat.mul_comm P 10, ← Nat.mul_assoc, ← Nat.add_mul, ← e]
    rw [show 0 * 10 + (48 + v % 10 - 48) = v % 10 by omega, e2]; omega
  · by_cases h0 : 0 < n
    · exact .inr (.inl h0)
    · have : v = 0 := by
        have e2 : v * 1 ≤ v * 10 ^ ds.length := Nat.mul_le_mul_left _ (Nat.pow_pos (by omega))
        omega
      exact .inr (.inr (by rw [this]))

set_option maxRecDepth 100000 in
set_option maxHeartbeats 8000000 in
theorem walk_LexNumbers (w : World) (n0 : Int) (hn0 : (Lit.int .u64 n0).wf = true) (z0 : Int) (hz0 : (Lit.int .u8 z0).wf = true) (hl : LaidL w) : Calls Tryd.prog 7 #[.int .u64 n0, .int .u8 z0] w fun e w' => e = .returned (.bool true) ∧ Below w.heap.size w w' := by
  obtain ⟨n, rfl⟩ : ∃ n : Nat, n0 = (n : Int) := ⟨n0.toNat, by have := u64_bounds hn0; omega⟩
  obtain ⟨z, rfl⟩ : ∃ z : Nat, z0 = (z : Int) := ⟨z0.toNat, by have := u8_bounds hz0; omega⟩
  have hnb : n < 18446744073709551616 := by have := u64_bounds hn0; omega
  have hzb : z < 256 := by have := u8_bounds hz0; omega
  have HNB := Lib.hid hnb
  have HL := Lib.hid hl
  have HLW : Hid (∀ w', Below w.heap.size w w' → LaidL w') := Lib.hid (fun w' hb => hl.below hb hl.size)
  have hzw : IntKind.i64.wrap (z : Int) = (z : Int) := by simp [IntKind.wrap, IntKind.bits, IntKind.signed]; omega
  obtain ⟨zk, hzk⟩ : ∃ zk, zk = z % 5 := ⟨_, rfl⟩
  have hzt : (z : Int) % 5 = (zk : Int) := by rw [hzk]; rfl
  have hzk5 : zk < 5 := by omega
  clear hl hn0 hz0 hzk hnb
  go_enter Tryd.func7, Tryd.ntmps7
  go_wp2_with fail
  refine (awake_any w HL.out).mono ?_
  rintro e w1 ⟨rfl, hb1⟩
  have HB1 := Lib.hid hb1
  clear hb1
  go_wp2_with fail
  go_loopg [5, 6] zk (fun gk v5 v6 wr => wr = w1 ∧ ∃ (x : ByteArray) (i : Nat), gk = zk - i ∧ i ≤ zk ∧ v6 = .int .i64 i ∧ v5 = .string x ∧ Hid (x.data.toList = List.replicate i 48))
  case atStart => exact ⟨rfl, ⟨#[]⟩, 0, rfl, Nat.zero_le _, rfl, rfl, Lib.hid rfl⟩
  case round =>
    obtain ⟨rfl, x, i, rfl, hik, rfl, rfl, hx⟩ := hrel
    have hxz : x.size = i := by rw [← show x.data.toList.length = x.size by simp, hx.out]; simp
    have hxs : x.size + 1 ≤ 9223372036854775807 := by omega
    have hxb : x.size ≤ 4 := by omega
    clear hxz
    by_cases hlt : i < zk
    · have hii : (i : Int) < (zk : Int) := by omega
      go_wp2_with fail
      go_roundg (zk - (i + 1))
      case rel => exact ⟨rfl, _, i + 1, rfl, by omega, by go_num, rfl, Lib.hid (by rw [List.replicate_succ']; simp [hx.out])⟩
      case measure => omega
    · obtain rfl : i = zk := by omega
      have hii : ¬ (i : Int) < (i : Int) := by omega
      clear hlt hik hxs
      have hi5 := hzk5
      go_wp2_with fail
      go_loopg [7, 8] (n + 1) (fun gk v7 v8 wq => Below w.heap.size w wq ∧ ∃ (y : ByteArray) (ds : List UInt8) (v : Nat), gk = v + (if ds = [] then 1 else 0) ∧ v8 = .int .u64 v ∧ v7 = .string y ∧ Hid (y.data.toList = ds) ∧ Hid (DigS n v ds))
      case atStart => exact ⟨HB1.out, ⟨#[]⟩, [], n, by simp, rfl, rfl, Lib.hid rfl, Lib.hid (DigS.start n)⟩
      case round =>
        clear hzk5
        obtain ⟨hbq, y, ds, v, hgk, rfl, rfl, hy, hds⟩ := hrel
        have HBQ := Lib.hid hbq
        have HGK := Lib.hid hgk
        clear hbq hgk
        by_cases hv : 0 < v ∨ ds = []
        · obtain ⟨hq1, hq2, hq3, hq4⟩ := hds.out
          have hys : y.size ≤ 20 := by rw [← show y.data.toList.length = y.size by simp, hy.out]; exact hq3
          have HST := Lib.hid (hds.out.step HNB.out hv)
          have hb : (((v : Int) > 0) ∨ (y.toList == []) = true) := by
            rcases hv with h | h
            · exact .inl (by omega)
            · exact .inr (by rw [ByteArray.toList_eq, hy.out, h]; rfl)
          have HV := Lib.hid hv
          have hvb : (v : Int) < 18446744073709551616 := by
            have e2 : v * 1 ≤ v * 10 ^ ds.length := Nat.mul_le_mul_left _ (Nat.pow_pos (by omega))
            have := HNB.out
            omega
          have hvw : IntKind.u64.wrap ((v : Int) / 10) = (v : Int) / 10 := by simp [IntKind.wrap, IntKind.bits, IntKind.signed]; omega
          clear hq1 hq2 hq3 hq4 hv hvb
          by_cases hv0 : (0 : Int) < (v : Int)
          · clear hb
            have hyz : y.size + 1 ≤ 9223372036854775807 := by omega
            have hyz2 : 1 + y.size ≤ 9223372036854775807 := by omega
            have hcv := run_convert_bytes_back (P := Tryd.prog) (wr.alloc (.cells #[.int .u8 (48 + (v : Int) % 10)] 5)) 34 9 5 ⟨wr.heap.size, 0, none⟩ 1 [digB v] Tryd.underlying34 Tryd.underlying5 Tryd.underlying9
              (fun j hj => by
                obtain rfl : j = 0 := by simp at hj; exact hj
                have h := (Has.new wr [.int .u8 (48 + (v : Int) % 10)] 5).cellAt (i := 0) rfl
                show World.cell? _ _ = some (Value.int .u8 ((digB v).toNat : Int))
                rw [digB_nat, show ((48 + v % 10 : Nat) : Int) = 48 + (v : Int) % 10 by omega]
                exact h)
            simp only [List.length_cons, List.length_nil, Nat.zero_add] at hcv
            go_wp2_with fail
            go_roundg (v / 10)
            case rel => exact ⟨HBQ.out.alloc HBQ.out.size _, _, digB v :: ds, v / 10, by simp, by simp, rfl, Lib.hid (by simp [hy.out]), HST⟩
            case measure => have := HGK.out; omega
          · have hye := hb.resolve_left hv0
            clear hb
            obtain rfl : v = 0 := by omega
            clear hvw
            have hde := HV.out.resolve_left (by omega)
            have hyz : y.size + 1 ≤ 9223372036854775807 := by omega
            have hyz2 : 1 + y.size ≤ 9223372036854775807 := by omega
            have hcv := run_convert_bytes_back (P := Tryd.prog) (wr.alloc (.cells #[.int .u8 (48)] 5)) 34 9 5 ⟨wr.heap.size, 0, none⟩ 1 [digB 0] Tryd.underlying34 Tryd.underlying5 Tryd.underlying9
              (fun j hj => by
                obtain rfl : j = 0 := by simp at hj; exact hj
                have h := (Has.new wr [.int .u8 (48)] 5).cellAt (i := 0) rfl
                show World.cell? _ _ = some (Value.int .u8 ((digB 0).toNat : Int))
                rw [digB_nat]
                exact h)
            simp only [List.length_cons, List.length_nil, Nat.zero_add] at hcv
            go_wp2_with fail
            go_roundg (0)
            case rel => exact ⟨HBQ.out.alloc HBQ.out.size _, _, digB 0 :: ds, 0, by simp, by simp, rfl, Lib.hid (by simp [hy.out]), HST⟩
            case measure => rw [HGK.out, if_pos hde]; omega
        · obtain rfl : v = 0 := by omega
          have hdn : ds ≠ [] := fun h => hv (.inr h)
          have hye : (y.toList == []) = false := by rw [ByteArray.toList_eq, hy.out]; simpa using hdn
          obtain ⟨hq1, hq2, hq3, _⟩ := hds.out
          have hys : y.size ≤ 20 := by rw [← show y.data.toList.length = y.size by simp, hy.out]; exact hq3
          have hcs : 2 + x.size + y.size ≤ 9223372036854775807 := by omega
          obtain ⟨S, hS⟩ : ∃ S : ByteArray, S = { data := #[97, 32] } ++ x ++ y := ⟨_, rfl⟩
          obtain ⟨L, hL⟩ : ∃ L, L = List.replicate i 48 ++ ds := ⟨_, rfl⟩
          have HSL : Hid (S.data.toList = 97 :: 32 :: L) := Lib.hid (by rw [hS, hL]; simp [ByteArray.data_append, hx.out, hy.out])
          have HXY : Hid ((⟨L.toArray⟩ : ByteArray) = x ++ y) := Lib.hid (bytes_ext (by rw [hL]; simp [ByteArray.data_append, hx.out, hy.out]))
          have HLD : Hid (∀ c ∈ L, digL c = true) := Lib.hid (by
            intro c hc; rw [hL, List.mem_append] at hc
            rcases hc with hc | hc
            · rw [(List.mem_replicate.1 hc).2]; decide
            · exact hq1 c hc)
          have hdp : 0 < ds.length := List.length_pos_iff.2 hdn
          have HLP : Hid (0 < L.length) := Lib.hid (by rw [hL]; simp; omega)
          have HLL : Hid (L.length ≤ 100) := Lib.hid (by rw [hL]; simp; omega)
          have HDN : Hid (decA 0 L = n) := Lib.hid (by rw [hL, decA_zeros]; omega)
          have HTOP : Hid (lexTop S.data.toList = numR L) := Lib.hid (by
            rw [HSL.out]; exact top_num (List.length_pos_iff.1 HLP.out) HLD.out (by have := HLL.out; omega))
          have HS := Lib.hid hS
          clear hv hq1 hq2 hq3 hS hL hdp hdn hx hy hds
          go_wp2_with fail
          rw [← HS.out]
          have ht := tokens_any S wr (HLW.out _ HBQ.out)
          rw [HTOP.out] at ht
          have HT := Lib.hid ht
          clear ht
          refine HT.out.mono ?_
          intro e w2 hp
          by_cases hgr : 9223372036854775807 < n
          · have HNR : Hid (numR L = .error (2, 13)) := Lib.hid (if_pos (by rw [HDN.out]; exact hgr))
            have hgi : (9223372036854775807 : Int) < (n : Int) := by omega
            rw [HNR.out] at hp
            obtain ⟨rfl, hb2⟩ := hp
            have HB2 := Lib.hid (HBQ.out.trans (hb2.mono HBQ.out.size))
            clear hb2 HT
            go_wp2_with fail
            rw [← HS.out]
            refine (rtok_num S L HSL HLP.out HLD HLL.out w2).mono ?_
            intro e w3 hp3
            rw [HNR.out] at hp3
            obtain ⟨rfl, hb3⟩ := hp3
            have HB3 := Lib.hid (HB2.out.trans (hb3.mono HB2.out.size))
            clear hb3
            go_wp2_with fail
            go_ret
            exact ⟨rfl, HB3.out⟩
          · obtain ⟨ts, hts⟩ : ∃ ts, ts = [tkA, tkD L, ⟨0, [], 2 + L.length⟩] := ⟨_, rfl⟩
            have HNR : Hid (numR L = .ok ts) := Lib.hid (by rw [hts]; exact if_neg (by rw [HDN.out]; exact hgr))
            have HT3 : Hid (ts.length = 3) := Lib.hid (by rw [hts]; rfl)
            have HT1 : Hid (ts[1]? = some (tkD L)) := Lib.hid (by rw [hts]; rfl)
            have hgi : ¬ (9223372036854775807 : Int) < (n : Int) := by omega
            have HLT : Hid (lexTop S.data.toList = .ok ts) := Lib.hid (by rw [HTOP.out, HNR.out])
            clear hts
            rw [HNR.out] at hp
            obtain ⟨g, cap, rfl, hta, hb2, _, hcap, _⟩ := tok_list hp HLT.out
            rw [HT3.out] at hcap
            rw [HT3.out]
            have HTA := Lib.hid hta
            have HB2 := Lib.hid (HBQ.out.trans (hb2.mono HBQ.out.size))
            clear hp hta hb2 HT
            go_wp2_with fail
            rw [← HS.out]
            refine (rtok_num S L HSL HLP.out HLD HLL.out w2).mono ?_
            intro e w3 hp3
            rw [HNR.out] at hp3
            obtain ⟨g3, cap3, rfl, hta3, hb3, _, hcap3, _⟩ := tok_list hp3 HLT.out
            rw [HT3.out] at hcap3
            rw [HT3.out]
            have HTA2 := Lib.hid (HTA.out.later hb3 (Nat.le_refl _))
            have HTA3 := Lib.hid hta3
            have HB3 := Lib.hid (HB2.out.trans (hb3.mono HB2.out.size))
            clear hp3 hta3 hb3 HTA
            go_wp2_with fail
            refine (rsame_any g g3 3 cap cap3 ts HT3.out.symm (by omega) w3 HTA2.out HTA3.out).mono ?_
            rintro e w4 ⟨rfl, hb4⟩
            have c4 := ((HTA2.out.later hb4 (Nat.le_refl _)).2 1 _ HT1.out).2.1
            have HB4 := Lib.hid (HB3.out.trans (hb4.mono HB3.out.size))
            rw [show (tkD L).text = L from rfl, HXY.out] at c4
            clear hb4
            go_wp2_with fail
            go_ret
            exact ⟨rfl, HB4.out⟩

end Go.Proofs.YtjoiddlknocdfaaDoor
