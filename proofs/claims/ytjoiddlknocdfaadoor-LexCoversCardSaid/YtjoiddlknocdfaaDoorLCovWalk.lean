/-
  The walk of the law LexCovers. Conditions: the listed variables lie as the text lays them.
-/
import Derived.Test.YtjoiddlknocdfaaDoorLAwake
import Derived.Test.YtjoiddlknocdfaaDoorLCovM
import Derived.Deep.Cut
namespace Go.Proofs.YtjoiddlknocdfaaDoor
open Go.RowKit
set_option linter.unusedVariables false

set_option maxRecDepth 100000 in
set_option maxHeartbeats 8000000 in
theorem walk_LexCovers (w : World) (s : ByteArray) (hs : s.size ≤ 140737488351232) (hl : LaidL w) : Calls Tryd.prog 3 #[.string s] w fun e w' => e = .returned (.bool true) ∧ Below w.heap.size w w' := by
  have HL := Lib.hid hl
  have HLW : Hid (∀ w', Below w.heap.size w w' → LaidL w') := Lib.hid (fun w' hb => hl.below hb hl.size)
  have hsz : s.data.toList.length = s.size := by simp
  have HSZ := Lib.hid hsz
  clear hl hsz
  go_enter Tryd.func3, Tryd.ntmps3
  go_wp2_with fail
  refine (awake_any w HL.out).mono ?_
  rintro e w1 ⟨rfl, hb1⟩
  have HB1 := Lib.hid hb1
  clear hb1
  go_wp2_with fail
  refine (tokens_any s w1 (HLW.out _ HB1.out)).mono ?_
  intro e w2 hp
  cases hr : lexTop s.data.toList with
  | error r =>
    obtain ⟨pl, er⟩ := r
    rw [hr] at hp
    obtain ⟨rfl, hb⟩ := hp
    have HB := Lib.hid (HB1.out.trans (hb.mono HB1.out.size))
    have her := top_err hr
    have heri : (er != 0) = true := by simpa using her
    clear hb hr
    go_wp2_with fail
    go_ret
    exact ⟨rfl, HB.out⟩
  | ok ts =>
    rw [hr] at hp
    obtain ⟨⟨v, rfl, ho⟩, hb⟩ := hp
    have HB := Lib.hid (HB1.out.trans (hb.mono HB1.out.size))
    have hg := top_good hr
    have hn1 := good_ne hg
    obtain ⟨g, cap, rfl, hle⟩ := row_some ho (by omega)
    have HO := Lib.hid ho
    have HG := Lib.hid hg
    obtain ⟨n, hn⟩ : ∃ n, n = ts.length := ⟨_, rfl⟩
    have hn4 : n ≤ 9223372036854775807 := by
      have := HO.out.2
      rcases this with ⟨_, h0⟩ | ⟨g', c', cur, _, _, _, h1, h2, _⟩
      · omega
      · unfold maxLen at h2; omega
    rw [← hn] at hn1 hle ⊢
    have HN := Lib.hid hn
    clear ho hb hr hg hn
    go_wp2_with fail
    go_loopg [6, 7] n (fun gk v6 v7 wr => ∃ (i : Nat) (z : Int), gk = n - i ∧ i ≤ n ∧ v7 = .int .i64 i ∧ v6 = .int .i64 z ∧ Hid (∀ t, ts[i]? = some t → z < (t.at_ : Int)) ∧ Below w2.heap.size w2 wr)
    case atStart => exact ⟨0, -1, rfl, Nat.zero_le _, rfl, rfl, Lib.hid (fun t ht => by omega), Below.refl _ _⟩
    case round =>
      obtain ⟨i, z, rfl, hin, rfl, rfl, hz, hb⟩ := hrel
      have HBR := Lib.hid hb
      have HZ := Lib.hid hz.out
      clear hb hz
      by_cases hlt : i < n
      · obtain ⟨t, ht⟩ : ∃ t, ts[i]? = some t := ⟨_, List.getElem?_eq_getElem (by rw [← HN.out]; exact hlt)⟩
        obtain ⟨k1, k2, k3, k4, k5⟩ := good_get ts 0 i t HG.out ht
        have hzt := HZ.out t ht
        have hgl : g < w2.heap.size := by
          have := HO.out.lt g rfl; exact this.2
        have hO2 : w2.ownsRow w1.heap.size 28 3 (.slice (some ⟨g, 0, none⟩) n cap) n (tksC ts) := by rw [HN.out]; exact HO.out
        have cc := tok_cells hO2 ht
        have d0 := (HBR.out.cell (p := ⟨g, i * 3, none⟩) hgl).trans cc.1
        have d1 := (HBR.out.cell (p := ⟨g, i * 3 + 1, none⟩) hgl).trans cc.2.1
        have d2 := (HBR.out.cell (p := ⟨g, i * 3 + 2, none⟩) hgl).trans cc.2.2
        have hii : (i : Int) < (n : Int) := by omega
        have HNX : Hid (∀ u, ts[i + 1]? = some u → (t.at_ : Int) < (u.at_ : Int)) := Lib.hid (fun u hu => by
          have := (good_get ts 0 (i + 1) u HG.out hu).2.2.2.1 i t rfl ht; omega)
        obtain ⟨kd, hkd⟩ : ∃ kd, kd = t.kind := ⟨_, rfl⟩
        obtain ⟨at_, hat⟩ : ∃ at_, at_ = t.at_ := ⟨_, rfl⟩
        obtain ⟨tx, htx⟩ : ∃ tx : ByteArray, tx = ⟨t.text.toArray⟩ := ⟨_, rfl⟩
        rw [← hkd] at d0
        rw [← htx] at d1
        rw [← hat] at d2 hzt HNX
        rw [HSZ.out, ← hat] at k2
        have hA1 : ¬ (at_ : Int) ≤ z := by omega
        have hA2 : ¬ (s.size : Int) < (at_ : Int) := by omega
        have txs : tx.size = t.text.length := by rw [htx]; show t.text.toArray.size = _; simp
        have txl : tx.toList = t.text := by rw [ByteArray.toList_eq, htx]
        have K3 : Hid (kd = 6 ∨ (at_ + tx.size ≤ s.size ∧ ((s.extract at_ (at_ + tx.size)).toList == tx.toList) = true)) := Lib.hid (by
          rw [hkd]
          rcases k3 with h6 | ⟨h1, h2⟩
          · exact .inl h6
          · rw [HSZ.out, ← hat] at h1
            refine .inr ⟨by rw [txs]; exact h1, ?_⟩
            rw [txl, ByteArray.toList_eq, txs, ext_eq s at_ _ h1, hat]
            simpa using h2)
        clear k1 k2 k3 k4 k5 cc hO2 ht hkd hat htx txs txl hzt hgl
        go_upto_region 11 with fail
        obtain ⟨wz, hwz⟩ : ∃ wz, wz = wr.alloc (.cells #[.int .u8 (kd : Int), .string tx, .int .i64 (at_ : Int)] 28) := ⟨_, rfl⟩
        obtain ⟨tb, htb⟩ : ∃ tb, tb = wr.heap.size := ⟨_, rfl⟩
        have hT : Has wz tb [.int .u8 (kd : Int), .string tx, .int .i64 (at_ : Int)] 28 := by rw [hwz, htb]; exact Has.new wr [.int .u8 (kd : Int), .string tx, .int .i64 (at_ : Int)] _
        have HBZ : Hid (Below w2.heap.size w2 wz) := Lib.hid (by rw [hwz]; exact HBR.out.alloc HBR.out.size _)
        rw [← hwz, ← htb]
        have e0 := hT.cellAt (i := 0) rfl
        have e1 := hT.cellAt (i := 1) rfl
        have e2 := hT.cellAt (i := 2) rfl
        clear hwz htb d0 d1 d2 hT
        by_cases h6 : kd = 6
        · have h6i : ((kd : Int) != 6) = false := by simp; omega
          clear h6
          go_quiet (fail)
          go_wp2_with fail
          go_roundg (n - (i + 1))
          case rel => exact ⟨i + 1, (at_ : Int), rfl, by omega, by go_num, rfl, HNX, below_drewN HBZ.out _⟩
          case measure => omega
        · have h6i : ((kd : Int) != 6) = true := by simp; omega
          obtain ⟨hle1, hcmp⟩ := K3.out.resolve_left h6
          have hl1 : (at_ : Int) + (tx.size : Int) ≤ (s.size : Int) := by omega
          have hl2 : (at_ : Int) ≤ (at_ : Int) + (tx.size : Int) := by omega
          have hl3 : ((at_ : Int) + (tx.size : Int)).toNat = at_ + tx.size := by omega
          have hl4 : ¬ (s.size : Int) < (at_ : Int) + (tx.size : Int) := by omega
          clear h6 K3
          go_quiet (fail)
          go_wp2_with fail
          go_roundg (n - (i + 1))
          case rel => exact ⟨i + 1, (at_ : Int), rfl, by omega, by go_num, rfl, HNX, below_drewN HBZ.out _⟩
          case measure => omega
      · obtain rfl : i = n := by omega
        have hii : ¬ (i : Int) < (i : Int) := by omega
        obtain ⟨j, rfl⟩ : ∃ j, i = j + 1 := ⟨i - 1, by omega⟩
        obtain ⟨t, ht⟩ : ∃ t, ts[j]? = some t := ⟨_, List.getElem?_eq_getElem (by rw [← HN.out]; omega)⟩
        obtain ⟨k1, k2, k3, k4, k5⟩ := good_get ts 0 j t HG.out ht
        obtain ⟨k6, k7⟩ := k5 HN.out
        have hgl : g < w2.heap.size := by
          have := HO.out.lt g rfl; exact this.2
        have hO2 : w2.ownsRow w1.heap.size 28 3 (.slice (some ⟨g, 0, none⟩) (j + 1) cap) (j + 1) (tksC ts) := by rw [HN.out]; exact HO.out
        have cc := tok_cells hO2 ht
        have d0 := (HBR.out.cell (p := ⟨g, j * 3, none⟩) hgl).trans cc.1
        have d2 := (HBR.out.cell (p := ⟨g, j * 3 + 2, none⟩) hgl).trans cc.2.2
        rw [k6] at d0
        rw [k7, HSZ.out] at d2
        have hwr : wrap64 (((j + 1 : Nat) : Int) - 1) = (j : Int) := by unfold wrap64; omega
        have hpos : (0 : Int) < ((j + 1 : Nat) : Int) := by omega
        have hji : (j : Int) < ((j + 1 : Nat) : Int) := by omega
        have HBF : Hid (Below w.heap.size w wr) := Lib.hid (HB.out.trans (HBR.out.mono HB.out.size))
        clear k1 k2 k3 k4 k5 cc hO2 ht
        go_wp2_with fail
        go_ret
        exact ⟨rfl, HBF.out⟩

end Go.Proofs.YtjoiddlknocdfaaDoor
