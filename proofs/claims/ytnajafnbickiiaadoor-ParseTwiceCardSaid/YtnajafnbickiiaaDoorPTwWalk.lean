/-
  The walk of the law ParseTwice. Conditions: the listed variables lie as the text lays them.
-/
import Derived.Test.YtnajafnbickiiaaDoorPTwM
import Derived.Test.YtnajafnbickiiaaDoorPDeepWalk
import Derived.Deep.RegionHeld
namespace Go.Proofs.YtnajafnbickiiaaDoor
open Go.RowKit
set_option linter.unusedVariables false

/-- The q-th text ahead of its end. -/
def sW (b : ByteArray) (q : Nat) : ByteArray := ByteArray.mk (wA q).toArray ++ b ++ ByteArray.mk (wB q).toArray
theorem w_lens (k : Nat) (hk : k < 6) : 1 ≤ (wA k).length ∧ (wA k).length ≤ 40 ∧ 1 ≤ (wB k).length ∧ (wB k).length ≤ 40 ∧ (wE k).length ≤ 40 := by
  have h : ∀ k, k < 6 → 1 ≤ (wA k).length ∧ (wA k).length ≤ 40 ∧ 1 ≤ (wB k).length ∧ (wB k).length ≤ 40 ∧ (wE k).length ≤ 40 := by decide
  exact h k hk
theorem has_there {w : World} {b : Nat} {L : List Value} {t : TypeId} (h : Has w b L t) : w.there b 0 L.length := fun j hj => by
  rw [Nat.zero_add]
  exact ⟨by rw [h.cellAt (List.getElem?_eq_getElem hj)]; rfl, h.frozen j⟩

set_option maxRecDepth 100000 in
set_option maxHeartbeats 8000000 in
theorem walk_twice (w : World) (n m : Nat) (hn : n < 256) (hm : m < 256) (hl : LaidL w) (hlp : LaidP w) :
    Calls Tryd.prog 5 #[.int .u8 (n : Int), .int .u8 (m : Int)] w fun e w' => e = .returned (.bool true) ∧ Below w.heap.size w w' := by
  have HL := Lib.hid hl
  have HLP := Lib.hid hlp
  have HA := Lib.hid (awake_any w hl hlp)
  clear hl hlp
  have hpn : IntKind.i64.wrap (n : Int) = (n : Int) := by simp [IntKind.wrap, IntKind.bits, IntKind.signed]; omega
  have hpm : IntKind.i64.wrap (m : Int) = (m : Int) := by simp [IntKind.wrap, IntKind.bits, IntKind.signed]; omega
  obtain ⟨k, hk⟩ : ∃ k, k = n % 6 := ⟨_, rfl⟩
  obtain ⟨jj, hj⟩ : ∃ j, j = m % 9 := ⟨_, rfl⟩
  have hpt : (n : Int) % 6 = (k : Int) := by rw [hk]; rfl
  have hpu : (m : Int) % 9 = (jj : Int) := by rw [hj]; rfl
  have hk6 : k < 6 := by omega
  have hj9 : jj < 9 := by omega
  clear hk hj hn hm
  go_enter Tryd.func5, Tryd.ntmps5
  go_wp2_with fail
  refine HA.out.mono ?_
  rintro e w1 ⟨rfl, hb⟩
  have L1 := Lib.hid (HL.out.below hb HL.out.size)
  have LP1 := Lib.hid (HLP.out.below hb HLP.out.lt)
  have BB1 := Lib.hid hb
  clear hb HL HLP HA
  go_wp2_with fail
  go_loopg [5, 6] jj (fun gk v5 v6 wr => wr = w1 ∧ ∃ (s : ByteArray) (i : Nat), gk = jj - i ∧ i ≤ jj ∧ v6 = .int .i64 i ∧ v5 = .string s ∧ Hid (s.data.toList = List.replicate i 32))
  case atStart => exact ⟨rfl, ⟨#[]⟩, 0, rfl, Nat.zero_le _, rfl, rfl, Lib.hid rfl⟩
  case round =>
    obtain ⟨rfl, b, i, rfl, hik, rfl, rfl, hs⟩ := hrel
    have hsz : b.size = i := by rw [← show b.data.toList.length = b.size by simp, hs.out]; simp
    have hx0 : b.size + 1 ≤ 9223372036854775807 := by omega
    have hx0b : b.size ≤ 9223372036854775806 := by omega
    by_cases hlt : i < jj
    · have hii : (i : Int) < (jj : Int) := by omega
      clear hsz
      go_wp2_with fail
      go_roundg (jj - (i + 1))
      case rel => exact ⟨rfl, _, i + 1, rfl, by omega, by go_num, rfl, Lib.hid (by rw [List.replicate_succ']; simp [hs.out])⟩
      case measure => omega
    · obtain rfl : i = jj := by omega
      have hii : ¬ (i : Int) < (i : Int) := by omega
      have hy0 : 8 + b.size ≤ 9223372036854775807 := by omega
      have hz0 : 8 + b.size + 1 ≤ 9223372036854775807 := by omega
      have hw0 : b.size ≤ 9223372036854775799 := by omega
      have hv0 : 8 + b.size ≤ 9223372036854775806 := by omega
      have hy1 : 10 + b.size ≤ 9223372036854775807 := by omega
      have hz1 : 10 + b.size + 1 ≤ 9223372036854775807 := by omega
      have hw1 : b.size ≤ 9223372036854775797 := by omega
      have hv1 : 10 + b.size ≤ 9223372036854775806 := by omega
      have hy2 : 20 + b.size ≤ 9223372036854775807 := by omega
      have hz2 : 20 + b.size + 2 ≤ 9223372036854775807 := by omega
      have hw2 : b.size ≤ 9223372036854775787 := by omega
      have hv2 : 20 + b.size ≤ 9223372036854775805 := by omega
      have hy3 : 4 + b.size ≤ 9223372036854775807 := by omega
      have hz3 : 4 + b.size + 1 ≤ 9223372036854775807 := by omega
      have hw3 : b.size ≤ 9223372036854775803 := by omega
      have hv3 : 4 + b.size ≤ 9223372036854775806 := by omega
      have hy4 : 16 + b.size ≤ 9223372036854775807 := by omega
      have hz4 : 16 + b.size + 1 ≤ 9223372036854775807 := by omega
      have hw4 : b.size ≤ 9223372036854775791 := by omega
      have hv4 : 16 + b.size ≤ 9223372036854775806 := by omega
      have hy5 : 11 + b.size ≤ 9223372036854775807 := by omega
      have hz5 : 11 + b.size + 2 ≤ 9223372036854775807 := by omega
      have hw5 : b.size ≤ 9223372036854775796 := by omega
      have hv5 : 11 + b.size ≤ 9223372036854775805 := by omega
      clear hsz hlt hik
      go_upto_region 9 with fail
      have HSB := Lib.hid hs
      show Code.wp _ _ _ _ (wr.alloc (.cells #[.string (sW b 0), .string (sW b 1), .string (sW b 2), .string (sW b 3), .string (sW b 4), .string (sW b 5)] 9))
      obtain ⟨WB, hWB⟩ : ∃ z, z = wr.heap.size := ⟨_, rfl⟩
      obtain ⟨w2, hw2⟩ : ∃ y, y = wr.alloc (.cells #[.string (sW b 0), .string (sW b 1), .string (sW b 2), .string (sW b 3), .string (sW b 4), .string (sW b 5)] 9) := ⟨_, rfl⟩
      have W2 : Hid (Has w2 WB ((List.range 6).map fun q => .string (sW b q)) 9) := Lib.hid (by rw [hw2, hWB]; exact Has.new wr [.string (sW b 0), .string (sW b 1), .string (sW b 2), .string (sW b 3), .string (sW b 4), .string (sW b 5)] _)
      have hb2 : Below wr.heap.size wr w2 := by rw [hw2]; exact (Below.refl _ _).alloc (Nat.le_refl _) _
      have L2 : Hid (LaidL w2 ∧ LaidP w2) := Lib.hid ⟨L1.out.below hb2 L1.out.size, LP1.out.below hb2 LP1.out.lt⟩
      have BB2 : Hid (Below w.heap.size w w2) := Lib.hid (BB1.out.trans (hb2.mono BB1.out.size))
      rw [← hw2, ← hWB]
      clear hw2 hWB hb2 L1 LP1 BB1 hs
      go_upto_region 10 with fail
      show Code.wp _ _ _ _ (w2.alloc (.cells #[.string ⟨(wE 0).toArray⟩, .string ⟨(wE 1).toArray⟩, .string ⟨(wE 2).toArray⟩, .string ⟨(wE 3).toArray⟩, .string ⟨(wE 4).toArray⟩, .string ⟨(wE 5).toArray⟩] 9))
      obtain ⟨EB, hEB⟩ : ∃ z, z = w2.heap.size := ⟨_, rfl⟩
      obtain ⟨w3, hw3⟩ : ∃ y, y = w2.alloc (.cells #[.string ⟨(wE 0).toArray⟩, .string ⟨(wE 1).toArray⟩, .string ⟨(wE 2).toArray⟩, .string ⟨(wE 3).toArray⟩, .string ⟨(wE 4).toArray⟩, .string ⟨(wE 5).toArray⟩] 9) := ⟨_, rfl⟩
      have E3 : Hid (Has w3 EB ((List.range 6).map fun q => .string ⟨(wE q).toArray⟩) 9) := Lib.hid (by rw [hw3, hEB]; exact Has.new w2 [.string ⟨(wE 0).toArray⟩, .string ⟨(wE 1).toArray⟩, .string ⟨(wE 2).toArray⟩, .string ⟨(wE 3).toArray⟩, .string ⟨(wE 4).toArray⟩, .string ⟨(wE 5).toArray⟩] _)
      have hb3 : Below w2.heap.size w2 w3 := by rw [hw3]; exact (Below.refl _ _).alloc (Nat.le_refl _) _
      have W3 := Lib.hid (W2.out.below hb3 W2.out.lt)
      have L3 : Hid (LaidL w3 ∧ LaidP w3) := Lib.hid ⟨L2.out.1.below hb3 L2.out.1.size, L2.out.2.below hb3 L2.out.2.lt⟩
      have BB3 : Hid (Below w.heap.size w w3) := Lib.hid (BB2.out.trans (hb3.mono BB2.out.size))
      rw [← hw3, ← hEB]
      clear hw3 hEB hb3 L2 BB2 W2
      obtain ⟨wk, hwk⟩ : ∃ z, z = sW b k := ⟨_, rfl⟩
      obtain ⟨ek, hek⟩ : ∃ z : ByteArray, z = ⟨(wE k).toArray⟩ := ⟨_, rfl⟩
      have c1 : w3.cell? ⟨WB, k, none⟩ = some (.string wk) := by rw [hwk]; exact W3.out.cellAt (i := k) (by simp [hk6])
      have c2 : w3.cell? ⟨EB, k, none⟩ = some (.string ek) := by rw [hek]; exact E3.out.cellAt (i := k) (by simp [hk6])
      have hwl : wk.data.toList = txtW k i := by rw [hwk]; unfold txtW sW; rw [← HSB.out]; simp
      have hel : ek.data.toList = wE k := by rw [hek]
      have hws : wk.size = (txtW k i).length := by rw [← hwl]; simp
      have hes : ek.size = (wE k).length := by rw [← hel]; simp
      have hla := w_lens k hk6
      have hlb := txtW_len k i
      have HPOS : Hid (IntKind.i64.wrap ((wk.size : Int) - 1) = (posT k i : Int)) := Lib.hid (by rw [IntWalk.i64_in _ (by omega), hws, hlb]; unfold posT; omega)
      have HSZ : Hid (wk.size + ek.size ≤ 9223372036854775807) := Lib.hid (by omega)
      obtain ⟨ts, hlex, hgood, hbad⟩ := twice_bad k i hk6 hj9
      have HLX : Hid (lexTop (wk ++ ek).data.toList = .ok ts) := Lib.hid (by rw [show (wk ++ ek).data.toList = wk.data.toList ++ ek.data.toList by simp, hwl, hel]; exact hlex)
      have HGD := Lib.hid hgood
      have HBAD := Lib.hid hbad
      have HK6 : Hid ((k : Int) < 6) := Lib.hid (by omega)
      obtain ⟨EE, hEE⟩ : ∃ E, E = exZ.toArray := ⟨_, rfl⟩
      have HEE := Lib.hid hEE
      have HEI : Hid ((Tryd.prog.info? 28).map (·.size) = some EE.size) := Lib.hid (by rw [hEE]; exact info_ex)
      have HEO : Hid (EE.all (·.oneCell') = true) := Lib.hid (by rw [hEE]; exact (IsX.leaf (w := w) (B := 0) 0 0 [] 0).one)
      have HC1 := Lib.hid c1
      have HC2 := Lib.hid c2
      clear hwk hek c1 c2 hwl hel hws hes hla hlb hlex hgood hbad W3 E3 HSB hEE hx0 hx0b hy0 hz0 hw0 hv0 hy1 hz1 hw1 hv1 hy2 hz2 hw2 hv2 hy3 hz3 hw3 hv3 hy4 hz4 hw4 hv4 hy5 hz5 hw5 hv5
      go_upto_region 11 with fail
      refine wp_region_held_drew (S := fun W => W.cell? ⟨WB, k, none⟩ = some (.string wk) ∧ W.cell? ⟨EB, k, none⟩ = some (.string ek)) (by kernel_rfl) ⟨HC1.out, HC2.out⟩ (fun hHeld => ?_)
      obtain ⟨v0, hv0⟩ : ∃ y, y = w3.drew := ⟨_, rfl⟩
      have hb0 : Below w3.heap.size w3 v0 := by rw [hv0]; exact (Below.refl _ _).drew
      have L0 : Hid (LaidL v0 ∧ LaidP v0) := Lib.hid ⟨L3.out.1.below hb0 L3.out.1.size, L3.out.2.below hb0 L3.out.2.lt⟩
      have BB0 : Hid (Below w.heap.size w v0) := Lib.hid (BB3.out.trans (hb0.mono BB3.out.size))
      have HS0 : Hid (v0.cell? ⟨WB, k, none⟩ = some (.string wk) ∧ v0.cell? ⟨EB, k, none⟩ = some (.string ek)) := Lib.hid (by rw [hv0]; exact ⟨HC1.out, HC2.out⟩)
      rw [← hv0] at hHeld
      rw [← hv0]
      clear hv0 hb0 L3 BB3 HC1 HC2
      refine wpAnyH_take (i := 0) (oi := { dst := some 48, op := Op.move (Operand.tmp 7), type := 23, pos := "more.go:57", after := #[], guard := none }) (v := .slice (some ⟨WB, 0, none⟩) 6 6) rfl (by kernel_rfl) (by kernel_rfl) (by kernel_rfl) (fun _ _ _ h => h)
        (Or.inl ⟨by rfl, by intro w hSw;  clear hSw; go_simp⟩) hHeld ?_
      try simp only [Act.put, List.setIfInBounds_toArray, List.set_cons_zero, List.set_cons_succ]
      refine wpAnyH_take (i := 1) (oi := { dst := some 49, op := Op.move (Operand.tmp 9), type := 3, pos := "more.go:57", after := #[], guard := none }) (v := .int .i64 (k : Int)) rfl (by kernel_rfl) (by kernel_rfl) (by kernel_rfl) (fun _ _ _ h => h)
        (Or.inl ⟨by rfl, by intro w hSw;  clear hSw; go_simp⟩) hHeld ?_
      try simp only [Act.put, List.setIfInBounds_toArray, List.set_cons_zero, List.set_cons_succ]
      refine wpAnyH_take (i := 2) (oi := { dst := some 50, op := Op.indexAddr 23 (Operand.tmp 48) (Operand.tmp 49), type := 0, pos := "more.go:57", after := #[{ on := 0, ground := Ground.data }, { on := 1, ground := Ground.data }], guard := none }) (v := .pointer (some ⟨WB, k, none⟩)) rfl (by kernel_rfl) (by kernel_rfl) (by kernel_rfl) (fun _ _ _ h => h)
        (Or.inl ⟨by rfl, by intro w hSw; have h6 := HK6.out; clear hSw; go_simp⟩) hHeld ?_
      try simp only [Act.put, List.setIfInBounds_toArray, List.set_cons_zero, List.set_cons_succ]
      refine wpAnyH_take (i := 3) (oi := { dst := some 51, op := Op.load 9 (Operand.tmp 50), type := 9, pos := "more.go:57", after := #[{ on := 2, ground := Ground.data }], guard := none }) (v := .string wk) rfl (by kernel_rfl) (by kernel_rfl) (by kernel_rfl) (fun _ _ _ h => h)
        (Or.inl ⟨by rfl, by intro w hSw; have hcl := hSw.1; clear hSw; go_simp⟩) hHeld ?_
      try simp only [Act.put, List.setIfInBounds_toArray, List.set_cons_zero, List.set_cons_succ]
      refine wpAnyH_take (i := 4) (oi := { dst := some 52, op := Op.move (Operand.tmp 8), type := 23, pos := "more.go:57", after := #[], guard := none }) (v := .slice (some ⟨EB, 0, none⟩) 6 6) rfl (by kernel_rfl) (by kernel_rfl) (by kernel_rfl) (fun _ _ _ h => h)
        (Or.inl ⟨by rfl, by intro w hSw;  clear hSw; go_simp⟩) hHeld ?_
      try simp only [Act.put, List.setIfInBounds_toArray, List.set_cons_zero, List.set_cons_succ]
      refine wpAnyH_take (i := 5) (oi := { dst := some 53, op := Op.move (Operand.tmp 9), type := 3, pos := "more.go:57", after := #[], guard := none }) (v := .int .i64 (k : Int)) rfl (by kernel_rfl) (by kernel_rfl) (by kernel_rfl) (fun _ _ _ h => h)
        (Or.inl ⟨by rfl, by intro w hSw;  clear hSw; go_simp⟩) hHeld ?_
      try simp only [Act.put, List.setIfInBounds_toArray, List.set_cons_zero, List.set_cons_succ]
      refine wpAnyH_take (i := 6) (oi := { dst := some 54, op := Op.indexAddr 23 (Operand.tmp 52) (Operand.tmp 53), type := 0, pos := "more.go:57", after := #[{ on := 4, ground := Ground.data }, { on := 5, ground := Ground.data }], guard := none }) (v := .pointer (some ⟨EB, k, none⟩)) rfl (by kernel_rfl) (by kernel_rfl) (by kernel_rfl) (fun _ _ _ h => h)
        (Or.inl ⟨by rfl, by intro w hSw; have h6 := HK6.out; clear hSw; go_simp⟩) hHeld ?_
      try simp only [Act.put, List.setIfInBounds_toArray, List.set_cons_zero, List.set_cons_succ]
      refine wpAnyH_take (i := 7) (oi := { dst := some 55, op := Op.load 9 (Operand.tmp 54), type := 9, pos := "more.go:57", after := #[{ on := 6, ground := Ground.data }], guard := none }) (v := .string ek) rfl (by kernel_rfl) (by kernel_rfl) (by kernel_rfl) (fun _ _ _ h => h)
        (Or.inl ⟨by rfl, by intro w hSw; have hcl := hSw.2; clear hSw; go_simp⟩) hHeld ?_
      try simp only [Act.put, List.setIfInBounds_toArray, List.set_cons_zero, List.set_cons_succ]
      refine wpAnyH_take (i := 8) (oi := { dst := some 56, op := Op.binOp BinOp.add 9 (Operand.tmp 51) (Operand.tmp 55) 9, type := 9, pos := "more.go:57", after := #[{ on := 3, ground := Ground.data }, { on := 7, ground := Ground.data }], guard := none }) (v := .string (wk ++ ek)) rfl (by kernel_rfl) (by kernel_rfl) (by kernel_rfl) (fun _ _ _ h => h)
        (Or.inl ⟨by rfl, by intro w hSw; have hsz := HSZ.out; clear hSw; go_simp⟩) hHeld ?_
      try simp only [Act.put, List.setIfInBounds_toArray, List.set_cons_zero, List.set_cons_succ]
      refine wpAnyH_ready (rs := [9, 14]) (by kernel_rfl) (by simp) ?_
      refine AllReadyH.cons (o := { dst := some 57, op := Op.call { callee := Callee.value (Operand.func 7), args := #[Operand.tmp 56], argTypes := #[9] }, type := 30, pos := "more.go:57", after := #[{ on := 8, ground := Ground.data }], guard := none }) rfl (fun K hK => ?_) (AllReadyH.cons (o := { dst := some 10, op := Op.alloc 28, type := 0, pos := "more.go:57", after := #[], guard := none }) rfl (fun K hK => ?_) AllReadyH.nil)
      · go_simp
        refine (parse_deep (wk ++ ek) (L0.out.1) (L0.out.2) (posT k i) 7 ts HLX.out HGD.out HBAD.out).mono ?_
        rintro e v0c ⟨rfl, hb⟩
        have L0c : Hid (LaidL v0c ∧ LaidP v0c) := Lib.hid ⟨L0.out.1.below hb L0.out.1.size, L0.out.2.below hb L0.out.2.lt⟩
        have HS0c : Hid (v0c.cell? ⟨WB, k, none⟩ = some (.string wk) ∧ v0c.cell? ⟨EB, k, none⟩ = some (.string ek)) := Lib.hid ⟨(hb.cell (p := ⟨WB, k, none⟩) (World.block_lt_of_cell? _ ⟨WB, k, none⟩ HS0.out.1)).trans HS0.out.1, (hb.cell (p := ⟨EB, k, none⟩) (World.block_lt_of_cell? _ ⟨EB, k, none⟩ HS0.out.2)).trans HS0.out.2⟩
        have BB0c : Hid (Below w.heap.size w v0c) := Lib.hid (BB0.out.trans (hb.mono BB0.out.size))
        clear hb
        rw [← HEE.out]
        go_simp
        refine hK.out _ _ HS0c.out (fun hHw1 => ?_)
        clear hK K hHeld
        try simp only [Act.put, List.setIfInBounds_toArray, List.set_cons_zero, List.set_cons_succ]
        refine wpAnyH_take (i := 10) (oi := { dst := some 47, op := Op.move (Operand.tmp 57), type := 30, pos := "more.go:57", after := #[{ on := 9, ground := Ground.data }], guard := none }) (v := .tuple #[.agg EE, .int .i64 (posT k i : Int), .int .i64 7]) rfl (by kernel_rfl) (by kernel_rfl) (by kernel_rfl) (fun _ _ _ h => h)
          (Or.inl ⟨by rfl, by intro w hSw;  clear hSw; go_simp⟩) hHw1 ?_
        try simp only [Act.put, List.setIfInBounds_toArray, List.set_cons_zero, List.set_cons_succ]
        refine wpAnyH_take (i := 11) (oi := { dst := some 58, op := Op.extract (Operand.tmp 47) 0, type := 28, pos := "more.go:57", after := #[{ on := 10, ground := Ground.data }], guard := none }) (v := .agg EE) rfl (by kernel_rfl) (by kernel_rfl) (by kernel_rfl) (fun _ _ _ h => h)
          (Or.inl ⟨by rfl, by intro w hSw;  clear hSw; go_simp⟩) hHw1 ?_
        try simp only [Act.put, List.setIfInBounds_toArray, List.set_cons_zero, List.set_cons_succ]
        refine wpAnyH_take (i := 12) (oi := { dst := some 59, op := Op.extract (Operand.tmp 47) 1, type := 3, pos := "more.go:57", after := #[{ on := 10, ground := Ground.data }, { on := 15, ground := Ground.gcOnly Departure.lateStores }], guard := none }) (v := .int .i64 (posT k i : Int)) rfl (by kernel_rfl) (by kernel_rfl) (by kernel_rfl) (fun _ _ _ h => h)
          (Or.inl ⟨by rfl, by intro w hSw;  clear hSw; go_simp⟩) hHw1 ?_
        try simp only [Act.put, List.setIfInBounds_toArray, List.set_cons_zero, List.set_cons_succ]
        refine wpAnyH_take (i := 13) (oi := { dst := some 60, op := Op.extract (Operand.tmp 47) 2, type := 29, pos := "more.go:57", after := #[{ on := 10, ground := Ground.data }, { on := 16, ground := Ground.gcOnly Departure.lateStores }], guard := none }) (v := .int .i64 7) rfl (by kernel_rfl) (by kernel_rfl) (by kernel_rfl) (fun _ _ _ h => h)
          (Or.inl ⟨by rfl, by intro w hSw;  clear hSw; go_simp⟩) hHw1 ?_
        try simp only [Act.put, List.setIfInBounds_toArray, List.set_cons_zero, List.set_cons_succ]
        refine wpAnyH_ready (rs := [14]) (by kernel_rfl) (by simp) ?_
        refine AllReadyH.cons (o := { dst := some 10, op := Op.alloc 28, type := 0, pos := "more.go:57", after := #[], guard := none }) rfl (fun K hK => ?_) AllReadyH.nil
        go_simp
        obtain ⟨X, hX⟩ : ∃ X, X = v0c.heap.size := ⟨_, rfl⟩
        obtain ⟨v0cx, hv⟩ : ∃ y, y = v0c.alloc (.cells #[.int .u8 0, .int .i64 0, .string ⟨#[]⟩, .slice none 0 0, .slice none 0 0, .bool false, .slice none 0 0, .int .i64 0] 28) := ⟨_, rfl⟩
        have hb : Below v0c.heap.size v0c v0cx := by rw [hv]; exact (Below.refl _ _).alloc (Nat.le_refl _) _
        have X0cx : Hid (Has v0cx X exZ 28) := Lib.hid (by rw [hv, hX]; exact Has.new v0c exZ _)
        have L0cx : Hid (LaidL v0cx ∧ LaidP v0cx) := Lib.hid ⟨L0c.out.1.below hb L0c.out.1.size, L0c.out.2.below hb L0c.out.2.lt⟩
        have HS0cx : Hid (v0cx.cell? ⟨WB, k, none⟩ = some (.string wk) ∧ v0cx.cell? ⟨EB, k, none⟩ = some (.string ek)) := Lib.hid ⟨(hb.cell (p := ⟨WB, k, none⟩) (World.block_lt_of_cell? _ ⟨WB, k, none⟩ HS0c.out.1)).trans HS0c.out.1, (hb.cell (p := ⟨EB, k, none⟩) (World.block_lt_of_cell? _ ⟨EB, k, none⟩ HS0c.out.2)).trans HS0c.out.2⟩
        have BB0cx : Hid (Below w.heap.size w v0cx) := Lib.hid (BB0c.out.trans (hb.mono BB0c.out.size))
        have HWX : Hid (WB < X ∧ EB < X ∧ w.heap.size ≤ X) := Lib.hid (by rw [hX]; exact ⟨World.block_lt_of_cell? _ ⟨WB, k, none⟩ HS0c.out.1, World.block_lt_of_cell? _ ⟨EB, k, none⟩ HS0c.out.2, BB0c.out.size⟩)
        rw [← hv, ← hX]
        clear hb hv hX
        refine hK.out _ _ HS0cx.out (fun hHw2 => ?_)
        clear hK K hHw1
        try simp only [Act.put, List.setIfInBounds_toArray, List.set_cons_zero, List.set_cons_succ]
        refine wpAnyH_ready (rs := [15]) (by kernel_rfl) (by simp) ?_
        refine AllReadyH.cons (o := { dst := none, op := Op.store 28 (Operand.tmp 10) (Operand.tmp 58), type := 0, pos := "more.go:57", after := #[{ on := 14, ground := Ground.data }, { on := 11, ground := Ground.data }, { on := 9, ground := Ground.chain }, { on := 0, ground := Ground.phase }, { on := 1, ground := Ground.phase }, { on := 2, ground := Ground.phase }, { on := 3, ground := Ground.phase }, { on := 4, ground := Ground.phase }, { on := 5, ground := Ground.phase }, { on := 6, ground := Ground.phase }, { on := 7, ground := Ground.phase }, { on := 8, ground := Ground.phase }, { on := 9, ground := Ground.phase }, { on := 10, ground := Ground.phase }, { on := 11, ground := Ground.phase }, { on := 12, ground := Ground.textOnly Departure.lateStores }, { on := 13, ground := Ground.textOnly Departure.lateStores }, { on := 14, ground := Ground.phase }], guard := none }) rfl (fun K hK => ?_) AllReadyH.nil
        rw [if_pos (by rfl)]
        refine wp_store_mid 28 (.tmp 10) (.tmp 58) rfl X 0 EE rfl rfl (by rw [HEE.out]; exact has_there X0cx.out) HEI.out HEO.out ?_
        obtain ⟨v0cxs, hv⟩ : ∃ y, y = v0cx.setCells X 0 EE.toList := ⟨_, rfl⟩
        have hb : Below X v0cx v0cxs := by rw [hv]; exact cells_below (Nat.le_refl _) _ _ (Below.refl _ _)
        have X0cxs : Hid (v0cxs.cell? ⟨X, 0, none⟩ = some (.int .u8 0)) := Lib.hid (by rw [hv]; exact World.rangeAt_setCells_same _ _ _ _ (by rw [HEE.out]; exact has_there X0cx.out) 0 _ (by rw [HEE.out]; rfl))
        have HS0cxs : Hid (v0cxs.cell? ⟨WB, k, none⟩ = some (.string wk) ∧ v0cxs.cell? ⟨EB, k, none⟩ = some (.string ek)) := Lib.hid ⟨(hb.cell (p := ⟨WB, k, none⟩) HWX.out.1).trans HS0cx.out.1, (hb.cell (p := ⟨EB, k, none⟩) HWX.out.2.1).trans HS0cx.out.2⟩
        have BB0cxs : Hid (Below w.heap.size w v0cxs) := Lib.hid (BB0cx.out.trans (hb.mono HWX.out.2.2))
        rw [← hv]
        clear hb hv
        refine hK.out _ _ HS0cxs.out (fun hHw3 => ?_)
        clear hK K hHw2
        try simp only [Act.put]
        refine wpAnyH_take (i := 16) (oi := { dst := some 11, op := Op.assign (Operand.tmp 59), type := 3, pos := "more.go:57", after := #[{ on := 12, ground := Ground.data }, { on := 15, ground := Ground.chain }, { on := 0, ground := Ground.phase }, { on := 1, ground := Ground.phase }, { on := 2, ground := Ground.phase }, { on := 3, ground := Ground.phase }, { on := 4, ground := Ground.phase }, { on := 5, ground := Ground.phase }, { on := 6, ground := Ground.phase }, { on := 7, ground := Ground.phase }, { on := 8, ground := Ground.phase }, { on := 9, ground := Ground.phase }, { on := 10, ground := Ground.phase }, { on := 11, ground := Ground.phase }, { on := 12, ground := Ground.phase }, { on := 13, ground := Ground.textOnly Departure.lateStores }, { on := 14, ground := Ground.phase }, { on := 15, ground := Ground.phase }], guard := none }) (v := .int .i64 (posT k i : Int)) rfl (by kernel_rfl) (by kernel_rfl) (by kernel_rfl) (fun _ _ _ h => h)
          (Or.inl ⟨by rfl, by intro w hSw;  clear hSw; go_simp⟩) hHw3 ?_
        try simp only [Act.put, List.setIfInBounds_toArray, List.set_cons_zero, List.set_cons_succ]
        refine wpAnyH_take (i := 17) (oi := { dst := some 12, op := Op.assign (Operand.tmp 60), type := 29, pos := "more.go:57", after := #[{ on := 13, ground := Ground.data }, { on := 16, ground := Ground.chain }, { on := 0, ground := Ground.phase }, { on := 1, ground := Ground.phase }, { on := 2, ground := Ground.phase }, { on := 3, ground := Ground.phase }, { on := 4, ground := Ground.phase }, { on := 5, ground := Ground.phase }, { on := 6, ground := Ground.phase }, { on := 7, ground := Ground.phase }, { on := 8, ground := Ground.phase }, { on := 9, ground := Ground.phase }, { on := 10, ground := Ground.phase }, { on := 11, ground := Ground.phase }, { on := 12, ground := Ground.phase }, { on := 13, ground := Ground.phase }, { on := 14, ground := Ground.phase }, { on := 15, ground := Ground.phase }, { on := 16, ground := Ground.phase }], guard := none }) (v := .int .i64 7) rfl (by kernel_rfl) (by kernel_rfl) (by kernel_rfl) (fun _ _ _ h => h)
          (Or.inl ⟨by rfl, by intro w hSw;  clear hSw; go_simp⟩) hHw3 ?_
        try simp only [Act.put, List.setIfInBounds_toArray, List.set_cons_zero, List.set_cons_succ]
        refine wpAnyH_done (by kernel_rfl) ?_ _
        clear hHw3
        have hx0 := X0cxs.out
        have hwk := HS0cxs.out.1
        have hps := HPOS.out
        have hl6 := HK6.out
        go_wp2_with fail
        go_ret
        exact ⟨rfl, BB0cxs.out⟩
      · go_simp
        obtain ⟨X, hX⟩ : ∃ X, X = v0.heap.size := ⟨_, rfl⟩
        obtain ⟨v0x, hv⟩ : ∃ y, y = v0.alloc (.cells #[.int .u8 0, .int .i64 0, .string ⟨#[]⟩, .slice none 0 0, .slice none 0 0, .bool false, .slice none 0 0, .int .i64 0] 28) := ⟨_, rfl⟩
        have hb : Below v0.heap.size v0 v0x := by rw [hv]; exact (Below.refl _ _).alloc (Nat.le_refl _) _
        have X0x : Hid (Has v0x X exZ 28) := Lib.hid (by rw [hv, hX]; exact Has.new v0 exZ _)
        have L0x : Hid (LaidL v0x ∧ LaidP v0x) := Lib.hid ⟨L0.out.1.below hb L0.out.1.size, L0.out.2.below hb L0.out.2.lt⟩
        have HS0x : Hid (v0x.cell? ⟨WB, k, none⟩ = some (.string wk) ∧ v0x.cell? ⟨EB, k, none⟩ = some (.string ek)) := Lib.hid ⟨(hb.cell (p := ⟨WB, k, none⟩) (World.block_lt_of_cell? _ ⟨WB, k, none⟩ HS0.out.1)).trans HS0.out.1, (hb.cell (p := ⟨EB, k, none⟩) (World.block_lt_of_cell? _ ⟨EB, k, none⟩ HS0.out.2)).trans HS0.out.2⟩
        have BB0x : Hid (Below w.heap.size w v0x) := Lib.hid (BB0.out.trans (hb.mono BB0.out.size))
        have HWX : Hid (WB < X ∧ EB < X ∧ w.heap.size ≤ X) := Lib.hid (by rw [hX]; exact ⟨World.block_lt_of_cell? _ ⟨WB, k, none⟩ HS0.out.1, World.block_lt_of_cell? _ ⟨EB, k, none⟩ HS0.out.2, BB0.out.size⟩)
        rw [← hv, ← hX]
        clear hb hv hX
        refine hK.out _ _ HS0x.out (fun hHw1 => ?_)
        clear hK K hHeld
        try simp only [Act.put, List.setIfInBounds_toArray, List.set_cons_zero, List.set_cons_succ]
        refine wpAnyH_ready (rs := [9]) (by kernel_rfl) (by simp) ?_
        refine AllReadyH.cons (o := { dst := some 57, op := Op.call { callee := Callee.value (Operand.func 7), args := #[Operand.tmp 56], argTypes := #[9] }, type := 30, pos := "more.go:57", after := #[{ on := 8, ground := Ground.data }], guard := none }) rfl (fun K hK => ?_) AllReadyH.nil
        go_simp
        refine (parse_deep (wk ++ ek) (L0x.out.1) (L0x.out.2) (posT k i) 7 ts HLX.out HGD.out HBAD.out).mono ?_
        rintro e v0xc ⟨rfl, hb⟩
        have L0xc : Hid (LaidL v0xc ∧ LaidP v0xc) := Lib.hid ⟨L0x.out.1.below hb L0x.out.1.size, L0x.out.2.below hb L0x.out.2.lt⟩
        have HS0xc : Hid (v0xc.cell? ⟨WB, k, none⟩ = some (.string wk) ∧ v0xc.cell? ⟨EB, k, none⟩ = some (.string ek)) := Lib.hid ⟨(hb.cell (p := ⟨WB, k, none⟩) (World.block_lt_of_cell? _ ⟨WB, k, none⟩ HS0x.out.1)).trans HS0x.out.1, (hb.cell (p := ⟨EB, k, none⟩) (World.block_lt_of_cell? _ ⟨EB, k, none⟩ HS0x.out.2)).trans HS0x.out.2⟩
        have BB0xc : Hid (Below w.heap.size w v0xc) := Lib.hid (BB0x.out.trans (hb.mono BB0x.out.size))
        have X0xc := Lib.hid (X0x.out.below hb X0x.out.lt)
        clear hb
        rw [← HEE.out]
        go_simp
        refine hK.out _ _ HS0xc.out (fun hHw2 => ?_)
        clear hK K hHw1
        try simp only [Act.put, List.setIfInBounds_toArray, List.set_cons_zero, List.set_cons_succ]
        refine wpAnyH_take (i := 10) (oi := { dst := some 47, op := Op.move (Operand.tmp 57), type := 30, pos := "more.go:57", after := #[{ on := 9, ground := Ground.data }], guard := none }) (v := .tuple #[.agg EE, .int .i64 (posT k i : Int), .int .i64 7]) rfl (by kernel_rfl) (by kernel_rfl) (by kernel_rfl) (fun _ _ _ h => h)
          (Or.inl ⟨by rfl, by intro w hSw;  clear hSw; go_simp⟩) hHw2 ?_
        try simp only [Act.put, List.setIfInBounds_toArray, List.set_cons_zero, List.set_cons_succ]
        refine wpAnyH_take (i := 11) (oi := { dst := some 58, op := Op.extract (Operand.tmp 47) 0, type := 28, pos := "more.go:57", after := #[{ on := 10, ground := Ground.data }], guard := none }) (v := .agg EE) rfl (by kernel_rfl) (by kernel_rfl) (by kernel_rfl) (fun _ _ _ h => h)
          (Or.inl ⟨by rfl, by intro w hSw;  clear hSw; go_simp⟩) hHw2 ?_
        try simp only [Act.put, List.setIfInBounds_toArray, List.set_cons_zero, List.set_cons_succ]
        refine wpAnyH_take (i := 12) (oi := { dst := some 59, op := Op.extract (Operand.tmp 47) 1, type := 3, pos := "more.go:57", after := #[{ on := 10, ground := Ground.data }, { on := 15, ground := Ground.gcOnly Departure.lateStores }], guard := none }) (v := .int .i64 (posT k i : Int)) rfl (by kernel_rfl) (by kernel_rfl) (by kernel_rfl) (fun _ _ _ h => h)
          (Or.inl ⟨by rfl, by intro w hSw;  clear hSw; go_simp⟩) hHw2 ?_
        try simp only [Act.put, List.setIfInBounds_toArray, List.set_cons_zero, List.set_cons_succ]
        refine wpAnyH_take (i := 13) (oi := { dst := some 60, op := Op.extract (Operand.tmp 47) 2, type := 29, pos := "more.go:57", after := #[{ on := 10, ground := Ground.data }, { on := 16, ground := Ground.gcOnly Departure.lateStores }], guard := none }) (v := .int .i64 7) rfl (by kernel_rfl) (by kernel_rfl) (by kernel_rfl) (fun _ _ _ h => h)
          (Or.inl ⟨by rfl, by intro w hSw;  clear hSw; go_simp⟩) hHw2 ?_
        try simp only [Act.put, List.setIfInBounds_toArray, List.set_cons_zero, List.set_cons_succ]
        refine wpAnyH_ready (rs := [15]) (by kernel_rfl) (by simp) ?_
        refine AllReadyH.cons (o := { dst := none, op := Op.store 28 (Operand.tmp 10) (Operand.tmp 58), type := 0, pos := "more.go:57", after := #[{ on := 14, ground := Ground.data }, { on := 11, ground := Ground.data }, { on := 9, ground := Ground.chain }, { on := 0, ground := Ground.phase }, { on := 1, ground := Ground.phase }, { on := 2, ground := Ground.phase }, { on := 3, ground := Ground.phase }, { on := 4, ground := Ground.phase }, { on := 5, ground := Ground.phase }, { on := 6, ground := Ground.phase }, { on := 7, ground := Ground.phase }, { on := 8, ground := Ground.phase }, { on := 9, ground := Ground.phase }, { on := 10, ground := Ground.phase }, { on := 11, ground := Ground.phase }, { on := 12, ground := Ground.textOnly Departure.lateStores }, { on := 13, ground := Ground.textOnly Departure.lateStores }, { on := 14, ground := Ground.phase }], guard := none }) rfl (fun K hK => ?_) AllReadyH.nil
        rw [if_pos (by rfl)]
        refine wp_store_mid 28 (.tmp 10) (.tmp 58) rfl X 0 EE rfl rfl (by rw [HEE.out]; exact has_there X0xc.out) HEI.out HEO.out ?_
        obtain ⟨v0xcs, hv⟩ : ∃ y, y = v0xc.setCells X 0 EE.toList := ⟨_, rfl⟩
        have hb : Below X v0xc v0xcs := by rw [hv]; exact cells_below (Nat.le_refl _) _ _ (Below.refl _ _)
        have X0xcs : Hid (v0xcs.cell? ⟨X, 0, none⟩ = some (.int .u8 0)) := Lib.hid (by rw [hv]; exact World.rangeAt_setCells_same _ _ _ _ (by rw [HEE.out]; exact has_there X0xc.out) 0 _ (by rw [HEE.out]; rfl))
        have HS0xcs : Hid (v0xcs.cell? ⟨WB, k, none⟩ = some (.string wk) ∧ v0xcs.cell? ⟨EB, k, none⟩ = some (.string ek)) := Lib.hid ⟨(hb.cell (p := ⟨WB, k, none⟩) HWX.out.1).trans HS0xc.out.1, (hb.cell (p := ⟨EB, k, none⟩) HWX.out.2.1).trans HS0xc.out.2⟩
        have BB0xcs : Hid (Below w.heap.size w v0xcs) := Lib.hid (BB0xc.out.trans (hb.mono HWX.out.2.2))
        rw [← hv]
        clear hb hv
        refine hK.out _ _ HS0xcs.out (fun hHw3 => ?_)
        clear hK K hHw2
        try simp only [Act.put]
        refine wpAnyH_take (i := 16) (oi := { dst := some 11, op := Op.assign (Operand.tmp 59), type := 3, pos := "more.go:57", after := #[{ on := 12, ground := Ground.data }, { on := 15, ground := Ground.chain }, { on := 0, ground := Ground.phase }, { on := 1, ground := Ground.phase }, { on := 2, ground := Ground.phase }, { on := 3, ground := Ground.phase }, { on := 4, ground := Ground.phase }, { on := 5, ground := Ground.phase }, { on := 6, ground := Ground.phase }, { on := 7, ground := Ground.phase }, { on := 8, ground := Ground.phase }, { on := 9, ground := Ground.phase }, { on := 10, ground := Ground.phase }, { on := 11, ground := Ground.phase }, { on := 12, ground := Ground.phase }, { on := 13, ground := Ground.textOnly Departure.lateStores }, { on := 14, ground := Ground.phase }, { on := 15, ground := Ground.phase }], guard := none }) (v := .int .i64 (posT k i : Int)) rfl (by kernel_rfl) (by kernel_rfl) (by kernel_rfl) (fun _ _ _ h => h)
          (Or.inl ⟨by rfl, by intro w hSw;  clear hSw; go_simp⟩) hHw3 ?_
        try simp only [Act.put, List.setIfInBounds_toArray, List.set_cons_zero, List.set_cons_succ]
        refine wpAnyH_take (i := 17) (oi := { dst := some 12, op := Op.assign (Operand.tmp 60), type := 29, pos := "more.go:57", after := #[{ on := 13, ground := Ground.data }, { on := 16, ground := Ground.chain }, { on := 0, ground := Ground.phase }, { on := 1, ground := Ground.phase }, { on := 2, ground := Ground.phase }, { on := 3, ground := Ground.phase }, { on := 4, ground := Ground.phase }, { on := 5, ground := Ground.phase }, { on := 6, ground := Ground.phase }, { on := 7, ground := Ground.phase }, { on := 8, ground := Ground.phase }, { on := 9, ground := Ground.phase }, { on := 10, ground := Ground.phase }, { on := 11, ground := Ground.phase }, { on := 12, ground := Ground.phase }, { on := 13, ground := Ground.phase }, { on := 14, ground := Ground.phase }, { on := 15, ground := Ground.phase }, { on := 16, ground := Ground.phase }], guard := none }) (v := .int .i64 7) rfl (by kernel_rfl) (by kernel_rfl) (by kernel_rfl) (fun _ _ _ h => h)
          (Or.inl ⟨by rfl, by intro w hSw;  clear hSw; go_simp⟩) hHw3 ?_
        try simp only [Act.put, List.setIfInBounds_toArray, List.set_cons_zero, List.set_cons_succ]
        refine wpAnyH_done (by kernel_rfl) ?_ _
        clear hHw3
        have hx0 := X0xcs.out
        have hwk := HS0xcs.out.1
        have hps := HPOS.out
        have hl6 := HK6.out
        go_wp2_with fail
        go_ret
        exact ⟨rfl, BB0xcs.out⟩
theorem walk_ParseTwice (w : World) (n0 : Int) (hn0 : (Lit.int .u8 n0).wf = true) (m0 : Int) (hm0 : (Lit.int .u8 m0).wf = true) (hl : LaidL w ∧ LaidP w) :
    Calls Tryd.prog 5 #[.int .u8 n0, .int .u8 m0] w fun e w' => e = .returned (.bool true) ∧ Below w.heap.size w w' := by
  obtain ⟨n, rfl⟩ : ∃ n : Nat, n0 = (n : Int) := ⟨n0.toNat, by have := u8_boundsD hn0; omega⟩
  obtain ⟨m, rfl⟩ : ∃ m : Nat, m0 = (m : Int) := ⟨m0.toNat, by have := u8_boundsD hm0; omega⟩
  exact walk_twice w n m (by have := u8_boundsD hn0; omega) (by have := u8_boundsD hm0; omega) hl.1 hl.2
end Go.Proofs.YtnajafnbickiiaaDoor
