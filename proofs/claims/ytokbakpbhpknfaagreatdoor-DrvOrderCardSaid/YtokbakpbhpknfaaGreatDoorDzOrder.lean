/-
  The walk of the law DrvOrder. Conditions: bounds on the texts' sizes; what the program's text has laid.
-/
import Derived.Test.YtokbakpbhpknfaaGreatDoorDzOrdM
namespace Go.Proofs.YtokbakpbhpknfaaGreatDoor
open Go.RowKit
set_option linter.unusedVariables false

set_option maxRecDepth 100000 in
set_option maxHeartbeats 30000000 in
theorem walk_DrvOrder (w : World) (s0 : ByteArray) (a1 : Option Addr) (n1 c1 : Nat) (l1 : List ByteArray) (a2 : Option Addr) (n2 c2 : Nat) (l2 : List ByteArray) (s3 s4 : ByteArray) (h1 : IsS w a1 n1 c1 l1) (h2 : IsS w a2 n2 c2 l2) (hsm : SmallD s0 l1 l2 s3 s4)
    (ad : Option Addr) (nd cd : Nat) (ds : List (List UInt8)) (hd : IsA w ad nd cd ds) (zi : Int) (hzi : (Lit.int .u8 zi).wf = true) (zk : Int) (hzk : (Lit.int .u8 zk).wf = true) (hl : LaidW w) :
    Calls Tryz.prog 5 #[.agg #[.string s0, .slice a1 n1 c1, .slice a2 n2 c2, .string s3, .string s4], .slice ad nd cd, .int .u8 zi, .int .u8 zk] w fun e w' => e = .returned (.bool true) ∧ Below w.heap.size w w' := by
  have hn1 : n1 * 16 ≤ 140737488355328 := by rw [← h1.length]; exact hsm.n1
  have hnd : nd * 32 ≤ 140737488355328 := hd.most
  have hroom : nd ≤ cd ∧ cd ≤ maxLen := hd.room
  have HLND := Lib.hid hd.length
  have HLN1 := Lib.hid h1.length
  have HSM := Lib.hid hsm
  have HL := Lib.hid hl
  have ID := Lib.hid hd
  have HZI := Lib.hid hzi
  have HZK := Lib.hid hzk
  obtain ⟨L5, hL5⟩ : ∃ L : List Value, L = [.string s0, .slice a1 n1 c1, .slice a2 n2 c2, .string s3, .string s4] := ⟨_, rfl⟩
  have hag : (#[.string s0, .slice a1 n1 c1, .slice a2 n2 c2, .string s3, .string s4] : Array Value) = L5.toArray := by rw [hL5]
  have HLI : Hid ((Tryz.prog.info? 24).map (·.size) = some L5.toArray.size) := Lib.hid (by rw [hL5]; exact info_dL _ _ _ _ _ _ _ _ _)
  have kR := fun (w : World) (h1 : IsS w a1 n1 c1 l1) (h2 : IsS w a2 n2 c2 l2) => rform_any s0 s3 s4 a1 a2 n1 c1 n2 c2 l1 l2 w h1 h2 hsm.z1 hsm.z2 hsm.z0 hsm.z3 hsm.z4
  have kO := fun (ad : Option Addr) (nd cd : Nat) (ds : List (List UInt8)) (w : World) (h1 : IsS w a1 n1 c1 l1) (h2 : IsS w a2 n2 c2 l2) (hd : IsA w ad nd cd ds) (hl : LaidW w) => dout_any s0 s3 s4 a1 a2 n1 c1 n2 c2 l1 l2 ad nd cd ds w h1 h2 hsm hd hl
  obtain ⟨f, hf⟩ : ∃ f, f = formB s0 l1 l2 s3 s4 := ⟨_, rfl⟩
  unfold OutP at kO
  rw [hag] at kR kO
  rw [← hf] at kR
  have KR := Lib.hid kR
  have KO := Lib.hid kO
  have HF := Lib.hid hf
  have HL5 := Lib.hid hL5
  have I1 := Lib.hid h1
  have I2 := Lib.hid h2
  clear kR kO hf hL5 hag h1 h2 hd hl hsm hzi hzk
  go_enter Tryz.func5, Tryz.ntmps5
  go_upto_region 1 with fail
  obtain ⟨w1, hw1⟩ : ∃ w1, w1 = w.alloc (.cells #[.string s0, .slice a1 n1 c1, .slice a2 n2 c2, .string s3, .string s4] 24) := ⟨_, rfl⟩
  have g1 : Has w1 w.heap.size L5 24 := by rw [hw1, HL5.out]; exact Has.new w _ _
  have bl1 : Below w.heap.size w w1 := by rw [hw1]; exact (Below.refl _ _).alloc (Nat.le_refl _) _
  rw [← hw1]
  obtain ⟨G, hG⟩ : ∃ G, G = w.heap.size := ⟨_, rfl⟩
  rw [← hG] at g1 bl1 ⊢
  have HG := Lib.hid hG
  have P1 := Lib.hid g1
  have B1 := Lib.hid bl1
  clear hw1 g1 bl1 hG
  go_wp2_with fail
  refine (awake_any _).mono ?_
  rintro e w2 ⟨rfl, x2⟩
  have B2 : Hid (Below G w w2) := Lib.hid (B1.out.trans (x2.mono (Nat.le_of_lt P1.out.lt)))
  have P2 := Lib.hid (P1.out.below x2 P1.out.lt)
  clear x2 P1 B1
  go_wp2_with (refine wpList_load_rowG (by rfl) 24 _ rfl G rfl 24 L5.toArray (0, 0) _ P2.out Tryz.underlying24 rfl HLI.out ?_)
  refine (KR.out w2 (I1.out.later (by rw [← HG.out]; exact B2.out)) (I2.out.later (by rw [← HG.out]; exact B2.out))).mono ?_
  rintro e w3 ⟨rfl, x3⟩
  have B3 : Hid (Below G w w3) := Lib.hid (B2.out.trans (x3.mono (Nat.le_of_lt P2.out.lt)))
  have P3 := Lib.hid (P2.out.below x3 P2.out.lt)
  clear x3 P2 B2
  cases f with
  | false =>
    as_aux_lemma =>
      go_wp2_with fail
      refine (awake_any _).mono ?_
      rintro e w4 ⟨rfl, x4⟩
      have B4 : Hid (Below G w w4) := Lib.hid (B3.out.trans (x4.mono (Nat.le_of_lt P3.out.lt)))
      clear x4
      go_wp2_with fail
      go_ret
      exact ⟨rfl, by rw [← HG.out]; exact B4.out⟩
  | true =>
    have y1 : w3.cell? ⟨G, 1, none⟩ = some (.slice a1 n1 c1) := P3.out.cellAt (by rw [HL5.out]; rfl)
    by_cases hlt : nd < n1
    · as_aux_lemma =>
        have q1 : (nd : Int) < (n1 : Int) := by omega
        go_wp2_with fail
        refine (awake_any _).mono ?_
        rintro e w4 ⟨rfl, x4⟩
        have B4 : Hid (Below G w w4) := Lib.hid (B3.out.trans (x4.mono (Nat.le_of_lt P3.out.lt)))
        clear x4
        go_wp2_with fail
        go_ret
        exact ⟨rfl, by rw [← HG.out]; exact B4.out⟩
    · have q1 : ¬ (nd : Int) < (n1 : Int) := by omega
      by_cases hn0 : n1 = 0
      · as_aux_lemma =>
          have q2 : (n1 : Int) = 0 := by omega
          go_wp2_with fail
          refine (awake_any _).mono ?_
          rintro e w4 ⟨rfl, x4⟩
          have B4 : Hid (Below G w w4) := Lib.hid (B3.out.trans (x4.mono (Nat.le_of_lt P3.out.lt)))
          clear x4
          go_wp2_with fail
          go_ret
          exact ⟨rfl, by rw [← HG.out]; exact B4.out⟩
      · have q2 : ¬ (n1 : Int) = 0 := by omega
        have hpos : 0 < n1 := by omega
        have ID3 := ID.out.later (by rw [← HG.out]; exact B3.out)
        obtain ⟨b, off, rfl⟩ : ∃ b off, ad = some ⟨b, off, none⟩ := by
          rcases ID3.at_ with h | ⟨b, off, h, _⟩
          · omega
          · exact ⟨b, off, h⟩
        have hncd : n1 ≤ cd := by have := hroom.1; omega
        have hcm : cd ≤ maxLen := hroom.2
        obtain ⟨i0, z0, hi0, hi1, hi2, hi3, hi4⟩ := info_a32_parts
        have HI0 := Lib.hid hi0
        have HI1 := Lib.hid hi1
        have HI2 := Lib.hid hi2
        have HI3 := Lib.hid hi3
        have HI4 := Lib.hid hi4
        have HID3 := Lib.hid ID3
        have HROOM := Lib.hid hroom
        have heach : ∀ i, i < n1 → (ds.getD i []).length = 32 := fun i hi => ID3.each i (by omega)
        have HE := Lib.hid heach
        clear hi0 hi1 hi2 hi3 hi4 ID3 hroom heach
        go_upto_region 5 with fail
        clear y1
        go_wp2_with (at_builtin; go_must (refine wpList_append_lies _ rfl (.tmp 43) (.tmp 46) 25 rfl w3.heap.size 30 i0 z0 32 32 Tryz.underlying25 HI0.out HI1.out HI2.out HI3.out HI4.out (by omega) _ 0 [] rfl (World.ownsRow_nil _ _ _ _) ⟨b, off, none⟩ n1 cd (rowsV ds n1) rfl (rowsV_length _ _) ?m1 ?m2 ?m3 ?m4 ?m5 ?m6 _ rfl ?m7))
        case m1 => exact news_of HID3.out (by omega) hpos
        case m2 => exact rowsV_one HE.out
        case m3 => omega
        case m4 => omega
        case m5 => omega
        case m6 => exact Nat.le_refl _
        intro gA capA w5 hown hgrow hlo hhi
        try simp only [List.nil_append, Nat.zero_add] at hown
        have C5 : Hid (Below w3.heap.size w3 w5) := Lib.hid ((Below.refl _ _).grown hgrow (Nat.le_refl _) (fun k hk => by simp [Value.ownBlock] at hk))
        have B5 : Hid (Below G w w5) := Lib.hid (B3.out.trans (C5.out.mono (Nat.le_of_lt P3.out.lt)))
        have P5 := Lib.hid (P3.out.below C5.out P3.out.lt)
        have IA5 : Hid (IsA w5 (some ⟨gA, 0, none⟩) n1 capA (ds.take n1)) := Lib.hid (isA_own hown HE.out (by rw [HLND.out]; omega) (by omega) hpos)
        have ID5 := Lib.hid (ID.out.later (by rw [← HG.out]; exact B5.out))
        clear hown hgrow hlo hhi C5 B3 P3 HID3
        go_wp2_with (at_builtin; go_must (refine wpList_append_lies _ rfl (.tmp 48) (.tmp 51) 25 rfl w5.heap.size 30 i0 z0 32 32 Tryz.underlying25 HI0.out HI1.out HI2.out HI3.out HI4.out (by omega) _ 0 [] rfl (World.ownsRow_nil _ _ _ _) ⟨b, off, none⟩ n1 cd (rowsV ds n1) rfl (rowsV_length _ _) ?k1 ?k2 ?k3 ?k4 ?k5 ?k6 _ rfl ?k7))
        case k1 => exact news_of ID5.out (by omega) hpos
        case k2 => exact rowsV_one HE.out
        case k3 => omega
        case k4 => omega
        case k5 => omega
        case k6 => exact Nat.le_refl _
        intro gB capB w6 hown hgrow hlo hhi
        try simp only [List.nil_append, Nat.zero_add] at hown
        have HGB : Hid (w5.heap.size ≤ gB) := Lib.hid (by
          rcases hlo with h | h
          · simp [Value.ownBlock] at h
          · omega)
        have C6 : Hid (Below w5.heap.size w5 w6) := Lib.hid ((Below.refl _ _).grown hgrow (Nat.le_refl _) (fun k hk => by simp [Value.ownBlock] at hk))
        have B6 : Hid (Below G w w6) := Lib.hid (B5.out.trans (C6.out.mono (Nat.le_of_lt P5.out.lt)))
        have IB6 : Hid (IsA w6 (some ⟨gB, 0, none⟩) n1 capB (ds.take n1)) := Lib.hid (isA_own hown HE.out (by rw [HLND.out]; omega) (by omega) hpos)
        have TH6 : Hid (w6.there gB 0 (n1 * 32)) := Lib.hid (there_own hown)
        clear hown hgrow hlo hhi HI0 HI1 HI2 HI3 HI4 ID5
        obtain ⟨x, hx, hx2, hx3, hx4⟩ := byte_rem HZI.out hpos
        obtain ⟨y, hy, hy2, hy3, hy4⟩ := byte_rem HZK.out hpos
        have hxw : IntKind.i64.wrap zi = zi := IntWalk.i64_in _ (by omega)
        have hyw : IntKind.i64.wrap zk = zk := IntWalk.i64_in _ (by omega)
        go_upto_region 9 with fail
        clear q1 q2 hx2 hx3 hx4 hy2 hy3 hy4 hxw hyw hncd hcm
        have hxi : (x : Int) < (n1 : Int) := by omega
        have hyi : (y : Int) < (n1 : Int) := by omega
        refine wp_region_held_drew (S := fun _ => True) (by kernel_rfl) trivial (fun hHeld => ?_)
        obtain ⟨wd, hwd⟩ : ∃ wd, wd = w6.drew := ⟨_, rfl⟩
        have CD : Hid (Below w5.heap.size w5 wd) := Lib.hid (by rw [hwd]; exact C6.out.drew)
        have BD : Hid (Below G w wd) := Lib.hid (by rw [hwd]; exact B6.out.drew)
        have IBD : Hid (IsA wd (some ⟨gB, 0, none⟩) n1 capB (ds.take n1)) := Lib.hid (by rw [hwd]; exact IB6.out.later (Below.refl _ _).drew)
        have THD : Hid (wd.there gB 0 (n1 * 32)) := Lib.hid (by rw [hwd, World.there_drew]; exact TH6.out)
        rw [← hwd]
        clear hwd C6 B6 IB6 TH6
        have hu30 := Tryz.underlying30
        refine wpAnyH_take (i := 0) (oi := { dst := some 61, op := Op.move (Operand.tmp 11), type := 25, pos := "law.go:85", after := #[], guard := none }) (v := .slice (some ⟨gB, 0, none⟩) n1 capB) rfl (by kernel_rfl) (by kernel_rfl) (by kernel_rfl) (fun _ _ _ h => h)
          (Or.inl ⟨by rfl, by intro w hSw;  clear hSw; go_simp⟩) hHeld ?_
        try simp only [Act.put, List.setIfInBounds_toArray, List.set_cons_zero, List.set_cons_succ]
        refine wpAnyH_take (i := 1) (oi := { dst := some 62, op := Op.move (Operand.tmp 12), type := 3, pos := "law.go:85", after := #[], guard := none }) (v := .int .i64 x) rfl (by kernel_rfl) (by kernel_rfl) (by kernel_rfl) (fun _ _ _ h => h)
          (Or.inl ⟨by rfl, by intro w hSw;  clear hSw; go_simp⟩) hHeld ?_
        try simp only [Act.put, List.setIfInBounds_toArray, List.set_cons_zero, List.set_cons_succ]
        refine wpAnyH_take (i := 2) (oi := { dst := some 63, op := Op.move (Operand.tmp 11), type := 25, pos := "law.go:85", after := #[{ on := 13, ground := Ground.gcOnly Departure.lateStores }], guard := none }) (v := .slice (some ⟨gB, 0, none⟩) n1 capB) rfl (by kernel_rfl) (by kernel_rfl) (by kernel_rfl) (fun _ _ _ h => h)
          (Or.inl ⟨by rfl, by intro w hSw;  clear hSw; go_simp⟩) hHeld ?_
        try simp only [Act.put, List.setIfInBounds_toArray, List.set_cons_zero, List.set_cons_succ]
        refine wpAnyH_take (i := 3) (oi := { dst := some 64, op := Op.move (Operand.tmp 13), type := 3, pos := "law.go:85", after := #[{ on := 13, ground := Ground.gcOnly Departure.lateStores }], guard := none }) (v := .int .i64 y) rfl (by kernel_rfl) (by kernel_rfl) (by kernel_rfl) (fun _ _ _ h => h)
          (Or.inl ⟨by rfl, by intro w hSw;  clear hSw; go_simp⟩) hHeld ?_
        try simp only [Act.put, List.setIfInBounds_toArray, List.set_cons_zero, List.set_cons_succ]
        refine wpAnyH_take (i := 4) (oi := { dst := some 65, op := Op.move (Operand.tmp 11), type := 25, pos := "law.go:85", after := #[], guard := none }) (v := .slice (some ⟨gB, 0, none⟩) n1 capB) rfl (by kernel_rfl) (by kernel_rfl) (by kernel_rfl) (fun _ _ _ h => h)
          (Or.inl ⟨by rfl, by intro w hSw;  clear hSw; go_simp⟩) hHeld ?_
        try simp only [Act.put, List.setIfInBounds_toArray, List.set_cons_zero, List.set_cons_succ]
        refine wpAnyH_take (i := 5) (oi := { dst := some 66, op := Op.move (Operand.tmp 13), type := 3, pos := "law.go:85", after := #[], guard := none }) (v := .int .i64 y) rfl (by kernel_rfl) (by kernel_rfl) (by kernel_rfl) (fun _ _ _ h => h)
          (Or.inl ⟨by rfl, by intro w hSw;  clear hSw; go_simp⟩) hHeld ?_
        try simp only [Act.put, List.setIfInBounds_toArray, List.set_cons_zero, List.set_cons_succ]
        refine wpAnyH_take (i := 6) (oi := { dst := some 67, op := Op.indexAddr 25 (Operand.tmp 65) (Operand.tmp 66), type := 0, pos := "law.go:85", after := #[{ on := 4, ground := Ground.data }, { on := 5, ground := Ground.data }], guard := none }) (v := .pointer (some ⟨gB, y * 32, none⟩)) rfl (by kernel_rfl) (by kernel_rfl) (by kernel_rfl) (fun _ _ _ h => h)
          (Or.inl ⟨by rfl, by intro w hSw;  clear hSw; go_simp⟩) hHeld ?_
        try simp only [Act.put, List.setIfInBounds_toArray, List.set_cons_zero, List.set_cons_succ]
        refine wpAnyH_take (i := 8) (oi := { dst := some 69, op := Op.move (Operand.tmp 11), type := 25, pos := "law.go:85", after := #[], guard := none }) (v := .slice (some ⟨gB, 0, none⟩) n1 capB) rfl (by kernel_rfl) (by kernel_rfl) (by kernel_rfl) (fun _ _ _ h => h)
          (Or.inl ⟨by rfl, by intro w hSw;  clear hSw; go_simp⟩) hHeld ?_
        try simp only [Act.put, List.setIfInBounds_toArray, List.set_cons_zero, List.set_cons_succ]
        refine wpAnyH_take (i := 9) (oi := { dst := some 70, op := Op.move (Operand.tmp 12), type := 3, pos := "law.go:85", after := #[], guard := none }) (v := .int .i64 x) rfl (by kernel_rfl) (by kernel_rfl) (by kernel_rfl) (fun _ _ _ h => h)
          (Or.inl ⟨by rfl, by intro w hSw;  clear hSw; go_simp⟩) hHeld ?_
        try simp only [Act.put, List.setIfInBounds_toArray, List.set_cons_zero, List.set_cons_succ]
        refine wpAnyH_take (i := 10) (oi := { dst := some 71, op := Op.indexAddr 25 (Operand.tmp 69) (Operand.tmp 70), type := 0, pos := "law.go:85", after := #[{ on := 8, ground := Ground.data }, { on := 9, ground := Ground.data }], guard := none }) (v := .pointer (some ⟨gB, x * 32, none⟩)) rfl (by kernel_rfl) (by kernel_rfl) (by kernel_rfl) (fun _ _ _ h => h)
          (Or.inl ⟨by rfl, by intro w hSw;  clear hSw; go_simp⟩) hHeld ?_
        try simp only [Act.put, List.setIfInBounds_toArray, List.set_cons_zero, List.set_cons_succ]
        obtain ⟨dX, hdX⟩ : ∃ d, d = (ds.take n1).getD x [] := ⟨_, rfl⟩
        obtain ⟨dY, hdY⟩ : ∃ d, d = (ds.take n1).getD y [] := ⟨_, rfl⟩
        have hlX : dX.length = 32 := by rw [hdX]; exact IBD.out.each x hx
        have hlY : dY.length = 32 := by rw [hdY]; exact IBD.out.each y hy
        obtain ⟨hbl, hrow⟩ : gB < wd.heap.size ∧ ∀ i, i < n1 → wd.rangeAt gB (0 + i * 32) (((ds.take n1).getD i []).map Nam.bv) := by
          rcases IBD.out.at_ with h | ⟨b', off', h, h1, h2⟩
          · omega
          · cases h; exact ⟨h1, h2⟩
        have hrX := hrow x hx
        have hrY := hrow y hy
        rw [Nat.zero_add, ← hdX] at hrX
        rw [Nat.zero_add, ← hdY] at hrY
        have hiX : (Tryz.prog.info? 30).map (·.size) = some (dX.map Nam.bv).length := by rw [List.length_map, hlX]; kernel_rfl
        have hiY : (Tryz.prog.info? 30).map (·.size) = some (dY.map Nam.bv).length := by rw [List.length_map, hlY]; kernel_rfl
        have HRX := Lib.hid hrX
        have HRY := Lib.hid hrY
        have HIX := Lib.hid hiX
        have HIY := Lib.hid hiY
        have HDX := Lib.hid hdX
        have HDY := Lib.hid hdY
        have HLX := Lib.hid hlX
        have HLY := Lib.hid hlY
        have HTX : Hid (wd.there gB (x * 32) 32) := Lib.hid (there_part THD.out _ _ (by omega))
        have HTY : Hid (wd.there gB (y * 32) 32) := Lib.hid (there_part THD.out _ _ (by omega))
        obtain ⟨CX, hCX⟩ : ∃ C, C = (dX.map Nam.bv).toArray := ⟨_, rfl⟩
        obtain ⟨CY, hCY⟩ : ∃ C, C = (dY.map Nam.bv).toArray := ⟨_, rfl⟩
        have HCX := Lib.hid hCX
        have HCY := Lib.hid hCY
        have HSX : Hid (CX.size = 32) := Lib.hid (by rw [hCX, List.size_toArray, List.length_map, hlX])
        have HSY : Hid (CY.size = 32) := Lib.hid (by rw [hCY, List.size_toArray, List.length_map, hlY])
        have HOX : Hid (CX.all (·.oneCell') = true) := Lib.hid (by rw [hCX]; exact one32 dX)
        have HOY : Hid (CY.all (·.oneCell') = true) := Lib.hid (by rw [hCY]; exact one32 dY)
        have HNX : Hid ((Tryz.prog.info? 30).map (·.size) = some CX.size) := Lib.hid (by rw [hCX]; exact info_a32 dX hlX)
        have HNY : Hid ((Tryz.prog.info? 30).map (·.size) = some CY.size) := Lib.hid (by rw [hCY]; exact info_a32 dY hlY)
        clear hdX hdY hlX hlY hbl hrow hrX hrY hiX hiY hCX hCY
        refine wpAnyH_all (rs := [7, 11]) (by kernel_rfl) (by simp) ?_
        intro i hi
        rcases List.mem_cons.1 hi with rfl | hi
        · clear hi
          refine (yieldsIf_load_mid (S := fun W => W.rangeAt gB (y * 32) (dY.map Nam.bv)) (by rfl) 30 (.tmp 67) rfl gB (y * 32) rfl (dY.map Nam.bv) _ (fun _ h => h) hu30 rfl HIY.out).wpOp (i := 7) (o := { dst := some 68, op := Op.load 30 (Operand.tmp 67), type := 30, pos := "law.go:85", after := #[{ on := 6, ground := Ground.data }], guard := none }) rfl HRY.out ⟨trivial, ?_⟩
          rw [← HCY.out]
          try simp only [Act.put, List.setIfInBounds_toArray, List.set_cons_zero, List.set_cons_succ]
          refine wpAnyH_all (rs := [11]) (by kernel_rfl) (by simp) ?_
          intro i hi
          obtain rfl : i = 11 := by simpa using hi
          clear hi
          refine (yieldsIf_load_mid (S := fun W => W.rangeAt gB (x * 32) (dX.map Nam.bv)) (by rfl) 30 (.tmp 71) rfl gB (x * 32) rfl (dX.map Nam.bv) _ (fun _ h => h) hu30 rfl HIX.out).wpOp (i := 11) (o := { dst := some 72, op := Op.load 30 (Operand.tmp 71), type := 30, pos := "law.go:85", after := #[{ on := 10, ground := Ground.data }], guard := none }) rfl HRX.out ⟨trivial, ?_⟩
          rw [← HCX.out]
          try simp only [Act.put, List.setIfInBounds_toArray, List.set_cons_zero, List.set_cons_succ]
          refine wpAnyH_take (i := 12) (oi := { dst := some 73, op := Op.indexAddr 25 (Operand.tmp 61) (Operand.tmp 62), type := 0, pos := "law.go:85", after := #[{ on := 0, ground := Ground.data }, { on := 1, ground := Ground.data }, { on := 0, ground := Ground.phase }, { on := 1, ground := Ground.phase }, { on := 2, ground := Ground.textOnly Departure.lateStores }, { on := 3, ground := Ground.textOnly Departure.lateStores }, { on := 4, ground := Ground.phase }, { on := 5, ground := Ground.phase }, { on := 6, ground := Ground.phase }, { on := 7, ground := Ground.phase }, { on := 8, ground := Ground.textOnly Departure.lateStores }, { on := 9, ground := Ground.textOnly Departure.lateStores }, { on := 10, ground := Ground.textOnly Departure.lateStoresUnsure }, { on := 11, ground := Ground.phase }], guard := none }) (v := .pointer (some ⟨gB, x * 32, none⟩)) rfl (by kernel_rfl) (by kernel_rfl) (by kernel_rfl) (fun _ _ _ h => h)
            (Or.inl ⟨by rfl, by intro w hSw;  clear hSw; go_simp⟩) trivial ?_
          try simp only [Act.put, List.setIfInBounds_toArray, List.set_cons_zero, List.set_cons_succ]
          refine wpAnyH_ready (rs := [13]) (by kernel_rfl) (by simp) ?_
          refine AllReadyH.cons (o := { dst := none, op := Op.store 30 (Operand.tmp 73) (Operand.tmp 68), type := 0, pos := "law.go:85", after := #[{ on := 12, ground := Ground.data }, { on := 7, ground := Ground.data }, { on := 0, ground := Ground.phase }, { on := 1, ground := Ground.phase }, { on := 2, ground := Ground.textOnly Departure.lateStores }, { on := 3, ground := Ground.textOnly Departure.lateStores }, { on := 4, ground := Ground.phase }, { on := 5, ground := Ground.phase }, { on := 6, ground := Ground.phase }, { on := 7, ground := Ground.phase }, { on := 8, ground := Ground.textOnly Departure.lateStores }, { on := 9, ground := Ground.textOnly Departure.lateStores }, { on := 10, ground := Ground.textOnly Departure.lateStoresUnsure }, { on := 11, ground := Ground.phase }], guard := none }) rfl (fun K hK => ?_) AllReadyH.nil
          rw [if_pos (by rfl)]
          refine wp_store_mid 30 (.tmp 73) (.tmp 68) rfl gB (x * 32) CY rfl rfl (by rw [HSY.out]; exact HTX.out) HNY.out HOY.out ?_
          refine hK.out _ _ trivial (fun _ => ?_)
          clear hK K
          try simp only [Act.put]
          refine wpAnyH_take (i := 14) (oi := { dst := some 74, op := Op.indexAddr 25 (Operand.tmp 63) (Operand.tmp 64), type := 0, pos := "law.go:85", after := #[{ on := 2, ground := Ground.data }, { on := 3, ground := Ground.data }, { on := 0, ground := Ground.phase }, { on := 1, ground := Ground.phase }, { on := 2, ground := Ground.phase }, { on := 3, ground := Ground.phase }, { on := 4, ground := Ground.phase }, { on := 5, ground := Ground.phase }, { on := 6, ground := Ground.phase }, { on := 7, ground := Ground.phase }, { on := 8, ground := Ground.phase }, { on := 9, ground := Ground.phase }, { on := 10, ground := Ground.phase }, { on := 11, ground := Ground.phase }, { on := 12, ground := Ground.phase }, { on := 13, ground := Ground.phase }], guard := none }) (v := .pointer (some ⟨gB, y * 32, none⟩)) rfl (by kernel_rfl) (by kernel_rfl) (by kernel_rfl) (fun _ _ _ h => h)
            (Or.inl ⟨by rfl, by intro w hSw;  clear hSw; go_simp⟩) trivial ?_
          try simp only [Act.put, List.setIfInBounds_toArray, List.set_cons_zero, List.set_cons_succ]
          refine wpAnyH_ready (rs := [15]) (by kernel_rfl) (by simp) ?_
          refine AllReadyH.cons (o := { dst := none, op := Op.store 30 (Operand.tmp 74) (Operand.tmp 72), type := 0, pos := "law.go:85", after := #[{ on := 14, ground := Ground.data }, { on := 11, ground := Ground.data }, { on := 13, ground := Ground.chain }, { on := 0, ground := Ground.phase }, { on := 1, ground := Ground.phase }, { on := 2, ground := Ground.phase }, { on := 3, ground := Ground.phase }, { on := 4, ground := Ground.phase }, { on := 5, ground := Ground.phase }, { on := 6, ground := Ground.phase }, { on := 7, ground := Ground.phase }, { on := 8, ground := Ground.phase }, { on := 9, ground := Ground.phase }, { on := 10, ground := Ground.phase }, { on := 11, ground := Ground.phase }, { on := 12, ground := Ground.phase }, { on := 13, ground := Ground.phase }], guard := none }) rfl (fun K hK => ?_) AllReadyH.nil
          rw [if_pos (by rfl)]
          refine wp_store_mid 30 (.tmp 74) (.tmp 72) rfl gB (y * 32) CX rfl rfl (by rw [HSX.out]; exact World.there_setCells HTY.out _ _ _) HNX.out HOX.out ?_
          refine hK.out _ _ trivial (fun _ => ?_)
          clear hK K
          try simp only [Act.put]
          refine wpAnyH_done (by kernel_rfl) ?_ _
          obtain ⟨w7, hw7⟩ : ∃ W, W = (wd.setCells gB (x * 32) CY.toList).setCells gB (y * 32) CX.toList := ⟨_, rfl⟩
          rw [← hw7]
          have hw8 : w7 = (wd.setCells gB (x * 32) (((ds.take n1).getD y []).map Nam.bv)).setCells gB (y * 32) (((ds.take n1).getD x []).map Nam.bv) := by rw [hw7, HCX.out, HCY.out, HDX.out, HDY.out]
          have C7 : Hid (Below w5.heap.size w5 w7) := Lib.hid (by rw [hw7]; exact below_cells gB HGB.out _ _ (below_cells gB HGB.out _ _ CD.out))
          have IB7 : Hid (IsA w7 (some ⟨gB, 0, none⟩) n1 capB (swp (ds.take n1) x y)) := Lib.hid (by rw [hw8]; exact isA_swap IBD.out THD.out hx hy)
          have B7 : Hid (Below G w w7) := Lib.hid (B5.out.trans (C7.out.mono (Nat.le_of_lt P5.out.lt)))
          have P7 := Lib.hid (P5.out.below C7.out P5.out.lt)
          have IA7 := Lib.hid (IA5.out.later C7.out)
          have hla : (ds.take n1).length = l1.length := by rw [List.length_take, HLND.out, HLN1.out]; omega
          have HPM : Hid (doutB s0 l2 s3 s4 (swp (ds.take n1) x y) = doutB s0 l2 s3 s4 (ds.take n1)) := Lib.hid (out_perm (swp_perm (by rw [hla, HLN1.out]; exact hx) (by rw [hla, HLN1.out]; exact hy)))
          have hlb : (swp (ds.take n1) x y).length = l1.length := by unfold swp; rw [List.length_set, List.length_set]; exact hla
          have HLA := Lib.hid hla
          have HLB := Lib.hid hlb
          obtain ⟨Q, hQ⟩ : ∃ Q, Q = doutB s0 l2 s3 s4 (ds.take n1) := ⟨_, rfl⟩
          have HQ := Lib.hid hQ
          clear hw7 hw8 hla hlb hQ B5 P5 C7 IA5 IBD THD CD BD HRX HRY HIX HIY HDX HDY HLX HLY HTX HTY HCX HCY HSX HSY HOX HOY HNX HNY hxi hyi hHeld
          go_wp2_with (refine wpList_load_row rfl 24 _ rfl G rfl 24 L5.toArray (0, 0) _ P7.out Tryz.underlying24 rfl HLI.out ?_)
          refine (KO.out _ _ _ _ w7 (I1.out.later (by rw [← HG.out]; exact B7.out)) (I2.out.later (by rw [← HG.out]; exact B7.out)) IA7.out (HL.out.later (by rw [← HG.out]; exact B7.out))).mono ?_
          rintro e w8 ⟨_, _, pp, x8⟩
          have he := pp HF.out.symm HLA.out
          rw [← HQ.out] at he
          subst he
          clear pp
          have B8 : Hid (Below G w w8) := Lib.hid (B7.out.trans (x8.mono (Nat.le_of_lt P7.out.lt)))
          have P8 := Lib.hid (P7.out.below x8 P7.out.lt)
          have IB8 := Lib.hid (IB7.out.later x8)
          clear x8 P7 B7 IB7 IA7
          go_wp2_with (refine wpList_load_row rfl 24 _ rfl G rfl 24 L5.toArray (0, 0) _ P8.out Tryz.underlying24 rfl HLI.out ?_)
          refine (KO.out _ _ _ _ w8 (I1.out.later (by rw [← HG.out]; exact B8.out)) (I2.out.later (by rw [← HG.out]; exact B8.out)) IB8.out (HL.out.later (by rw [← HG.out]; exact B8.out))).mono ?_
          rintro e w9 ⟨_, _, pp, x9⟩
          have he := pp HF.out.symm HLB.out
          rw [HPM.out, ← HQ.out] at he
          subst he
          clear pp
          have B9 : Hid (Below G w w9) := Lib.hid (B8.out.trans (x9.mono (Nat.le_of_lt P8.out.lt)))
          have hqq : (Q.toList == Q.toList) = true := toL_yes rfl
          clear x9
          go_wp2_with fail
          go_ret
          exact ⟨rfl, by rw [← HG.out]; exact B9.out⟩
        · obtain rfl : i = 11 := by simpa using hi
          clear hi
          refine (yieldsIf_load_mid (S := fun W => W.rangeAt gB (x * 32) (dX.map Nam.bv)) (by rfl) 30 (.tmp 71) rfl gB (x * 32) rfl (dX.map Nam.bv) _ (fun _ h => h) hu30 rfl HIX.out).wpOp (i := 11) (o := { dst := some 72, op := Op.load 30 (Operand.tmp 71), type := 30, pos := "law.go:85", after := #[{ on := 10, ground := Ground.data }], guard := none }) rfl HRX.out ⟨trivial, ?_⟩
          rw [← HCX.out]
          try simp only [Act.put, List.setIfInBounds_toArray, List.set_cons_zero, List.set_cons_succ]
          refine wpAnyH_all (rs := [7]) (by kernel_rfl) (by simp) ?_
          intro i hi
          obtain rfl : i = 7 := by simpa using hi
          clear hi
          refine (yieldsIf_load_mid (S := fun W => W.rangeAt gB (y * 32) (dY.map Nam.bv)) (by rfl) 30 (.tmp 67) rfl gB (y * 32) rfl (dY.map Nam.bv) _ (fun _ h => h) hu30 rfl HIY.out).wpOp (i := 7) (o := { dst := some 68, op := Op.load 30 (Operand.tmp 67), type := 30, pos := "law.go:85", after := #[{ on := 6, ground := Ground.data }], guard := none }) rfl HRY.out ⟨trivial, ?_⟩
          rw [← HCY.out]
          try simp only [Act.put, List.setIfInBounds_toArray, List.set_cons_zero, List.set_cons_succ]
          refine wpAnyH_take (i := 12) (oi := { dst := some 73, op := Op.indexAddr 25 (Operand.tmp 61) (Operand.tmp 62), type := 0, pos := "law.go:85", after := #[{ on := 0, ground := Ground.data }, { on := 1, ground := Ground.data }, { on := 0, ground := Ground.phase }, { on := 1, ground := Ground.phase }, { on := 2, ground := Ground.textOnly Departure.lateStores }, { on := 3, ground := Ground.textOnly Departure.lateStores }, { on := 4, ground := Ground.phase }, { on := 5, ground := Ground.phase }, { on := 6, ground := Ground.phase }, { on := 7, ground := Ground.phase }, { on := 8, ground := Ground.textOnly Departure.lateStores }, { on := 9, ground := Ground.textOnly Departure.lateStores }, { on := 10, ground := Ground.textOnly Departure.lateStoresUnsure }, { on := 11, ground := Ground.phase }], guard := none }) (v := .pointer (some ⟨gB, x * 32, none⟩)) rfl (by kernel_rfl) (by kernel_rfl) (by kernel_rfl) (fun _ _ _ h => h)
            (Or.inl ⟨by rfl, by intro w hSw;  clear hSw; go_simp⟩) trivial ?_
          try simp only [Act.put, List.setIfInBounds_toArray, List.set_cons_zero, List.set_cons_succ]
          refine wpAnyH_ready (rs := [13]) (by kernel_rfl) (by simp) ?_
          refine AllReadyH.cons (o := { dst := none, op := Op.store 30 (Operand.tmp 73) (Operand.tmp 68), type := 0, pos := "law.go:85", after := #[{ on := 12, ground := Ground.data }, { on := 7, ground := Ground.data }, { on := 0, ground := Ground.phase }, { on := 1, ground := Ground.phase }, { on := 2, ground := Ground.textOnly Departure.lateStores }, { on := 3, ground := Ground.textOnly Departure.lateStores }, { on := 4, ground := Ground.phase }, { on := 5, ground := Ground.phase }, { on := 6, ground := Ground.phase }, { on := 7, ground := Ground.phase }, { on := 8, ground := Ground.textOnly Departure.lateStores }, { on := 9, ground := Ground.textOnly Departure.lateStores }, { on := 10, ground := Ground.textOnly Departure.lateStoresUnsure }, { on := 11, ground := Ground.phase }], guard := none }) rfl (fun K hK => ?_) AllReadyH.nil
          rw [if_pos (by rfl)]
          refine wp_store_mid 30 (.tmp 73) (.tmp 68) rfl gB (x * 32) CY rfl rfl (by rw [HSY.out]; exact HTX.out) HNY.out HOY.out ?_
          refine hK.out _ _ trivial (fun _ => ?_)
          clear hK K
          try simp only [Act.put]
          refine wpAnyH_take (i := 14) (oi := { dst := some 74, op := Op.indexAddr 25 (Operand.tmp 63) (Operand.tmp 64), type := 0, pos := "law.go:85", after := #[{ on := 2, ground := Ground.data }, { on := 3, ground := Ground.data }, { on := 0, ground := Ground.phase }, { on := 1, ground := Ground.phase }, { on := 2, ground := Ground.phase }, { on := 3, ground := Ground.phase }, { on := 4, ground := Ground.phase }, { on := 5, ground := Ground.phase }, { on := 6, ground := Ground.phase }, { on := 7, ground := Ground.phase }, { on := 8, ground := Ground.phase }, { on := 9, ground := Ground.phase }, { on := 10, ground := Ground.phase }, { on := 11, ground := Ground.phase }, { on := 12, ground := Ground.phase }, { on := 13, ground := Ground.phase }], guard := none }) (v := .pointer (some ⟨gB, y * 32, none⟩)) rfl (by kernel_rfl) (by kernel_rfl) (by kernel_rfl) (fun _ _ _ h => h)
            (Or.inl ⟨by rfl, by intro w hSw;  clear hSw; go_simp⟩) trivial ?_
          try simp only [Act.put, List.setIfInBounds_toArray, List.set_cons_zero, List.set_cons_succ]
          refine wpAnyH_ready (rs := [15]) (by kernel_rfl) (by simp) ?_
          refine AllReadyH.cons (o := { dst := none, op := Op.store 30 (Operand.tmp 74) (Operand.tmp 72), type := 0, pos := "law.go:85", after := #[{ on := 14, ground := Ground.data }, { on := 11, ground := Ground.data }, { on := 13, ground := Ground.chain }, { on := 0, ground := Ground.phase }, { on := 1, ground := Ground.phase }, { on := 2, ground := Ground.phase }, { on := 3, ground := Ground.phase }, { on := 4, ground := Ground.phase }, { on := 5, ground := Ground.phase }, { on := 6, ground := Ground.phase }, { on := 7, ground := Ground.phase }, { on := 8, ground := Ground.phase }, { on := 9, ground := Ground.phase }, { on := 10, ground := Ground.phase }, { on := 11, ground := Ground.phase }, { on := 12, ground := Ground.phase }, { on := 13, ground := Ground.phase }], guard := none }) rfl (fun K hK => ?_) AllReadyH.nil
          rw [if_pos (by rfl)]
          refine wp_store_mid 30 (.tmp 74) (.tmp 72) rfl gB (y * 32) CX rfl rfl (by rw [HSX.out]; exact World.there_setCells HTY.out _ _ _) HNX.out HOX.out ?_
          refine hK.out _ _ trivial (fun _ => ?_)
          clear hK K
          try simp only [Act.put]
          refine wpAnyH_done (by kernel_rfl) ?_ _
          obtain ⟨w7, hw7⟩ : ∃ W, W = (wd.setCells gB (x * 32) CY.toList).setCells gB (y * 32) CX.toList := ⟨_, rfl⟩
          rw [← hw7]
          have hw8 : w7 = (wd.setCells gB (x * 32) (((ds.take n1).getD y []).map Nam.bv)).setCells gB (y * 32) (((ds.take n1).getD x []).map Nam.bv) := by rw [hw7, HCX.out, HCY.out, HDX.out, HDY.out]
          have C7 : Hid (Below w5.heap.size w5 w7) := Lib.hid (by rw [hw7]; exact below_cells gB HGB.out _ _ (below_cells gB HGB.out _ _ CD.out))
          have IB7 : Hid (IsA w7 (some ⟨gB, 0, none⟩) n1 capB (swp (ds.take n1) x y)) := Lib.hid (by rw [hw8]; exact isA_swap IBD.out THD.out hx hy)
          have B7 : Hid (Below G w w7) := Lib.hid (B5.out.trans (C7.out.mono (Nat.le_of_lt P5.out.lt)))
          have P7 := Lib.hid (P5.out.below C7.out P5.out.lt)
          have IA7 := Lib.hid (IA5.out.later C7.out)
          have hla : (ds.take n1).length = l1.length := by rw [List.length_take, HLND.out, HLN1.out]; omega
          have HPM : Hid (doutB s0 l2 s3 s4 (swp (ds.take n1) x y) = doutB s0 l2 s3 s4 (ds.take n1)) := Lib.hid (out_perm (swp_perm (by rw [hla, HLN1.out]; exact hx) (by rw [hla, HLN1.out]; exact hy)))
          have hlb : (swp (ds.take n1) x y).length = l1.length := by unfold swp; rw [List.length_set, List.length_set]; exact hla
          have HLA := Lib.hid hla
          have HLB := Lib.hid hlb
          obtain ⟨Q, hQ⟩ : ∃ Q, Q = doutB s0 l2 s3 s4 (ds.take n1) := ⟨_, rfl⟩
          have HQ := Lib.hid hQ
          clear hw7 hw8 hla hlb hQ B5 P5 C7 IA5 IBD THD CD BD HRX HRY HIX HIY HDX HDY HLX HLY HTX HTY HCX HCY HSX HSY HOX HOY HNX HNY hxi hyi hHeld
          go_wp2_with (refine wpList_load_row rfl 24 _ rfl G rfl 24 L5.toArray (0, 0) _ P7.out Tryz.underlying24 rfl HLI.out ?_)
          refine (KO.out _ _ _ _ w7 (I1.out.later (by rw [← HG.out]; exact B7.out)) (I2.out.later (by rw [← HG.out]; exact B7.out)) IA7.out (HL.out.later (by rw [← HG.out]; exact B7.out))).mono ?_
          rintro e w8 ⟨_, _, pp, x8⟩
          have he := pp HF.out.symm HLA.out
          rw [← HQ.out] at he
          subst he
          clear pp
          have B8 : Hid (Below G w w8) := Lib.hid (B7.out.trans (x8.mono (Nat.le_of_lt P7.out.lt)))
          have P8 := Lib.hid (P7.out.below x8 P7.out.lt)
          have IB8 := Lib.hid (IB7.out.later x8)
          clear x8 P7 B7 IB7 IA7
          go_wp2_with (refine wpList_load_row rfl 24 _ rfl G rfl 24 L5.toArray (0, 0) _ P8.out Tryz.underlying24 rfl HLI.out ?_)
          refine (KO.out _ _ _ _ w8 (I1.out.later (by rw [← HG.out]; exact B8.out)) (I2.out.later (by rw [← HG.out]; exact B8.out)) IB8.out (HL.out.later (by rw [← HG.out]; exact B8.out))).mono ?_
          rintro e w9 ⟨_, _, pp, x9⟩
          have he := pp HF.out.symm HLB.out
          rw [HPM.out, ← HQ.out] at he
          subst he
          clear pp
          have B9 : Hid (Below G w w9) := Lib.hid (B8.out.trans (x9.mono (Nat.le_of_lt P8.out.lt)))
          have hqq : (Q.toList == Q.toList) = true := toL_yes rfl
          clear x9
          go_wp2_with fail
          go_ret
          exact ⟨rfl, by rw [← HG.out]; exact B9.out⟩
end Go.Proofs.YtokbakpbhpknfaaGreatDoor
