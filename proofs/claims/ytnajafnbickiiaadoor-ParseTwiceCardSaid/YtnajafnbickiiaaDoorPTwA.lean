/-
  A set, a let or a pattern in the making: no name yet, or one; its next name, new or there already. Conditions: the parser's block; the expression's block lies behind it.
-/
import Derived.Test.YtnajafnbickiiaaDoorPBad
import Derived.Deep.RegionHeld
namespace Go.Proofs.YtnajafnbickiiaaDoor
open Go.RowKit
set_option linter.unusedVariables false
set_option maxRecDepth 100000

/-- A step gives up at place p, with the error er; from block B on it may have changed memory. -/
def PBB (B pb g d : Nat) (rm : Int) (p er : Nat) (w : World) (e : Ending) (w' : World) : Prop :=
  e = .panicked (flt p er) ∧ But B pb w w' ∧ ∃ off cap ts, Ps w' pb g off cap ts d rm
/-- An expression in the making that has no name yet. -/
def S0 (w : World) (X k a : Nat) : Prop := Has w X [.int .u8 (k : Int), .int .i64 0, .string ⟨#[]⟩, .slice none 0 0, .slice none 0 0, .bool false, .slice none 0 0, .int .i64 (a : Int)] 28
/-- .. that has this name alone. -/
def S1 (w : World) (X : Nat) (s : ByteArray) : Prop := ∃ (v0 v1 v2 v4 v5 v6 v7 : Value) (N cap : Nat), Has w X [v0, v1, v2, .slice (some ⟨N, 0, none⟩) 1 cap, v4, v5, v6, v7] 28 ∧ N < w.heap.size ∧ X < N ∧ w.cell? ⟨N, 0, none⟩ = some (.string s)
theorem S0.lt {w : World} {X k a : Nat} (h : S0 w X k a) : X < w.heap.size := Has.lt h
theorem S1.lt {w : World} {X : Nat} {s : ByteArray} (h : S1 w X s) : X < w.heap.size := by obtain ⟨_, _, _, _, _, _, _, _, _, h1, _⟩ := h; exact h1.lt
theorem S0.but {w w' : World} {X k a pb : Nat} (h : S0 w X k a) (hb : But w.heap.size pb w w') (hp : pb < X) : S0 w' X k a := Has.but h hb h.lt (by omega)
theorem S0.below {w w' : World} {X k a : Nat} (h : S0 w X k a) (hb : Below w.heap.size w w') : S0 w' X k a := Has.below h hb h.lt
theorem S1.but {w w' : World} {X pb : Nat} {s : ByteArray} (h : S1 w X s) (hb : But w.heap.size pb w w') (hp : pb < X) : S1 w' X s := by
  obtain ⟨v0, v1, v2, v4, v5, v6, v7, N, cap, h1, h2, h3, h4⟩ := h
  exact ⟨v0, v1, v2, v4, v5, v6, v7, N, cap, h1.but hb h1.lt (by omega), Nat.lt_of_lt_of_le h2 hb.size, h3, (World.cell?_of_block (hb.block N h2 (by omega))).trans h4⟩
theorem S1.below {w w' : World} {X : Nat} {s : ByteArray} (h : S1 w X s) (hb : Below w.heap.size w w') : S1 w' X s := by
  obtain ⟨v0, v1, v2, v4, v5, v6, v7, N, cap, h1, h2, h3, h4⟩ := h
  exact ⟨v0, v1, v2, v4, v5, v6, v7, N, cap, h1.below hb h1.lt, Nat.lt_of_lt_of_le h2 hb.size, h3, (World.cell?_of_block (hb.block N h2)).trans h4⟩

theorem index_nil (v : ByteArray) (w : World) : Calls Tryd.prog 83 #[.slice none 0 0, .string v] w fun e w' => e = .returned (.int .i64 (-1)) ∧ w' = w := by
  go_enter Tryd.func83, Tryd.ntmps83
  go_wp2_with fail
  go_loopw [8] (fun ii wr => ii = .int .i64 0 ∧ wr = w) (fun _ _ => 0)
  case atStart => exact ⟨rfl, rfl⟩
  case round =>
    obtain ⟨rfl, rfl⟩ := hrel
    go_wp2_with fail
    go_ret
    exact ⟨rfl, rfl⟩
theorem index_hit (N cap : Nat) (v : ByteArray) (w : World) (h : w.cell? ⟨N, 0, none⟩ = some (.string v)) : Calls Tryd.prog 83 #[.slice (some ⟨N, 0, none⟩) 1 cap, .string v] w fun e w' => e = .returned (.int .i64 0) ∧ w' = w := by
  go_enter Tryd.func83, Tryd.ntmps83
  go_wp2_with fail
  go_loopw [8] (fun ii wr => ii = .int .i64 0 ∧ wr = w) (fun _ _ => 0)
  case atStart => exact ⟨rfl, rfl⟩
  case round =>
    obtain ⟨rfl, rfl⟩ := hrel
    go_wp2_with fail
    go_ret
    exact ⟨rfl, rfl⟩
theorem cont_nil (v : ByteArray) (w : World) : Calls Tryd.prog 75 #[.slice none 0 0, .string v] w fun e w' => e = .returned (.bool false) ∧ w' = w := by
  have H := Lib.hid (index_nil v w)
  go_enter Tryd.func75, Tryd.ntmps75
  go_wp2_with fail
  refine H.out.mono ?_
  rintro e w' ⟨rfl, hw⟩
  subst hw
  clear H
  go_wp2_with fail
  go_ret
  exact ⟨rfl, rfl⟩
theorem cont_hit (N cap : Nat) (v : ByteArray) (w : World) (h : w.cell? ⟨N, 0, none⟩ = some (.string v)) : Calls Tryd.prog 75 #[.slice (some ⟨N, 0, none⟩) 1 cap, .string v] w fun e w' => e = .returned (.bool true) ∧ w' = w := by
  have H := Lib.hid (index_hit N cap v w h)
  clear h
  go_enter Tryd.func75, Tryd.ntmps75
  go_wp2_with fail
  refine H.out.mono ?_
  rintro e w' ⟨rfl, hw⟩
  subst hw
  clear H
  go_wp2_with fail
  go_ret
  exact ⟨rfl, rfl⟩

set_option maxHeartbeats 4000000 in
/-- A name that is new. -/
theorem new_ok {w : World} {pb g off cap d X k a : Nat} {t : Tk} {r : List Tk} {rm : Int} (h : Ps w pb g off cap (t :: r) d rm) (hk : t.kind = 1) (hx : S0 w X k a) (hpx : pb < X) :
    Calls Tryd.prog 66 #[.pointer (some ⟨pb, 0, none⟩), .pointer (some ⟨X, 0, none⟩)] w fun e w' => e = .returned (.agg (tokC t).toArray) ∧ But w.heap.size pb w w' ∧ Ps w' pb g (off + 3) (cap - 1) r d rm := by
  have hlt := h.row.lt
  have hgl := h.lt
  have hxl := hx.lt
  obtain ⟨G, hG⟩ : ∃ G, G = w.heap.size := ⟨_, rfl⟩
  obtain ⟨w1, hw1⟩ : ∃ x, x = w.alloc (.cells #[.int .u8 0, .string ⟨#[]⟩, .int .i64 0] 50) := ⟨_, rfl⟩
  have b1 : Below G w w1 := by rw [hw1, hG]; exact (Below.refl _ _).alloc (Nat.le_refl _) _
  have P1 : Hid (Has w1 G [.int .u8 0, .string ⟨#[]⟩, .int .i64 0] 50) := Lib.hid (by rw [hw1, hG]; exact Has.new w [.int .u8 0, .string ⟨#[]⟩, .int .i64 0] _)
  have h1 : Ps w1 pb g off cap (t :: r) d rm := h.later (by rw [← hG]; exact b1)
  have x1 := hx.below (w' := w1) (by rw [← hG]; exact b1)
  obtain ⟨v, hv⟩ : ∃ v, v = w1.drew := ⟨_, rfl⟩
  have bv : Below w1.heap.size w1 v := by rw [hv]; exact (Below.refl _ _).drew
  have hps : Ps v pb g off cap (t :: r) d rm := h1.later bv
  have PV : Hid (Has v G [.int .u8 0, .string ⟨#[]⟩, .int .i64 0] 50) := Lib.hid (P1.out.below bv P1.out.lt)
  have BV : Hid (Below G w v) := Lib.hid (b1.trans (bv.mono (Nat.le_of_lt P1.out.lt)))
  have xv := x1.below bv
  have z1 : v.cell? ⟨X, 3, none⟩ = some (.slice none 0 0) := Has.cellAt xv (i := 3) rfl
  obtain ⟨n, hn⟩ : ∃ n, n = (t :: r).length := ⟨_, rfl⟩
  obtain ⟨T, hT⟩ : ∃ T : ByteArray, T = ⟨t.text.toArray⟩ := ⟨_, rfl⟩
  have y0 : v.cell? ⟨pb, 0, none⟩ = some (.slice (some ⟨g, off, none⟩) n cap) := by rw [hn]; exact hps.row.cellAt (i := 0) rfl
  have y2 : v.cell? ⟨g, off + 1, none⟩ = some (.string T) := by rw [hT]; have := (hps.cell (i := 0) (t := t) rfl).2.1; simpa using this
  have HLEN : Hid ((0 : Int) < (n : Int)) := Lib.hid (by rw [hn, List.length_cons]; omega)
  have hnm := named_any hps 0 hps.ends.pos
  rw [show nmT (t :: r) 0 = true by unfold nmT; simp [hk]] at hnm
  have HN := Lib.hid hnm
  have HPS := Lib.hid hps
  have HV := Lib.hid hv
  have HG := Lib.hid hG
  have HW1 := Lib.hid hw1
  have HL : Hid (pb < G ∧ g < G ∧ X < G) := Lib.hid (by rw [hG]; exact ⟨hlt, hgl, hxl⟩)
  have HS := Lib.hid (And.intro y0 (And.intro z1 y2))
  have HKD := Lib.hid hk
  have HCT := Lib.hid (cont_nil T v)
  clear h h1 hps hx x1 xv hnm hw1 hv bv b1 hlt hgl hxl hn hT y0 y2 z1 P1 hG hk
  go_enter Tryd.func66, Tryd.ntmps66
  go_upto_region 1 with fail
  rw [← HW1.out]
  refine wp_region_held_drew (S := fun W => W.cell? ⟨pb, 0, none⟩ = some (.slice (some ⟨g, off, none⟩) n cap) ∧ W.cell? ⟨X, 3, none⟩ = some (.slice none 0 0) ∧ W.cell? ⟨g, off + 1, none⟩ = some (.string T)) (by kernel_rfl) (by rw [← HV.out]; exact HS.out) (fun hHeld => ?_)
  rw [← HV.out] at hHeld
  rw [← HV.out, ← HG.out]
  clear HV HW1
  refine wpAnyH_take (i := 0) (oi := { dst := some 5, op := Op.move (Operand.tmp 0), type := 44, pos := "parse.go:120", after := #[], guard := none }) (v := .pointer (some ⟨pb, 0, none⟩)) rfl (by kernel_rfl) (by kernel_rfl) (by kernel_rfl) (fun _ _ _ h => h)
    (Or.inl ⟨by rfl, by intro w hSw;  clear hSw; go_simp⟩) hHeld ?_
  try simp only [Act.put, List.setIfInBounds_toArray, List.set_cons_zero, List.set_cons_succ]
  refine wpAnyH_ready (rs := [1]) (by kernel_rfl) (by simp) ?_
  refine AllReadyH.cons (o := { dst := some 6, op := Op.call { callee := Callee.value (Operand.func 25), args := #[Operand.tmp 5, Operand.const (Value.int IntKind.i64 0)], argTypes := #[44, 3] }, type := 4, pos := "parse.go:120", after := #[{ on := 0, ground := Ground.data }], guard := none }) rfl (fun K hK => ?_) AllReadyH.nil
  go_simp
  refine HN.out.mono ?_
  rintro e wq ⟨rfl, hq⟩
  subst hq
  clear HN
  go_simp
  refine hK.out _ _ HS.out (fun hHw1 => ?_)
  clear hK K hHeld
  try simp only [Act.put, List.setIfInBounds_toArray, List.set_cons_zero, List.set_cons_succ]
  refine wpAnyH_take (i := 2) (oi := { dst := some 7, op := Op.move (Operand.tmp 6), type := 4, pos := "parse.go:120", after := #[{ on := 1, ground := Ground.data }, { on := 1, ground := Ground.chain }], guard := none }) (v := .bool true) rfl (by kernel_rfl) (by kernel_rfl) (by kernel_rfl) (fun _ _ _ h => h)
    (Or.inl ⟨by rfl, by intro w hSw;  clear hSw; go_simp⟩) hHw1 ?_
  try simp only [Act.put, List.setIfInBounds_toArray, List.set_cons_zero, List.set_cons_succ]
  refine wpAnyH_take (i := 3) (oi := { dst := some 8, op := Op.move (Operand.tmp 1), type := 72, pos := "parse.go:120", after := #[{ on := 2, ground := Ground.guard }], guard := some (2, true) }) (v := .pointer (some ⟨X, 0, none⟩)) rfl (by kernel_rfl) (by kernel_rfl) (by kernel_rfl) (fun _ _ _ h => h)
    (Or.inl ⟨by rfl, by intro w hSw;  clear hSw; go_simp⟩) hHw1 ?_
  try simp only [Act.put, List.setIfInBounds_toArray, List.set_cons_zero, List.set_cons_succ]
  refine wpAnyH_take (i := 4) (oi := { dst := some 9, op := Op.nilCheck (Operand.tmp 8), type := 0, pos := "parse.go:120", after := #[{ on := 3, ground := Ground.data }, { on := 2, ground := Ground.guard }], guard := some (2, true) }) (v := .pointer (some ⟨X, 0, none⟩)) rfl (by kernel_rfl) (by kernel_rfl) (by kernel_rfl) (fun _ _ _ h => h)
    (Or.inl ⟨by rfl, by intro w hSw;  clear hSw; go_simp⟩) hHw1 ?_
  try simp only [Act.put, List.setIfInBounds_toArray, List.set_cons_zero, List.set_cons_succ]
  refine wpAnyH_take (i := 5) (oi := { dst := some 10, op := Op.fieldAddr 28 (Operand.tmp 9) 3, type := 0, pos := "parse.go:120", after := #[{ on := 4, ground := Ground.data }, { on := 2, ground := Ground.guard }], guard := some (2, true) }) (v := .pointer (some ⟨X, 3, none⟩)) rfl (by kernel_rfl) (by kernel_rfl) (by kernel_rfl) (fun _ _ _ h => h)
    (Or.inl ⟨by rfl, by intro w hSw;  clear hSw; go_simp⟩) hHw1 ?_
  try simp only [Act.put, List.setIfInBounds_toArray, List.set_cons_zero, List.set_cons_succ]
  refine wpAnyH_take (i := 6) (oi := { dst := some 11, op := Op.load 23 (Operand.tmp 10), type := 23, pos := "parse.go:120", after := #[{ on := 5, ground := Ground.data }, { on := 2, ground := Ground.guard }], guard := some (2, true) }) (v := .slice none 0 0) rfl (by kernel_rfl) (by kernel_rfl) (by kernel_rfl) (fun _ _ _ h => h)
    (Or.inl ⟨by rfl, by intro w hSw; have hcl := hSw.2.1; clear hSw; go_simp⟩) hHw1 ?_
  try simp only [Act.put, List.setIfInBounds_toArray, List.set_cons_zero, List.set_cons_succ]
  refine wpAnyH_take (i := 7) (oi := { dst := some 12, op := Op.move (Operand.tmp 0), type := 44, pos := "parse.go:120", after := #[{ on := 2, ground := Ground.guard }], guard := some (2, true) }) (v := .pointer (some ⟨pb, 0, none⟩)) rfl (by kernel_rfl) (by kernel_rfl) (by kernel_rfl) (fun _ _ _ h => h)
    (Or.inl ⟨by rfl, by intro w hSw;  clear hSw; go_simp⟩) hHw1 ?_
  try simp only [Act.put, List.setIfInBounds_toArray, List.set_cons_zero, List.set_cons_succ]
  refine wpAnyH_take (i := 8) (oi := { dst := some 13, op := Op.nilCheck (Operand.tmp 12), type := 0, pos := "parse.go:120", after := #[{ on := 7, ground := Ground.data }, { on := 2, ground := Ground.guard }], guard := some (2, true) }) (v := .pointer (some ⟨pb, 0, none⟩)) rfl (by kernel_rfl) (by kernel_rfl) (by kernel_rfl) (fun _ _ _ h => h)
    (Or.inl ⟨by rfl, by intro w hSw;  clear hSw; go_simp⟩) hHw1 ?_
  try simp only [Act.put, List.setIfInBounds_toArray, List.set_cons_zero, List.set_cons_succ]
  refine wpAnyH_take (i := 9) (oi := { dst := some 14, op := Op.fieldAddr 38 (Operand.tmp 13) 0, type := 0, pos := "parse.go:120", after := #[{ on := 8, ground := Ground.data }, { on := 2, ground := Ground.guard }], guard := some (2, true) }) (v := .pointer (some ⟨pb, 0, none⟩)) rfl (by kernel_rfl) (by kernel_rfl) (by kernel_rfl) (fun _ _ _ h => h)
    (Or.inl ⟨by rfl, by intro w hSw;  clear hSw; go_simp⟩) hHw1 ?_
  try simp only [Act.put, List.setIfInBounds_toArray, List.set_cons_zero, List.set_cons_succ]
  refine wpAnyH_take (i := 10) (oi := { dst := some 15, op := Op.load 34 (Operand.tmp 14), type := 34, pos := "parse.go:120", after := #[{ on := 9, ground := Ground.data }, { on := 2, ground := Ground.guard }], guard := some (2, true) }) (v := .slice (some ⟨g, off, none⟩) n cap) rfl (by kernel_rfl) (by kernel_rfl) (by kernel_rfl) (fun _ _ _ h => h)
    (Or.inl ⟨by rfl, by intro w hSw; have hcl := hSw.1; clear hSw; go_simp⟩) hHw1 ?_
  try simp only [Act.put, List.setIfInBounds_toArray, List.set_cons_zero, List.set_cons_succ]
  refine wpAnyH_take (i := 11) (oi := { dst := some 16, op := Op.indexAddr 34 (Operand.tmp 15) (Operand.const (Value.int IntKind.i64 0)), type := 0, pos := "parse.go:120", after := #[{ on := 10, ground := Ground.data }, { on := 2, ground := Ground.guard }], guard := some (2, true) }) (v := .pointer (some ⟨g, off, none⟩)) rfl (by kernel_rfl) (by kernel_rfl) (by kernel_rfl) (fun _ _ _ h => h)
    (Or.inl ⟨by rfl, by intro w hSw; have hl := HLEN.out; have hl2 : ¬ n = 0 := (by omega); clear hSw; go_simp⟩) hHw1 ?_
  try simp only [Act.put, List.setIfInBounds_toArray, List.set_cons_zero, List.set_cons_succ]
  refine wpAnyH_take (i := 12) (oi := { dst := some 17, op := Op.fieldAddr 50 (Operand.tmp 16) 1, type := 0, pos := "parse.go:120", after := #[{ on := 11, ground := Ground.data }, { on := 2, ground := Ground.guard }], guard := some (2, true) }) (v := .pointer (some ⟨g, off + 1, none⟩)) rfl (by kernel_rfl) (by kernel_rfl) (by kernel_rfl) (fun _ _ _ h => h)
    (Or.inl ⟨by rfl, by intro w hSw;  clear hSw; go_simp⟩) hHw1 ?_
  try simp only [Act.put, List.setIfInBounds_toArray, List.set_cons_zero, List.set_cons_succ]
  refine wpAnyH_take (i := 13) (oi := { dst := some 18, op := Op.load 9 (Operand.tmp 17), type := 9, pos := "parse.go:120", after := #[{ on := 12, ground := Ground.data }, { on := 2, ground := Ground.guard }], guard := some (2, true) }) (v := .string T) rfl (by kernel_rfl) (by kernel_rfl) (by kernel_rfl) (fun _ _ _ h => h)
    (Or.inl ⟨by rfl, by intro w hSw; have hcl := hSw.2.2; clear hSw; go_simp⟩) hHw1 ?_
  try simp only [Act.put, List.setIfInBounds_toArray, List.set_cons_zero, List.set_cons_succ]
  refine wpAnyH_ready (rs := [14]) (by kernel_rfl) (by simp) ?_
  refine AllReadyH.cons (o := { dst := some 19, op := Op.call { callee := Callee.value (Operand.func 75), args := #[Operand.tmp 11, Operand.tmp 18], argTypes := #[23, 9] }, type := 4, pos := "parse.go:120", after := #[{ on := 6, ground := Ground.data }, { on := 13, ground := Ground.data }, { on := 2, ground := Ground.chain }, { on := 2, ground := Ground.guard }], guard := some (2, true) }) rfl (fun K hK => ?_) AllReadyH.nil
  go_simp
  refine HCT.out.mono ?_
  rintro e wq ⟨rfl, hq⟩
  subst hq
  clear HCT
  go_simp
  refine hK.out _ _ HS.out (fun hHw2 => ?_)
  clear hK K hHw1
  try simp only [Act.put, List.setIfInBounds_toArray, List.set_cons_zero, List.set_cons_succ]
  refine wpAnyH_take (i := 15) (oi := { dst := some 20, op := Op.pick (Operand.tmp 7) (Operand.tmp 19) (Operand.const (Value.bool false)), type := 4, pos := "parse.go:120", after := #[{ on := 2, ground := Ground.data }, { on := 14, ground := Ground.data }], guard := none }) (v := .bool false) rfl (by kernel_rfl) (by kernel_rfl) (by kernel_rfl) (fun _ _ _ h => h)
    (Or.inl ⟨by rfl, by intro w hSw;  clear hSw; go_simp⟩) hHw2 ?_
  try simp only [Act.put, List.setIfInBounds_toArray, List.set_cons_zero, List.set_cons_succ]
  refine wpAnyH_done (by kernel_rfl) ?_ _
  clear hHw2
  clear HS
  have HT := Lib.hid (name_ok HPS.out HKD.out)
  go_wp2_with fail
  refine HT.out.mono ?_
  rintro e w2 ⟨rfl, x2, p2⟩
  have P2 : Hid (Has w2 G [.int .u8 0, .string ⟨#[]⟩, .int .i64 0] 50) := Lib.hid (PV.out.but x2 PV.out.lt (by have := HL.out.1; omega))
  have X2 : Hid (But G pb w w2) := Lib.hid ((But.of_below BV.out).trans (x2.mono (Nat.le_of_lt PV.out.lt)))
  have S2 := Lib.hid p2
  clear x2 p2 HT PV BV
  obtain ⟨C, hC⟩ : ∃ C, C = (tokC t).toArray := ⟨_, rfl⟩
  rw [← hC]
  have HCI : Hid ((Tryd.prog.info? 50).map (·.size) = some C.size) := Lib.hid (by rw [hC, List.size_toArray]; exact info_tokp)
  have HCO : Hid (C.all (·.oneCell') = true) := Lib.hid (by rw [hC]; exact tok_one t)
  have HCS : Hid (([.int .u8 0, .string ⟨#[]⟩, .int .i64 0] : List Value).toArray.size = C.size) := Lib.hid (by rw [hC]; rfl)
  have HC := Lib.hid hC
  clear hC
  go_wp2_with (refine wpList_store_row rfl 50 _ _ rfl G C rfl rfl 50 _ P2.out HCI.out HCS.out HCO.out ?_)
  refine bodyPost_ret (results_cell_row (fn := Tryd.f66) (p := 4) (ty := 50) Tryd.results66 _ _ G 50 C (0, 0) _ rfl (setRow_heap _ _ _ _ _ _ P2.out) Tryd.underlying50 rfl HCI.out) rfl ?_
  refine ⟨by rw [HC.out], ?_, ?_⟩
  · rw [← HG.out]; exact X2.out.setRow (.inl (Nat.le_refl _)) _
  · exact S2.out.laterB (below_setRow (Below.refl G w2) (Nat.le_refl _) _) HL.out.1 HL.out.2.1

set_option maxHeartbeats 4000000 in
/-- A name that is there. -/
theorem new_bad {w : World} {pb g off cap d X : Nat} {t : Tk} {r : List Tk} {rm : Int} (h : Ps w pb g off cap (t :: r) d rm) (hk : t.kind = 1) (hx : S1 w X ⟨t.text.toArray⟩) (hpx : pb < X) :
    Calls Tryd.prog 66 #[.pointer (some ⟨pb, 0, none⟩), .pointer (some ⟨X, 0, none⟩)] w fun e w' => PBB w.heap.size pb g d rm t.at_ 7 w e w' := by
  have hlt := h.row.lt
  have hgl := h.lt
  have hxl := hx.lt
  obtain ⟨G, hG⟩ : ∃ G, G = w.heap.size := ⟨_, rfl⟩
  obtain ⟨w1, hw1⟩ : ∃ x, x = w.alloc (.cells #[.int .u8 0, .string ⟨#[]⟩, .int .i64 0] 50) := ⟨_, rfl⟩
  have b1 : Below G w w1 := by rw [hw1, hG]; exact (Below.refl _ _).alloc (Nat.le_refl _) _
  have P1 : Hid (Has w1 G [.int .u8 0, .string ⟨#[]⟩, .int .i64 0] 50) := Lib.hid (by rw [hw1, hG]; exact Has.new w [.int .u8 0, .string ⟨#[]⟩, .int .i64 0] _)
  have h1 : Ps w1 pb g off cap (t :: r) d rm := h.later (by rw [← hG]; exact b1)
  have x1 := hx.below (w' := w1) (by rw [← hG]; exact b1)
  obtain ⟨v, hv⟩ : ∃ v, v = w1.drew := ⟨_, rfl⟩
  have bv : Below w1.heap.size w1 v := by rw [hv]; exact (Below.refl _ _).drew
  have hps : Ps v pb g off cap (t :: r) d rm := h1.later bv
  have PV : Hid (Has v G [.int .u8 0, .string ⟨#[]⟩, .int .i64 0] 50) := Lib.hid (P1.out.below bv P1.out.lt)
  have BV : Hid (Below G w v) := Lib.hid (b1.trans (bv.mono (Nat.le_of_lt P1.out.lt)))
  have xv := x1.below bv
  obtain ⟨v0, v1, v2, v4, v5, v6, v7, N, cp, xa, xb, xc, xd⟩ := xv
  have z1 : v.cell? ⟨X, 3, none⟩ = some (.slice (some ⟨N, 0, none⟩) 1 cp) := Has.cellAt xa (i := 3) rfl
  obtain ⟨n, hn⟩ : ∃ n, n = (t :: r).length := ⟨_, rfl⟩
  obtain ⟨T, hT⟩ : ∃ T : ByteArray, T = ⟨t.text.toArray⟩ := ⟨_, rfl⟩
  have y0 : v.cell? ⟨pb, 0, none⟩ = some (.slice (some ⟨g, off, none⟩) n cap) := by rw [hn]; exact hps.row.cellAt (i := 0) rfl
  have y2 : v.cell? ⟨g, off + 1, none⟩ = some (.string T) := by rw [hT]; have := (hps.cell (i := 0) (t := t) rfl).2.1; simpa using this
  have HLEN : Hid ((0 : Int) < (n : Int)) := Lib.hid (by rw [hn, List.length_cons]; omega)
  have hnm := named_any hps 0 hps.ends.pos
  rw [show nmT (t :: r) 0 = true by unfold nmT; simp [hk]] at hnm
  have HN := Lib.hid hnm
  have HPS := Lib.hid hps
  have HV := Lib.hid hv
  have HG := Lib.hid hG
  have HW1 := Lib.hid hw1
  have HL : Hid (pb < G ∧ g < G ∧ X < G) := Lib.hid (by rw [hG]; exact ⟨hlt, hgl, hxl⟩)
  have HS := Lib.hid (And.intro y0 (And.intro z1 y2))
  have HKD := Lib.hid hk
  have HCT := Lib.hid (cont_hit N cp T v (by rw [hT]; exact xd))
  clear h h1 hps hx x1 xa xb xc xd hnm hw1 hv bv b1 hlt hgl hxl hn hT y0 y2 z1 P1 hG hk
  go_enter Tryd.func66, Tryd.ntmps66
  go_upto_region 1 with fail
  rw [← HW1.out]
  refine wp_region_held_drew (S := fun W => W.cell? ⟨pb, 0, none⟩ = some (.slice (some ⟨g, off, none⟩) n cap) ∧ W.cell? ⟨X, 3, none⟩ = some (.slice (some ⟨N, 0, none⟩) 1 cp) ∧ W.cell? ⟨g, off + 1, none⟩ = some (.string T)) (by kernel_rfl) (by rw [← HV.out]; exact HS.out) (fun hHeld => ?_)
  rw [← HV.out] at hHeld
  rw [← HV.out, ← HG.out]
  clear HV HW1
  refine wpAnyH_take (i := 0) (oi := { dst := some 5, op := Op.move (Operand.tmp 0), type := 44, pos := "parse.go:120", after := #[], guard := none }) (v := .pointer (some ⟨pb, 0, none⟩)) rfl (by kernel_rfl) (by kernel_rfl) (by kernel_rfl) (fun _ _ _ h => h)
    (Or.inl ⟨by rfl, by intro w hSw;  clear hSw; go_simp⟩) hHeld ?_
  try simp only [Act.put, List.setIfInBounds_toArray, List.set_cons_zero, List.set_cons_succ]
  refine wpAnyH_ready (rs := [1]) (by kernel_rfl) (by simp) ?_
  refine AllReadyH.cons (o := { dst := some 6, op := Op.call { callee := Callee.value (Operand.func 25), args := #[Operand.tmp 5, Operand.const (Value.int IntKind.i64 0)], argTypes := #[44, 3] }, type := 4, pos := "parse.go:120", after := #[{ on := 0, ground := Ground.data }], guard := none }) rfl (fun K hK => ?_) AllReadyH.nil
  go_simp
  refine HN.out.mono ?_
  rintro e wq ⟨rfl, hq⟩
  subst hq
  clear HN
  go_simp
  refine hK.out _ _ HS.out (fun hHw1 => ?_)
  clear hK K hHeld
  try simp only [Act.put, List.setIfInBounds_toArray, List.set_cons_zero, List.set_cons_succ]
  refine wpAnyH_take (i := 2) (oi := { dst := some 7, op := Op.move (Operand.tmp 6), type := 4, pos := "parse.go:120", after := #[{ on := 1, ground := Ground.data }, { on := 1, ground := Ground.chain }], guard := none }) (v := .bool true) rfl (by kernel_rfl) (by kernel_rfl) (by kernel_rfl) (fun _ _ _ h => h)
    (Or.inl ⟨by rfl, by intro w hSw;  clear hSw; go_simp⟩) hHw1 ?_
  try simp only [Act.put, List.setIfInBounds_toArray, List.set_cons_zero, List.set_cons_succ]
  refine wpAnyH_take (i := 3) (oi := { dst := some 8, op := Op.move (Operand.tmp 1), type := 72, pos := "parse.go:120", after := #[{ on := 2, ground := Ground.guard }], guard := some (2, true) }) (v := .pointer (some ⟨X, 0, none⟩)) rfl (by kernel_rfl) (by kernel_rfl) (by kernel_rfl) (fun _ _ _ h => h)
    (Or.inl ⟨by rfl, by intro w hSw;  clear hSw; go_simp⟩) hHw1 ?_
  try simp only [Act.put, List.setIfInBounds_toArray, List.set_cons_zero, List.set_cons_succ]
  refine wpAnyH_take (i := 4) (oi := { dst := some 9, op := Op.nilCheck (Operand.tmp 8), type := 0, pos := "parse.go:120", after := #[{ on := 3, ground := Ground.data }, { on := 2, ground := Ground.guard }], guard := some (2, true) }) (v := .pointer (some ⟨X, 0, none⟩)) rfl (by kernel_rfl) (by kernel_rfl) (by kernel_rfl) (fun _ _ _ h => h)
    (Or.inl ⟨by rfl, by intro w hSw;  clear hSw; go_simp⟩) hHw1 ?_
  try simp only [Act.put, List.setIfInBounds_toArray, List.set_cons_zero, List.set_cons_succ]
  refine wpAnyH_take (i := 5) (oi := { dst := some 10, op := Op.fieldAddr 28 (Operand.tmp 9) 3, type := 0, pos := "parse.go:120", after := #[{ on := 4, ground := Ground.data }, { on := 2, ground := Ground.guard }], guard := some (2, true) }) (v := .pointer (some ⟨X, 3, none⟩)) rfl (by kernel_rfl) (by kernel_rfl) (by kernel_rfl) (fun _ _ _ h => h)
    (Or.inl ⟨by rfl, by intro w hSw;  clear hSw; go_simp⟩) hHw1 ?_
  try simp only [Act.put, List.setIfInBounds_toArray, List.set_cons_zero, List.set_cons_succ]
  refine wpAnyH_take (i := 6) (oi := { dst := some 11, op := Op.load 23 (Operand.tmp 10), type := 23, pos := "parse.go:120", after := #[{ on := 5, ground := Ground.data }, { on := 2, ground := Ground.guard }], guard := some (2, true) }) (v := .slice (some ⟨N, 0, none⟩) 1 cp) rfl (by kernel_rfl) (by kernel_rfl) (by kernel_rfl) (fun _ _ _ h => h)
    (Or.inl ⟨by rfl, by intro w hSw; have hcl := hSw.2.1; clear hSw; go_simp⟩) hHw1 ?_
  try simp only [Act.put, List.setIfInBounds_toArray, List.set_cons_zero, List.set_cons_succ]
  refine wpAnyH_take (i := 7) (oi := { dst := some 12, op := Op.move (Operand.tmp 0), type := 44, pos := "parse.go:120", after := #[{ on := 2, ground := Ground.guard }], guard := some (2, true) }) (v := .pointer (some ⟨pb, 0, none⟩)) rfl (by kernel_rfl) (by kernel_rfl) (by kernel_rfl) (fun _ _ _ h => h)
    (Or.inl ⟨by rfl, by intro w hSw;  clear hSw; go_simp⟩) hHw1 ?_
  try simp only [Act.put, List.setIfInBounds_toArray, List.set_cons_zero, List.set_cons_succ]
  refine wpAnyH_take (i := 8) (oi := { dst := some 13, op := Op.nilCheck (Operand.tmp 12), type := 0, pos := "parse.go:120", after := #[{ on := 7, ground := Ground.data }, { on := 2, ground := Ground.guard }], guard := some (2, true) }) (v := .pointer (some ⟨pb, 0, none⟩)) rfl (by kernel_rfl) (by kernel_rfl) (by kernel_rfl) (fun _ _ _ h => h)
    (Or.inl ⟨by rfl, by intro w hSw;  clear hSw; go_simp⟩) hHw1 ?_
  try simp only [Act.put, List.setIfInBounds_toArray, List.set_cons_zero, List.set_cons_succ]
  refine wpAnyH_take (i := 9) (oi := { dst := some 14, op := Op.fieldAddr 38 (Operand.tmp 13) 0, type := 0, pos := "parse.go:120", after := #[{ on := 8, ground := Ground.data }, { on := 2, ground := Ground.guard }], guard := some (2, true) }) (v := .pointer (some ⟨pb, 0, none⟩)) rfl (by kernel_rfl) (by kernel_rfl) (by kernel_rfl) (fun _ _ _ h => h)
    (Or.inl ⟨by rfl, by intro w hSw;  clear hSw; go_simp⟩) hHw1 ?_
  try simp only [Act.put, List.setIfInBounds_toArray, List.set_cons_zero, List.set_cons_succ]
  refine wpAnyH_take (i := 10) (oi := { dst := some 15, op := Op.load 34 (Operand.tmp 14), type := 34, pos := "parse.go:120", after := #[{ on := 9, ground := Ground.data }, { on := 2, ground := Ground.guard }], guard := some (2, true) }) (v := .slice (some ⟨g, off, none⟩) n cap) rfl (by kernel_rfl) (by kernel_rfl) (by kernel_rfl) (fun _ _ _ h => h)
    (Or.inl ⟨by rfl, by intro w hSw; have hcl := hSw.1; clear hSw; go_simp⟩) hHw1 ?_
  try simp only [Act.put, List.setIfInBounds_toArray, List.set_cons_zero, List.set_cons_succ]
  refine wpAnyH_take (i := 11) (oi := { dst := some 16, op := Op.indexAddr 34 (Operand.tmp 15) (Operand.const (Value.int IntKind.i64 0)), type := 0, pos := "parse.go:120", after := #[{ on := 10, ground := Ground.data }, { on := 2, ground := Ground.guard }], guard := some (2, true) }) (v := .pointer (some ⟨g, off, none⟩)) rfl (by kernel_rfl) (by kernel_rfl) (by kernel_rfl) (fun _ _ _ h => h)
    (Or.inl ⟨by rfl, by intro w hSw; have hl := HLEN.out; have hl2 : ¬ n = 0 := (by omega); clear hSw; go_simp⟩) hHw1 ?_
  try simp only [Act.put, List.setIfInBounds_toArray, List.set_cons_zero, List.set_cons_succ]
  refine wpAnyH_take (i := 12) (oi := { dst := some 17, op := Op.fieldAddr 50 (Operand.tmp 16) 1, type := 0, pos := "parse.go:120", after := #[{ on := 11, ground := Ground.data }, { on := 2, ground := Ground.guard }], guard := some (2, true) }) (v := .pointer (some ⟨g, off + 1, none⟩)) rfl (by kernel_rfl) (by kernel_rfl) (by kernel_rfl) (fun _ _ _ h => h)
    (Or.inl ⟨by rfl, by intro w hSw;  clear hSw; go_simp⟩) hHw1 ?_
  try simp only [Act.put, List.setIfInBounds_toArray, List.set_cons_zero, List.set_cons_succ]
  refine wpAnyH_take (i := 13) (oi := { dst := some 18, op := Op.load 9 (Operand.tmp 17), type := 9, pos := "parse.go:120", after := #[{ on := 12, ground := Ground.data }, { on := 2, ground := Ground.guard }], guard := some (2, true) }) (v := .string T) rfl (by kernel_rfl) (by kernel_rfl) (by kernel_rfl) (fun _ _ _ h => h)
    (Or.inl ⟨by rfl, by intro w hSw; have hcl := hSw.2.2; clear hSw; go_simp⟩) hHw1 ?_
  try simp only [Act.put, List.setIfInBounds_toArray, List.set_cons_zero, List.set_cons_succ]
  refine wpAnyH_ready (rs := [14]) (by kernel_rfl) (by simp) ?_
  refine AllReadyH.cons (o := { dst := some 19, op := Op.call { callee := Callee.value (Operand.func 75), args := #[Operand.tmp 11, Operand.tmp 18], argTypes := #[23, 9] }, type := 4, pos := "parse.go:120", after := #[{ on := 6, ground := Ground.data }, { on := 13, ground := Ground.data }, { on := 2, ground := Ground.chain }, { on := 2, ground := Ground.guard }], guard := some (2, true) }) rfl (fun K hK => ?_) AllReadyH.nil
  go_simp
  refine HCT.out.mono ?_
  rintro e wq ⟨rfl, hq⟩
  subst hq
  clear HCT
  go_simp
  refine hK.out _ _ HS.out (fun hHw2 => ?_)
  clear hK K hHw1
  try simp only [Act.put, List.setIfInBounds_toArray, List.set_cons_zero, List.set_cons_succ]
  refine wpAnyH_take (i := 15) (oi := { dst := some 20, op := Op.pick (Operand.tmp 7) (Operand.tmp 19) (Operand.const (Value.bool false)), type := 4, pos := "parse.go:120", after := #[{ on := 2, ground := Ground.data }, { on := 14, ground := Ground.data }], guard := none }) (v := .bool true) rfl (by kernel_rfl) (by kernel_rfl) (by kernel_rfl) (fun _ _ _ h => h)
    (Or.inl ⟨by rfl, by intro w hSw;  clear hSw; go_simp⟩) hHw2 ?_
  try simp only [Act.put, List.setIfInBounds_toArray, List.set_cons_zero, List.set_cons_succ]
  refine wpAnyH_done (by kernel_rfl) ?_ _
  clear hHw2
  clear HS
  have HT := Lib.hid (giveup_any HPS.out 7)
  go_wp2_with fail
  refine HT.out.mono ?_
  rintro e w2 ⟨rfl, rfl⟩
  first | go_wp2_with fail | skip
  refine ⟨rfl, rfl, ?_, _, _, _, HPS.out⟩
  rw [← HG.out]; exact But.of_below BV.out
end Go.Proofs.YtnajafnbickiiaaDoor
