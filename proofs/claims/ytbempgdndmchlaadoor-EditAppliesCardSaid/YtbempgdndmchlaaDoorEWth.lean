/-
  The drawn regions of the reference's without and with: a name more, a kid more, over any frame.
-/
import Derived.Test.YtbempgdndmchlaaDoorEWou
import Derived.Deep.MidRow
import Derived.Deep.RegionHeld
import Derived.Deep.Cut
import Derived.BigFrame
namespace Go.Proofs.YtbempgdndmchlaaDoor
open Go.RowKit
set_option linter.unusedVariables false

set_option maxRecDepth 100000 in
set_option maxHeartbeats 8000000 in
theorem wou_nm {F : List Nat} {w w1 v : World} {X A b off i n cn : Nat} {P : List ByteArray} {Q : List T} {vn vk : Value} (hD : WDir F w w1 X P Q vn vk v) (h3 : w1.cell? ⟨A, 3, none⟩ = some (.slice (some ⟨b, off, none⟩) n cn)) (hA : A < X) (hb : b < w.heap.size) (hi : i < n) (hn : n ≤ 4096) (hP : P.length ≤ 4096) {s : ByteArray} (hs : w.cell? ⟨b, off + i, none⟩ = some (.string s))
    {u0 u1 u3 u4 u7 u8 u9 u10 u11 u12 u13 u14 u15 u16 u17 u18 u19 u20 u21 u22 u23 u24 u25 u26 u27 u28 u29 u30 u31 u32 u33 u34 u35 u36 u37 u38 u39 u40 u41 u42 : Value} {K : Exit → Act → World → Prop} (hp : ∀ c (a : Act) ts w, K (.panic c) { a with tmps := ts } w → K (.panic c) a w)
    (hk : ∀ (v' : World) (nb g cap : Nat), WDir F w w1 X (P ++ [s]) Q (.slice (some ⟨g, 0, none⟩) (P.length + 1) cap) vk v' → K .normal ⟨#[u0, u1, .pointer (some ⟨A, 0, none⟩), u3, u4, .pointer (some ⟨X, 0, none⟩), .int .i64 (i : Int), u7, u8, u9, u10, u11, u12, u13, u14, u15, u16, u17, u18, u19, u20, u21, .pointer (some ⟨X, 3, none⟩), vn, .pointer (some ⟨A, 3, none⟩), .slice (some ⟨b, off, none⟩) n cn, .int .i64 (i : Int), .pointer (some ⟨b, off + i, none⟩), .string s, .slice (some ⟨nb, 0, none⟩) 1 1, .slice (some ⟨g, 0, none⟩) (P.length + 1) cap, .pointer (some ⟨X, 3, none⟩), u32, u33, u34, u35, u36, u37, u38, u39, u40, u41, u42], []⟩ v') :
    (Code.region 6 #[{ dst := some 22, op := Op.fieldAddr 26 (Operand.tmp 5) 3, type := 0, pos := "ref.go:37", after := #[], guard := none }, { dst := some 23, op := Op.load 23 (Operand.tmp 22), type := 23, pos := "ref.go:37", after := #[{ on := 0, ground := Ground.data }], guard := none }, { dst := some 24, op := Op.fieldAddr 26 (Operand.tmp 2) 3, type := 0, pos := "ref.go:37", after := #[], guard := none }, { dst := some 25, op := Op.load 23 (Operand.tmp 24), type := 23, pos := "ref.go:37", after := #[{ on := 2, ground := Ground.data }], guard := none }, { dst := some 26, op := Op.move (Operand.tmp 6), type := 3, pos := "ref.go:37", after := #[], guard := none }, { dst := some 27, op := Op.indexAddr 23 (Operand.tmp 25) (Operand.tmp 26), type := 0, pos := "ref.go:37", after := #[{ on := 3, ground := Ground.data }, { on := 4, ground := Ground.data }], guard := none }, { dst := some 28, op := Op.load 9 (Operand.tmp 27), type := 9, pos := "ref.go:37", after := #[{ on := 5, ground := Ground.data }], guard := none }, { dst := some 29, op := Op.buildSlice 23 1 #[(0, Operand.tmp 28)], type := 23, pos := "ref.go:37", after := #[{ on := 6, ground := Ground.data }], guard := none }, { dst := some 30, op := Op.call { callee := Callee.builtin Builtin.append, args := #[Operand.tmp 23, Operand.tmp 29], argTypes := #[23, 23] }, type := 23, pos := "ref.go:37", after := #[{ on := 1, ground := Ground.data }, { on := 7, ground := Ground.data }], guard := none }, { dst := some 31, op := Op.fieldAddr 26 (Operand.tmp 5) 3, type := 0, pos := "ref.go:37", after := #[{ on := 0, ground := Ground.phase }, { on := 1, ground := Ground.phase }, { on := 2, ground := Ground.phase }, { on := 3, ground := Ground.phase }, { on := 4, ground := Ground.phase }, { on := 5, ground := Ground.phase }, { on := 6, ground := Ground.phase }, { on := 7, ground := Ground.phase }, { on := 8, ground := Ground.phase }], guard := none }, { dst := none, op := Op.store 23 (Operand.tmp 31) (Operand.tmp 30), type := 0, pos := "ref.go:37", after := #[{ on := 9, ground := Ground.data }, { on := 8, ground := Ground.data }, { on := 8, ground := Ground.chain }, { on := 0, ground := Ground.phase }, { on := 1, ground := Ground.phase }, { on := 2, ground := Ground.phase }, { on := 3, ground := Ground.phase }, { on := 4, ground := Ground.phase }, { on := 5, ground := Ground.phase }, { on := 6, ground := Ground.phase }, { on := 7, ground := Ground.phase }, { on := 8, ground := Ground.phase }], guard := none }] true).wp Tryd.prog K ⟨#[u0, u1, .pointer (some ⟨A, 0, none⟩), u3, u4, .pointer (some ⟨X, 0, none⟩), .int .i64 (i : Int), u7, u8, u9, u10, u11, u12, u13, u14, u15, u16, u17, u18, u19, u20, u21, u22, u23, u24, u25, u26, u27, u28, u29, u30, u31, u32, u33, u34, u35, u36, u37, u38, u39, u40, u41, u42], []⟩ v := by
  obtain ⟨i0, hi0, hz0, hz1, hz2⟩ := info_str_parts
  have HI := Lib.hid hi0
  have HZ0 := Lib.hid hz0
  have HZ1 := Lib.hid hz1
  have HZ2 := Lib.hid hz2
  have KP : Hid (∀ Y, Below X w1 Y → Below w.heap.size w Y → Y.cell? ⟨A, 3, none⟩ = some (.slice (some ⟨b, off, none⟩) n cn) ∧ Y.cell? ⟨b, off + i, none⟩ = some (.string s)) := Lib.hid (fun Y hY1 hY2 => ⟨(hY1.cell (p := ⟨A, 3, none⟩) hA).trans h3, ((hY2.cell (p := ⟨b, off + i, none⟩) hb).trans hs)⟩)
  have DD := Lib.hid hD
  have D0 := Lib.hid (hD.later (w' := v.drew) (Below.refl _ _).drew)
  have HPL := Lib.hid hP
  have HP := Lib.hid hp
  have HKK := Lib.hid hk
  have hki : (i : Int) < (n : Int) := by omega
  have hk0 : (0 : Int) ≤ (i : Int) := by omega
  clear hD h3 hA hb hP hs hi0 hz0 hz1 hz2 hp hk hn
  refine wp_region_held_drew (S := fun Y => Y.cell? ⟨A, 3, none⟩ = some (.slice (some ⟨b, off, none⟩) n cn) ∧ Y.cell? ⟨b, off + i, none⟩ = some (.string s)) (by kernel_rfl) (KP.out _ D0.out.low D0.out.bel) (fun hHeld => ?_)
  obtain ⟨v0, hv0⟩ : ∃ v0, v0 = v.drew := ⟨_, rfl⟩
  rw [← hv0] at D0 hHeld ⊢
  clear hv0
  refine wpAnyH_take (i := 0) (oi := { dst := some 22, op := Op.fieldAddr 26 (Operand.tmp 5) 3, type := 0, pos := "ref.go:37", after := #[], guard := none }) (v := .pointer (some ⟨X, 3, none⟩)) rfl (by kernel_rfl) (by kernel_rfl) (by kernel_rfl) (fun _ _ _ h => HP.out _ _ _ _ h)
    (Or.inl ⟨by rfl, by intro w hSw;  clear hSw; go_simp⟩) hHeld ?_
  try simp only [Act.put, List.setIfInBounds_toArray, List.set_cons_zero, List.set_cons_succ]
  refine wpAnyH_take (i := 2) (oi := { dst := some 24, op := Op.fieldAddr 26 (Operand.tmp 2) 3, type := 0, pos := "ref.go:37", after := #[], guard := none }) (v := .pointer (some ⟨A, 3, none⟩)) rfl (by kernel_rfl) (by kernel_rfl) (by kernel_rfl) (fun _ _ _ h => HP.out _ _ _ _ h)
    (Or.inl ⟨by rfl, by intro w hSw;  clear hSw; go_simp⟩) hHeld ?_
  try simp only [Act.put, List.setIfInBounds_toArray, List.set_cons_zero, List.set_cons_succ]
  refine wpAnyH_take (i := 3) (oi := { dst := some 25, op := Op.load 23 (Operand.tmp 24), type := 23, pos := "ref.go:37", after := #[{ on := 2, ground := Ground.data }], guard := none }) (v := .slice (some ⟨b, off, none⟩) n cn) rfl (by kernel_rfl) (by kernel_rfl) (by kernel_rfl) (fun _ _ _ h => HP.out _ _ _ _ h)
    (Or.inl ⟨by rfl, by intro w hSw; have hq := hSw.1; clear hSw; go_simp⟩) hHeld ?_
  try simp only [Act.put, List.setIfInBounds_toArray, List.set_cons_zero, List.set_cons_succ]
  refine wpAnyH_take (i := 4) (oi := { dst := some 26, op := Op.move (Operand.tmp 6), type := 3, pos := "ref.go:37", after := #[], guard := none }) (v := .int .i64 (i : Int)) rfl (by kernel_rfl) (by kernel_rfl) (by kernel_rfl) (fun _ _ _ h => HP.out _ _ _ _ h)
    (Or.inl ⟨by rfl, by intro w hSw;  clear hSw; go_simp⟩) hHeld ?_
  try simp only [Act.put, List.setIfInBounds_toArray, List.set_cons_zero, List.set_cons_succ]
  refine wpAnyH_take (i := 5) (oi := { dst := some 27, op := Op.indexAddr 23 (Operand.tmp 25) (Operand.tmp 26), type := 0, pos := "ref.go:37", after := #[{ on := 3, ground := Ground.data }, { on := 4, ground := Ground.data }], guard := none }) (v := .pointer (some ⟨b, off + i, none⟩)) rfl (by kernel_rfl) (by kernel_rfl) (by kernel_rfl) (fun _ _ _ h => HP.out _ _ _ _ h)
    (Or.inl ⟨by rfl, by intro w hSw;  clear hSw; go_simp⟩) hHeld ?_
  try simp only [Act.put, List.setIfInBounds_toArray, List.set_cons_zero, List.set_cons_succ]
  refine wpAnyH_take (i := 6) (oi := { dst := some 28, op := Op.load 9 (Operand.tmp 27), type := 9, pos := "ref.go:37", after := #[{ on := 5, ground := Ground.data }], guard := none }) (v := .string s) rfl (by kernel_rfl) (by kernel_rfl) (by kernel_rfl) (fun _ _ _ h => HP.out _ _ _ _ h)
    (Or.inl ⟨by rfl, by intro w hSw; have hq := hSw.2; clear hSw; go_simp⟩) hHeld ?_
  try simp only [Act.put, List.setIfInBounds_toArray, List.set_cons_zero, List.set_cons_succ]
  refine wpAnyH_ready (rs := [1, 7]) (by kernel_rfl) (by simp) ?_
  refine AllReadyH.cons (o := { dst := some 23, op := Op.load 23 (Operand.tmp 22), type := 23, pos := "ref.go:37", after := #[{ on := 0, ground := Ground.data }], guard := none }) rfl (fun K hK => ?_) (AllReadyH.cons (o := { dst := some 29, op := Op.buildSlice 23 1 #[(0, Operand.tmp 28)], type := 23, pos := "ref.go:37", after := #[{ on := 6, ground := Ground.data }], guard := none }) rfl (fun K hK => ?_) AllReadyH.nil)
  · have cx := D0.out.box.cellAt (i := 3) rfl
    go_simp
    clear cx
    refine hK.out _ _ (KP.out _ D0.out.low D0.out.bel) (fun hHw1 => ?_)
    clear hK K hHeld
    try simp only [Act.put, List.setIfInBounds_toArray, List.set_cons_zero, List.set_cons_succ]
    refine wpAnyH_ready (rs := [7]) (by kernel_rfl) (by simp) ?_
    refine AllReadyH.cons (o := { dst := some 29, op := Op.buildSlice 23 1 #[(0, Operand.tmp 28)], type := 23, pos := "ref.go:37", after := #[{ on := 6, ground := Ground.data }], guard := none }) rfl (fun K hK => ?_) AllReadyH.nil
    go_simp
    obtain ⟨w3, hw3⟩ : ∃ w3, w3 = v0.alloc (.cells #[.string s] 9) := ⟨_, rfl⟩
    have b3 : Below v0.heap.size v0 w3 := by rw [hw3]; exact (Below.refl _ _).alloc (Nat.le_refl _) _
    have P3 : Hid (Has w3 v0.heap.size [.string s] 9) := Lib.hid (by rw [hw3]; exact Has.new v0 _ _)
    have D3 := Lib.hid (D0.out.later b3)
    have s3 : w3.heap.size = v0.heap.size + 1 := by rw [hw3]; simp
    have S3 := Lib.hid s3
    rw [← hw3]
    clear hw3 b3 s3
    refine hK.out _ _ (KP.out _ D3.out.low D3.out.bel) (fun hHw2 => ?_)
    clear hK K hHw1
    try simp only [Act.put, List.setIfInBounds_toArray, List.set_cons_zero, List.set_cons_succ]
    refine wpAnyH_ready (rs := [8]) (by kernel_rfl) (by simp) ?_
    refine AllReadyH.cons (o := { dst := some 30, op := Op.call { callee := Callee.builtin Builtin.append, args := #[Operand.tmp 23, Operand.tmp 29], argTypes := #[23, 23] }, type := 23, pos := "ref.go:37", after := #[{ on := 1, ground := Ground.data }, { on := 7, ground := Ground.data }], guard := none }) rfl (fun K hK => ?_) AllReadyH.nil
    rw [if_pos (by rfl)]
    refine wp_append_lies _ (.tmp 23) (.tmp 29) 23 rfl (X + 1) 9 i0 (.string ByteArray.empty) 1 16 Tryd.underlying23 HI.out HZ0.out HZ1.out HZ2.out rfl (by omega) vn P.length (P.map Value.string) rfl D3.out.names ⟨v0.heap.size, 0, none⟩ 1 1 [.string s] rfl rfl (fun j u hj => ?_) (fun u hu => ?_) (by have := HPL.out; omega) (by unfold maxLen; have := HPL.out; omega) (by have := HPL.out; omega) D3.out.box.lt w3.heap.size rfl (fun ga capa w4 h4o h4g h4b h4s => ?_)
    · match j, hj with
      | 0, hj => cases hj; rw [Addr.add_lit]; exact P3.out.cellAt (i := 0) rfl
      | j + 1, hj => simp at hj
    · simp at hu; subst hu; rfl
    have hm := Lib.hid (D3.out.name h4o h4g)
    have HA4 := Lib.hid hm.out.1
    have D4 := Lib.hid hm.out.2.2.2
    have S4 := Lib.hid (KP.out _ hm.out.2.2.1 hm.out.2.1)
    clear hm h4o h4g h4b h4s
    refine hK.out _ _ S4.out (fun hHw3 => ?_)
    clear hK K hHw2
    try simp only [Act.put, List.setIfInBounds_toArray, List.set_cons_zero, List.set_cons_succ]
    refine wpAnyH_take (i := 9) (oi := { dst := some 31, op := Op.fieldAddr 26 (Operand.tmp 5) 3, type := 0, pos := "ref.go:37", after := #[{ on := 0, ground := Ground.phase }, { on := 1, ground := Ground.phase }, { on := 2, ground := Ground.phase }, { on := 3, ground := Ground.phase }, { on := 4, ground := Ground.phase }, { on := 5, ground := Ground.phase }, { on := 6, ground := Ground.phase }, { on := 7, ground := Ground.phase }, { on := 8, ground := Ground.phase }], guard := none }) (v := .pointer (some ⟨X, 3, none⟩)) rfl (by kernel_rfl) (by kernel_rfl) (by kernel_rfl) (fun _ _ _ h => HP.out _ _ _ _ h)
      (Or.inl ⟨by rfl, by intro w hSw;  clear hSw; go_simp⟩) hHw3 ?_
    try simp only [Act.put, List.setIfInBounds_toArray, List.set_cons_zero, List.set_cons_succ]
    refine wpAnyH_ready (rs := [10]) (by kernel_rfl) (by simp) ?_
    refine AllReadyH.cons (o := { dst := none, op := Op.store 23 (Operand.tmp 31) (Operand.tmp 30), type := 0, pos := "ref.go:37", after := #[{ on := 9, ground := Ground.data }, { on := 8, ground := Ground.data }, { on := 8, ground := Ground.chain }, { on := 0, ground := Ground.phase }, { on := 1, ground := Ground.phase }, { on := 2, ground := Ground.phase }, { on := 3, ground := Ground.phase }, { on := 4, ground := Ground.phase }, { on := 5, ground := Ground.phase }, { on := 6, ground := Ground.phase }, { on := 7, ground := Ground.phase }, { on := 8, ground := Ground.phase }], guard := none }) rfl (fun K hK => ?_) AllReadyH.nil
    have cx := HA4.out.cellAt (i := 3) rfl
    have cf := HA4.out.frozen 3
    go_simp
    clear cx cf
    refine hK.out _ _ (KP.out _ D4.out.low D4.out.bel) (fun hHw4 => ?_)
    clear hK K hHw3
    try simp only [Act.put]
    refine wpAnyH_done (by kernel_rfl) ?_ _
    clear hHw4
    exact HKK.out _ _ _ _ D4.out
  · go_simp
    obtain ⟨w3, hw3⟩ : ∃ w3, w3 = v0.alloc (.cells #[.string s] 9) := ⟨_, rfl⟩
    have b3 : Below v0.heap.size v0 w3 := by rw [hw3]; exact (Below.refl _ _).alloc (Nat.le_refl _) _
    have P3 : Hid (Has w3 v0.heap.size [.string s] 9) := Lib.hid (by rw [hw3]; exact Has.new v0 _ _)
    have D3 := Lib.hid (D0.out.later b3)
    have s3 : w3.heap.size = v0.heap.size + 1 := by rw [hw3]; simp
    have S3 := Lib.hid s3
    rw [← hw3]
    clear hw3 b3 s3
    refine hK.out _ _ (KP.out _ D3.out.low D3.out.bel) (fun hHw1 => ?_)
    clear hK K hHeld
    try simp only [Act.put, List.setIfInBounds_toArray, List.set_cons_zero, List.set_cons_succ]
    refine wpAnyH_ready (rs := [1]) (by kernel_rfl) (by simp) ?_
    refine AllReadyH.cons (o := { dst := some 23, op := Op.load 23 (Operand.tmp 22), type := 23, pos := "ref.go:37", after := #[{ on := 0, ground := Ground.data }], guard := none }) rfl (fun K hK => ?_) AllReadyH.nil
    have cx := D3.out.box.cellAt (i := 3) rfl
    go_simp
    clear cx
    refine hK.out _ _ (KP.out _ D3.out.low D3.out.bel) (fun hHw2 => ?_)
    clear hK K hHw1
    try simp only [Act.put, List.setIfInBounds_toArray, List.set_cons_zero, List.set_cons_succ]
    refine wpAnyH_ready (rs := [8]) (by kernel_rfl) (by simp) ?_
    refine AllReadyH.cons (o := { dst := some 30, op := Op.call { callee := Callee.builtin Builtin.append, args := #[Operand.tmp 23, Operand.tmp 29], argTypes := #[23, 23] }, type := 23, pos := "ref.go:37", after := #[{ on := 1, ground := Ground.data }, { on := 7, ground := Ground.data }], guard := none }) rfl (fun K hK => ?_) AllReadyH.nil
    rw [if_pos (by rfl)]
    refine wp_append_lies _ (.tmp 23) (.tmp 29) 23 rfl (X + 1) 9 i0 (.string ByteArray.empty) 1 16 Tryd.underlying23 HI.out HZ0.out HZ1.out HZ2.out rfl (by omega) vn P.length (P.map Value.string) rfl D3.out.names ⟨v0.heap.size, 0, none⟩ 1 1 [.string s] rfl rfl (fun j u hj => ?_) (fun u hu => ?_) (by have := HPL.out; omega) (by unfold maxLen; have := HPL.out; omega) (by have := HPL.out; omega) D3.out.box.lt w3.heap.size rfl (fun ga capa w4 h4o h4g h4b h4s => ?_)
    · match j, hj with
      | 0, hj => cases hj; rw [Addr.add_lit]; exact P3.out.cellAt (i := 0) rfl
      | j + 1, hj => simp at hj
    · simp at hu; subst hu; rfl
    have hm := Lib.hid (D3.out.name h4o h4g)
    have HA4 := Lib.hid hm.out.1
    have D4 := Lib.hid hm.out.2.2.2
    have S4 := Lib.hid (KP.out _ hm.out.2.2.1 hm.out.2.1)
    clear hm h4o h4g h4b h4s
    refine hK.out _ _ S4.out (fun hHw3 => ?_)
    clear hK K hHw2
    try simp only [Act.put, List.setIfInBounds_toArray, List.set_cons_zero, List.set_cons_succ]
    refine wpAnyH_take (i := 9) (oi := { dst := some 31, op := Op.fieldAddr 26 (Operand.tmp 5) 3, type := 0, pos := "ref.go:37", after := #[{ on := 0, ground := Ground.phase }, { on := 1, ground := Ground.phase }, { on := 2, ground := Ground.phase }, { on := 3, ground := Ground.phase }, { on := 4, ground := Ground.phase }, { on := 5, ground := Ground.phase }, { on := 6, ground := Ground.phase }, { on := 7, ground := Ground.phase }, { on := 8, ground := Ground.phase }], guard := none }) (v := .pointer (some ⟨X, 3, none⟩)) rfl (by kernel_rfl) (by kernel_rfl) (by kernel_rfl) (fun _ _ _ h => HP.out _ _ _ _ h)
      (Or.inl ⟨by rfl, by intro w hSw;  clear hSw; go_simp⟩) hHw3 ?_
    try simp only [Act.put, List.setIfInBounds_toArray, List.set_cons_zero, List.set_cons_succ]
    refine wpAnyH_ready (rs := [10]) (by kernel_rfl) (by simp) ?_
    refine AllReadyH.cons (o := { dst := none, op := Op.store 23 (Operand.tmp 31) (Operand.tmp 30), type := 0, pos := "ref.go:37", after := #[{ on := 9, ground := Ground.data }, { on := 8, ground := Ground.data }, { on := 8, ground := Ground.chain }, { on := 0, ground := Ground.phase }, { on := 1, ground := Ground.phase }, { on := 2, ground := Ground.phase }, { on := 3, ground := Ground.phase }, { on := 4, ground := Ground.phase }, { on := 5, ground := Ground.phase }, { on := 6, ground := Ground.phase }, { on := 7, ground := Ground.phase }, { on := 8, ground := Ground.phase }], guard := none }) rfl (fun K hK => ?_) AllReadyH.nil
    have cx := HA4.out.cellAt (i := 3) rfl
    have cf := HA4.out.frozen 3
    go_simp
    clear cx cf
    refine hK.out _ _ (KP.out _ D4.out.low D4.out.bel) (fun hHw4 => ?_)
    clear hK K hHw3
    try simp only [Act.put]
    refine wpAnyH_done (by kernel_rfl) ?_ _
    clear hHw4
    exact HKK.out _ _ _ _ D4.out

set_option maxRecDepth 100000 in
set_option maxHeartbeats 8000000 in
theorem wou_kd {F : List Nat} {w w1 v : World} {X A b off i n cn : Nat} {P : List ByteArray} {Q : List T} {vn vk : Value} (hD : WDir F w w1 X P Q vn vk v) (h3 : w1.cell? ⟨A, 4, none⟩ = some (.slice (some ⟨b, off, none⟩) n cn)) (hA : A < X) (hb : b < w.heap.size) (hi : i < n) (hn : n ≤ 4096) (hP : Q.length ≤ 4096) {c0 c1 c2 c3 c4 : Value} {t : T} {m : Nat} (ht : Sta F w m [c0, c1, c2, c3, c4] t) (hs : w.rangeAt b (off + i * 5) [c0, c1, c2, c3, c4])
    {u0 u1 u3 u4 u7 u8 u9 u10 u11 u12 u13 u14 u15 u16 u17 u18 u19 u20 u21 u22 u23 u24 u25 u26 u27 u28 u29 u30 u31 u32 u33 u34 u35 u36 u37 u38 u39 u40 u41 u42 : Value} {K : Exit → Act → World → Prop} (hp : ∀ c (a : Act) ts w, K (.panic c) { a with tmps := ts } w → K (.panic c) a w)
    (hk : ∀ (v' : World) (nb g cap : Nat), WDir F w w1 X P (Q ++ [t]) vn (.slice (some ⟨g, 0, none⟩) (Q.length + 1) cap) v' → K .normal ⟨#[u0, u1, .pointer (some ⟨A, 0, none⟩), u3, u4, .pointer (some ⟨X, 0, none⟩), .int .i64 (i : Int), u7, u8, u9, u10, u11, u12, u13, u14, u15, u16, u17, u18, u19, u20, u21, u22, u23, u24, u25, u26, u27, u28, u29, u30, u31, .pointer (some ⟨X, 4, none⟩), vk, .pointer (some ⟨A, 4, none⟩), .slice (some ⟨b, off, none⟩) n cn, .int .i64 (i : Int), .pointer (some ⟨b, off + i * 5, none⟩), .agg #[c0, c1, c2, c3, c4], .slice (some ⟨nb, 0, none⟩) 1 1, .slice (some ⟨g, 0, none⟩) (Q.length + 1) cap, .pointer (some ⟨X, 4, none⟩), u42], []⟩ v') :
    (Code.region 7 #[{ dst := some 32, op := Op.fieldAddr 26 (Operand.tmp 5) 4, type := 0, pos := "ref.go:38", after := #[], guard := none }, { dst := some 33, op := Op.load 24 (Operand.tmp 32), type := 24, pos := "ref.go:38", after := #[{ on := 0, ground := Ground.data }], guard := none }, { dst := some 34, op := Op.fieldAddr 26 (Operand.tmp 2) 4, type := 0, pos := "ref.go:38", after := #[], guard := none }, { dst := some 35, op := Op.load 24 (Operand.tmp 34), type := 24, pos := "ref.go:38", after := #[{ on := 2, ground := Ground.data }], guard := none }, { dst := some 36, op := Op.move (Operand.tmp 6), type := 3, pos := "ref.go:38", after := #[], guard := none }, { dst := some 37, op := Op.indexAddr 24 (Operand.tmp 35) (Operand.tmp 36), type := 0, pos := "ref.go:38", after := #[{ on := 3, ground := Ground.data }, { on := 4, ground := Ground.data }], guard := none }, { dst := some 38, op := Op.load 26 (Operand.tmp 37), type := 26, pos := "ref.go:38", after := #[{ on := 5, ground := Ground.data }], guard := none }, { dst := some 39, op := Op.buildSlice 24 1 #[(0, Operand.tmp 38)], type := 24, pos := "ref.go:38", after := #[{ on := 6, ground := Ground.data }], guard := none }, { dst := some 40, op := Op.call { callee := Callee.builtin Builtin.append, args := #[Operand.tmp 33, Operand.tmp 39], argTypes := #[24, 24] }, type := 24, pos := "ref.go:38", after := #[{ on := 1, ground := Ground.data }, { on := 7, ground := Ground.data }], guard := none }, { dst := some 41, op := Op.fieldAddr 26 (Operand.tmp 5) 4, type := 0, pos := "ref.go:38", after := #[{ on := 0, ground := Ground.phase }, { on := 1, ground := Ground.phase }, { on := 2, ground := Ground.phase }, { on := 3, ground := Ground.phase }, { on := 4, ground := Ground.phase }, { on := 5, ground := Ground.phase }, { on := 6, ground := Ground.phase }, { on := 7, ground := Ground.phase }, { on := 8, ground := Ground.phase }], guard := none }, { dst := none, op := Op.store 24 (Operand.tmp 41) (Operand.tmp 40), type := 0, pos := "ref.go:38", after := #[{ on := 9, ground := Ground.data }, { on := 8, ground := Ground.data }, { on := 8, ground := Ground.chain }, { on := 0, ground := Ground.phase }, { on := 1, ground := Ground.phase }, { on := 2, ground := Ground.phase }, { on := 3, ground := Ground.phase }, { on := 4, ground := Ground.phase }, { on := 5, ground := Ground.phase }, { on := 6, ground := Ground.phase }, { on := 7, ground := Ground.phase }, { on := 8, ground := Ground.phase }], guard := none }] true).wp Tryd.prog K ⟨#[u0, u1, .pointer (some ⟨A, 0, none⟩), u3, u4, .pointer (some ⟨X, 0, none⟩), .int .i64 (i : Int), u7, u8, u9, u10, u11, u12, u13, u14, u15, u16, u17, u18, u19, u20, u21, u22, u23, u24, u25, u26, u27, u28, u29, u30, u31, u32, u33, u34, u35, u36, u37, u38, u39, u40, u41, u42], []⟩ v := by
  obtain ⟨i0, hi0, hz0, hz1, hz2⟩ := info_tree_parts
  have HI := Lib.hid hi0
  have HZ0 := Lib.hid hz0
  have HZ1 := Lib.hid hz1
  have HZ2 := Lib.hid hz2
  have KP : Hid (∀ Y, Below X w1 Y → Below w.heap.size w Y → Y.cell? ⟨A, 4, none⟩ = some (.slice (some ⟨b, off, none⟩) n cn) ∧ Y.rangeAt b (off + i * 5) [c0, c1, c2, c3, c4]) := Lib.hid (fun Y hY1 hY2 => ⟨(hY1.cell (p := ⟨A, 4, none⟩) hA).trans h3, (fun j x hx => (hY2.cell (p := ⟨b, off + i * 5 + j, none⟩) hb).trans (hs j x hx))⟩)
  have DD := Lib.hid hD
  have D0 := Lib.hid (hD.later (w' := v.drew) (Below.refl _ _).drew)
  have HPL := Lib.hid hP
  have HP := Lib.hid hp
  have HKK := Lib.hid hk
  have hki : (i : Int) < (n : Int) := by omega
  have hk0 : (0 : Int) ≤ (i : Int) := by omega
  have HONE := Lib.hid (isT_one ht.self)
  have HTT := Lib.hid ht
  have HU := Tryd.underlying26
  have HIL : Hid ((Tryd.prog.info? 26).map (·.size) = some ([c0, c1, c2, c3, c4] : List Value).length) := Lib.hid (infoL rfl)
  obtain ⟨LK, N0, hLK, hst⟩ := hD.kids
  have HLK0 := Lib.hid hLK
  have HST := Lib.hid hst
  clear ht hLK hst
  clear hD h3 hA hb hP hs hi0 hz0 hz1 hz2 hp hk hn
  refine wp_region_held_drew (S := fun Y => Y.cell? ⟨A, 4, none⟩ = some (.slice (some ⟨b, off, none⟩) n cn) ∧ Y.rangeAt b (off + i * 5) [c0, c1, c2, c3, c4]) (by kernel_rfl) (KP.out _ D0.out.low D0.out.bel) (fun hHeld => ?_)
  obtain ⟨v0, hv0⟩ : ∃ v0, v0 = v.drew := ⟨_, rfl⟩
  rw [← hv0] at D0 hHeld ⊢
  have LK0 : Hid (v0.ownsRow (X + 1) 26 5 vk Q.length LK) := Lib.hid (by rw [hv0]; exact owns_stay HLK0.out (fun q hq => (Below.refl v.heap.size v).drew.block q (HLK0.out.lt q hq).2))
  clear HLK0
  clear hv0
  refine wpAnyH_take (i := 0) (oi := { dst := some 32, op := Op.fieldAddr 26 (Operand.tmp 5) 4, type := 0, pos := "ref.go:38", after := #[], guard := none }) (v := .pointer (some ⟨X, 4, none⟩)) rfl (by kernel_rfl) (by kernel_rfl) (by kernel_rfl) (fun _ _ _ h => HP.out _ _ _ _ h)
    (Or.inl ⟨by rfl, by intro w hSw;  clear hSw; go_simp⟩) hHeld ?_
  try simp only [Act.put, List.setIfInBounds_toArray, List.set_cons_zero, List.set_cons_succ]
  refine wpAnyH_take (i := 2) (oi := { dst := some 34, op := Op.fieldAddr 26 (Operand.tmp 2) 4, type := 0, pos := "ref.go:38", after := #[], guard := none }) (v := .pointer (some ⟨A, 4, none⟩)) rfl (by kernel_rfl) (by kernel_rfl) (by kernel_rfl) (fun _ _ _ h => HP.out _ _ _ _ h)
    (Or.inl ⟨by rfl, by intro w hSw;  clear hSw; go_simp⟩) hHeld ?_
  try simp only [Act.put, List.setIfInBounds_toArray, List.set_cons_zero, List.set_cons_succ]
  refine wpAnyH_take (i := 3) (oi := { dst := some 35, op := Op.load 24 (Operand.tmp 34), type := 24, pos := "ref.go:38", after := #[{ on := 2, ground := Ground.data }], guard := none }) (v := .slice (some ⟨b, off, none⟩) n cn) rfl (by kernel_rfl) (by kernel_rfl) (by kernel_rfl) (fun _ _ _ h => HP.out _ _ _ _ h)
    (Or.inl ⟨by rfl, by intro w hSw; have hq := hSw.1; clear hSw; go_simp⟩) hHeld ?_
  try simp only [Act.put, List.setIfInBounds_toArray, List.set_cons_zero, List.set_cons_succ]
  refine wpAnyH_take (i := 4) (oi := { dst := some 36, op := Op.move (Operand.tmp 6), type := 3, pos := "ref.go:38", after := #[], guard := none }) (v := .int .i64 (i : Int)) rfl (by kernel_rfl) (by kernel_rfl) (by kernel_rfl) (fun _ _ _ h => HP.out _ _ _ _ h)
    (Or.inl ⟨by rfl, by intro w hSw;  clear hSw; go_simp⟩) hHeld ?_
  try simp only [Act.put, List.setIfInBounds_toArray, List.set_cons_zero, List.set_cons_succ]
  refine wpAnyH_take (i := 5) (oi := { dst := some 37, op := Op.indexAddr 24 (Operand.tmp 35) (Operand.tmp 36), type := 0, pos := "ref.go:38", after := #[{ on := 3, ground := Ground.data }, { on := 4, ground := Ground.data }], guard := none }) (v := .pointer (some ⟨b, off + i * 5, none⟩)) rfl (by kernel_rfl) (by kernel_rfl) (by kernel_rfl) (fun _ _ _ h => HP.out _ _ _ _ h)
    (Or.inl ⟨by rfl, by intro w hSw;  clear hSw; go_simp⟩) hHeld ?_
  try simp only [Act.put, List.setIfInBounds_toArray, List.set_cons_zero, List.set_cons_succ]
  refine wpAnyH_take (i := 6) (oi := { dst := some 38, op := Op.load 26 (Operand.tmp 37), type := 26, pos := "ref.go:38", after := #[{ on := 5, ground := Ground.data }], guard := none }) rfl (by kernel_rfl) (by kernel_rfl) (by kernel_rfl) (fun _ _ _ h => HP.out _ _ _ _ h)
    (yieldsIf_load_mid (by rfl) 26 (.tmp 37) rfl b (off + i * 5) rfl [c0, c1, c2, c3, c4] _ (fun _ h => h.2) HU rfl HIL.out) hHeld ?_
  try simp only [Act.put, List.setIfInBounds_toArray, List.set_cons_zero, List.set_cons_succ]
  refine wpAnyH_ready (rs := [1, 7]) (by kernel_rfl) (by simp) ?_
  refine AllReadyH.cons (o := { dst := some 33, op := Op.load 24 (Operand.tmp 32), type := 24, pos := "ref.go:38", after := #[{ on := 0, ground := Ground.data }], guard := none }) rfl (fun K hK => ?_) (AllReadyH.cons (o := { dst := some 39, op := Op.buildSlice 24 1 #[(0, Operand.tmp 38)], type := 24, pos := "ref.go:38", after := #[{ on := 6, ground := Ground.data }], guard := none }) rfl (fun K hK => ?_) AllReadyH.nil)
  · have cx := D0.out.box.cellAt (i := 4) rfl
    go_simp
    clear cx
    refine hK.out _ _ (KP.out _ D0.out.low D0.out.bel) (fun hHw1 => ?_)
    clear hK K hHeld
    try simp only [Act.put, List.setIfInBounds_toArray, List.set_cons_zero, List.set_cons_succ]
    refine wpAnyH_ready (rs := [7]) (by kernel_rfl) (by simp) ?_
    refine AllReadyH.cons (o := { dst := some 39, op := Op.buildSlice 24 1 #[(0, Operand.tmp 38)], type := 24, pos := "ref.go:38", after := #[{ on := 6, ground := Ground.data }], guard := none }) rfl (fun K hK => ?_) AllReadyH.nil
    go_simp
    obtain ⟨w3, hw3⟩ : ∃ w3, w3 = v0.alloc (.cells #[c0, c1, c2, c3, c4] 26) := ⟨_, rfl⟩
    have b3 : Below v0.heap.size v0 w3 := by rw [hw3]; exact (Below.refl _ _).alloc (Nat.le_refl _) _
    have P3 : Hid (Has w3 v0.heap.size [c0, c1, c2, c3, c4] 26) := Lib.hid (by rw [hw3]; exact Has.new v0 _ _)
    have D3 := Lib.hid (D0.out.later b3)
    have LK3 : Hid (w3.ownsRow (X + 1) 26 5 vk Q.length LK) := Lib.hid (owns_stay LK0.out (fun q hq => b3.block q (LK0.out.lt q hq).2))
    have s3 : w3.heap.size = v0.heap.size + 1 := by rw [hw3]; simp
    have S3 := Lib.hid s3
    rw [← hw3]
    clear hw3 b3 s3
    refine hK.out _ _ (KP.out _ D3.out.low D3.out.bel) (fun hHw2 => ?_)
    clear hK K hHw1
    try simp only [Act.put, List.setIfInBounds_toArray, List.set_cons_zero, List.set_cons_succ]
    refine wpAnyH_ready (rs := [8]) (by kernel_rfl) (by simp) ?_
    refine AllReadyH.cons (o := { dst := some 40, op := Op.call { callee := Callee.builtin Builtin.append, args := #[Operand.tmp 33, Operand.tmp 39], argTypes := #[24, 24] }, type := 24, pos := "ref.go:38", after := #[{ on := 1, ground := Ground.data }, { on := 7, ground := Ground.data }], guard := none }) rfl (fun K hK => ?_) AllReadyH.nil
    rw [if_pos (by rfl)]
    refine wp_append_lies _ (.tmp 33) (.tmp 39) 24 rfl (X + 1) 26 i0 (.agg #[.int .u8 0, .bool false, .slice none 0 0, .slice none 0 0, .slice none 0 0]) 5 80 Tryd.underlying24 HI.out HZ0.out HZ1.out HZ2.out rfl (by omega) vk Q.length LK rfl LK3.out ⟨v0.heap.size, 0, none⟩ 1 1 [c0, c1, c2, c3, c4] rfl rfl (fun j u hj => ?_) (fun u hu => ?_) (by have := HPL.out; omega) (by unfold maxLen; have := HPL.out; omega) (by have := HPL.out; omega) D3.out.box.lt w3.heap.size rfl (fun ga capa w4 h4o h4g h4b h4s => ?_)
    · match j, hj with
      | 0, hj => cases hj; rw [Addr.add_lit]; exact P3.out.cellAt (i := 0) rfl
      | 1, hj => cases hj; rw [Addr.add_lit]; exact P3.out.cellAt (i := 1) rfl
      | 2, hj => cases hj; rw [Addr.add_lit]; exact P3.out.cellAt (i := 2) rfl
      | 3, hj => cases hj; rw [Addr.add_lit]; exact P3.out.cellAt (i := 3) rfl
      | 4, hj => cases hj; rw [Addr.add_lit]; exact P3.out.cellAt (i := 4) rfl
      | j + 5, hj => simp at hj
    · exact (Array.all_eq_true_iff_forall_mem.1 HONE.out) u (by simpa using hu)
    have hm := Lib.hid (D3.out.kid LK3.out HST.out HTT.out h4o h4g)
    have HA4 := Lib.hid hm.out.1
    have D4 := Lib.hid hm.out.2.2.2
    have S4 := Lib.hid (KP.out _ hm.out.2.2.1 hm.out.2.1)
    clear hm h4o h4g h4b h4s
    refine hK.out _ _ S4.out (fun hHw3 => ?_)
    clear hK K hHw2
    try simp only [Act.put, List.setIfInBounds_toArray, List.set_cons_zero, List.set_cons_succ]
    refine wpAnyH_take (i := 9) (oi := { dst := some 41, op := Op.fieldAddr 26 (Operand.tmp 5) 4, type := 0, pos := "ref.go:38", after := #[{ on := 0, ground := Ground.phase }, { on := 1, ground := Ground.phase }, { on := 2, ground := Ground.phase }, { on := 3, ground := Ground.phase }, { on := 4, ground := Ground.phase }, { on := 5, ground := Ground.phase }, { on := 6, ground := Ground.phase }, { on := 7, ground := Ground.phase }, { on := 8, ground := Ground.phase }], guard := none }) (v := .pointer (some ⟨X, 4, none⟩)) rfl (by kernel_rfl) (by kernel_rfl) (by kernel_rfl) (fun _ _ _ h => HP.out _ _ _ _ h)
      (Or.inl ⟨by rfl, by intro w hSw;  clear hSw; go_simp⟩) hHw3 ?_
    try simp only [Act.put, List.setIfInBounds_toArray, List.set_cons_zero, List.set_cons_succ]
    refine wpAnyH_ready (rs := [10]) (by kernel_rfl) (by simp) ?_
    refine AllReadyH.cons (o := { dst := none, op := Op.store 24 (Operand.tmp 41) (Operand.tmp 40), type := 0, pos := "ref.go:38", after := #[{ on := 9, ground := Ground.data }, { on := 8, ground := Ground.data }, { on := 8, ground := Ground.chain }, { on := 0, ground := Ground.phase }, { on := 1, ground := Ground.phase }, { on := 2, ground := Ground.phase }, { on := 3, ground := Ground.phase }, { on := 4, ground := Ground.phase }, { on := 5, ground := Ground.phase }, { on := 6, ground := Ground.phase }, { on := 7, ground := Ground.phase }, { on := 8, ground := Ground.phase }], guard := none }) rfl (fun K hK => ?_) AllReadyH.nil
    have cx := HA4.out.cellAt (i := 4) rfl
    have cf := HA4.out.frozen 4
    go_simp
    clear cx cf
    refine hK.out _ _ (KP.out _ D4.out.low D4.out.bel) (fun hHw4 => ?_)
    clear hK K hHw3
    try simp only [Act.put]
    refine wpAnyH_done (by kernel_rfl) ?_ _
    clear hHw4
    exact HKK.out _ _ _ _ D4.out
  · go_simp
    obtain ⟨w3, hw3⟩ : ∃ w3, w3 = v0.alloc (.cells #[c0, c1, c2, c3, c4] 26) := ⟨_, rfl⟩
    have b3 : Below v0.heap.size v0 w3 := by rw [hw3]; exact (Below.refl _ _).alloc (Nat.le_refl _) _
    have P3 : Hid (Has w3 v0.heap.size [c0, c1, c2, c3, c4] 26) := Lib.hid (by rw [hw3]; exact Has.new v0 _ _)
    have D3 := Lib.hid (D0.out.later b3)
    have LK3 : Hid (w3.ownsRow (X + 1) 26 5 vk Q.length LK) := Lib.hid (owns_stay LK0.out (fun q hq => b3.block q (LK0.out.lt q hq).2))
    have s3 : w3.heap.size = v0.heap.size + 1 := by rw [hw3]; simp
    have S3 := Lib.hid s3
    rw [← hw3]
    clear hw3 b3 s3
    refine hK.out _ _ (KP.out _ D3.out.low D3.out.bel) (fun hHw1 => ?_)
    clear hK K hHeld
    try simp only [Act.put, List.setIfInBounds_toArray, List.set_cons_zero, List.set_cons_succ]
    refine wpAnyH_ready (rs := [1]) (by kernel_rfl) (by simp) ?_
    refine AllReadyH.cons (o := { dst := some 33, op := Op.load 24 (Operand.tmp 32), type := 24, pos := "ref.go:38", after := #[{ on := 0, ground := Ground.data }], guard := none }) rfl (fun K hK => ?_) AllReadyH.nil
    have cx := D3.out.box.cellAt (i := 4) rfl
    go_simp
    clear cx
    refine hK.out _ _ (KP.out _ D3.out.low D3.out.bel) (fun hHw2 => ?_)
    clear hK K hHw1
    try simp only [Act.put, List.setIfInBounds_toArray, List.set_cons_zero, List.set_cons_succ]
    refine wpAnyH_ready (rs := [8]) (by kernel_rfl) (by simp) ?_
    refine AllReadyH.cons (o := { dst := some 40, op := Op.call { callee := Callee.builtin Builtin.append, args := #[Operand.tmp 33, Operand.tmp 39], argTypes := #[24, 24] }, type := 24, pos := "ref.go:38", after := #[{ on := 1, ground := Ground.data }, { on := 7, ground := Ground.data }], guard := none }) rfl (fun K hK => ?_) AllReadyH.nil
    rw [if_pos (by rfl)]
    refine wp_append_lies _ (.tmp 33) (.tmp 39) 24 rfl (X + 1) 26 i0 (.agg #[.int .u8 0, .bool false, .slice none 0 0, .slice none 0 0, .slice none 0 0]) 5 80 Tryd.underlying24 HI.out HZ0.out HZ1.out HZ2.out rfl (by omega) vk Q.length LK rfl LK3.out ⟨v0.heap.size, 0, none⟩ 1 1 [c0, c1, c2, c3, c4] rfl rfl (fun j u hj => ?_) (fun u hu => ?_) (by have := HPL.out; omega) (by unfold maxLen; have := HPL.out; omega) (by have := HPL.out; omega) D3.out.box.lt w3.heap.size rfl (fun ga capa w4 h4o h4g h4b h4s => ?_)
    · match j, hj with
      | 0, hj => cases hj; rw [Addr.add_lit]; exact P3.out.cellAt (i := 0) rfl
      | 1, hj => cases hj; rw [Addr.add_lit]; exact P3.out.cellAt (i := 1) rfl
      | 2, hj => cases hj; rw [Addr.add_lit]; exact P3.out.cellAt (i := 2) rfl
      | 3, hj => cases hj; rw [Addr.add_lit]; exact P3.out.cellAt (i := 3) rfl
      | 4, hj => cases hj; rw [Addr.add_lit]; exact P3.out.cellAt (i := 4) rfl
      | j + 5, hj => simp at hj
    · exact (Array.all_eq_true_iff_forall_mem.1 HONE.out) u (by simpa using hu)
    have hm := Lib.hid (D3.out.kid LK3.out HST.out HTT.out h4o h4g)
    have HA4 := Lib.hid hm.out.1
    have D4 := Lib.hid hm.out.2.2.2
    have S4 := Lib.hid (KP.out _ hm.out.2.2.1 hm.out.2.1)
    clear hm h4o h4g h4b h4s
    refine hK.out _ _ S4.out (fun hHw3 => ?_)
    clear hK K hHw2
    try simp only [Act.put, List.setIfInBounds_toArray, List.set_cons_zero, List.set_cons_succ]
    refine wpAnyH_take (i := 9) (oi := { dst := some 41, op := Op.fieldAddr 26 (Operand.tmp 5) 4, type := 0, pos := "ref.go:38", after := #[{ on := 0, ground := Ground.phase }, { on := 1, ground := Ground.phase }, { on := 2, ground := Ground.phase }, { on := 3, ground := Ground.phase }, { on := 4, ground := Ground.phase }, { on := 5, ground := Ground.phase }, { on := 6, ground := Ground.phase }, { on := 7, ground := Ground.phase }, { on := 8, ground := Ground.phase }], guard := none }) (v := .pointer (some ⟨X, 4, none⟩)) rfl (by kernel_rfl) (by kernel_rfl) (by kernel_rfl) (fun _ _ _ h => HP.out _ _ _ _ h)
      (Or.inl ⟨by rfl, by intro w hSw;  clear hSw; go_simp⟩) hHw3 ?_
    try simp only [Act.put, List.setIfInBounds_toArray, List.set_cons_zero, List.set_cons_succ]
    refine wpAnyH_ready (rs := [10]) (by kernel_rfl) (by simp) ?_
    refine AllReadyH.cons (o := { dst := none, op := Op.store 24 (Operand.tmp 41) (Operand.tmp 40), type := 0, pos := "ref.go:38", after := #[{ on := 9, ground := Ground.data }, { on := 8, ground := Ground.data }, { on := 8, ground := Ground.chain }, { on := 0, ground := Ground.phase }, { on := 1, ground := Ground.phase }, { on := 2, ground := Ground.phase }, { on := 3, ground := Ground.phase }, { on := 4, ground := Ground.phase }, { on := 5, ground := Ground.phase }, { on := 6, ground := Ground.phase }, { on := 7, ground := Ground.phase }, { on := 8, ground := Ground.phase }], guard := none }) rfl (fun K hK => ?_) AllReadyH.nil
    have cx := HA4.out.cellAt (i := 4) rfl
    have cf := HA4.out.frozen 4
    go_simp
    clear cx cf
    refine hK.out _ _ (KP.out _ D4.out.low D4.out.bel) (fun hHw4 => ?_)
    clear hK K hHw3
    try simp only [Act.put]
    refine wpAnyH_done (by kernel_rfl) ?_ _
    clear hHw4
    exact HKK.out _ _ _ _ D4.out

set_option maxRecDepth 100000 in
set_option maxHeartbeats 8000000 in
theorem wth_nm {F : List Nat} {w w1 v : World} {X A b off i n cn : Nat} {P : List ByteArray} {Q : List T} {vn vk : Value} (hD : WDir F w w1 X P Q vn vk v) (h3 : w1.cell? ⟨A, 3, none⟩ = some (.slice (some ⟨b, off, none⟩) n cn)) (hA : A < X) (hb : b < w.heap.size) (hi : i < n) (hn : n ≤ 4096) (hP : P.length ≤ 4096) {s : ByteArray} (hs : w.cell? ⟨b, off + i, none⟩ = some (.string s))
    {u0 u1 u2 u4 u5 u6 u8 u10 u11 u12 u13 u14 u15 u16 u17 u18 u19 u20 u21 u22 u23 u24 u25 u26 u27 u28 u29 u30 u31 u32 u33 u34 u35 u36 u37 u38 u39 u40 u41 u42 u43 u44 u45 u46 u47 u48 u49 u50 u51 u52 u53 u54 u55 u56 u57 u58 u59 u60 u61 u62 u63 u64 u65 u66 u67 u68 u69 u70 u71 u72 u73 u74 u75 u76 u77 u78 u79 u80 u81 u82 : Value} {K : Exit → Act → World → Prop} (hp : ∀ c (a : Act) ts w, K (.panic c) { a with tmps := ts } w → K (.panic c) a w)
    (hk : ∀ (v' : World) (nb g cap : Nat), WDir F w w1 X (P ++ [s]) Q (.slice (some ⟨g, 0, none⟩) (P.length + 1) cap) vk v' → K .normal ⟨#[u0, u1, u2, .pointer (some ⟨A, 0, none⟩), u4, u5, u6, .pointer (some ⟨X, 0, none⟩), u8, .int .i64 (i : Int), u10, u11, u12, u13, u14, u15, u16, u17, u18, u19, u20, u21, u22, u23, u24, u25, u26, u27, u28, u29, u30, u31, u32, u33, u34, u35, u36, u37, u38, u39, u40, u41, u42, u43, u44, u45, u46, u47, .pointer (some ⟨X, 3, none⟩), vn, .pointer (some ⟨A, 3, none⟩), .slice (some ⟨b, off, none⟩) n cn, .int .i64 (i : Int), .pointer (some ⟨b, off + i, none⟩), .string s, .slice (some ⟨nb, 0, none⟩) 1 1, .slice (some ⟨g, 0, none⟩) (P.length + 1) cap, .pointer (some ⟨X, 3, none⟩), u58, u59, u60, u61, u62, u63, u64, u65, u66, u67, u68, u69, u70, u71, u72, u73, u74, u75, u76, u77, u78, u79, u80, u81, u82], []⟩ v') :
    (Code.region 11 #[{ dst := some 48, op := Op.fieldAddr 26 (Operand.tmp 7) 3, type := 0, pos := "ref.go:21", after := #[], guard := none }, { dst := some 49, op := Op.load 23 (Operand.tmp 48), type := 23, pos := "ref.go:21", after := #[{ on := 0, ground := Ground.data }], guard := none }, { dst := some 50, op := Op.fieldAddr 26 (Operand.tmp 3) 3, type := 0, pos := "ref.go:21", after := #[], guard := none }, { dst := some 51, op := Op.load 23 (Operand.tmp 50), type := 23, pos := "ref.go:21", after := #[{ on := 2, ground := Ground.data }], guard := none }, { dst := some 52, op := Op.move (Operand.tmp 9), type := 3, pos := "ref.go:21", after := #[], guard := none }, { dst := some 53, op := Op.indexAddr 23 (Operand.tmp 51) (Operand.tmp 52), type := 0, pos := "ref.go:21", after := #[{ on := 3, ground := Ground.data }, { on := 4, ground := Ground.data }], guard := none }, { dst := some 54, op := Op.load 9 (Operand.tmp 53), type := 9, pos := "ref.go:21", after := #[{ on := 5, ground := Ground.data }], guard := none }, { dst := some 55, op := Op.buildSlice 23 1 #[(0, Operand.tmp 54)], type := 23, pos := "ref.go:21", after := #[{ on := 6, ground := Ground.data }], guard := none }, { dst := some 56, op := Op.call { callee := Callee.builtin Builtin.append, args := #[Operand.tmp 49, Operand.tmp 55], argTypes := #[23, 23] }, type := 23, pos := "ref.go:21", after := #[{ on := 1, ground := Ground.data }, { on := 7, ground := Ground.data }], guard := none }, { dst := some 57, op := Op.fieldAddr 26 (Operand.tmp 7) 3, type := 0, pos := "ref.go:21", after := #[{ on := 0, ground := Ground.phase }, { on := 1, ground := Ground.phase }, { on := 2, ground := Ground.phase }, { on := 3, ground := Ground.phase }, { on := 4, ground := Ground.phase }, { on := 5, ground := Ground.phase }, { on := 6, ground := Ground.phase }, { on := 7, ground := Ground.phase }, { on := 8, ground := Ground.phase }], guard := none }, { dst := none, op := Op.store 23 (Operand.tmp 57) (Operand.tmp 56), type := 0, pos := "ref.go:21", after := #[{ on := 9, ground := Ground.data }, { on := 8, ground := Ground.data }, { on := 8, ground := Ground.chain }, { on := 0, ground := Ground.phase }, { on := 1, ground := Ground.phase }, { on := 2, ground := Ground.phase }, { on := 3, ground := Ground.phase }, { on := 4, ground := Ground.phase }, { on := 5, ground := Ground.phase }, { on := 6, ground := Ground.phase }, { on := 7, ground := Ground.phase }, { on := 8, ground := Ground.phase }], guard := none }] true).wp Tryd.prog K ⟨#[u0, u1, u2, .pointer (some ⟨A, 0, none⟩), u4, u5, u6, .pointer (some ⟨X, 0, none⟩), u8, .int .i64 (i : Int), u10, u11, u12, u13, u14, u15, u16, u17, u18, u19, u20, u21, u22, u23, u24, u25, u26, u27, u28, u29, u30, u31, u32, u33, u34, u35, u36, u37, u38, u39, u40, u41, u42, u43, u44, u45, u46, u47, u48, u49, u50, u51, u52, u53, u54, u55, u56, u57, u58, u59, u60, u61, u62, u63, u64, u65, u66, u67, u68, u69, u70, u71, u72, u73, u74, u75, u76, u77, u78, u79, u80, u81, u82], []⟩ v := by
  obtain ⟨i0, hi0, hz0, hz1, hz2⟩ := info_str_parts
  have HI := Lib.hid hi0
  have HZ0 := Lib.hid hz0
  have HZ1 := Lib.hid hz1
  have HZ2 := Lib.hid hz2
  have KP : Hid (∀ Y, Below X w1 Y → Below w.heap.size w Y → Y.cell? ⟨A, 3, none⟩ = some (.slice (some ⟨b, off, none⟩) n cn) ∧ Y.cell? ⟨b, off + i, none⟩ = some (.string s)) := Lib.hid (fun Y hY1 hY2 => ⟨(hY1.cell (p := ⟨A, 3, none⟩) hA).trans h3, ((hY2.cell (p := ⟨b, off + i, none⟩) hb).trans hs)⟩)
  have DD := Lib.hid hD
  have D0 := Lib.hid (hD.later (w' := v.drew) (Below.refl _ _).drew)
  have HPL := Lib.hid hP
  have HP := Lib.hid hp
  have HKK := Lib.hid hk
  have hki : (i : Int) < (n : Int) := by omega
  have hk0 : (0 : Int) ≤ (i : Int) := by omega
  clear hD h3 hA hb hP hs hi0 hz0 hz1 hz2 hp hk hn
  refine wp_region_held_drew (S := fun Y => Y.cell? ⟨A, 3, none⟩ = some (.slice (some ⟨b, off, none⟩) n cn) ∧ Y.cell? ⟨b, off + i, none⟩ = some (.string s)) (by kernel_rfl) (KP.out _ D0.out.low D0.out.bel) (fun hHeld => ?_)
  obtain ⟨v0, hv0⟩ : ∃ v0, v0 = v.drew := ⟨_, rfl⟩
  rw [← hv0] at D0 hHeld ⊢
  clear hv0
  refine wpAnyH_take (i := 0) (oi := { dst := some 48, op := Op.fieldAddr 26 (Operand.tmp 7) 3, type := 0, pos := "ref.go:21", after := #[], guard := none }) (v := .pointer (some ⟨X, 3, none⟩)) rfl (by kernel_rfl) (by kernel_rfl) (by kernel_rfl) (fun _ _ _ h => HP.out _ _ _ _ h)
    (Or.inl ⟨by rfl, by intro w hSw;  clear hSw; go_simp⟩) hHeld ?_
  try simp only [Act.put, List.setIfInBounds_toArray, List.set_cons_zero, List.set_cons_succ]
  refine wpAnyH_take (i := 2) (oi := { dst := some 50, op := Op.fieldAddr 26 (Operand.tmp 3) 3, type := 0, pos := "ref.go:21", after := #[], guard := none }) (v := .pointer (some ⟨A, 3, none⟩)) rfl (by kernel_rfl) (by kernel_rfl) (by kernel_rfl) (fun _ _ _ h => HP.out _ _ _ _ h)
    (Or.inl ⟨by rfl, by intro w hSw;  clear hSw; go_simp⟩) hHeld ?_
  try simp only [Act.put, List.setIfInBounds_toArray, List.set_cons_zero, List.set_cons_succ]
  refine wpAnyH_take (i := 3) (oi := { dst := some 51, op := Op.load 23 (Operand.tmp 50), type := 23, pos := "ref.go:21", after := #[{ on := 2, ground := Ground.data }], guard := none }) (v := .slice (some ⟨b, off, none⟩) n cn) rfl (by kernel_rfl) (by kernel_rfl) (by kernel_rfl) (fun _ _ _ h => HP.out _ _ _ _ h)
    (Or.inl ⟨by rfl, by intro w hSw; have hq := hSw.1; clear hSw; go_simp⟩) hHeld ?_
  try simp only [Act.put, List.setIfInBounds_toArray, List.set_cons_zero, List.set_cons_succ]
  refine wpAnyH_take (i := 4) (oi := { dst := some 52, op := Op.move (Operand.tmp 9), type := 3, pos := "ref.go:21", after := #[], guard := none }) (v := .int .i64 (i : Int)) rfl (by kernel_rfl) (by kernel_rfl) (by kernel_rfl) (fun _ _ _ h => HP.out _ _ _ _ h)
    (Or.inl ⟨by rfl, by intro w hSw;  clear hSw; go_simp⟩) hHeld ?_
  try simp only [Act.put, List.setIfInBounds_toArray, List.set_cons_zero, List.set_cons_succ]
  refine wpAnyH_take (i := 5) (oi := { dst := some 53, op := Op.indexAddr 23 (Operand.tmp 51) (Operand.tmp 52), type := 0, pos := "ref.go:21", after := #[{ on := 3, ground := Ground.data }, { on := 4, ground := Ground.data }], guard := none }) (v := .pointer (some ⟨b, off + i, none⟩)) rfl (by kernel_rfl) (by kernel_rfl) (by kernel_rfl) (fun _ _ _ h => HP.out _ _ _ _ h)
    (Or.inl ⟨by rfl, by intro w hSw;  clear hSw; go_simp⟩) hHeld ?_
  try simp only [Act.put, List.setIfInBounds_toArray, List.set_cons_zero, List.set_cons_succ]
  refine wpAnyH_take (i := 6) (oi := { dst := some 54, op := Op.load 9 (Operand.tmp 53), type := 9, pos := "ref.go:21", after := #[{ on := 5, ground := Ground.data }], guard := none }) (v := .string s) rfl (by kernel_rfl) (by kernel_rfl) (by kernel_rfl) (fun _ _ _ h => HP.out _ _ _ _ h)
    (Or.inl ⟨by rfl, by intro w hSw; have hq := hSw.2; clear hSw; go_simp⟩) hHeld ?_
  try simp only [Act.put, List.setIfInBounds_toArray, List.set_cons_zero, List.set_cons_succ]
  refine wpAnyH_ready (rs := [1, 7]) (by kernel_rfl) (by simp) ?_
  refine AllReadyH.cons (o := { dst := some 49, op := Op.load 23 (Operand.tmp 48), type := 23, pos := "ref.go:21", after := #[{ on := 0, ground := Ground.data }], guard := none }) rfl (fun K hK => ?_) (AllReadyH.cons (o := { dst := some 55, op := Op.buildSlice 23 1 #[(0, Operand.tmp 54)], type := 23, pos := "ref.go:21", after := #[{ on := 6, ground := Ground.data }], guard := none }) rfl (fun K hK => ?_) AllReadyH.nil)
  · have cx := D0.out.box.cellAt (i := 3) rfl
    go_simp
    clear cx
    refine hK.out _ _ (KP.out _ D0.out.low D0.out.bel) (fun hHw1 => ?_)
    clear hK K hHeld
    try simp only [Act.put, List.setIfInBounds_toArray, List.set_cons_zero, List.set_cons_succ]
    refine wpAnyH_ready (rs := [7]) (by kernel_rfl) (by simp) ?_
    refine AllReadyH.cons (o := { dst := some 55, op := Op.buildSlice 23 1 #[(0, Operand.tmp 54)], type := 23, pos := "ref.go:21", after := #[{ on := 6, ground := Ground.data }], guard := none }) rfl (fun K hK => ?_) AllReadyH.nil
    go_simp
    obtain ⟨w3, hw3⟩ : ∃ w3, w3 = v0.alloc (.cells #[.string s] 9) := ⟨_, rfl⟩
    have b3 : Below v0.heap.size v0 w3 := by rw [hw3]; exact (Below.refl _ _).alloc (Nat.le_refl _) _
    have P3 : Hid (Has w3 v0.heap.size [.string s] 9) := Lib.hid (by rw [hw3]; exact Has.new v0 _ _)
    have D3 := Lib.hid (D0.out.later b3)
    have s3 : w3.heap.size = v0.heap.size + 1 := by rw [hw3]; simp
    have S3 := Lib.hid s3
    rw [← hw3]
    clear hw3 b3 s3
    refine hK.out _ _ (KP.out _ D3.out.low D3.out.bel) (fun hHw2 => ?_)
    clear hK K hHw1
    try simp only [Act.put, List.setIfInBounds_toArray, List.set_cons_zero, List.set_cons_succ]
    refine wpAnyH_ready (rs := [8]) (by kernel_rfl) (by simp) ?_
    refine AllReadyH.cons (o := { dst := some 56, op := Op.call { callee := Callee.builtin Builtin.append, args := #[Operand.tmp 49, Operand.tmp 55], argTypes := #[23, 23] }, type := 23, pos := "ref.go:21", after := #[{ on := 1, ground := Ground.data }, { on := 7, ground := Ground.data }], guard := none }) rfl (fun K hK => ?_) AllReadyH.nil
    rw [if_pos (by rfl)]
    refine wp_append_lies _ (.tmp 49) (.tmp 55) 23 rfl (X + 1) 9 i0 (.string ByteArray.empty) 1 16 Tryd.underlying23 HI.out HZ0.out HZ1.out HZ2.out rfl (by omega) vn P.length (P.map Value.string) rfl D3.out.names ⟨v0.heap.size, 0, none⟩ 1 1 [.string s] rfl rfl (fun j u hj => ?_) (fun u hu => ?_) (by have := HPL.out; omega) (by unfold maxLen; have := HPL.out; omega) (by have := HPL.out; omega) D3.out.box.lt w3.heap.size rfl (fun ga capa w4 h4o h4g h4b h4s => ?_)
    · match j, hj with
      | 0, hj => cases hj; rw [Addr.add_lit]; exact P3.out.cellAt (i := 0) rfl
      | j + 1, hj => simp at hj
    · simp at hu; subst hu; rfl
    have hm := Lib.hid (D3.out.name h4o h4g)
    have HA4 := Lib.hid hm.out.1
    have D4 := Lib.hid hm.out.2.2.2
    have S4 := Lib.hid (KP.out _ hm.out.2.2.1 hm.out.2.1)
    clear hm h4o h4g h4b h4s
    refine hK.out _ _ S4.out (fun hHw3 => ?_)
    clear hK K hHw2
    try simp only [Act.put, List.setIfInBounds_toArray, List.set_cons_zero, List.set_cons_succ]
    refine wpAnyH_take (i := 9) (oi := { dst := some 57, op := Op.fieldAddr 26 (Operand.tmp 7) 3, type := 0, pos := "ref.go:21", after := #[{ on := 0, ground := Ground.phase }, { on := 1, ground := Ground.phase }, { on := 2, ground := Ground.phase }, { on := 3, ground := Ground.phase }, { on := 4, ground := Ground.phase }, { on := 5, ground := Ground.phase }, { on := 6, ground := Ground.phase }, { on := 7, ground := Ground.phase }, { on := 8, ground := Ground.phase }], guard := none }) (v := .pointer (some ⟨X, 3, none⟩)) rfl (by kernel_rfl) (by kernel_rfl) (by kernel_rfl) (fun _ _ _ h => HP.out _ _ _ _ h)
      (Or.inl ⟨by rfl, by intro w hSw;  clear hSw; go_simp⟩) hHw3 ?_
    try simp only [Act.put, List.setIfInBounds_toArray, List.set_cons_zero, List.set_cons_succ]
    refine wpAnyH_ready (rs := [10]) (by kernel_rfl) (by simp) ?_
    refine AllReadyH.cons (o := { dst := none, op := Op.store 23 (Operand.tmp 57) (Operand.tmp 56), type := 0, pos := "ref.go:21", after := #[{ on := 9, ground := Ground.data }, { on := 8, ground := Ground.data }, { on := 8, ground := Ground.chain }, { on := 0, ground := Ground.phase }, { on := 1, ground := Ground.phase }, { on := 2, ground := Ground.phase }, { on := 3, ground := Ground.phase }, { on := 4, ground := Ground.phase }, { on := 5, ground := Ground.phase }, { on := 6, ground := Ground.phase }, { on := 7, ground := Ground.phase }, { on := 8, ground := Ground.phase }], guard := none }) rfl (fun K hK => ?_) AllReadyH.nil
    have cx := HA4.out.cellAt (i := 3) rfl
    have cf := HA4.out.frozen 3
    go_simp
    clear cx cf
    refine hK.out _ _ (KP.out _ D4.out.low D4.out.bel) (fun hHw4 => ?_)
    clear hK K hHw3
    try simp only [Act.put]
    refine wpAnyH_done (by kernel_rfl) ?_ _
    clear hHw4
    exact HKK.out _ _ _ _ D4.out
  · go_simp
    obtain ⟨w3, hw3⟩ : ∃ w3, w3 = v0.alloc (.cells #[.string s] 9) := ⟨_, rfl⟩
    have b3 : Below v0.heap.size v0 w3 := by rw [hw3]; exact (Below.refl _ _).alloc (Nat.le_refl _) _
    have P3 : Hid (Has w3 v0.heap.size [.string s] 9) := Lib.hid (by rw [hw3]; exact Has.new v0 _ _)
    have D3 := Lib.hid (D0.out.later b3)
    have s3 : w3.heap.size = v0.heap.size + 1 := by rw [hw3]; simp
    have S3 := Lib.hid s3
    rw [← hw3]
    clear hw3 b3 s3
    refine hK.out _ _ (KP.out _ D3.out.low D3.out.bel) (fun hHw1 => ?_)
    clear hK K hHeld
    try simp only [Act.put, List.setIfInBounds_toArray, List.set_cons_zero, List.set_cons_succ]
    refine wpAnyH_ready (rs := [1]) (by kernel_rfl) (by simp) ?_
    refine AllReadyH.cons (o := { dst := some 49, op := Op.load 23 (Operand.tmp 48), type := 23, pos := "ref.go:21", after := #[{ on := 0, ground := Ground.data }], guard := none }) rfl (fun K hK => ?_) AllReadyH.nil
    have cx := D3.out.box.cellAt (i := 3) rfl
    go_simp
    clear cx
    refine hK.out _ _ (KP.out _ D3.out.low D3.out.bel) (fun hHw2 => ?_)
    clear hK K hHw1
    try simp only [Act.put, List.setIfInBounds_toArray, List.set_cons_zero, List.set_cons_succ]
    refine wpAnyH_ready (rs := [8]) (by kernel_rfl) (by simp) ?_
    refine AllReadyH.cons (o := { dst := some 56, op := Op.call { callee := Callee.builtin Builtin.append, args := #[Operand.tmp 49, Operand.tmp 55], argTypes := #[23, 23] }, type := 23, pos := "ref.go:21", after := #[{ on := 1, ground := Ground.data }, { on := 7, ground := Ground.data }], guard := none }) rfl (fun K hK => ?_) AllReadyH.nil
    rw [if_pos (by rfl)]
    refine wp_append_lies _ (.tmp 49) (.tmp 55) 23 rfl (X + 1) 9 i0 (.string ByteArray.empty) 1 16 Tryd.underlying23 HI.out HZ0.out HZ1.out HZ2.out rfl (by omega) vn P.length (P.map Value.string) rfl D3.out.names ⟨v0.heap.size, 0, none⟩ 1 1 [.string s] rfl rfl (fun j u hj => ?_) (fun u hu => ?_) (by have := HPL.out; omega) (by unfold maxLen; have := HPL.out; omega) (by have := HPL.out; omega) D3.out.box.lt w3.heap.size rfl (fun ga capa w4 h4o h4g h4b h4s => ?_)
    · match j, hj with
      | 0, hj => cases hj; rw [Addr.add_lit]; exact P3.out.cellAt (i := 0) rfl
      | j + 1, hj => simp at hj
    · simp at hu; subst hu; rfl
    have hm := Lib.hid (D3.out.name h4o h4g)
    have HA4 := Lib.hid hm.out.1
    have D4 := Lib.hid hm.out.2.2.2
    have S4 := Lib.hid (KP.out _ hm.out.2.2.1 hm.out.2.1)
    clear hm h4o h4g h4b h4s
    refine hK.out _ _ S4.out (fun hHw3 => ?_)
    clear hK K hHw2
    try simp only [Act.put, List.setIfInBounds_toArray, List.set_cons_zero, List.set_cons_succ]
    refine wpAnyH_take (i := 9) (oi := { dst := some 57, op := Op.fieldAddr 26 (Operand.tmp 7) 3, type := 0, pos := "ref.go:21", after := #[{ on := 0, ground := Ground.phase }, { on := 1, ground := Ground.phase }, { on := 2, ground := Ground.phase }, { on := 3, ground := Ground.phase }, { on := 4, ground := Ground.phase }, { on := 5, ground := Ground.phase }, { on := 6, ground := Ground.phase }, { on := 7, ground := Ground.phase }, { on := 8, ground := Ground.phase }], guard := none }) (v := .pointer (some ⟨X, 3, none⟩)) rfl (by kernel_rfl) (by kernel_rfl) (by kernel_rfl) (fun _ _ _ h => HP.out _ _ _ _ h)
      (Or.inl ⟨by rfl, by intro w hSw;  clear hSw; go_simp⟩) hHw3 ?_
    try simp only [Act.put, List.setIfInBounds_toArray, List.set_cons_zero, List.set_cons_succ]
    refine wpAnyH_ready (rs := [10]) (by kernel_rfl) (by simp) ?_
    refine AllReadyH.cons (o := { dst := none, op := Op.store 23 (Operand.tmp 57) (Operand.tmp 56), type := 0, pos := "ref.go:21", after := #[{ on := 9, ground := Ground.data }, { on := 8, ground := Ground.data }, { on := 8, ground := Ground.chain }, { on := 0, ground := Ground.phase }, { on := 1, ground := Ground.phase }, { on := 2, ground := Ground.phase }, { on := 3, ground := Ground.phase }, { on := 4, ground := Ground.phase }, { on := 5, ground := Ground.phase }, { on := 6, ground := Ground.phase }, { on := 7, ground := Ground.phase }, { on := 8, ground := Ground.phase }], guard := none }) rfl (fun K hK => ?_) AllReadyH.nil
    have cx := HA4.out.cellAt (i := 3) rfl
    have cf := HA4.out.frozen 3
    go_simp
    clear cx cf
    refine hK.out _ _ (KP.out _ D4.out.low D4.out.bel) (fun hHw4 => ?_)
    clear hK K hHw3
    try simp only [Act.put]
    refine wpAnyH_done (by kernel_rfl) ?_ _
    clear hHw4
    exact HKK.out _ _ _ _ D4.out

set_option maxRecDepth 100000 in
set_option maxHeartbeats 8000000 in
theorem wth_kd {F : List Nat} {w w1 v : World} {X A b off i n cn : Nat} {P : List ByteArray} {Q : List T} {vn vk : Value} (hD : WDir F w w1 X P Q vn vk v) (h3 : w1.cell? ⟨A, 4, none⟩ = some (.slice (some ⟨b, off, none⟩) n cn)) (hA : A < X) (hb : b < w.heap.size) (hi : i < n) (hn : n ≤ 4096) (hP : Q.length ≤ 4096) {c0 c1 c2 c3 c4 : Value} {t : T} {m : Nat} (ht : Sta F w m [c0, c1, c2, c3, c4] t) (hs : w.rangeAt b (off + i * 5) [c0, c1, c2, c3, c4])
    {u0 u1 u2 u4 u5 u6 u8 u10 u11 u12 u13 u14 u15 u16 u17 u18 u19 u20 u21 u22 u23 u24 u25 u26 u27 u28 u29 u30 u31 u32 u33 u34 u35 u36 u37 u38 u39 u40 u41 u42 u43 u44 u45 u46 u47 u48 u49 u50 u51 u52 u53 u54 u55 u56 u57 u58 u59 u60 u61 u62 u63 u64 u65 u66 u67 u68 u69 u70 u71 u72 u73 u74 u75 u76 u77 u78 u79 u80 u81 u82 : Value} {K : Exit → Act → World → Prop} (hp : ∀ c (a : Act) ts w, K (.panic c) { a with tmps := ts } w → K (.panic c) a w)
    (hk : ∀ (v' : World) (nb g cap : Nat), WDir F w w1 X P (Q ++ [t]) vn (.slice (some ⟨g, 0, none⟩) (Q.length + 1) cap) v' → K .normal ⟨#[u0, u1, u2, .pointer (some ⟨A, 0, none⟩), u4, u5, u6, .pointer (some ⟨X, 0, none⟩), u8, .int .i64 (i : Int), u10, u11, u12, u13, u14, u15, u16, u17, u18, u19, u20, u21, u22, u23, u24, u25, u26, u27, u28, u29, u30, u31, u32, u33, u34, u35, u36, u37, u38, u39, u40, u41, u42, u43, u44, u45, u46, u47, u48, u49, u50, u51, u52, u53, u54, u55, u56, u57, .pointer (some ⟨X, 4, none⟩), vk, .pointer (some ⟨A, 4, none⟩), .slice (some ⟨b, off, none⟩) n cn, .int .i64 (i : Int), .pointer (some ⟨b, off + i * 5, none⟩), .agg #[c0, c1, c2, c3, c4], .slice (some ⟨nb, 0, none⟩) 1 1, .slice (some ⟨g, 0, none⟩) (Q.length + 1) cap, .pointer (some ⟨X, 4, none⟩), u68, u69, u70, u71, u72, u73, u74, u75, u76, u77, u78, u79, u80, u81, u82], []⟩ v') :
    (Code.region 12 #[{ dst := some 58, op := Op.fieldAddr 26 (Operand.tmp 7) 4, type := 0, pos := "ref.go:22", after := #[], guard := none }, { dst := some 59, op := Op.load 24 (Operand.tmp 58), type := 24, pos := "ref.go:22", after := #[{ on := 0, ground := Ground.data }], guard := none }, { dst := some 60, op := Op.fieldAddr 26 (Operand.tmp 3) 4, type := 0, pos := "ref.go:22", after := #[], guard := none }, { dst := some 61, op := Op.load 24 (Operand.tmp 60), type := 24, pos := "ref.go:22", after := #[{ on := 2, ground := Ground.data }], guard := none }, { dst := some 62, op := Op.move (Operand.tmp 9), type := 3, pos := "ref.go:22", after := #[], guard := none }, { dst := some 63, op := Op.indexAddr 24 (Operand.tmp 61) (Operand.tmp 62), type := 0, pos := "ref.go:22", after := #[{ on := 3, ground := Ground.data }, { on := 4, ground := Ground.data }], guard := none }, { dst := some 64, op := Op.load 26 (Operand.tmp 63), type := 26, pos := "ref.go:22", after := #[{ on := 5, ground := Ground.data }], guard := none }, { dst := some 65, op := Op.buildSlice 24 1 #[(0, Operand.tmp 64)], type := 24, pos := "ref.go:22", after := #[{ on := 6, ground := Ground.data }], guard := none }, { dst := some 66, op := Op.call { callee := Callee.builtin Builtin.append, args := #[Operand.tmp 59, Operand.tmp 65], argTypes := #[24, 24] }, type := 24, pos := "ref.go:22", after := #[{ on := 1, ground := Ground.data }, { on := 7, ground := Ground.data }], guard := none }, { dst := some 67, op := Op.fieldAddr 26 (Operand.tmp 7) 4, type := 0, pos := "ref.go:22", after := #[{ on := 0, ground := Ground.phase }, { on := 1, ground := Ground.phase }, { on := 2, ground := Ground.phase }, { on := 3, ground := Ground.phase }, { on := 4, ground := Ground.phase }, { on := 5, ground := Ground.phase }, { on := 6, ground := Ground.phase }, { on := 7, ground := Ground.phase }, { on := 8, ground := Ground.phase }], guard := none }, { dst := none, op := Op.store 24 (Operand.tmp 67) (Operand.tmp 66), type := 0, pos := "ref.go:22", after := #[{ on := 9, ground := Ground.data }, { on := 8, ground := Ground.data }, { on := 8, ground := Ground.chain }, { on := 0, ground := Ground.phase }, { on := 1, ground := Ground.phase }, { on := 2, ground := Ground.phase }, { on := 3, ground := Ground.phase }, { on := 4, ground := Ground.phase }, { on := 5, ground := Ground.phase }, { on := 6, ground := Ground.phase }, { on := 7, ground := Ground.phase }, { on := 8, ground := Ground.phase }], guard := none }] true).wp Tryd.prog K ⟨#[u0, u1, u2, .pointer (some ⟨A, 0, none⟩), u4, u5, u6, .pointer (some ⟨X, 0, none⟩), u8, .int .i64 (i : Int), u10, u11, u12, u13, u14, u15, u16, u17, u18, u19, u20, u21, u22, u23, u24, u25, u26, u27, u28, u29, u30, u31, u32, u33, u34, u35, u36, u37, u38, u39, u40, u41, u42, u43, u44, u45, u46, u47, u48, u49, u50, u51, u52, u53, u54, u55, u56, u57, u58, u59, u60, u61, u62, u63, u64, u65, u66, u67, u68, u69, u70, u71, u72, u73, u74, u75, u76, u77, u78, u79, u80, u81, u82], []⟩ v := by
  obtain ⟨i0, hi0, hz0, hz1, hz2⟩ := info_tree_parts
  have HI := Lib.hid hi0
  have HZ0 := Lib.hid hz0
  have HZ1 := Lib.hid hz1
  have HZ2 := Lib.hid hz2
  have KP : Hid (∀ Y, Below X w1 Y → Below w.heap.size w Y → Y.cell? ⟨A, 4, none⟩ = some (.slice (some ⟨b, off, none⟩) n cn) ∧ Y.rangeAt b (off + i * 5) [c0, c1, c2, c3, c4]) := Lib.hid (fun Y hY1 hY2 => ⟨(hY1.cell (p := ⟨A, 4, none⟩) hA).trans h3, (fun j x hx => (hY2.cell (p := ⟨b, off + i * 5 + j, none⟩) hb).trans (hs j x hx))⟩)
  have DD := Lib.hid hD
  have D0 := Lib.hid (hD.later (w' := v.drew) (Below.refl _ _).drew)
  have HPL := Lib.hid hP
  have HP := Lib.hid hp
  have HKK := Lib.hid hk
  have hki : (i : Int) < (n : Int) := by omega
  have hk0 : (0 : Int) ≤ (i : Int) := by omega
  have HONE := Lib.hid (isT_one ht.self)
  have HTT := Lib.hid ht
  have HU := Tryd.underlying26
  have HIL : Hid ((Tryd.prog.info? 26).map (·.size) = some ([c0, c1, c2, c3, c4] : List Value).length) := Lib.hid (infoL rfl)
  obtain ⟨LK, N0, hLK, hst⟩ := hD.kids
  have HLK0 := Lib.hid hLK
  have HST := Lib.hid hst
  clear ht hLK hst
  clear hD h3 hA hb hP hs hi0 hz0 hz1 hz2 hp hk hn
  refine wp_region_held_drew (S := fun Y => Y.cell? ⟨A, 4, none⟩ = some (.slice (some ⟨b, off, none⟩) n cn) ∧ Y.rangeAt b (off + i * 5) [c0, c1, c2, c3, c4]) (by kernel_rfl) (KP.out _ D0.out.low D0.out.bel) (fun hHeld => ?_)
  obtain ⟨v0, hv0⟩ : ∃ v0, v0 = v.drew := ⟨_, rfl⟩
  rw [← hv0] at D0 hHeld ⊢
  have LK0 : Hid (v0.ownsRow (X + 1) 26 5 vk Q.length LK) := Lib.hid (by rw [hv0]; exact owns_stay HLK0.out (fun q hq => (Below.refl v.heap.size v).drew.block q (HLK0.out.lt q hq).2))
  clear HLK0
  clear hv0
  refine wpAnyH_take (i := 0) (oi := { dst := some 58, op := Op.fieldAddr 26 (Operand.tmp 7) 4, type := 0, pos := "ref.go:22", after := #[], guard := none }) (v := .pointer (some ⟨X, 4, none⟩)) rfl (by kernel_rfl) (by kernel_rfl) (by kernel_rfl) (fun _ _ _ h => HP.out _ _ _ _ h)
    (Or.inl ⟨by rfl, by intro w hSw;  clear hSw; go_simp⟩) hHeld ?_
  try simp only [Act.put, List.setIfInBounds_toArray, List.set_cons_zero, List.set_cons_succ]
  refine wpAnyH_take (i := 2) (oi := { dst := some 60, op := Op.fieldAddr 26 (Operand.tmp 3) 4, type := 0, pos := "ref.go:22", after := #[], guard := none }) (v := .pointer (some ⟨A, 4, none⟩)) rfl (by kernel_rfl) (by kernel_rfl) (by kernel_rfl) (fun _ _ _ h => HP.out _ _ _ _ h)
    (Or.inl ⟨by rfl, by intro w hSw;  clear hSw; go_simp⟩) hHeld ?_
  try simp only [Act.put, List.setIfInBounds_toArray, List.set_cons_zero, List.set_cons_succ]
  refine wpAnyH_take (i := 3) (oi := { dst := some 61, op := Op.load 24 (Operand.tmp 60), type := 24, pos := "ref.go:22", after := #[{ on := 2, ground := Ground.data }], guard := none }) (v := .slice (some ⟨b, off, none⟩) n cn) rfl (by kernel_rfl) (by kernel_rfl) (by kernel_rfl) (fun _ _ _ h => HP.out _ _ _ _ h)
    (Or.inl ⟨by rfl, by intro w hSw; have hq := hSw.1; clear hSw; go_simp⟩) hHeld ?_
  try simp only [Act.put, List.setIfInBounds_toArray, List.set_cons_zero, List.set_cons_succ]
  refine wpAnyH_take (i := 4) (oi := { dst := some 62, op := Op.move (Operand.tmp 9), type := 3, pos := "ref.go:22", after := #[], guard := none }) (v := .int .i64 (i : Int)) rfl (by kernel_rfl) (by kernel_rfl) (by kernel_rfl) (fun _ _ _ h => HP.out _ _ _ _ h)
    (Or.inl ⟨by rfl, by intro w hSw;  clear hSw; go_simp⟩) hHeld ?_
  try simp only [Act.put, List.setIfInBounds_toArray, List.set_cons_zero, List.set_cons_succ]
  refine wpAnyH_take (i := 5) (oi := { dst := some 63, op := Op.indexAddr 24 (Operand.tmp 61) (Operand.tmp 62), type := 0, pos := "ref.go:22", after := #[{ on := 3, ground := Ground.data }, { on := 4, ground := Ground.data }], guard := none }) (v := .pointer (some ⟨b, off + i * 5, none⟩)) rfl (by kernel_rfl) (by kernel_rfl) (by kernel_rfl) (fun _ _ _ h => HP.out _ _ _ _ h)
    (Or.inl ⟨by rfl, by intro w hSw;  clear hSw; go_simp⟩) hHeld ?_
  try simp only [Act.put, List.setIfInBounds_toArray, List.set_cons_zero, List.set_cons_succ]
  refine wpAnyH_take (i := 6) (oi := { dst := some 64, op := Op.load 26 (Operand.tmp 63), type := 26, pos := "ref.go:22", after := #[{ on := 5, ground := Ground.data }], guard := none }) rfl (by kernel_rfl) (by kernel_rfl) (by kernel_rfl) (fun _ _ _ h => HP.out _ _ _ _ h)
    (yieldsIf_load_mid (by rfl) 26 (.tmp 63) rfl b (off + i * 5) rfl [c0, c1, c2, c3, c4] _ (fun _ h => h.2) HU rfl HIL.out) hHeld ?_
  try simp only [Act.put, List.setIfInBounds_toArray, List.set_cons_zero, List.set_cons_succ]
  refine wpAnyH_ready (rs := [1, 7]) (by kernel_rfl) (by simp) ?_
  refine AllReadyH.cons (o := { dst := some 59, op := Op.load 24 (Operand.tmp 58), type := 24, pos := "ref.go:22", after := #[{ on := 0, ground := Ground.data }], guard := none }) rfl (fun K hK => ?_) (AllReadyH.cons (o := { dst := some 65, op := Op.buildSlice 24 1 #[(0, Operand.tmp 64)], type := 24, pos := "ref.go:22", after := #[{ on := 6, ground := Ground.data }], guard := none }) rfl (fun K hK => ?_) AllReadyH.nil)
  · have cx := D0.out.box.cellAt (i := 4) rfl
    go_simp
    clear cx
    refine hK.out _ _ (KP.out _ D0.out.low D0.out.bel) (fun hHw1 => ?_)
    clear hK K hHeld
    try simp only [Act.put, List.setIfInBounds_toArray, List.set_cons_zero, List.set_cons_succ]
    refine wpAnyH_ready (rs := [7]) (by kernel_rfl) (by simp) ?_
    refine AllReadyH.cons (o := { dst := some 65, op := Op.buildSlice 24 1 #[(0, Operand.tmp 64)], type := 24, pos := "ref.go:22", after := #[{ on := 6, ground := Ground.data }], guard := none }) rfl (fun K hK => ?_) AllReadyH.nil
    go_simp
    obtain ⟨w3, hw3⟩ : ∃ w3, w3 = v0.alloc (.cells #[c0, c1, c2, c3, c4] 26) := ⟨_, rfl⟩
    have b3 : Below v0.heap.size v0 w3 := by rw [hw3]; exact (Below.refl _ _).alloc (Nat.le_refl _) _
    have P3 : Hid (Has w3 v0.heap.size [c0, c1, c2, c3, c4] 26) := Lib.hid (by rw [hw3]; exact Has.new v0 _ _)
    have D3 := Lib.hid (D0.out.later b3)
    have LK3 : Hid (w3.ownsRow (X + 1) 26 5 vk Q.length LK) := Lib.hid (owns_stay LK0.out (fun q hq => b3.block q (LK0.out.lt q hq).2))
    have s3 : w3.heap.size = v0.heap.size + 1 := by rw [hw3]; simp
    have S3 := Lib.hid s3
    rw [← hw3]
    clear hw3 b3 s3
    refine hK.out _ _ (KP.out _ D3.out.low D3.out.bel) (fun hHw2 => ?_)
    clear hK K hHw1
    try simp only [Act.put, List.setIfInBounds_toArray, List.set_cons_zero, List.set_cons_succ]
    refine wpAnyH_ready (rs := [8]) (by kernel_rfl) (by simp) ?_
    refine AllReadyH.cons (o := { dst := some 66, op := Op.call { callee := Callee.builtin Builtin.append, args := #[Operand.tmp 59, Operand.tmp 65], argTypes := #[24, 24] }, type := 24, pos := "ref.go:22", after := #[{ on := 1, ground := Ground.data }, { on := 7, ground := Ground.data }], guard := none }) rfl (fun K hK => ?_) AllReadyH.nil
    rw [if_pos (by rfl)]
    refine wp_append_lies _ (.tmp 59) (.tmp 65) 24 rfl (X + 1) 26 i0 (.agg #[.int .u8 0, .bool false, .slice none 0 0, .slice none 0 0, .slice none 0 0]) 5 80 Tryd.underlying24 HI.out HZ0.out HZ1.out HZ2.out rfl (by omega) vk Q.length LK rfl LK3.out ⟨v0.heap.size, 0, none⟩ 1 1 [c0, c1, c2, c3, c4] rfl rfl (fun j u hj => ?_) (fun u hu => ?_) (by have := HPL.out; omega) (by unfold maxLen; have := HPL.out; omega) (by have := HPL.out; omega) D3.out.box.lt w3.heap.size rfl (fun ga capa w4 h4o h4g h4b h4s => ?_)
    · match j, hj with
      | 0, hj => cases hj; rw [Addr.add_lit]; exact P3.out.cellAt (i := 0) rfl
      | 1, hj => cases hj; rw [Addr.add_lit]; exact P3.out.cellAt (i := 1) rfl
      | 2, hj => cases hj; rw [Addr.add_lit]; exact P3.out.cellAt (i := 2) rfl
      | 3, hj => cases hj; rw [Addr.add_lit]; exact P3.out.cellAt (i := 3) rfl
      | 4, hj => cases hj; rw [Addr.add_lit]; exact P3.out.cellAt (i := 4) rfl
      | j + 5, hj => simp at hj
    · exact (Array.all_eq_true_iff_forall_mem.1 HONE.out) u (by simpa using hu)
    have hm := Lib.hid (D3.out.kid LK3.out HST.out HTT.out h4o h4g)
    have HA4 := Lib.hid hm.out.1
    have D4 := Lib.hid hm.out.2.2.2
    have S4 := Lib.hid (KP.out _ hm.out.2.2.1 hm.out.2.1)
    clear hm h4o h4g h4b h4s
    refine hK.out _ _ S4.out (fun hHw3 => ?_)
    clear hK K hHw2
    try simp only [Act.put, List.setIfInBounds_toArray, List.set_cons_zero, List.set_cons_succ]
    refine wpAnyH_take (i := 9) (oi := { dst := some 67, op := Op.fieldAddr 26 (Operand.tmp 7) 4, type := 0, pos := "ref.go:22", after := #[{ on := 0, ground := Ground.phase }, { on := 1, ground := Ground.phase }, { on := 2, ground := Ground.phase }, { on := 3, ground := Ground.phase }, { on := 4, ground := Ground.phase }, { on := 5, ground := Ground.phase }, { on := 6, ground := Ground.phase }, { on := 7, ground := Ground.phase }, { on := 8, ground := Ground.phase }], guard := none }) (v := .pointer (some ⟨X, 4, none⟩)) rfl (by kernel_rfl) (by kernel_rfl) (by kernel_rfl) (fun _ _ _ h => HP.out _ _ _ _ h)
      (Or.inl ⟨by rfl, by intro w hSw;  clear hSw; go_simp⟩) hHw3 ?_
    try simp only [Act.put, List.setIfInBounds_toArray, List.set_cons_zero, List.set_cons_succ]
    refine wpAnyH_ready (rs := [10]) (by kernel_rfl) (by simp) ?_
    refine AllReadyH.cons (o := { dst := none, op := Op.store 24 (Operand.tmp 67) (Operand.tmp 66), type := 0, pos := "ref.go:22", after := #[{ on := 9, ground := Ground.data }, { on := 8, ground := Ground.data }, { on := 8, ground := Ground.chain }, { on := 0, ground := Ground.phase }, { on := 1, ground := Ground.phase }, { on := 2, ground := Ground.phase }, { on := 3, ground := Ground.phase }, { on := 4, ground := Ground.phase }, { on := 5, ground := Ground.phase }, { on := 6, ground := Ground.phase }, { on := 7, ground := Ground.phase }, { on := 8, ground := Ground.phase }], guard := none }) rfl (fun K hK => ?_) AllReadyH.nil
    have cx := HA4.out.cellAt (i := 4) rfl
    have cf := HA4.out.frozen 4
    go_simp
    clear cx cf
    refine hK.out _ _ (KP.out _ D4.out.low D4.out.bel) (fun hHw4 => ?_)
    clear hK K hHw3
    try simp only [Act.put]
    refine wpAnyH_done (by kernel_rfl) ?_ _
    clear hHw4
    exact HKK.out _ _ _ _ D4.out
  · go_simp
    obtain ⟨w3, hw3⟩ : ∃ w3, w3 = v0.alloc (.cells #[c0, c1, c2, c3, c4] 26) := ⟨_, rfl⟩
    have b3 : Below v0.heap.size v0 w3 := by rw [hw3]; exact (Below.refl _ _).alloc (Nat.le_refl _) _
    have P3 : Hid (Has w3 v0.heap.size [c0, c1, c2, c3, c4] 26) := Lib.hid (by rw [hw3]; exact Has.new v0 _ _)
    have D3 := Lib.hid (D0.out.later b3)
    have LK3 : Hid (w3.ownsRow (X + 1) 26 5 vk Q.length LK) := Lib.hid (owns_stay LK0.out (fun q hq => b3.block q (LK0.out.lt q hq).2))
    have s3 : w3.heap.size = v0.heap.size + 1 := by rw [hw3]; simp
    have S3 := Lib.hid s3
    rw [← hw3]
    clear hw3 b3 s3
    refine hK.out _ _ (KP.out _ D3.out.low D3.out.bel) (fun hHw1 => ?_)
    clear hK K hHeld
    try simp only [Act.put, List.setIfInBounds_toArray, List.set_cons_zero, List.set_cons_succ]
    refine wpAnyH_ready (rs := [1]) (by kernel_rfl) (by simp) ?_
    refine AllReadyH.cons (o := { dst := some 59, op := Op.load 24 (Operand.tmp 58), type := 24, pos := "ref.go:22", after := #[{ on := 0, ground := Ground.data }], guard := none }) rfl (fun K hK => ?_) AllReadyH.nil
    have cx := D3.out.box.cellAt (i := 4) rfl
    go_simp
    clear cx
    refine hK.out _ _ (KP.out _ D3.out.low D3.out.bel) (fun hHw2 => ?_)
    clear hK K hHw1
    try simp only [Act.put, List.setIfInBounds_toArray, List.set_cons_zero, List.set_cons_succ]
    refine wpAnyH_ready (rs := [8]) (by kernel_rfl) (by simp) ?_
    refine AllReadyH.cons (o := { dst := some 66, op := Op.call { callee := Callee.builtin Builtin.append, args := #[Operand.tmp 59, Operand.tmp 65], argTypes := #[24, 24] }, type := 24, pos := "ref.go:22", after := #[{ on := 1, ground := Ground.data }, { on := 7, ground := Ground.data }], guard := none }) rfl (fun K hK => ?_) AllReadyH.nil
    rw [if_pos (by rfl)]
    refine wp_append_lies _ (.tmp 59) (.tmp 65) 24 rfl (X + 1) 26 i0 (.agg #[.int .u8 0, .bool false, .slice none 0 0, .slice none 0 0, .slice none 0 0]) 5 80 Tryd.underlying24 HI.out HZ0.out HZ1.out HZ2.out rfl (by omega) vk Q.length LK rfl LK3.out ⟨v0.heap.size, 0, none⟩ 1 1 [c0, c1, c2, c3, c4] rfl rfl (fun j u hj => ?_) (fun u hu => ?_) (by have := HPL.out; omega) (by unfold maxLen; have := HPL.out; omega) (by have := HPL.out; omega) D3.out.box.lt w3.heap.size rfl (fun ga capa w4 h4o h4g h4b h4s => ?_)
    · match j, hj with
      | 0, hj => cases hj; rw [Addr.add_lit]; exact P3.out.cellAt (i := 0) rfl
      | 1, hj => cases hj; rw [Addr.add_lit]; exact P3.out.cellAt (i := 1) rfl
      | 2, hj => cases hj; rw [Addr.add_lit]; exact P3.out.cellAt (i := 2) rfl
      | 3, hj => cases hj; rw [Addr.add_lit]; exact P3.out.cellAt (i := 3) rfl
      | 4, hj => cases hj; rw [Addr.add_lit]; exact P3.out.cellAt (i := 4) rfl
      | j + 5, hj => simp at hj
    · exact (Array.all_eq_true_iff_forall_mem.1 HONE.out) u (by simpa using hu)
    have hm := Lib.hid (D3.out.kid LK3.out HST.out HTT.out h4o h4g)
    have HA4 := Lib.hid hm.out.1
    have D4 := Lib.hid hm.out.2.2.2
    have S4 := Lib.hid (KP.out _ hm.out.2.2.1 hm.out.2.1)
    clear hm h4o h4g h4b h4s
    refine hK.out _ _ S4.out (fun hHw3 => ?_)
    clear hK K hHw2
    try simp only [Act.put, List.setIfInBounds_toArray, List.set_cons_zero, List.set_cons_succ]
    refine wpAnyH_take (i := 9) (oi := { dst := some 67, op := Op.fieldAddr 26 (Operand.tmp 7) 4, type := 0, pos := "ref.go:22", after := #[{ on := 0, ground := Ground.phase }, { on := 1, ground := Ground.phase }, { on := 2, ground := Ground.phase }, { on := 3, ground := Ground.phase }, { on := 4, ground := Ground.phase }, { on := 5, ground := Ground.phase }, { on := 6, ground := Ground.phase }, { on := 7, ground := Ground.phase }, { on := 8, ground := Ground.phase }], guard := none }) (v := .pointer (some ⟨X, 4, none⟩)) rfl (by kernel_rfl) (by kernel_rfl) (by kernel_rfl) (fun _ _ _ h => HP.out _ _ _ _ h)
      (Or.inl ⟨by rfl, by intro w hSw;  clear hSw; go_simp⟩) hHw3 ?_
    try simp only [Act.put, List.setIfInBounds_toArray, List.set_cons_zero, List.set_cons_succ]
    refine wpAnyH_ready (rs := [10]) (by kernel_rfl) (by simp) ?_
    refine AllReadyH.cons (o := { dst := none, op := Op.store 24 (Operand.tmp 67) (Operand.tmp 66), type := 0, pos := "ref.go:22", after := #[{ on := 9, ground := Ground.data }, { on := 8, ground := Ground.data }, { on := 8, ground := Ground.chain }, { on := 0, ground := Ground.phase }, { on := 1, ground := Ground.phase }, { on := 2, ground := Ground.phase }, { on := 3, ground := Ground.phase }, { on := 4, ground := Ground.phase }, { on := 5, ground := Ground.phase }, { on := 6, ground := Ground.phase }, { on := 7, ground := Ground.phase }, { on := 8, ground := Ground.phase }], guard := none }) rfl (fun K hK => ?_) AllReadyH.nil
    have cx := HA4.out.cellAt (i := 4) rfl
    have cf := HA4.out.frozen 4
    go_simp
    clear cx cf
    refine hK.out _ _ (KP.out _ D4.out.low D4.out.bel) (fun hHw4 => ?_)
    clear hK K hHw3
    try simp only [Act.put]
    refine wpAnyH_done (by kernel_rfl) ?_ _
    clear hHw4
    exact HKK.out _ _ _ _ D4.out

end Go.Proofs.YtbempgdndmchlaaDoor

namespace Go.Proofs.YtbempgdndmchlaaDoor
open Go.RowKit
set_option linter.unusedVariables false

set_option maxRecDepth 100000 in
set_option maxHeartbeats 8000000 in
theorem wth_pn7 {F : List Nat} {w w1 v : World} {X : Nat} {P : List ByteArray} {Q : List T} {vn vk : Value} {s : ByteArray} (hD : WDir F w w1 X P Q vn vk v) (hP : P.length ≤ 4096)
    {u0 u2 u3 u4 u5 u6 u8 u9 u10 u11 u12 u13 u14 u15 u16 u17 u18 u19 u20 u21 u22 u23 u24 u25 u26 u27 u28 u29 u30 u31 u32 u33 u34 u35 u36 u37 u38 u39 u40 u41 u42 u43 u44 u45 u46 u47 u48 u49 u50 u51 u52 u53 u54 u55 u56 u57 u58 u59 u60 u61 u62 u63 u64 u65 u66 u67 u68 u69 u70 u71 u72 u73 u74 u75 u76 u77 u78 u79 u80 u81 u82 : Value} {K : Exit → Act → World → Prop}
    (hk : ∀ (v' : World) (nb g cap : Nat), WDir F w w1 X (P ++ [s]) Q (.slice (some ⟨g, 0, none⟩) (P.length + 1) cap) vk v' → K .normal ⟨#[u0, .string s, u2, u3, u4, u5, u6, .pointer (some ⟨X, 0, none⟩), u8, u9, u10, u11, u12, u13, u14, u15, u16, u17, u18, u19, u20, u21, u22, u23, u24, u25, u26, u27, u28, .pointer (some ⟨X, 3, none⟩), vn, .string s, .slice (some ⟨nb, 0, none⟩) 1 1, .slice (some ⟨g, 0, none⟩) (P.length + 1) cap, .pointer (some ⟨X, 3, none⟩), u35, u36, u37, u38, u39, u40, u41, u42, u43, u44, u45, u46, u47, u48, u49, u50, u51, u52, u53, u54, u55, u56, u57, u58, u59, u60, u61, u62, u63, u64, u65, u66, u67, u68, u69, u70, u71, u72, u73, u74, u75, u76, u77, u78, u79, u80, u81, u82], []⟩ v') :
    (Code.region 7 #[{ dst := some 29, op := Op.fieldAddr 26 (Operand.tmp 7) 3, type := 0, pos := "ref.go:16", after := #[], guard := none }, { dst := some 30, op := Op.load 23 (Operand.tmp 29), type := 23, pos := "ref.go:16", after := #[{ on := 0, ground := Ground.data }], guard := none }, { dst := some 31, op := Op.move (Operand.tmp 1), type := 9, pos := "ref.go:16", after := #[], guard := none }, { dst := some 32, op := Op.buildSlice 23 1 #[(0, Operand.tmp 31)], type := 23, pos := "ref.go:16", after := #[{ on := 2, ground := Ground.data }], guard := none }, { dst := some 33, op := Op.call { callee := Callee.builtin Builtin.append, args := #[Operand.tmp 30, Operand.tmp 32], argTypes := #[23, 23] }, type := 23, pos := "ref.go:16", after := #[{ on := 1, ground := Ground.data }, { on := 3, ground := Ground.data }], guard := none }, { dst := some 34, op := Op.fieldAddr 26 (Operand.tmp 7) 3, type := 0, pos := "ref.go:16", after := #[{ on := 0, ground := Ground.phase }, { on := 1, ground := Ground.phase }, { on := 2, ground := Ground.phase }, { on := 3, ground := Ground.phase }, { on := 4, ground := Ground.phase }], guard := none }, { dst := none, op := Op.store 23 (Operand.tmp 34) (Operand.tmp 33), type := 0, pos := "ref.go:16", after := #[{ on := 5, ground := Ground.data }, { on := 4, ground := Ground.data }, { on := 4, ground := Ground.chain }, { on := 0, ground := Ground.phase }, { on := 1, ground := Ground.phase }, { on := 2, ground := Ground.phase }, { on := 3, ground := Ground.phase }, { on := 4, ground := Ground.phase }], guard := none }] false).wp Tryd.prog K ⟨#[u0, .string s, u2, u3, u4, u5, u6, .pointer (some ⟨X, 0, none⟩), u8, u9, u10, u11, u12, u13, u14, u15, u16, u17, u18, u19, u20, u21, u22, u23, u24, u25, u26, u27, u28, u29, u30, u31, u32, u33, u34, u35, u36, u37, u38, u39, u40, u41, u42, u43, u44, u45, u46, u47, u48, u49, u50, u51, u52, u53, u54, u55, u56, u57, u58, u59, u60, u61, u62, u63, u64, u65, u66, u67, u68, u69, u70, u71, u72, u73, u74, u75, u76, u77, u78, u79, u80, u81, u82], []⟩ v := by
  obtain ⟨i0, hi0, hz0, hz1, hz2⟩ := info_str_parts
  have HI := Lib.hid hi0
  have HZ0 := Lib.hid hz0
  have HZ1 := Lib.hid hz1
  have HZ2 := Lib.hid hz2
  have HPL := Lib.hid hP
  have HKK := Lib.hid hk
  have hc3 := hD.box.cellAt (i := 3) rfl
  have HXL : Hid (X + 1 ≤ v.heap.size + 1) := Lib.hid (by have := hD.box.lt; omega)
  obtain ⟨w3, hw3⟩ : ∃ x, x = v.alloc (.cells #[.string s] 9) := ⟨_, rfl⟩
  have P3 : Hid (Has w3 v.heap.size [.string s] 9) := Lib.hid (by rw [hw3]; exact Has.new v [.string s] _)
  have D3 := Lib.hid (hD.later (w' := w3) (by rw [hw3]; exact (Below.refl _ _).alloc (Nat.le_refl _) _))
  have HW3 := Lib.hid hw3
  clear hi0 hz0 hz1 hz2 hP hk hD hw3
  go_wp2_with (at_builtin; go_must (refine wpList_append_lies _ rfl (.tmp 30) (.tmp 32) 23 rfl (X + 1) 9 i0 (.string ByteArray.empty) 1 16 Tryd.underlying23 HI.out HZ0.out HZ1.out HZ2.out rfl (by omega) vn P.length (P.map Value.string) rfl (by rw [← HW3.out]; exact D3.out.names) ⟨v.heap.size, 0, none⟩ 1 1 [.string s] rfl rfl ?a1 ?a2 (by have := HPL.out; omega) (by unfold maxLen; have := HPL.out; omega) (by have := HPL.out; omega) ?a3 _ rfl ?d7))
  try (case a1 =>
    intro j u hj
    match j, hj with
    | 0, hj => cases hj; rw [Addr.add_lit, ← HW3.out]; exact P3.out.cellAt (i := 0) rfl
    | j + 1, hj => simp at hj)
  case a2 => first | rfl | (intro u hu; simp at hu; subst hu; rfl)
  case a3 => have := HXL.out; first | omega | (simp; omega)
  intro ga capa w4 ho hg hlo hhi
  rw [← HW3.out] at hg
  have hm := D3.out.name ho hg
  have c6 := hm.1.cellAt (i := 3) rfl
  have f6 := hm.1.frozen 3
  have D4 := Lib.hid hm.2.2.2
  clear hm ho hg hlo hhi hc3
  go_wp2_with fail
  exact HKK.out _ _ _ _ D4.out

set_option maxRecDepth 100000 in
set_option maxHeartbeats 8000000 in
theorem wth_pk8 {F : List Nat} {w w1 v : World} {X B m : Nat} {P : List ByteArray} {Q : List T} {vn vk c0 c1 c2 c3 c4 : Value} {t : T} (hD : WDir F w w1 X P Q vn vk v) (hP : Q.length ≤ 4096) (hB : Has w1 B [c0, c1, c2, c3, c4] 26) (hBX : B < X) (ht : Sta F w m [c0, c1, c2, c3, c4] t)
    {u0 u1 u2 u3 u4 u6 u8 u9 u10 u11 u12 u13 u14 u15 u16 u17 u18 u19 u20 u21 u22 u23 u24 u25 u26 u27 u28 u29 u30 u31 u32 u33 u34 u35 u36 u37 u38 u39 u40 u41 u42 u43 u44 u45 u46 u47 u48 u49 u50 u51 u52 u53 u54 u55 u56 u57 u58 u59 u60 u61 u62 u63 u64 u65 u66 u67 u68 u69 u70 u71 u72 u73 u74 u75 u76 u77 u78 u79 u80 u81 u82 : Value} {K : Exit → Act → World → Prop}
    (hk : ∀ (v' : World) (nb g cap : Nat), WDir F w w1 X P (Q ++ [t]) vn (.slice (some ⟨g, 0, none⟩) (Q.length + 1) cap) v' → K .normal ⟨#[u0, u1, u2, u3, u4, .pointer (some ⟨B, 0, none⟩), u6, .pointer (some ⟨X, 0, none⟩), u8, u9, u10, u11, u12, u13, u14, u15, u16, u17, u18, u19, u20, u21, u22, u23, u24, u25, u26, u27, u28, u29, u30, u31, u32, u33, u34, .pointer (some ⟨X, 4, none⟩), vk, .agg #[c0, c1, c2, c3, c4], .slice (some ⟨nb, 0, none⟩) 1 1, .slice (some ⟨g, 0, none⟩) (Q.length + 1) cap, .pointer (some ⟨X, 4, none⟩), u41, u42, u43, u44, u45, u46, u47, u48, u49, u50, u51, u52, u53, u54, u55, u56, u57, u58, u59, u60, u61, u62, u63, u64, u65, u66, u67, u68, u69, u70, u71, u72, u73, u74, u75, u76, u77, u78, u79, u80, u81, u82], []⟩ v') :
    (Code.region 8 #[{ dst := some 35, op := Op.fieldAddr 26 (Operand.tmp 7) 4, type := 0, pos := "ref.go:17", after := #[], guard := none }, { dst := some 36, op := Op.load 24 (Operand.tmp 35), type := 24, pos := "ref.go:17", after := #[{ on := 0, ground := Ground.data }], guard := none }, { dst := some 37, op := Op.load 26 (Operand.tmp 5), type := 26, pos := "ref.go:17", after := #[], guard := none }, { dst := some 38, op := Op.buildSlice 24 1 #[(0, Operand.tmp 37)], type := 24, pos := "ref.go:17", after := #[{ on := 2, ground := Ground.data }], guard := none }, { dst := some 39, op := Op.call { callee := Callee.builtin Builtin.append, args := #[Operand.tmp 36, Operand.tmp 38], argTypes := #[24, 24] }, type := 24, pos := "ref.go:17", after := #[{ on := 1, ground := Ground.data }, { on := 3, ground := Ground.data }], guard := none }, { dst := some 40, op := Op.fieldAddr 26 (Operand.tmp 7) 4, type := 0, pos := "ref.go:17", after := #[{ on := 0, ground := Ground.phase }, { on := 1, ground := Ground.phase }, { on := 2, ground := Ground.phase }, { on := 3, ground := Ground.phase }, { on := 4, ground := Ground.phase }], guard := none }, { dst := none, op := Op.store 24 (Operand.tmp 40) (Operand.tmp 39), type := 0, pos := "ref.go:17", after := #[{ on := 5, ground := Ground.data }, { on := 4, ground := Ground.data }, { on := 4, ground := Ground.chain }, { on := 0, ground := Ground.phase }, { on := 1, ground := Ground.phase }, { on := 2, ground := Ground.phase }, { on := 3, ground := Ground.phase }, { on := 4, ground := Ground.phase }], guard := none }] false).wp Tryd.prog K ⟨#[u0, u1, u2, u3, u4, .pointer (some ⟨B, 0, none⟩), u6, .pointer (some ⟨X, 0, none⟩), u8, u9, u10, u11, u12, u13, u14, u15, u16, u17, u18, u19, u20, u21, u22, u23, u24, u25, u26, u27, u28, u29, u30, u31, u32, u33, u34, u35, u36, u37, u38, u39, u40, u41, u42, u43, u44, u45, u46, u47, u48, u49, u50, u51, u52, u53, u54, u55, u56, u57, u58, u59, u60, u61, u62, u63, u64, u65, u66, u67, u68, u69, u70, u71, u72, u73, u74, u75, u76, u77, u78, u79, u80, u81, u82], []⟩ v := by
  obtain ⟨i0, hi0, hz0, hz1, hz2⟩ := info_tree_parts
  have HI := Lib.hid hi0
  have HZ0 := Lib.hid hz0
  have HZ1 := Lib.hid hz1
  have HZ2 := Lib.hid hz2
  have HPL := Lib.hid hP
  have HKK := Lib.hid hk
  have HONE := Lib.hid (isT_one ht.self)
  have HTT := Lib.hid ht
  have hc4 := hD.box.cellAt (i := 4) rfl
  have hBv : Has v B [c0, c1, c2, c3, c4] 26 := (hD.low.block B hBX).trans hB
  have hq0 := hBv.cellAt (i := 0) rfl
  have hq1 := hBv.cellAt (i := 1) rfl
  have hq2 := hBv.cellAt (i := 2) rfl
  have hq3 := hBv.cellAt (i := 3) rfl
  have hq4 := hBv.cellAt (i := 4) rfl
  have HXL : Hid (X + 1 ≤ v.heap.size + 1) := Lib.hid (by have := hD.box.lt; omega)
  obtain ⟨w3, hw3⟩ : ∃ x, x = v.alloc (.cells #[c0, c1, c2, c3, c4] 26) := ⟨_, rfl⟩
  have P3 : Hid (Has w3 v.heap.size [c0, c1, c2, c3, c4] 26) := Lib.hid (by rw [hw3]; exact Has.new v [c0, c1, c2, c3, c4] _)
  have D3 := Lib.hid (hD.later (w' := w3) (by rw [hw3]; exact (Below.refl _ _).alloc (Nat.le_refl _) _))
  have HW3 := Lib.hid hw3
  obtain ⟨LK, N0, hLK, hst⟩ := D3.out.kids
  have HLK := Lib.hid hLK
  have HST := Lib.hid hst
  clear hi0 hz0 hz1 hz2 hP hk hD hw3 hBv hLK hst ht hB hBX
  go_wp2_with (at_builtin; go_must (refine wpList_append_lies _ rfl (.tmp 36) (.tmp 38) 24 rfl (X + 1) 26 i0 (.agg #[.int .u8 0, .bool false, .slice none 0 0, .slice none 0 0, .slice none 0 0]) 5 80 Tryd.underlying24 HI.out HZ0.out HZ1.out HZ2.out rfl (by omega) vk Q.length LK rfl (by first | exact HLK.out | (rw [← HW3.out]; exact HLK.out)) ⟨v.heap.size, 0, none⟩ 1 1 [c0, c1, c2, c3, c4] rfl rfl ?a1 ?a2 (by have := HPL.out; omega) (by unfold maxLen; have := HPL.out; omega) (by have := HPL.out; omega) ?a3 _ rfl ?d7))
  try (case a1 =>
    intro j u hj
    try rw [← HW3.out]
    match j, hj with
    | 0, hj => cases hj; rw [Addr.add_lit]; exact P3.out.cellAt (i := 0) rfl
    | 1, hj => cases hj; rw [Addr.add_lit]; exact P3.out.cellAt (i := 1) rfl
    | 2, hj => cases hj; rw [Addr.add_lit]; exact P3.out.cellAt (i := 2) rfl
    | 3, hj => cases hj; rw [Addr.add_lit]; exact P3.out.cellAt (i := 3) rfl
    | 4, hj => cases hj; rw [Addr.add_lit]; exact P3.out.cellAt (i := 4) rfl
    | j + 5, hj => simp at hj)
  case a2 =>
    first
      | (intro u hu; exact (Array.all_eq_true_iff_forall_mem.1 HONE.out) u (by simpa using hu))
      | (have h := HONE.out; simpa using h)
      | (have h := HONE.out; simp [and_assoc] at h; exact h)
  case a3 => have := HXL.out; first | omega | (simp; omega)
  intro ga capa w4 ho hg hlo hhi
  try rw [← HW3.out] at hg
  have hm := D3.out.kid HLK.out HST.out HTT.out ho hg
  have c6 := hm.1.cellAt (i := 4) rfl
  have f6 := hm.1.frozen 4
  have D4 := Lib.hid hm.2.2.2
  clear hm ho hg hlo hhi hc4 hq0 hq1 hq2 hq3 hq4
  go_wp2_with fail
  exact HKK.out _ _ _ _ D4.out

set_option maxRecDepth 100000 in
set_option maxHeartbeats 8000000 in
theorem wth_pn14 {F : List Nat} {w w1 v : World} {X : Nat} {P : List ByteArray} {Q : List T} {vn vk : Value} {s : ByteArray} (hD : WDir F w w1 X P Q vn vk v) (hP : P.length ≤ 4096)
    {u0 u2 u3 u4 u5 u6 u8 u9 u10 u11 u12 u13 u14 u15 u16 u17 u18 u19 u20 u21 u22 u23 u24 u25 u26 u27 u28 u29 u30 u31 u32 u33 u34 u35 u36 u37 u38 u39 u40 u41 u42 u43 u44 u45 u46 u47 u48 u49 u50 u51 u52 u53 u54 u55 u56 u57 u58 u59 u60 u61 u62 u63 u64 u65 u66 u67 u68 u69 u70 u71 u72 u73 u74 u75 u76 u77 u78 u79 u80 u81 u82 : Value} {K : Exit → Act → World → Prop}
    (hk : ∀ (v' : World) (nb g cap : Nat), WDir F w w1 X (P ++ [s]) Q (.slice (some ⟨g, 0, none⟩) (P.length + 1) cap) vk v' → K .normal ⟨#[u0, .string s, u2, u3, u4, u5, u6, .pointer (some ⟨X, 0, none⟩), u8, u9, u10, u11, u12, u13, u14, u15, u16, u17, u18, u19, u20, u21, u22, u23, u24, u25, u26, u27, u28, u29, u30, u31, u32, u33, u34, u35, u36, u37, u38, u39, u40, u41, u42, u43, u44, u45, u46, u47, u48, u49, u50, u51, u52, u53, u54, u55, u56, u57, u58, u59, u60, u61, u62, u63, u64, u65, u66, u67, u68, u69, .pointer (some ⟨X, 3, none⟩), vn, .string s, .slice (some ⟨nb, 0, none⟩) 1 1, .slice (some ⟨g, 0, none⟩) (P.length + 1) cap, .pointer (some ⟨X, 3, none⟩), u76, u77, u78, u79, u80, u81, u82], []⟩ v') :
    (Code.region 14 #[{ dst := some 70, op := Op.fieldAddr 26 (Operand.tmp 7) 3, type := 0, pos := "ref.go:26", after := #[], guard := none }, { dst := some 71, op := Op.load 23 (Operand.tmp 70), type := 23, pos := "ref.go:26", after := #[{ on := 0, ground := Ground.data }], guard := none }, { dst := some 72, op := Op.move (Operand.tmp 1), type := 9, pos := "ref.go:26", after := #[], guard := none }, { dst := some 73, op := Op.buildSlice 23 1 #[(0, Operand.tmp 72)], type := 23, pos := "ref.go:26", after := #[{ on := 2, ground := Ground.data }], guard := none }, { dst := some 74, op := Op.call { callee := Callee.builtin Builtin.append, args := #[Operand.tmp 71, Operand.tmp 73], argTypes := #[23, 23] }, type := 23, pos := "ref.go:26", after := #[{ on := 1, ground := Ground.data }, { on := 3, ground := Ground.data }], guard := none }, { dst := some 75, op := Op.fieldAddr 26 (Operand.tmp 7) 3, type := 0, pos := "ref.go:26", after := #[{ on := 0, ground := Ground.phase }, { on := 1, ground := Ground.phase }, { on := 2, ground := Ground.phase }, { on := 3, ground := Ground.phase }, { on := 4, ground := Ground.phase }], guard := none }, { dst := none, op := Op.store 23 (Operand.tmp 75) (Operand.tmp 74), type := 0, pos := "ref.go:26", after := #[{ on := 5, ground := Ground.data }, { on := 4, ground := Ground.data }, { on := 4, ground := Ground.chain }, { on := 0, ground := Ground.phase }, { on := 1, ground := Ground.phase }, { on := 2, ground := Ground.phase }, { on := 3, ground := Ground.phase }, { on := 4, ground := Ground.phase }], guard := none }] false).wp Tryd.prog K ⟨#[u0, .string s, u2, u3, u4, u5, u6, .pointer (some ⟨X, 0, none⟩), u8, u9, u10, u11, u12, u13, u14, u15, u16, u17, u18, u19, u20, u21, u22, u23, u24, u25, u26, u27, u28, u29, u30, u31, u32, u33, u34, u35, u36, u37, u38, u39, u40, u41, u42, u43, u44, u45, u46, u47, u48, u49, u50, u51, u52, u53, u54, u55, u56, u57, u58, u59, u60, u61, u62, u63, u64, u65, u66, u67, u68, u69, u70, u71, u72, u73, u74, u75, u76, u77, u78, u79, u80, u81, u82], []⟩ v := by
  obtain ⟨i0, hi0, hz0, hz1, hz2⟩ := info_str_parts
  have HI := Lib.hid hi0
  have HZ0 := Lib.hid hz0
  have HZ1 := Lib.hid hz1
  have HZ2 := Lib.hid hz2
  have HPL := Lib.hid hP
  have HKK := Lib.hid hk
  have hc3 := hD.box.cellAt (i := 3) rfl
  have HXL : Hid (X + 1 ≤ v.heap.size + 1) := Lib.hid (by have := hD.box.lt; omega)
  obtain ⟨w3, hw3⟩ : ∃ x, x = v.alloc (.cells #[.string s] 9) := ⟨_, rfl⟩
  have P3 : Hid (Has w3 v.heap.size [.string s] 9) := Lib.hid (by rw [hw3]; exact Has.new v [.string s] _)
  have D3 := Lib.hid (hD.later (w' := w3) (by rw [hw3]; exact (Below.refl _ _).alloc (Nat.le_refl _) _))
  have HW3 := Lib.hid hw3
  clear hi0 hz0 hz1 hz2 hP hk hD hw3
  go_wp2_with (at_builtin; go_must (refine wpList_append_lies _ rfl (.tmp 71) (.tmp 73) 23 rfl (X + 1) 9 i0 (.string ByteArray.empty) 1 16 Tryd.underlying23 HI.out HZ0.out HZ1.out HZ2.out rfl (by omega) vn P.length (P.map Value.string) rfl (by rw [← HW3.out]; exact D3.out.names) ⟨v.heap.size, 0, none⟩ 1 1 [.string s] rfl rfl ?a1 ?a2 (by have := HPL.out; omega) (by unfold maxLen; have := HPL.out; omega) (by have := HPL.out; omega) ?a3 _ rfl ?d7))
  try (case a1 =>
    intro j u hj
    match j, hj with
    | 0, hj => cases hj; rw [Addr.add_lit, ← HW3.out]; exact P3.out.cellAt (i := 0) rfl
    | j + 1, hj => simp at hj)
  case a2 => first | rfl | (intro u hu; simp at hu; subst hu; rfl)
  case a3 => have := HXL.out; first | omega | (simp; omega)
  intro ga capa w4 ho hg hlo hhi
  rw [← HW3.out] at hg
  have hm := D3.out.name ho hg
  have c6 := hm.1.cellAt (i := 3) rfl
  have f6 := hm.1.frozen 3
  have D4 := Lib.hid hm.2.2.2
  clear hm ho hg hlo hhi hc3
  go_wp2_with fail
  exact HKK.out _ _ _ _ D4.out

set_option maxRecDepth 100000 in
set_option maxHeartbeats 8000000 in
theorem wth_pk15 {F : List Nat} {w w1 v : World} {X B m : Nat} {P : List ByteArray} {Q : List T} {vn vk c0 c1 c2 c3 c4 : Value} {t : T} (hD : WDir F w w1 X P Q vn vk v) (hP : Q.length ≤ 4096) (hB : Has w1 B [c0, c1, c2, c3, c4] 26) (hBX : B < X) (ht : Sta F w m [c0, c1, c2, c3, c4] t)
    {u0 u1 u2 u3 u4 u6 u8 u9 u10 u11 u12 u13 u14 u15 u16 u17 u18 u19 u20 u21 u22 u23 u24 u25 u26 u27 u28 u29 u30 u31 u32 u33 u34 u35 u36 u37 u38 u39 u40 u41 u42 u43 u44 u45 u46 u47 u48 u49 u50 u51 u52 u53 u54 u55 u56 u57 u58 u59 u60 u61 u62 u63 u64 u65 u66 u67 u68 u69 u70 u71 u72 u73 u74 u75 u76 u77 u78 u79 u80 u81 u82 : Value} {K : Exit → Act → World → Prop}
    (hk : ∀ (v' : World) (nb g cap : Nat), WDir F w w1 X P (Q ++ [t]) vn (.slice (some ⟨g, 0, none⟩) (Q.length + 1) cap) v' → K .normal ⟨#[u0, u1, u2, u3, u4, .pointer (some ⟨B, 0, none⟩), u6, .pointer (some ⟨X, 0, none⟩), u8, u9, u10, u11, u12, u13, u14, u15, u16, u17, u18, u19, u20, u21, u22, u23, u24, u25, u26, u27, u28, u29, u30, u31, u32, u33, u34, u35, u36, u37, u38, u39, u40, u41, u42, u43, u44, u45, u46, u47, u48, u49, u50, u51, u52, u53, u54, u55, u56, u57, u58, u59, u60, u61, u62, u63, u64, u65, u66, u67, u68, u69, u70, u71, u72, u73, u74, u75, .pointer (some ⟨X, 4, none⟩), vk, .agg #[c0, c1, c2, c3, c4], .slice (some ⟨nb, 0, none⟩) 1 1, .slice (some ⟨g, 0, none⟩) (Q.length + 1) cap, .pointer (some ⟨X, 4, none⟩), u82], []⟩ v') :
    (Code.region 15 #[{ dst := some 76, op := Op.fieldAddr 26 (Operand.tmp 7) 4, type := 0, pos := "ref.go:27", after := #[], guard := none }, { dst := some 77, op := Op.load 24 (Operand.tmp 76), type := 24, pos := "ref.go:27", after := #[{ on := 0, ground := Ground.data }], guard := none }, { dst := some 78, op := Op.load 26 (Operand.tmp 5), type := 26, pos := "ref.go:27", after := #[], guard := none }, { dst := some 79, op := Op.buildSlice 24 1 #[(0, Operand.tmp 78)], type := 24, pos := "ref.go:27", after := #[{ on := 2, ground := Ground.data }], guard := none }, { dst := some 80, op := Op.call { callee := Callee.builtin Builtin.append, args := #[Operand.tmp 77, Operand.tmp 79], argTypes := #[24, 24] }, type := 24, pos := "ref.go:27", after := #[{ on := 1, ground := Ground.data }, { on := 3, ground := Ground.data }], guard := none }, { dst := some 81, op := Op.fieldAddr 26 (Operand.tmp 7) 4, type := 0, pos := "ref.go:27", after := #[{ on := 0, ground := Ground.phase }, { on := 1, ground := Ground.phase }, { on := 2, ground := Ground.phase }, { on := 3, ground := Ground.phase }, { on := 4, ground := Ground.phase }], guard := none }, { dst := none, op := Op.store 24 (Operand.tmp 81) (Operand.tmp 80), type := 0, pos := "ref.go:27", after := #[{ on := 5, ground := Ground.data }, { on := 4, ground := Ground.data }, { on := 4, ground := Ground.chain }, { on := 0, ground := Ground.phase }, { on := 1, ground := Ground.phase }, { on := 2, ground := Ground.phase }, { on := 3, ground := Ground.phase }, { on := 4, ground := Ground.phase }], guard := none }] false).wp Tryd.prog K ⟨#[u0, u1, u2, u3, u4, .pointer (some ⟨B, 0, none⟩), u6, .pointer (some ⟨X, 0, none⟩), u8, u9, u10, u11, u12, u13, u14, u15, u16, u17, u18, u19, u20, u21, u22, u23, u24, u25, u26, u27, u28, u29, u30, u31, u32, u33, u34, u35, u36, u37, u38, u39, u40, u41, u42, u43, u44, u45, u46, u47, u48, u49, u50, u51, u52, u53, u54, u55, u56, u57, u58, u59, u60, u61, u62, u63, u64, u65, u66, u67, u68, u69, u70, u71, u72, u73, u74, u75, u76, u77, u78, u79, u80, u81, u82], []⟩ v := by
  obtain ⟨i0, hi0, hz0, hz1, hz2⟩ := info_tree_parts
  have HI := Lib.hid hi0
  have HZ0 := Lib.hid hz0
  have HZ1 := Lib.hid hz1
  have HZ2 := Lib.hid hz2
  have HPL := Lib.hid hP
  have HKK := Lib.hid hk
  have HONE := Lib.hid (isT_one ht.self)
  have HTT := Lib.hid ht
  have hc4 := hD.box.cellAt (i := 4) rfl
  have hBv : Has v B [c0, c1, c2, c3, c4] 26 := (hD.low.block B hBX).trans hB
  have hq0 := hBv.cellAt (i := 0) rfl
  have hq1 := hBv.cellAt (i := 1) rfl
  have hq2 := hBv.cellAt (i := 2) rfl
  have hq3 := hBv.cellAt (i := 3) rfl
  have hq4 := hBv.cellAt (i := 4) rfl
  have HXL : Hid (X + 1 ≤ v.heap.size + 1) := Lib.hid (by have := hD.box.lt; omega)
  obtain ⟨w3, hw3⟩ : ∃ x, x = v.alloc (.cells #[c0, c1, c2, c3, c4] 26) := ⟨_, rfl⟩
  have P3 : Hid (Has w3 v.heap.size [c0, c1, c2, c3, c4] 26) := Lib.hid (by rw [hw3]; exact Has.new v [c0, c1, c2, c3, c4] _)
  have D3 := Lib.hid (hD.later (w' := w3) (by rw [hw3]; exact (Below.refl _ _).alloc (Nat.le_refl _) _))
  have HW3 := Lib.hid hw3
  obtain ⟨LK, N0, hLK, hst⟩ := D3.out.kids
  have HLK := Lib.hid hLK
  have HST := Lib.hid hst
  clear hi0 hz0 hz1 hz2 hP hk hD hw3 hBv hLK hst ht hB hBX
  go_wp2_with (at_builtin; go_must (refine wpList_append_lies _ rfl (.tmp 77) (.tmp 79) 24 rfl (X + 1) 26 i0 (.agg #[.int .u8 0, .bool false, .slice none 0 0, .slice none 0 0, .slice none 0 0]) 5 80 Tryd.underlying24 HI.out HZ0.out HZ1.out HZ2.out rfl (by omega) vk Q.length LK rfl (by first | exact HLK.out | (rw [← HW3.out]; exact HLK.out)) ⟨v.heap.size, 0, none⟩ 1 1 [c0, c1, c2, c3, c4] rfl rfl ?a1 ?a2 (by have := HPL.out; omega) (by unfold maxLen; have := HPL.out; omega) (by have := HPL.out; omega) ?a3 _ rfl ?d7))
  try (case a1 =>
    intro j u hj
    try rw [← HW3.out]
    match j, hj with
    | 0, hj => cases hj; rw [Addr.add_lit]; exact P3.out.cellAt (i := 0) rfl
    | 1, hj => cases hj; rw [Addr.add_lit]; exact P3.out.cellAt (i := 1) rfl
    | 2, hj => cases hj; rw [Addr.add_lit]; exact P3.out.cellAt (i := 2) rfl
    | 3, hj => cases hj; rw [Addr.add_lit]; exact P3.out.cellAt (i := 3) rfl
    | 4, hj => cases hj; rw [Addr.add_lit]; exact P3.out.cellAt (i := 4) rfl
    | j + 5, hj => simp at hj)
  case a2 =>
    first
      | (intro u hu; exact (Array.all_eq_true_iff_forall_mem.1 HONE.out) u (by simpa using hu))
      | (have h := HONE.out; simpa using h)
      | (have h := HONE.out; simp [and_assoc] at h; exact h)
  case a3 => have := HXL.out; first | omega | (simp; omega)
  intro ga capa w4 ho hg hlo hhi
  try rw [← HW3.out] at hg
  have hm := D3.out.kid HLK.out HST.out HTT.out ho hg
  have c6 := hm.1.cellAt (i := 4) rfl
  have f6 := hm.1.frozen 4
  have D4 := Lib.hid hm.2.2.2
  clear hm ho hg hlo hhi hc4 hq0 hq1 hq2 hq3 hq4
  go_wp2_with fail
  exact HKK.out _ _ _ _ D4.out

end Go.Proofs.YtbempgdndmchlaaDoor

namespace Go.Proofs.YtbempgdndmchlaaDoor
open Go.RowKit
set_option linter.unusedVariables false

theorem dirC_five (vn vk : Value) : (dirC vn vk).length = 5 := rfl
theorem dirC_one {F : List Nat} {w w1 wr : World} {X : Nat} {ns : List ByteArray} {ks : List T} {vn vk : Value} (h : WDir F w w1 X ns ks vn vk wr) : (dirC vn vk).toArray.all (·.oneCell') = true := by
  obtain ⟨n, hT⟩ := h.isT
  exact isT_one hT
/-- A row ahead of the box is written over. -/
theorem WDir.setRow {F : List Nat} {w w1 wr : World} {X : Nat} {ns : List ByteArray} {ks : List T} {vn vk : Value} (h : WDir F w w1 X ns ks vn vk wr) {A : Nat} (hA : A < X) (hw : w.heap.size ≤ A) (cs : Array Value) : WDir F w (wr.setRow A cs) X ns ks vn vk (wr.setRow A cs) := by
  obtain ⟨LK, N, hk, hst⟩ := h.kids
  refine ⟨below_setRow h.bel hw _, Below.refl _ _, h.at_, (setRow_other _ _ _ _ (by omega)).trans h.box, owns_stay h.names (fun g hg => setRow_other _ _ _ _ (by have := (h.names.lt g hg).1; omega)), ⟨LK, N, owns_stay hk (fun g hg => setRow_other _ _ _ _ (by have := (hk.lt g hg).1; omega)), hst⟩, h.own⟩

set_option maxRecDepth 100000 in
set_option maxHeartbeats 8000000 in
theorem without_any (F : List Nat) (n : Nat) (cs : List Value) (kd : UInt8) (x : Bool) (d : List UInt8) (ns : List ByteArray) (ks : List T) (nm : ByteArray) (w : World) (hF : ∀ g ∈ F, g < w.heap.size) (ht : Sta F w n cs (.mk kd x d ns ks)) (hl : ns.length = ks.length) (hm : ns.length ≤ 4096) :
    Calls Tryd.prog 49 #[.agg cs.toArray, .string nm] w fun e w' => (∃ m vs, e = .returned (.agg vs.toArray) ∧ Sta F w' m vs (.mk 3 false [] (wouN nm ns ks ns.length).1 (wouN nm ns ks ns.length).2)) ∧ Below w.heap.size w w' := by
  cases n with
  | zero => exact absurd ht.self (by simp [IsT])
  | succ n =>
  obtain ⟨ad, nd, cd, an, nn, cn, ak, nk, ck, rfl, hB, hS, hK⟩ := ht.self
  obtain rfl : nn = ns.length := hS.length.symm
  obtain rfl : nk = ks.length := hK.length.symm
  obtain ⟨i0, hi, hz0, hz1, hz2⟩ := info_str_parts
  obtain ⟨i1, hi1, hz3, hz4, hz5⟩ := info_tree_parts
  have HS := Lib.hid hS
  have HTS := Lib.hid ht
  have HFF := Lib.hid hF
  have HI := Lib.hid hi
  have HZ0 := Lib.hid hz0
  have HZ1 := Lib.hid hz1
  have HZ2 := Lib.hid hz2
  have HI1 := Lib.hid hi1
  have HZ3 := Lib.hid hz3
  have HZ4 := Lib.hid hz4
  have HZ5 := Lib.hid hz5
  have HL := Lib.hid hl
  have HM := Lib.hid hm
  clear ht hF hB hS hK hi hz0 hz1 hz2 hi1 hz3 hz4 hz5 hl hm
  go_enter Tryd.func49, Tryd.ntmps49
  go_upto_region 2 with fail
  obtain ⟨CD, hCD⟩ : ∃ L : List Value, L = [.int .u8 (kd.toNat : Int), .bool x, .slice ad nd cd, .slice an ns.length cn, .slice ak ks.length ck] := ⟨_, rfl⟩
  obtain ⟨w1, hw1⟩ : ∃ w1, w1 = ((w.alloc (.cells #[.int .u8 (kd.toNat : Int), .bool x, .slice ad nd cd, .slice an ns.length cn, .slice ak ks.length ck] 26)).alloc (.cells #[.int .u8 0, .bool false, .slice none 0 0, .slice none 0 0, .slice none 0 0] 26)).alloc (.cells #[.int .u8 3, .bool false, .slice none 0 0, .slice none 0 0, .slice none 0 0] 26) := ⟨_, rfl⟩
  obtain ⟨p1, hp1⟩ : ∃ p, p = w.alloc (.cells #[.int .u8 (kd.toNat : Int), .bool x, .slice ad nd cd, .slice an ns.length cn, .slice ak ks.length ck] 26) := ⟨_, rfl⟩
  obtain ⟨p2, hp2⟩ : ∃ p, p = p1.alloc (.cells #[.int .u8 0, .bool false, .slice none 0 0, .slice none 0 0, .slice none 0 0] 26) := ⟨_, rfl⟩
  have hq : w1 = p2.alloc (.cells (dirC (.slice none 0 0) (.slice none 0 0)).toArray 26) := by rw [hw1, hp2, hp1]; rfl
  have s1 : p1.heap.size = w.heap.size + 1 := by rw [hp1]; simp
  have s2 : p2.heap.size = w.heap.size + 1 + 1 := by rw [hp2]; simp [s1]
  have b1 : Below w.heap.size w w1 := by
    have e1 : Below w.heap.size w p1 := by rw [hp1]; exact (Below.refl _ _).alloc (Nat.le_refl _) _
    have e2 : Below w.heap.size w p2 := by rw [hp2]; exact e1.alloc (by omega) _
    rw [hq]; exact e2.alloc (by omega) _
  have gA : Has w1 w.heap.size CD 26 := by
    have e1 : Has p1 w.heap.size CD 26 := by rw [hp1, hCD]; exact Has.new w _ _
    have e2 : Has p2 w.heap.size CD 26 := by rw [hp2]; exact e1.alloc _
    rw [hq]; exact e2.alloc _
  have gR : Has w1 (w.heap.size + 1) [.int .u8 0, .bool false, .slice none 0 0, .slice none 0 0, .slice none 0 0] 26 := by
    have e2 : Has p2 (w.heap.size + 1) [.int .u8 0, .bool false, .slice none 0 0, .slice none 0 0, .slice none 0 0] 26 := by rw [hp2, ← s1]; exact Has.new p1 _ _
    rw [hq]; exact e2.alloc _
  have gX : Has w1 (w.heap.size + 1 + 1) (dirC (.slice none 0 0) (.slice none 0 0)) 26 := by rw [hq, ← s2]; exact Has.new p2 _ _
  clear hq s1 s2 hp1 hp2
  have GA := Lib.hid gA
  have GR := Lib.hid gR
  have D0 : Hid (WDir F w w1 (w.heap.size + 1 + 1) [] [] (.slice none 0 0) (.slice none 0 0) w1) := Lib.hid ⟨b1, Below.refl _ _, by omega, gX, World.ownsRow_nil _ _ _ _, ⟨[], 0, World.ownsRow_nil _ _ _ _, fun i hi => by simp at hi⟩, HFF.out⟩
  have HCD := Lib.hid hCD
  rw [← hw1]
  clear gA gR gX hCD b1 hw1
  go_wp2_with fail
  go_loopw [6] (fun ii wr => ∃ i : Nat, i ≤ ns.length ∧ ii = .int .i64 i ∧ ∃ vn vk, WDir F w w1 (w.heap.size + 1 + 1) (wouN nm ns ks i).1 (wouN nm ns ks i).2 vn vk wr) (fun ii _ => ns.length - (intOf ii).toNat)
  case atStart => exact ⟨0, Nat.zero_le _, rfl, _, _, D0.out⟩
  case round =>
    obtain ⟨i, hi, rfl, vn, vk, hD⟩ := hrel
    have HD := Lib.hid hD
    have c3 : wr.cell? ⟨w.heap.size, 3, none⟩ = some (.slice an ns.length cn) := (hD.low.cell (p := ⟨w.heap.size, 3, none⟩) (by show w.heap.size < w.heap.size + 1 + 1; omega)).trans (by
      have h := GA.out
      rw [HCD.out] at h
      exact h.cellAt (i := 3) rfl)
    clear hD
    by_cases hlt : i < ns.length
    · rcases HS.out.at_ with h0 | ⟨b, off, rfl, hb, hc⟩
      · omega
      obtain ⟨s, hs⟩ : ∃ s, s = ns.getD i ⟨#[]⟩ := ⟨_, rfl⟩
      have hcw : w.cell? ⟨b, off + i, none⟩ = some (.string s) := by rw [hs]; exact hc i hlt
      have hci : wr.cell? ⟨b, off + i, none⟩ = some (.string s) := (HD.out.bel.cell (p := ⟨b, off + i, none⟩) hb).trans hcw
      have HW2 := Lib.hid (wou_len nm ns ks (i + 1))
      have HW1 := Lib.hid (wou_len nm ns ks i)
      have hki : (i : Int) < (ns.length : Int) := by omega
      have hk0 : (0 : Int) ≤ (i : Int) := by omega
      have hni : (i : Int) + 1 ≤ 9223372036854775807 := by have := HM.out; omega
      have HSS := Lib.hid hs
      have HBL := Lib.hid hb
      have CW := Lib.hid hcw
      have HLT := Lib.hid hlt
      clear hs hb hc hcw
      by_cases hsn : s = nm
      · have HEQ : Hid (wouN nm ns ks (i + 1) = wouN nm ns ks i) := Lib.hid (by rw [wouN, if_neg (by rw [← HSS.out]; exact fun h => h hsn)])
        subst hsn
        go_wp2_with fail
        go_roundw
        case rel => exact ⟨i + 1, HLT.out, by go_num, vn, vk, by rw [HEQ.out]; exact HD.out⟩
        case measure => have := HLT.out; simp [intOf]; omega
      · have h1 : (s.toList == nm.toList) = false := by rw [Lib.bytes_beq_false_iff]; exact hsn
        have HEQ : Hid (wouN nm ns ks (i + 1) = ((wouN nm ns ks i).1 ++ [s], (wouN nm ns ks i).2 ++ [ks.getD i default])) := Lib.hid (by rw [wouN, if_pos (by rw [← HSS.out]; exact hsn), HSS.out])
        rw [HEQ.out] at HW2
        obtain ⟨P, hP⟩ : ∃ P, P = (wouN nm ns ks i).1 := ⟨_, rfl⟩
        obtain ⟨Q, hQ⟩ : ∃ Q, Q = (wouN nm ns ks i).2 := ⟨_, rfl⟩
        rw [← hP, ← hQ] at HD HW1 HW2 HEQ
        clear hP hQ
        have C3 : Hid (w1.cell? ⟨w.heap.size, 3, none⟩ = some (.slice (some ⟨b, off, none⟩) ns.length cn)) := Lib.hid (by
          have h := GA.out
          rw [HCD.out] at h
          exact h.cellAt (i := 3) rfl)
        have hki : i < ks.length := by rw [← HL.out]; exact HLT.out
        obtain ⟨kb, ko, e0, e1, e2, e3, e4, rfl, hkb, hrange, hR⟩ := HTS.out.kid hki
        have C4 : Hid (w1.cell? ⟨w.heap.size, 4, none⟩ = some (.slice (some ⟨kb, ko, none⟩) ks.length ck)) := Lib.hid (by
          have h := GA.out
          rw [HCD.out] at h
          exact h.cellAt (i := 4) rfl)
        have HRG := Lib.hid hrange
        have HR := Lib.hid hR
        have HKB := Lib.hid hkb
        have HKI := Lib.hid hki
        clear hrange hR hkb hki
        go_upto_region 6 with fail
        refine wou_nm HD.out C3.out (by omega) HBL.out HLT.out HM.out (by have := HW1.out; have := HM.out; have := HLT.out; omega) CW.out (fun _ _ _ _ h => h) (fun v2 nb g cap hD2 => ?_)
        have HD2 := Lib.hid hD2
        clear hD2 c3 hci
        go_upto_region 7 with fail
        refine wou_kd HD2.out C4.out (by omega) HKB.out HKI.out (by rw [← HL.out]; exact HM.out) (by have := HW1.out; have := HM.out; have := HLT.out; omega) HR.out HRG.out (fun _ _ _ _ h => h) (fun v3 nb3 g3 cap3 hD3 => ?_)
        have HD3 := Lib.hid hD3
        clear hD3
        go_wp2_with fail
        go_roundw
        case rel => exact ⟨i + 1, HLT.out, by go_num, _, _, by rw [HEQ.out]; exact HD3.out⟩
        case measure => have := HLT.out; simp [intOf]; omega
    · obtain rfl : i = ns.length := by omega
      have hiL := infoL (dirC_five vn vk)
      have h1c := dirC_one HD.out
      have HIA := Lib.hid hiL
      have H1C := Lib.hid h1c
      have R8 : Hid (wr.heap[w.heap.size + 1]? = some (.cells #[.int .u8 0, .bool false, .slice none 0 0, .slice none 0 0, .slice none 0 0] 26 (0, 0))) := Lib.hid ((HD.out.low.block (w.heap.size + 1) (by omega)).trans GR.out)
      have BX : Hid (wr.heap[w.heap.size + 1 + 1]? = some (.cells (dirC vn vk).toArray 26 (0, 0))) := Lib.hid (show _ from HD.out.box)
      have D9 := Lib.hid (HD.out.setRow (A := w.heap.size + 1) (by omega) (by omega) (dirC vn vk).toArray)
      have HZ5 : Hid ((#[.int .u8 0, .bool false, .slice none 0 0, .slice none 0 0, .slice none 0 0] : Array Value).size = (dirC vn vk).toArray.size) := Lib.hid (by simp [dirC])
      clear hiL h1c
      go_wp2_with (first
        | (refine wpList_load_row rfl 26 _ rfl (w.heap.size + 1 + 1) rfl 26 (dirC vn vk).toArray (0, 0) _ BX.out Tryd.underlying26 rfl HIA.out ?_)
        | (refine wpList_store_row rfl 26 _ _ rfl (w.heap.size + 1) (dirC vn vk).toArray rfl rfl 26 _ R8.out HIA.out HZ5.out H1C.out ?_))
      refine bodyPost_ret (results_cell_row (fn := Tryd.f49) (p := 4) (ty := 26) Tryd.results49 _ _ (w.heap.size + 1) 26 (dirC vn vk).toArray (0, 0) _ rfl (setRow_heap _ _ _ _ _ _ R8.out) Tryd.underlying26 rfl HIA.out) rfl ?_
      obtain ⟨m, hm⟩ := D9.out.sta
      exact ⟨⟨m, _, rfl, hm⟩, D9.out.bel⟩

end Go.Proofs.YtbempgdndmchlaaDoor

namespace Go.Proofs.YtbempgdndmchlaaDoor
open Go.RowKit
set_option linter.unusedVariables false

theorem wth_len (nm : ByteArray) (k : T) (ns : List ByteArray) (ks : List T) : ∀ i, (wthN nm k ns ks i).1.length ≤ (if (wthN nm k ns ks i).2.2 then i + 1 else i) ∧ (wthN nm k ns ks i).2.1.length = (wthN nm k ns ks i).1.length
  | 0 => ⟨Nat.le_refl _, rfl⟩
  | i + 1 => by
    have ih := wth_len nm k ns ks i
    rw [wthN]
    obtain ⟨P, hP⟩ : ∃ P, P = wthN nm k ns ks i := ⟨_, rfl⟩
    rw [← hP] at ih ⊢
    obtain ⟨p1, p2, p3⟩ := P
    simp only at ih ⊢
    generalize ns.getD i ⟨#[]⟩ = s
    generalize ks.getD i default = kk
    cases p3 <;> cases Op.bytesLess s.toList nm.toList <;> by_cases hn : s = nm <;> simp [hn] at ih ⊢ <;> omega
theorem wth_len2 (nm : ByteArray) (k : T) (ns : List ByteArray) (ks : List T) (i : Nat) : (wthN nm k ns ks i).1.length ≤ i + 1 ∧ (wthN nm k ns ks i).2.1.length ≤ i + 1 := by
  have h := wth_len nm k ns ks i
  split at h <;> omega

set_option maxRecDepth 100000 in
set_option maxHeartbeats 20000000 in
theorem with_any (F : List Nat) (n : Nat) (cs : List Value) (kd : UInt8) (x : Bool) (d : List UInt8) (ns : List ByteArray) (ks : List T) (nm : ByteArray) (w : World) (hF : ∀ g ∈ F, g < w.heap.size) (ht : Sta F w n cs (.mk kd x d ns ks)) (hl : ns.length = ks.length) (hm : ns.length ≤ 4095) (m : Nat) (kc : List Value) (k : T) (hk : Sta F w m kc k) :
    Calls Tryd.prog 48 #[.agg cs.toArray, .string nm, .agg kc.toArray] w fun e w' => (∃ m vs, e = .returned (.agg vs.toArray) ∧ Sta F w' m vs (.mk 3 false [] (wthAll nm k ns ks).1 (wthAll nm k ns ks).2)) ∧ Below w.heap.size w w' := by
  cases n with
  | zero => exact absurd ht.self (by simp [IsT])
  | succ n =>
  obtain ⟨ad, nd, cd, an, nn, cn, ak, nk, ck, rfl, hB, hS, hK⟩ := ht.self
  obtain rfl : nn = ns.length := hS.length.symm
  obtain rfl : nk = ks.length := hK.length.symm
  have HTS := Lib.hid ht
  have HFF := Lib.hid hF
  have h5 := isT_five hk.self
  obtain ⟨c0, c1, c2, c3, c4, rfl⟩ := five_list h5
  have HS := Lib.hid hS
  have HL := Lib.hid hl
  have HM := Lib.hid hm
  have HKT := Lib.hid hk
  have HO1 := Lib.hid (isT_one hk.self)
  clear hB hS hK hl hm hk h5 ht hF
  go_enter Tryd.func48, Tryd.ntmps48
  go_upto_region 2 with fail
  obtain ⟨CD, hCD⟩ : ∃ L : List Value, L = [.int .u8 (kd.toNat : Int), .bool x, .slice ad nd cd, .slice an ns.length cn, .slice ak ks.length ck] := ⟨_, rfl⟩
  obtain ⟨w1, hw1⟩ : ∃ w1, w1 = (((w.alloc (.cells #[.int .u8 (kd.toNat : Int), .bool x, .slice ad nd cd, .slice an ns.length cn, .slice ak ks.length ck] 26)).alloc (.cells #[c0, c1, c2, c3, c4] 26)).alloc (.cells #[.int .u8 0, .bool false, .slice none 0 0, .slice none 0 0, .slice none 0 0] 26)).alloc (.cells #[.int .u8 3, .bool false, .slice none 0 0, .slice none 0 0, .slice none 0 0] 26) := ⟨_, rfl⟩
  obtain ⟨p1, hp1⟩ : ∃ p, p = w.alloc (.cells #[.int .u8 (kd.toNat : Int), .bool x, .slice ad nd cd, .slice an ns.length cn, .slice ak ks.length ck] 26) := ⟨_, rfl⟩
  obtain ⟨p2, hp2⟩ : ∃ p, p = p1.alloc (.cells #[c0, c1, c2, c3, c4] 26) := ⟨_, rfl⟩
  obtain ⟨p3, hp3⟩ : ∃ p, p = p2.alloc (.cells #[.int .u8 0, .bool false, .slice none 0 0, .slice none 0 0, .slice none 0 0] 26) := ⟨_, rfl⟩
  have hq : w1 = p3.alloc (.cells (dirC (.slice none 0 0) (.slice none 0 0)).toArray 26) := by rw [hw1, hp3, hp2, hp1]; rfl
  have s1 : p1.heap.size = w.heap.size + 1 := by rw [hp1]; simp
  have s2 : p2.heap.size = w.heap.size + 1 + 1 := by rw [hp2]; simp [s1]
  have s3 : p3.heap.size = w.heap.size + 1 + 1 + 1 := by rw [hp3]; simp [s2]
  have b1 : Below w.heap.size w w1 := by
    have e1 : Below w.heap.size w p1 := by rw [hp1]; exact (Below.refl _ _).alloc (Nat.le_refl _) _
    have e2 : Below w.heap.size w p2 := by rw [hp2]; exact e1.alloc (by omega) _
    have e3 : Below w.heap.size w p3 := by rw [hp3]; exact e2.alloc (by omega) _
    rw [hq]; exact e3.alloc (by omega) _
  have gA : Has w1 w.heap.size CD 26 := by
    have e1 : Has p1 w.heap.size CD 26 := by rw [hp1, hCD]; exact Has.new w _ _
    have e2 : Has p2 w.heap.size CD 26 := by rw [hp2]; exact e1.alloc _
    have e3 : Has p3 w.heap.size CD 26 := by rw [hp3]; exact e2.alloc _
    rw [hq]; exact e3.alloc _
  have gK : Has w1 (w.heap.size + 1) [c0, c1, c2, c3, c4] 26 := by
    have e2 : Has p2 (w.heap.size + 1) [c0, c1, c2, c3, c4] 26 := by rw [hp2, ← s1]; exact Has.new p1 _ _
    have e3 : Has p3 (w.heap.size + 1) [c0, c1, c2, c3, c4] 26 := by rw [hp3]; exact e2.alloc _
    rw [hq]; exact e3.alloc _
  have gR : Has w1 (w.heap.size + 1 + 1) [.int .u8 0, .bool false, .slice none 0 0, .slice none 0 0, .slice none 0 0] 26 := by
    have e3 : Has p3 (w.heap.size + 1 + 1) [.int .u8 0, .bool false, .slice none 0 0, .slice none 0 0, .slice none 0 0] 26 := by rw [hp3, ← s2]; exact Has.new p2 _ _
    rw [hq]; exact e3.alloc _
  have gX : Has w1 (w.heap.size + 1 + 1 + 1) (dirC (.slice none 0 0) (.slice none 0 0)) 26 := by rw [hq, ← s3]; exact Has.new p3 _ _
  clear hq s1 s2 s3 hp1 hp2 hp3
  have GA := Lib.hid gA
  have GK := Lib.hid gK
  have GR := Lib.hid gR
  have D0 : Hid (WDir F w w1 (w.heap.size + 1 + 1 + 1) [] [] (.slice none 0 0) (.slice none 0 0) w1) := Lib.hid ⟨b1, Below.refl _ _, by omega, gX, World.ownsRow_nil _ _ _ _, ⟨[], 0, World.ownsRow_nil _ _ _ _, fun i hi => by simp at hi⟩, HFF.out⟩
  have HCD := Lib.hid hCD
  rw [← hw1]
  clear gA gK gR gX hCD b1 hw1
  go_wp2_with fail
  go_loopw [8, 9] (fun aa ii wr => ∃ i : Nat, i ≤ ns.length ∧ ii = .int .i64 i ∧ aa = .bool (wthN nm k ns ks i).2.2 ∧ ∃ vn vk, WDir F w w1 (w.heap.size + 1 + 1 + 1) (wthN nm k ns ks i).1 (wthN nm k ns ks i).2.1 vn vk wr) (fun _ ii _ => ns.length - (intOf ii).toNat)
  case atStart => exact ⟨0, Nat.zero_le _, rfl, rfl, _, _, D0.out⟩
  case round =>
    obtain ⟨i, hi, rfl, rfl, vn, vk, hD⟩ := hrel
    have HD := Lib.hid hD
    have c3 : wr.cell? ⟨w.heap.size, 3, none⟩ = some (.slice an ns.length cn) := (hD.low.cell (p := ⟨w.heap.size, 3, none⟩) (by show w.heap.size < w.heap.size + 1 + 1 + 1; omega)).trans (by
      have h := GA.out
      rw [HCD.out] at h
      exact h.cellAt (i := 3) rfl)
    have HWL := Lib.hid (wth_len2 nm k ns ks i)
    clear hD D0
    by_cases hlt : i < ns.length
    · rcases HS.out.at_ with h0 | ⟨b, off, rfl, hb, hc⟩
      · omega
      have hki : i < ks.length := by rw [← HL.out]; exact hlt
      obtain ⟨kb, ko, e0, e1, e2, e3, e4, rfl, hkb, hrange, hR⟩ := HTS.out.kid hki
      obtain ⟨s, hs⟩ : ∃ s, s = ns.getD i ⟨#[]⟩ := ⟨_, rfl⟩
      have hcw : w.cell? ⟨b, off + i, none⟩ = some (.string s) := by rw [hs]; exact hc i hlt
      have hci : wr.cell? ⟨b, off + i, none⟩ = some (.string s) := (HD.out.bel.cell (p := ⟨b, off + i, none⟩) hb).trans hcw
      have C3 : Hid (w1.cell? ⟨w.heap.size, 3, none⟩ = some (.slice (some ⟨b, off, none⟩) ns.length cn)) := Lib.hid (by
        have h := GA.out
        rw [HCD.out] at h
        exact h.cellAt (i := 3) rfl)
      have C4 : Hid (w1.cell? ⟨w.heap.size, 4, none⟩ = some (.slice (some ⟨kb, ko, none⟩) ks.length ck)) := Lib.hid (by
        have h := GA.out
        rw [HCD.out] at h
        exact h.cellAt (i := 4) rfl)
      have HRG := Lib.hid hrange
      have HR := Lib.hid hR
      have HKB := Lib.hid hkb
      have HKI := Lib.hid hki
      have hii : (i : Int) < (ns.length : Int) := by omega
      have hk0 : (0 : Int) ≤ (i : Int) := by omega
      have hni : (i : Int) + 1 ≤ 9223372036854775807 := by have := HM.out; omega
      have HSS := Lib.hid hs
      have HBL := Lib.hid hb
      have CW := Lib.hid hcw
      have HLT := Lib.hid hlt
      have HSTEP : Hid (wthN nm k ns ks (i + 1) = (let q := if !(wthN nm k ns ks i).2.2 && !Op.bytesLess s.toList nm.toList then ((wthN nm k ns ks i).1 ++ [nm], (wthN nm k ns ks i).2.1 ++ [k], true) else wthN nm k ns ks i; if s ≠ nm then (q.1 ++ [s], q.2.1 ++ [ks.getD i default], q.2.2) else q)) := Lib.hid (by rw [HSS.out, wthN])
      clear hs hb hc hcw hrange hR hkb hki
      obtain ⟨A, hA⟩ : ∃ A, A = wthN nm k ns ks i := ⟨_, rfl⟩
      rw [← hA] at HD HWL HSTEP ⊢
      clear hA
      obtain ⟨P, Q, dn⟩ := A
      simp only at HD HWL HSTEP ⊢
      cases dn with
      | true =>
        by_cases hsn : s = nm
        · have h1 : (s.toList == nm.toList) = true := by rw [hsn]; exact beq_self_eq_true _
          have HEQ : Hid (wthN nm k ns ks (i + 1) = (P, Q, true)) := Lib.hid (by rw [HSTEP.out]; simp [hsn])
          clear hsn HSTEP
          go_wp2_with fail
          go_roundw
          case rel => exact ⟨i + 1, HLT.out, by go_num, by rw [HEQ.out], _, _, by rw [HEQ.out]; exact HD.out⟩
          case measure => have := HLT.out; simp [intOf]; omega
        · have h1 : (s.toList == nm.toList) = false := by rw [Lib.bytes_beq_false_iff]; exact hsn
          have HEQ : Hid (wthN nm k ns ks (i + 1) = (P ++ [s], Q ++ [ks.getD i default], true)) := Lib.hid (by rw [HSTEP.out]; simp [hsn])
          clear hsn HSTEP
          go_upto_region 11 with fail
          refine wth_nm HD.out C3.out (by omega) HBL.out HLT.out (by have := HM.out; omega) (by have := HWL.out; have := HM.out; have := HLT.out; (try simp only [List.length_append, List.length_singleton]); omega) CW.out (fun _ _ _ _ h => h) (fun v2 nb2 g2 cap2 hD2 => ?_)
          have HD2 := Lib.hid hD2
          clear hD2 c3 hci
          go_upto_region 12 with fail
          refine wth_kd HD2.out C4.out (by omega) HKB.out HKI.out (by rw [← HL.out]; have := HM.out; omega) (by have := HWL.out; have := HM.out; have := HLT.out; (try simp only [List.length_append, List.length_singleton]); omega) HR.out HRG.out (fun _ _ _ _ h => h) (fun v3 nb3 g3 cap3 hD3 => ?_)
          have HD3 := Lib.hid hD3
          clear hD3
          go_wp2_with fail
          go_roundw
          case rel => exact ⟨i + 1, HLT.out, by go_num, by rw [HEQ.out], _, _, by rw [HEQ.out]; exact HD3.out⟩
          case measure => have := HLT.out; simp [intOf]; omega
      | false =>
        cases hls : Op.bytesLess s.toList nm.toList with
        | true =>
          by_cases hsn : s = nm
          · have h1 : (s.toList == nm.toList) = true := by rw [hsn]; exact beq_self_eq_true _
            have HEQ : Hid (wthN nm k ns ks (i + 1) = (P, Q, false)) := Lib.hid (by rw [HSTEP.out, hls]; simp [hsn])
            clear hsn HSTEP
            go_wp2_with fail
            go_roundw
            case rel => exact ⟨i + 1, HLT.out, by go_num, by rw [HEQ.out], _, _, by rw [HEQ.out]; exact HD.out⟩
            case measure => have := HLT.out; simp [intOf]; omega
          · have h1 : (s.toList == nm.toList) = false := by rw [Lib.bytes_beq_false_iff]; exact hsn
            have HEQ : Hid (wthN nm k ns ks (i + 1) = (P ++ [s], Q ++ [ks.getD i default], false)) := Lib.hid (by rw [HSTEP.out, hls]; simp [hsn])
            clear hsn HSTEP
            go_upto_region 11 with fail
            refine wth_nm HD.out C3.out (by omega) HBL.out HLT.out (by have := HM.out; omega) (by have := HWL.out; have := HM.out; have := HLT.out; (try simp only [List.length_append, List.length_singleton]); omega) CW.out (fun _ _ _ _ h => h) (fun v2 nb2 g2 cap2 hD2 => ?_)
            have HD2 := Lib.hid hD2
            clear hD2 c3 hci
            go_upto_region 12 with fail
            refine wth_kd HD2.out C4.out (by omega) HKB.out HKI.out (by rw [← HL.out]; have := HM.out; omega) (by have := HWL.out; have := HM.out; have := HLT.out; (try simp only [List.length_append, List.length_singleton]); omega) HR.out HRG.out (fun _ _ _ _ h => h) (fun v3 nb3 g3 cap3 hD3 => ?_)
            have HD3 := Lib.hid hD3
            clear hD3
            go_wp2_with fail
            go_roundw
            case rel => exact ⟨i + 1, HLT.out, by go_num, by rw [HEQ.out], _, _, by rw [HEQ.out]; exact HD3.out⟩
            case measure => have := HLT.out; simp [intOf]; omega
        | false =>
          go_upto_region 7 with fail
          refine wth_pn7 HD.out (by have := HWL.out; have := HM.out; have := HLT.out; omega) (fun va nba ga capa hDa => ?_)
          have HDa := Lib.hid hDa
          clear hDa
          go_upto_region 8 with fail
          refine wth_pk8 HDa.out (by have := HWL.out; have := HM.out; have := HLT.out; omega) GK.out (by omega) HKT.out (fun vb nbb gb capb hDb => ?_)
          have HDb := Lib.hid hDb
          clear hDb
          clear c3 hci
          have c3 := (HDb.out.low.cell (p := ⟨w.heap.size, 3, none⟩) (by show w.heap.size < w.heap.size + 1 + 1 + 1; omega)).trans C3.out
          have hci := (HDb.out.bel.cell (p := ⟨b, off + i, none⟩) HBL.out).trans CW.out
          by_cases hsn : s = nm
          · have h1 : (s.toList == nm.toList) = true := by rw [hsn]; exact beq_self_eq_true _
            have HEQ : Hid (wthN nm k ns ks (i + 1) = ((P ++ [nm]), (Q ++ [k]), true)) := Lib.hid (by rw [HSTEP.out, hls]; simp [hsn])
            clear hsn HSTEP
            go_wp2_with fail
            go_roundw
            case rel => exact ⟨i + 1, HLT.out, by go_num, by rw [HEQ.out], _, _, by rw [HEQ.out]; exact HDb.out⟩
            case measure => have := HLT.out; simp [intOf]; omega
          · have h1 : (s.toList == nm.toList) = false := by rw [Lib.bytes_beq_false_iff]; exact hsn
            have HEQ : Hid (wthN nm k ns ks (i + 1) = ((P ++ [nm]) ++ [s], (Q ++ [k]) ++ [ks.getD i default], true)) := Lib.hid (by rw [HSTEP.out, hls]; simp [hsn])
            clear hsn HSTEP
            go_upto_region 11 with fail
            refine wth_nm HDb.out C3.out (by omega) HBL.out HLT.out (by have := HM.out; omega) (by have := HWL.out; have := HM.out; have := HLT.out; (try simp only [List.length_append, List.length_singleton]); omega) CW.out (fun _ _ _ _ h => h) (fun v2 nb2 g2 cap2 hD2 => ?_)
            have HD2 := Lib.hid hD2
            clear hD2 c3 hci
            go_upto_region 12 with fail
            refine wth_kd HD2.out C4.out (by omega) HKB.out HKI.out (by rw [← HL.out]; have := HM.out; omega) (by have := HWL.out; have := HM.out; have := HLT.out; (try simp only [List.length_append, List.length_singleton]); omega) HR.out HRG.out (fun _ _ _ _ h => h) (fun v3 nb3 g3 cap3 hD3 => ?_)
            have HD3 := Lib.hid hD3
            clear hD3
            go_wp2_with fail
            go_roundw
            case rel => exact ⟨i + 1, HLT.out, by go_num, by rw [HEQ.out], _, _, by rw [HEQ.out]; exact HD3.out⟩
            case measure => have := HLT.out; simp [intOf]; omega
    · obtain rfl : i = ns.length := by omega
      have HALL0 : Hid (wthAll nm k ns ks = if (wthN nm k ns ks ns.length).2.2 then ((wthN nm k ns ks ns.length).1, (wthN nm k ns ks ns.length).2.1) else ((wthN nm k ns ks ns.length).1 ++ [nm], (wthN nm k ns ks ns.length).2.1 ++ [k])) := Lib.hid rfl
      obtain ⟨A, hA⟩ : ∃ A, A = wthN nm k ns ks ns.length := ⟨_, rfl⟩
      rw [← hA] at HD HWL HALL0 ⊢
      clear hA hlt
      obtain ⟨P, Q, dn⟩ := A
      simp only at HD HWL HALL0 ⊢
      have HLT : Hid (ns.length ≤ 4095) := HM
      cases dn with
      | true =>
        have HALL : Hid (wthAll nm k ns ks = (P, Q)) := Lib.hid (by rw [HALL0.out]; rfl)
        clear HALL0
        have HIA := Lib.hid (infoL (dirC_five vn vk))
        have H1C := Lib.hid (dirC_one HD.out)
        have R8 := Lib.hid ((HD.out.low.block (w.heap.size + 1 + 1) (by omega)).trans GR.out)
        have BX : Hid (wr.heap[w.heap.size + 1 + 1 + 1]? = some (.cells (dirC vn vk).toArray 26 (0, 0))) := Lib.hid (show _ from HD.out.box)
        have D9 := Lib.hid (HD.out.setRow (A := w.heap.size + 1 + 1) (by omega) (by omega) (dirC vn vk).toArray)
        have HZ5 : Hid (([.int .u8 0, .bool false, .slice none 0 0, .slice none 0 0, .slice none 0 0] : List Value).toArray.size = (dirC vn vk).toArray.size) := Lib.hid (by simp [dirC])
        go_wp2_with (first
          | (refine wpList_load_row rfl 26 _ rfl (w.heap.size + 1 + 1 + 1) rfl 26 (dirC vn vk).toArray (0, 0) _ BX.out Tryd.underlying26 rfl HIA.out ?_)
          | (refine wpList_store_row rfl 26 _ _ rfl (w.heap.size + 1 + 1) (dirC vn vk).toArray rfl rfl 26 _ R8.out HIA.out HZ5.out H1C.out ?_))
        refine bodyPost_ret (results_cell_row (fn := Tryd.f48) (p := 6) (ty := 26) Tryd.results48 _ _ (w.heap.size + 1 + 1) 26 (dirC vn vk).toArray (0, 0) _ rfl (setRow_heap _ _ _ _ _ _ R8.out) Tryd.underlying26 rfl HIA.out) rfl ?_
        obtain ⟨m, hm⟩ := D9.out.sta
        exact ⟨⟨m, _, rfl, by rw [HALL.out]; exact hm⟩, D9.out.bel⟩
      | false =>
        have HALL : Hid (wthAll nm k ns ks = (P ++ [nm], Q ++ [k])) := Lib.hid (by rw [HALL0.out]; rfl)
        clear HALL0
        go_upto_region 14 with fail
        refine wth_pn14 HD.out (by have := HWL.out; have := HM.out; have := HLT.out; omega) (fun va nba ga capa hDa => ?_)
        have HDa := Lib.hid hDa
        clear hDa
        go_upto_region 15 with fail
        refine wth_pk15 HDa.out (by have := HWL.out; have := HM.out; have := HLT.out; omega) GK.out (by omega) HKT.out (fun vb nbb gb capb hDb => ?_)
        have HDb := Lib.hid hDb
        clear hDb
        obtain ⟨vn2, hv2⟩ : ∃ v, v = Value.slice (some ⟨ga, 0, none⟩) (P.length + 1) capa := ⟨_, rfl⟩
        obtain ⟨vk2, hv3⟩ : ∃ v, v = Value.slice (some ⟨gb, 0, none⟩) (Q.length + 1) capb := ⟨_, rfl⟩
        rw [← hv2, ← hv3] at HDb
        clear hv2 hv3
        have HIA := Lib.hid (infoL (dirC_five vn2 vk2))
        have H1C := Lib.hid (dirC_one HDb.out)
        have R8 := Lib.hid ((HDb.out.low.block (w.heap.size + 1 + 1) (by omega)).trans GR.out)
        have BX : Hid (vb.heap[w.heap.size + 1 + 1 + 1]? = some (.cells (dirC vn2 vk2).toArray 26 (0, 0))) := Lib.hid (show _ from HDb.out.box)
        have D9 := Lib.hid (HDb.out.setRow (A := w.heap.size + 1 + 1) (by omega) (by omega) (dirC vn2 vk2).toArray)
        have HZ5 : Hid (([.int .u8 0, .bool false, .slice none 0 0, .slice none 0 0, .slice none 0 0] : List Value).toArray.size = (dirC vn2 vk2).toArray.size) := Lib.hid (by simp [dirC])
        go_wp2_with (first
          | (refine wpList_load_row rfl 26 _ rfl (w.heap.size + 1 + 1 + 1) rfl 26 (dirC vn2 vk2).toArray (0, 0) _ BX.out Tryd.underlying26 rfl HIA.out ?_)
          | (refine wpList_store_row rfl 26 _ _ rfl (w.heap.size + 1 + 1) (dirC vn2 vk2).toArray rfl rfl 26 _ R8.out HIA.out HZ5.out H1C.out ?_))
        refine bodyPost_ret (results_cell_row (fn := Tryd.f48) (p := 6) (ty := 26) Tryd.results48 _ _ (w.heap.size + 1 + 1) 26 (dirC vn2 vk2).toArray (0, 0) _ rfl (setRow_heap _ _ _ _ _ _ R8.out) Tryd.underlying26 rfl HIA.out) rfl ?_
        obtain ⟨m, hm⟩ := D9.out.sta
        exact ⟨⟨m, _, rfl, by rw [HALL.out]; exact hm⟩, D9.out.bel⟩

end Go.Proofs.YtbempgdndmchlaaDoor
