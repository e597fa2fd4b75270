/-
  newQueue's drawn region, over any frame: a name is appended to those that wait for another.
-/
import Derived.Test.YtdliecailkkciaaOReg
import Derived.Test.YtdliecailkkciaaOHas
import Derived.Test.YtdliecailkkciaaOLeast
namespace Go.Proofs.Ytdliecailkkciaa
open Go.RowKit
set_option linter.unusedVariables false

set_option maxRecDepth 100000 in
set_option maxHeartbeats 8000000 in
theorem nq_wait {v : World} {q wb B n : Nat} {vc v0r : Value} {M : ByteArray → Option Value} {N : ByteArray → Option (List ByteArray)} {s t : ByteArray} (hD : NM v wb B n M N) (hH : Has v q [v0r, .map (some wb), vc] 53) (hs : t.size ≤ maxLen) (hm : (getN N t).length ≤ 100000) (hn : n < 200000) (hBs : B ≤ v.heap.size) (hq : q < B) (hqm : wb < q)
    {u0 u1 u2 u4 u6 u8 u9 u10 u11 u12 u13 u14 u15 u16 u17 u18 u19 u20 u21 u22 u23 u24 u25 u26 u27 u28 u29 u30 u31 u32 u33 u34 u35 u36 u37 u38 u39 u40 u41 u42 u43 u44 u45 u46 u47 u48 u49 u50 u51 u52 u53 u54 u55 u56 u57 u58 u59 u60 u61 u62 u63 u64 u65 u66 u67 u68 u69 u70 u71 u72 u73 u74 u75 u76 u77 u78 u79 u80 : Value} {K : Exit → Act → World → Prop} (hp : ∀ c (a : Act) ts w, K (.panic c) { a with tmps := ts } w → K (.panic c) a w)
    (hk : ∀ (v' : World) (vr : Value) (nb : Nat), NM v' wb B (n + 1) (putM M t vr) (putN N t (getN N t ++ [s])) → HF wb (getV M t) v vr v' → K .normal ⟨#[u0, u1, u2, .pointer (some ⟨q, 0, none⟩), u4, .string s, u6, .string t, u8, u9, u10, u11, u12, u13, u14, u15, u16, u17, u18, u19, u20, u21, u22, u23, u24, u25, u26, u27, u28, u29, u30, u31, u32, u33, u34, u35, u36, u37, u38, u39, .pointer (some ⟨q, 0, none⟩), .pointer (some ⟨q, 0, none⟩), .pointer (some ⟨q, 1, none⟩), .map (some wb), .string t, .pointer (some ⟨q, 0, none⟩), .pointer (some ⟨q, 0, none⟩), .pointer (some ⟨q, 1, none⟩), .map (some wb), .string t, getV M t, .string s, .slice (some ⟨nb, 0, none⟩) 1 1, vr, u54, u55, u56, u57, u58, u59, u60, u61, u62, u63, u64, u65, u66, u67, u68, u69, u70, u71, u72, u73, u74, u75, u76, u77, u78, u79, u80], []⟩ v') :
    (Code.region 9 #[{ dst := some 40, op := Op.move (Operand.tmp 3), type := 48, pos := "queue.go:18", after := #[], guard := none }, { dst := some 41, op := Op.nilCheck (Operand.tmp 40), type := 0, pos := "queue.go:18", after := #[{ on := 0, ground := Ground.data }], guard := none }, { dst := some 42, op := Op.fieldAddr 53 (Operand.tmp 41) 1, type := 0, pos := "queue.go:18", after := #[{ on := 1, ground := Ground.data }], guard := none }, { dst := some 43, op := Op.load 45 (Operand.tmp 42), type := 45, pos := "queue.go:18", after := #[{ on := 2, ground := Ground.data }], guard := none }, { dst := some 44, op := Op.move (Operand.tmp 7), type := 9, pos := "queue.go:18", after := #[], guard := none }, { dst := some 45, op := Op.move (Operand.tmp 3), type := 48, pos := "queue.go:18", after := #[], guard := none }, { dst := some 46, op := Op.nilCheck (Operand.tmp 45), type := 0, pos := "queue.go:18", after := #[{ on := 5, ground := Ground.data }], guard := none }, { dst := some 47, op := Op.fieldAddr 53 (Operand.tmp 46) 1, type := 0, pos := "queue.go:18", after := #[{ on := 6, ground := Ground.data }], guard := none }, { dst := some 48, op := Op.load 45 (Operand.tmp 47), type := 45, pos := "queue.go:18", after := #[{ on := 7, ground := Ground.data }], guard := none }, { dst := some 49, op := Op.move (Operand.tmp 7), type := 9, pos := "queue.go:18", after := #[], guard := none }, { dst := some 50, op := Op.lookup 45 (Operand.tmp 48) (Operand.tmp 49) false, type := 22, pos := "queue.go:18", after := #[{ on := 8, ground := Ground.data }, { on := 9, ground := Ground.data }], guard := none }, { dst := some 51, op := Op.move (Operand.tmp 5), type := 9, pos := "queue.go:18", after := #[], guard := none }, { dst := some 52, op := Op.buildSlice 22 1 #[(0, Operand.tmp 51)], type := 22, pos := "queue.go:18", after := #[{ on := 11, ground := Ground.data }], guard := none }, { dst := some 53, op := Op.call { callee := Callee.builtin Builtin.append, args := #[Operand.tmp 50, Operand.tmp 52], argTypes := #[22, 22] }, type := 22, pos := "queue.go:18", after := #[{ on := 10, ground := Ground.data }, { on := 12, ground := Ground.data }], guard := none }, { dst := none, op := Op.mapUpdate 45 (Operand.tmp 43) (Operand.tmp 44) (Operand.tmp 53), type := 0, pos := "queue.go:18", after := #[{ on := 3, ground := Ground.data }, { on := 4, ground := Ground.data }, { on := 13, ground := Ground.data }, { on := 13, ground := Ground.chain }, { on := 0, ground := Ground.phase }, { on := 1, ground := Ground.phase }, { on := 2, ground := Ground.phase }, { on := 3, ground := Ground.phase }, { on := 4, ground := Ground.phase }, { on := 5, ground := Ground.phase }, { on := 6, ground := Ground.phase }, { on := 7, ground := Ground.phase }, { on := 8, ground := Ground.phase }, { on := 9, ground := Ground.phase }, { on := 10, ground := Ground.phase }, { on := 11, ground := Ground.phase }, { on := 12, ground := Ground.phase }, { on := 13, ground := Ground.phase }], guard := none }] true).wp Try.prog K ⟨#[u0, u1, u2, .pointer (some ⟨q, 0, none⟩), u4, .string s, u6, .string t, u8, u9, u10, u11, u12, u13, u14, u15, u16, u17, u18, u19, u20, u21, u22, u23, u24, u25, u26, u27, u28, u29, u30, u31, u32, u33, u34, u35, u36, u37, u38, u39, u40, u41, u42, u43, u44, u45, u46, u47, u48, u49, u50, u51, u52, u53, u54, u55, u56, u57, u58, u59, u60, u61, u62, u63, u64, u65, u66, u67, u68, u69, u70, u71, u72, u73, u74, u75, u76, u77, u78, u79, u80], []⟩ v := by
  have HD := Lib.hid hD
  have HSZ := Lib.hid hs
  have HBS := Lib.hid hBs
  have HNB := Lib.hid hn
  have HMB := Lib.hid hm
  have HQ := Lib.hid hq
  have HQM := Lib.hid hqm
  have HP := Lib.hid hp
  have HKK := Lib.hid hk
  obtain ⟨i0, hi0, hz0, hz1, hz2⟩ := info_parts info_str
  have HI := Lib.hid hi0
  have HZ0 := Lib.hid hz0
  have HZ1 := Lib.hid hz1
  have HZ2 := Lib.hid hz2
  have HS0 : Hid (v.cell? ⟨q, 1, none⟩ = some (.map (some wb))) := Lib.hid (hH.cellAt (i := 1) rfl)
  clear hD hH hs hm hn hBs hq hqm hi0 hz0 hz1 hz2 hp hk
  refine wp_region_held_drew (S := fun Y => Y.cell? ⟨q, 1, none⟩ = some (.map (some wb))) (by kernel_rfl) HS0.out (fun hHeld => ?_)
  obtain ⟨v0, hv0⟩ : ∃ v0, v0 = v.drew := ⟨_, rfl⟩
  have D0 : Hid (NM v0 wb B n M N) := Lib.hid (by rw [hv0]; exact HD.out.drewN 1)
  have B0 : Hid (HF wb (getV M t) v (getV M t) v0) := Lib.hid (by rw [hv0]; exact .of_below (Below.refl _ _).drew)
  have HBB : Hid (B ≤ v0.heap.size) := Lib.hid (by rw [hv0]; exact HBS.out)
  rw [← hv0] at hHeld ⊢
  have S0 : Hid (v0.cell? ⟨q, 1, none⟩ = some (.map (some wb))) := Lib.hid (by rw [hv0]; exact HS0.out)
  clear hv0
  refine wpAnyH_take (i := 0) (oi := { dst := some 40, op := Op.move (Operand.tmp 3), type := 48, pos := "queue.go:18", after := #[], guard := none }) (v := .pointer (some ⟨q, 0, none⟩)) rfl (by kernel_rfl) (by kernel_rfl) (by kernel_rfl) (fun _ _ _ h => HP.out _ _ _ _ h)
    (Or.inl ⟨by rfl, by intro w hSw;  clear hSw; go_simp⟩) hHeld ?_
  try simp only [Act.put, List.setIfInBounds_toArray, List.set_cons_zero, List.set_cons_succ]
  refine wpAnyH_take (i := 1) (oi := { dst := some 41, op := Op.nilCheck (Operand.tmp 40), type := 0, pos := "queue.go:18", after := #[{ on := 0, ground := Ground.data }], guard := none }) (v := .pointer (some ⟨q, 0, none⟩)) rfl (by kernel_rfl) (by kernel_rfl) (by kernel_rfl) (fun _ _ _ h => HP.out _ _ _ _ h)
    (Or.inl ⟨by rfl, by intro w hSw;  clear hSw; go_simp⟩) hHeld ?_
  try simp only [Act.put, List.setIfInBounds_toArray, List.set_cons_zero, List.set_cons_succ]
  refine wpAnyH_take (i := 2) (oi := { dst := some 42, op := Op.fieldAddr 53 (Operand.tmp 41) 1, type := 0, pos := "queue.go:18", after := #[{ on := 1, ground := Ground.data }], guard := none }) (v := .pointer (some ⟨q, 1, none⟩)) rfl (by kernel_rfl) (by kernel_rfl) (by kernel_rfl) (fun _ _ _ h => HP.out _ _ _ _ h)
    (Or.inl ⟨by rfl, by intro w hSw;  clear hSw; go_simp⟩) hHeld ?_
  try simp only [Act.put, List.setIfInBounds_toArray, List.set_cons_zero, List.set_cons_succ]
  refine wpAnyH_take (i := 3) (oi := { dst := some 43, op := Op.load 45 (Operand.tmp 42), type := 45, pos := "queue.go:18", after := #[{ on := 2, ground := Ground.data }], guard := none }) (v := .map (some wb)) rfl (by kernel_rfl) (by kernel_rfl) (by kernel_rfl) (fun _ _ _ h => HP.out _ _ _ _ h)
    (Or.inl ⟨by rfl, by intro w hSw; have hq := hSw; clear hSw; go_simp⟩) hHeld ?_
  try simp only [Act.put, List.setIfInBounds_toArray, List.set_cons_zero, List.set_cons_succ]
  refine wpAnyH_take (i := 4) (oi := { dst := some 44, op := Op.move (Operand.tmp 7), type := 9, pos := "queue.go:18", after := #[], guard := none }) (v := .string t) rfl (by kernel_rfl) (by kernel_rfl) (by kernel_rfl) (fun _ _ _ h => HP.out _ _ _ _ h)
    (Or.inl ⟨by rfl, by intro w hSw;  clear hSw; go_simp⟩) hHeld ?_
  try simp only [Act.put, List.setIfInBounds_toArray, List.set_cons_zero, List.set_cons_succ]
  refine wpAnyH_take (i := 5) (oi := { dst := some 45, op := Op.move (Operand.tmp 3), type := 48, pos := "queue.go:18", after := #[], guard := none }) (v := .pointer (some ⟨q, 0, none⟩)) rfl (by kernel_rfl) (by kernel_rfl) (by kernel_rfl) (fun _ _ _ h => HP.out _ _ _ _ h)
    (Or.inl ⟨by rfl, by intro w hSw;  clear hSw; go_simp⟩) hHeld ?_
  try simp only [Act.put, List.setIfInBounds_toArray, List.set_cons_zero, List.set_cons_succ]
  refine wpAnyH_take (i := 6) (oi := { dst := some 46, op := Op.nilCheck (Operand.tmp 45), type := 0, pos := "queue.go:18", after := #[{ on := 5, ground := Ground.data }], guard := none }) (v := .pointer (some ⟨q, 0, none⟩)) rfl (by kernel_rfl) (by kernel_rfl) (by kernel_rfl) (fun _ _ _ h => HP.out _ _ _ _ h)
    (Or.inl ⟨by rfl, by intro w hSw;  clear hSw; go_simp⟩) hHeld ?_
  try simp only [Act.put, List.setIfInBounds_toArray, List.set_cons_zero, List.set_cons_succ]
  refine wpAnyH_take (i := 7) (oi := { dst := some 47, op := Op.fieldAddr 53 (Operand.tmp 46) 1, type := 0, pos := "queue.go:18", after := #[{ on := 6, ground := Ground.data }], guard := none }) (v := .pointer (some ⟨q, 1, none⟩)) rfl (by kernel_rfl) (by kernel_rfl) (by kernel_rfl) (fun _ _ _ h => HP.out _ _ _ _ h)
    (Or.inl ⟨by rfl, by intro w hSw;  clear hSw; go_simp⟩) hHeld ?_
  try simp only [Act.put, List.setIfInBounds_toArray, List.set_cons_zero, List.set_cons_succ]
  refine wpAnyH_take (i := 8) (oi := { dst := some 48, op := Op.load 45 (Operand.tmp 47), type := 45, pos := "queue.go:18", after := #[{ on := 7, ground := Ground.data }], guard := none }) (v := .map (some wb)) rfl (by kernel_rfl) (by kernel_rfl) (by kernel_rfl) (fun _ _ _ h => HP.out _ _ _ _ h)
    (Or.inl ⟨by rfl, by intro w hSw; have hq := hSw; clear hSw; go_simp⟩) hHeld ?_
  try simp only [Act.put, List.setIfInBounds_toArray, List.set_cons_zero, List.set_cons_succ]
  refine wpAnyH_take (i := 9) (oi := { dst := some 49, op := Op.move (Operand.tmp 7), type := 9, pos := "queue.go:18", after := #[], guard := none }) (v := .string t) rfl (by kernel_rfl) (by kernel_rfl) (by kernel_rfl) (fun _ _ _ h => HP.out _ _ _ _ h)
    (Or.inl ⟨by rfl, by intro w hSw;  clear hSw; go_simp⟩) hHeld ?_
  try simp only [Act.put, List.setIfInBounds_toArray, List.set_cons_zero, List.set_cons_succ]
  refine wpAnyH_take (i := 11) (oi := { dst := some 51, op := Op.move (Operand.tmp 5), type := 9, pos := "queue.go:18", after := #[], guard := none }) (v := .string s) rfl (by kernel_rfl) (by kernel_rfl) (by kernel_rfl) (fun _ _ _ h => HP.out _ _ _ _ h)
    (Or.inl ⟨by rfl, by intro w hSw;  clear hSw; go_simp⟩) hHeld ?_
  try simp only [Act.put, List.setIfInBounds_toArray, List.set_cons_zero, List.set_cons_succ]
  refine wpAnyH_ready (rs := [10, 12]) (by kernel_rfl) (by simp) ?_
  refine AllReadyH.cons (o := { dst := some 50, op := Op.lookup 45 (Operand.tmp 48) (Operand.tmp 49) false, type := 22, pos := "queue.go:18", after := #[{ on := 8, ground := Ground.data }, { on := 9, ground := Ground.data }], guard := none }) rfl (fun K hK => ?_) (AllReadyH.cons (o := { dst := some 52, op := Op.buildSlice 22 1 #[(0, Operand.tmp 51)], type := 22, pos := "queue.go:18", after := #[{ on := 11, ground := Ground.data }], guard := none }) rfl (fun K hK => ?_) AllReadyH.nil)
  · rw [if_pos (by rfl)]
    refine wp_lookup _ _ _ _ rfl (.map (some wb)) (.string t) _ rfl rfl (D0.out.get HSZ.out) ?_
    refine hK.out _ _ S0.out (fun hHw1 => ?_)
    clear hK K hHeld
    try simp only [Act.put, List.setIfInBounds_toArray, List.set_cons_zero, List.set_cons_succ]
    refine wpAnyH_ready (rs := [12]) (by kernel_rfl) (by simp) ?_
    refine AllReadyH.cons (o := { dst := some 52, op := Op.buildSlice 22 1 #[(0, Operand.tmp 51)], type := 22, pos := "queue.go:18", after := #[{ on := 11, ground := Ground.data }], guard := none }) rfl (fun K hK => ?_) AllReadyH.nil
    go_simp
    obtain ⟨w3, hw3⟩ : ∃ w3, w3 = v0.alloc (.cells #[.string s] 9) := ⟨_, rfl⟩
    have b3 : Below v0.heap.size v0 w3 := by rw [hw3]; exact (Below.refl _ _).alloc (Nat.le_refl _) _
    have P3 : Hid (Has w3 v0.heap.size [.string s] 9) := Lib.hid (by rw [hw3]; exact Has.new v0 _ _)
    have D3 := Lib.hid (D0.out.later b3)
    have X3 : Hid (HF wb (getV M t) v (getV M t) w3) := Lib.hid (B0.out.trans (.of_below b3))
    have L3 : Hid (B ≤ w3.heap.size) := Lib.hid (Nat.le_trans HBB.out b3.size)
    have S3 : Hid (w3.cell? ⟨q, 1, none⟩ = some (.map (some wb))) := Lib.hid (((b3.mono HBB.out).cell HQ.out).trans S0.out)
    rw [← hw3]
    clear hw3 b3
    refine hK.out _ _ S3.out (fun hHw2 => ?_)
    clear hK K hHw1
    try simp only [Act.put, List.setIfInBounds_toArray, List.set_cons_zero, List.set_cons_succ]
    refine wpAnyH_ready (rs := [13]) (by kernel_rfl) (by simp) ?_
    refine AllReadyH.cons (o := { dst := some 53, op := Op.call { callee := Callee.builtin Builtin.append, args := #[Operand.tmp 50, Operand.tmp 52], argTypes := #[22, 22] }, type := 22, pos := "queue.go:18", after := #[{ on := 10, ground := Ground.data }, { on := 12, ground := Ground.data }], guard := none }) rfl (fun K hK => ?_) AllReadyH.nil
    rw [if_pos (by rfl)]
    refine wp_append_srcL (.tmp 50) (.tmp 52) 22 rfl B 9 i0 (.string ByteArray.empty) 1 16 Try.underlying22 HI.out HZ0.out HZ1.out HZ2.out rfl (by omega) (getV M t) (getN N t).length ((getN N t).map Value.string) rfl (D3.out.own t) (some ⟨v0.heap.size, 0, none⟩) 1 1 [.string s] rfl rfl (fun e => by cases e) (fun ad had j u hj => by cases had; rw [Addr.add_lit, Nat.zero_add]; exact P3.out.cellAt hj) (fun u hu => by simp at hu; subst hu; rfl) (by have := HMB.out; unfold maxLen; omega) (by have := HMB.out; omega) L3.out (fun vr w4 h4o h4g h4b => ?_)
    have G4 := Lib.hid h4g
    have O4 : Hid (w4.ownsRow B 9 1 vr (getN N t ++ [s]).length ((getN N t ++ [s]).map Value.string)) := Lib.hid (by rw [List.length_append, List.map_append]; exact h4o)
    have F4 : Hid (∀ x, vr.ownBlock = some x → (getV M t).ownBlock = some x ∨ w3.heap.size ≤ x) := Lib.hid (fun x hx => (h4b x hx).imp id (fun e => by omega))
    have X4 : Below B w3 w4 := ⟨h4g.os, h4g.tape, h4g.output, h4g.size, fun k hk => h4g.block k (Nat.lt_of_lt_of_le hk L3.out) (fun e => by have := ((D3.out.own t).lt k e.symm).1; omega)⟩
    have B4 : Hid (HF wb (getV M t) v vr w4) := Lib.hid (X3.out.trans ⟨h4g.os, h4g.tape, h4g.output, h4g.size, fun k hk _ hv => h4g.block k hk hv, fun x hx => (h4b x hx).imp id (fun e => by omega)⟩)
    have LB4 : Hid (B ≤ w4.heap.size) := Lib.hid (Nat.le_trans L3.out h4g.size)
    have S4 : Hid (w4.cell? ⟨q, 1, none⟩ = some (.map (some wb))) := Lib.hid ((X4.cell HQ.out).trans S3.out)
    clear h4o h4g h4b X4
    refine hK.out _ _ S4.out (fun hHw3 => ?_)
    clear hK K hHw2
    try simp only [Act.put, List.setIfInBounds_toArray, List.set_cons_zero, List.set_cons_succ]
    refine wpAnyH_ready (rs := [14]) (by kernel_rfl) (by simp) ?_
    refine AllReadyH.cons (o := { dst := none, op := Op.mapUpdate 45 (Operand.tmp 43) (Operand.tmp 44) (Operand.tmp 53), type := 0, pos := "queue.go:18", after := #[{ on := 3, ground := Ground.data }, { on := 4, ground := Ground.data }, { on := 13, ground := Ground.data }, { on := 13, ground := Ground.chain }, { on := 0, ground := Ground.phase }, { on := 1, ground := Ground.phase }, { on := 2, ground := Ground.phase }, { on := 3, ground := Ground.phase }, { on := 4, ground := Ground.phase }, { on := 5, ground := Ground.phase }, { on := 6, ground := Ground.phase }, { on := 7, ground := Ground.phase }, { on := 8, ground := Ground.phase }, { on := 9, ground := Ground.phase }, { on := 10, ground := Ground.phase }, { on := 11, ground := Ground.phase }, { on := 12, ground := Ground.phase }, { on := 13, ground := Ground.phase }], guard := none }) rfl (fun K hK => ?_) AllReadyH.nil
    obtain ⟨w5, hr5, hn5, hg5, hs5⟩ := D3.out.put (by have := HNB.out; unfold maxLen; omega) HSZ.out G4.out O4.out F4.out
    have N5 := Lib.hid hn5
    have B5 : Hid (HF wb (getV M t) v vr w5) := Lib.hid (B4.out.trans ⟨hg5.os, hg5.tape, hg5.output, hg5.size, fun k hk hb _ => hg5.block k hk (fun e => hb (Option.some.inj e)), fun g hg => .inl hg⟩)
    have S5 : Hid (w5.cell? ⟨q, 1, none⟩ = some (.map (some wb))) := Lib.hid ((World.cell?_of_block (w := w4) (a := ⟨q, 1, none⟩) (hg5.block q (Nat.lt_of_lt_of_le HQ.out LB4.out) (fun e => by have := Option.some.inj e; have := HQM.out; omega))).trans S4.out)
    rw [if_pos (by rfl)]
    refine wp_mapUpdate _ _ _ _ rfl (.map (some wb)) (.string t) vr rfl rfl rfl w5 hr5 ?_
    clear hr5 hn5 hg5 hs5
    refine hK.out _ _ S5.out (fun hHw4 => ?_)
    clear hK K hHw3
    try simp only [Act.put]
    refine wpAnyH_done (by kernel_rfl) ?_ _
    clear hHw4
    exact HKK.out _ _ _ N5.out B5.out
  · go_simp
    obtain ⟨w3, hw3⟩ : ∃ w3, w3 = v0.alloc (.cells #[.string s] 9) := ⟨_, rfl⟩
    have b3 : Below v0.heap.size v0 w3 := by rw [hw3]; exact (Below.refl _ _).alloc (Nat.le_refl _) _
    have P3 : Hid (Has w3 v0.heap.size [.string s] 9) := Lib.hid (by rw [hw3]; exact Has.new v0 _ _)
    have D3 := Lib.hid (D0.out.later b3)
    have X3 : Hid (HF wb (getV M t) v (getV M t) w3) := Lib.hid (B0.out.trans (.of_below b3))
    have L3 : Hid (B ≤ w3.heap.size) := Lib.hid (Nat.le_trans HBB.out b3.size)
    have S3 : Hid (w3.cell? ⟨q, 1, none⟩ = some (.map (some wb))) := Lib.hid (((b3.mono HBB.out).cell HQ.out).trans S0.out)
    rw [← hw3]
    clear hw3 b3
    refine hK.out _ _ S3.out (fun hHw1 => ?_)
    clear hK K hHeld
    try simp only [Act.put, List.setIfInBounds_toArray, List.set_cons_zero, List.set_cons_succ]
    refine wpAnyH_ready (rs := [10]) (by kernel_rfl) (by simp) ?_
    refine AllReadyH.cons (o := { dst := some 50, op := Op.lookup 45 (Operand.tmp 48) (Operand.tmp 49) false, type := 22, pos := "queue.go:18", after := #[{ on := 8, ground := Ground.data }, { on := 9, ground := Ground.data }], guard := none }) rfl (fun K hK => ?_) AllReadyH.nil
    rw [if_pos (by rfl)]
    refine wp_lookup _ _ _ _ rfl (.map (some wb)) (.string t) _ rfl rfl (D3.out.get HSZ.out) ?_
    refine hK.out _ _ S3.out (fun hHw2 => ?_)
    clear hK K hHw1
    try simp only [Act.put, List.setIfInBounds_toArray, List.set_cons_zero, List.set_cons_succ]
    refine wpAnyH_ready (rs := [13]) (by kernel_rfl) (by simp) ?_
    refine AllReadyH.cons (o := { dst := some 53, op := Op.call { callee := Callee.builtin Builtin.append, args := #[Operand.tmp 50, Operand.tmp 52], argTypes := #[22, 22] }, type := 22, pos := "queue.go:18", after := #[{ on := 10, ground := Ground.data }, { on := 12, ground := Ground.data }], guard := none }) rfl (fun K hK => ?_) AllReadyH.nil
    rw [if_pos (by rfl)]
    refine wp_append_srcL (.tmp 50) (.tmp 52) 22 rfl B 9 i0 (.string ByteArray.empty) 1 16 Try.underlying22 HI.out HZ0.out HZ1.out HZ2.out rfl (by omega) (getV M t) (getN N t).length ((getN N t).map Value.string) rfl (D3.out.own t) (some ⟨v0.heap.size, 0, none⟩) 1 1 [.string s] rfl rfl (fun e => by cases e) (fun ad had j u hj => by cases had; rw [Addr.add_lit, Nat.zero_add]; exact P3.out.cellAt hj) (fun u hu => by simp at hu; subst hu; rfl) (by have := HMB.out; unfold maxLen; omega) (by have := HMB.out; omega) L3.out (fun vr w4 h4o h4g h4b => ?_)
    have G4 := Lib.hid h4g
    have O4 : Hid (w4.ownsRow B 9 1 vr (getN N t ++ [s]).length ((getN N t ++ [s]).map Value.string)) := Lib.hid (by rw [List.length_append, List.map_append]; exact h4o)
    have F4 : Hid (∀ x, vr.ownBlock = some x → (getV M t).ownBlock = some x ∨ w3.heap.size ≤ x) := Lib.hid (fun x hx => (h4b x hx).imp id (fun e => by omega))
    have X4 : Below B w3 w4 := ⟨h4g.os, h4g.tape, h4g.output, h4g.size, fun k hk => h4g.block k (Nat.lt_of_lt_of_le hk L3.out) (fun e => by have := ((D3.out.own t).lt k e.symm).1; omega)⟩
    have B4 : Hid (HF wb (getV M t) v vr w4) := Lib.hid (X3.out.trans ⟨h4g.os, h4g.tape, h4g.output, h4g.size, fun k hk _ hv => h4g.block k hk hv, fun x hx => (h4b x hx).imp id (fun e => by omega)⟩)
    have LB4 : Hid (B ≤ w4.heap.size) := Lib.hid (Nat.le_trans L3.out h4g.size)
    have S4 : Hid (w4.cell? ⟨q, 1, none⟩ = some (.map (some wb))) := Lib.hid ((X4.cell HQ.out).trans S3.out)
    clear h4o h4g h4b X4
    refine hK.out _ _ S4.out (fun hHw3 => ?_)
    clear hK K hHw2
    try simp only [Act.put, List.setIfInBounds_toArray, List.set_cons_zero, List.set_cons_succ]
    refine wpAnyH_ready (rs := [14]) (by kernel_rfl) (by simp) ?_
    refine AllReadyH.cons (o := { dst := none, op := Op.mapUpdate 45 (Operand.tmp 43) (Operand.tmp 44) (Operand.tmp 53), type := 0, pos := "queue.go:18", after := #[{ on := 3, ground := Ground.data }, { on := 4, ground := Ground.data }, { on := 13, ground := Ground.data }, { on := 13, ground := Ground.chain }, { on := 0, ground := Ground.phase }, { on := 1, ground := Ground.phase }, { on := 2, ground := Ground.phase }, { on := 3, ground := Ground.phase }, { on := 4, ground := Ground.phase }, { on := 5, ground := Ground.phase }, { on := 6, ground := Ground.phase }, { on := 7, ground := Ground.phase }, { on := 8, ground := Ground.phase }, { on := 9, ground := Ground.phase }, { on := 10, ground := Ground.phase }, { on := 11, ground := Ground.phase }, { on := 12, ground := Ground.phase }, { on := 13, ground := Ground.phase }], guard := none }) rfl (fun K hK => ?_) AllReadyH.nil
    obtain ⟨w5, hr5, hn5, hg5, hs5⟩ := D3.out.put (by have := HNB.out; unfold maxLen; omega) HSZ.out G4.out O4.out F4.out
    have N5 := Lib.hid hn5
    have B5 : Hid (HF wb (getV M t) v vr w5) := Lib.hid (B4.out.trans ⟨hg5.os, hg5.tape, hg5.output, hg5.size, fun k hk hb _ => hg5.block k hk (fun e => hb (Option.some.inj e)), fun g hg => .inl hg⟩)
    have S5 : Hid (w5.cell? ⟨q, 1, none⟩ = some (.map (some wb))) := Lib.hid ((World.cell?_of_block (w := w4) (a := ⟨q, 1, none⟩) (hg5.block q (Nat.lt_of_lt_of_le HQ.out LB4.out) (fun e => by have := Option.some.inj e; have := HQM.out; omega))).trans S4.out)
    rw [if_pos (by rfl)]
    refine wp_mapUpdate _ _ _ _ rfl (.map (some wb)) (.string t) vr rfl rfl rfl w5 hr5 ?_
    clear hr5 hn5 hg5 hs5
    refine hK.out _ _ S5.out (fun hHw4 => ?_)
    clear hK K hHw3
    try simp only [Act.put]
    refine wpAnyH_done (by kernel_rfl) ?_ _
    clear hHw4
    exact HKK.out _ _ _ N5.out B5.out
end Go.Proofs.Ytdliecailkkciaa
