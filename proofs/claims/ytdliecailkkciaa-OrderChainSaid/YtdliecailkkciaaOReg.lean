/-
  The two drawn regions of New, each over any frame: needs are appended to a name's; a name's needs are made to rise.
-/
import Derived.Test.YtdliecailkkciaaOGr
import Derived.Test.YtdliecailkkciaaORise
import Derived.Deep.MidRow
import Derived.Deep.RegionHeld
import Derived.Deep.Cut
import Derived.BigFrame
namespace Go.Proofs.Ytdliecailkkciaa
open Go.RowKit
set_option linter.unusedVariables false

theorem yieldsIf_lookup {P : Program} {ops : Array Oper} {S : World → Prop} {op : Oper} {a : Act} (hw : Region.wanted op (yielded ops a.tmps) = true) (t : TypeId) (m x : Operand) (ok : Bool) (ho : op.op = .lookup t m x ok)
    (u1 u2 v : Value) (hm : a.eval m = u1) (hx : a.eval x = u2) (hr : ∀ w, S w → (Instr.lookup t u1 u2 ok).run P w = .ok v w) : YieldsIf P ops S op v a :=
  .inl ⟨hw, fun w hS => by
    unfold execOp
    simp only [ho, hm, hx, Sem.run_bind, hr w hS, Result.andThen_ok, Sem.run_pure]⟩
theorem wp_mapUpdate {P : Program} {w : World} {o : Oper} {a : Act} {K : Act → World → Prop} {Q : Exit → Act → World → Prop} (t : TypeId) (m x v : Operand) (ho : o.op = .mapUpdate t m x v)
    (u1 u2 u3 : Value) (hm : a.eval m = u1) (hx : a.eval x = u2) (hv : a.eval v = u3) (w' : World) (hr : (Instr.mapUpdate t u1 u2 u3).run P w = .ok () w') (h : K (a.put o.dst undef) w') : o.wp P a w K Q := by
  unfold Oper.wp
  simp [execOp, ho, hm, hx, hv, hr, Result.andThen]
  exact h
theorem wp_lookup {P : Program} {w : World} {o : Oper} {a : Act} {K : Act → World → Prop} {Q : Exit → Act → World → Prop} (t : TypeId) (m x : Operand) (ok : Bool) (ho : o.op = .lookup t m x ok)
    (u1 u2 v : Value) (hm : a.eval m = u1) (hx : a.eval x = u2) (hr : (Instr.lookup t u1 u2 ok).run P w = .ok v w) (h : K (a.put o.dst v) w) : o.wp P a w K Q := by
  unfold Oper.wp
  simp [execOp, ho, hm, hx, hr, Result.andThen]
  exact h
theorem IsS.news {w : World} {ao : Option Addr} {m c : Nat} {l : List ByteArray} (h : IsS w ao m c l) : ∀ ad, ao = some ad → ∀ j u, (l.map Value.string)[j]? = some u → w.cell? (ad.add j) = some u := by
  intro ad had j u hj
  have hj2 : j < m := by
    obtain ⟨h1, _⟩ := List.getElem?_eq_some_iff.1 hj
    rw [List.length_map, h.length] at h1
    exact h1
  obtain ⟨b, off, e, hb, hcc⟩ := h.cell hj2
  rw [had] at e
  cases e
  rw [Addr.add_lit, hcc]
  rw [List.getElem?_map, List.getElem?_eq_getElem (by rw [h.length]; exact hj2)] at hj
  rw [List.getD_eq_getElem?_getD, List.getElem?_eq_getElem (by rw [h.length]; exact hj2)]
  exact hj

set_option maxRecDepth 100000 in
set_option maxHeartbeats 8000000 in
theorem new_ap {v : World} {gb mb B n : Nat} {M : ByteArray → Option Value} {N : ByteArray → Option (List ByteArray)} {vns : Value} {s : ByteArray} {nb noff nn nc i m c : Nat} {ao : Option Addr} {l : List ByteArray} (hD : NM v mb B n M N) (hH : Has v gb [vns, .map (some mb)] 47) (hs : s.size ≤ maxLen) (hc : v.cell? ⟨nb, noff + i, none⟩ = some (.slice ao m c)) (hI : IsS v ao m c l) (hi : i < nn) (hnn : nn ≤ 100000) (hm : (getN N s).length + m ≤ 100000) (hn : n < 200000) (hBs : B ≤ v.heap.size) (hgb : gb < B) (hgm : mb < gb) (hnb : nb < mb)
    {u0 u2 u3 u4 u5 u9 u10 u11 u12 u13 u14 u15 u16 u17 u18 u19 u20 u21 u22 u23 u24 u25 u26 u27 u28 u29 u30 u31 u32 u33 u34 u35 u36 u37 u38 u39 u40 u41 u42 u43 u44 u45 u46 u47 u48 u49 u50 u51 u52 u53 u54 u55 u56 u57 u58 u59 u60 u61 u62 u63 u64 u65 u66 u67 : Value} {K : Exit → Act → World → Prop} (hp : ∀ c (a : Act) ts w, K (.panic c) { a with tmps := ts } w → K (.panic c) a w)
    (hk : ∀ (v' : World) (M' : ByteArray → Option Value) (vr : Value), NM v' mb B (n + 1) M' (putN N s (getN N s ++ l)) → But B mb v v' → K .normal ⟨#[u0, .slice (some ⟨nb, noff, none⟩) nn nc, u2, u3, u4, u5, .pointer (some ⟨gb, 0, none⟩), .int .i64 (i : Int), .string s, u9, u10, u11, u12, u13, u14, u15, u16, u17, u18, u19, u20, u21, u22, u23, u24, u25, u26, u27, .pointer (some ⟨gb, 0, none⟩), .pointer (some ⟨gb, 0, none⟩), .pointer (some ⟨gb, 1, none⟩), .map (some mb), .string s, .pointer (some ⟨gb, 0, none⟩), .pointer (some ⟨gb, 0, none⟩), .pointer (some ⟨gb, 1, none⟩), .map (some mb), .string s, getV M s, .slice (some ⟨nb, noff, none⟩) nn nc, .int .i64 (i : Int), .pointer (some ⟨nb, noff + i, none⟩), .slice ao m c, vr, u44, u45, u46, u47, u48, u49, u50, u51, u52, u53, u54, u55, u56, u57, u58, u59, u60, u61, u62, u63, u64, u65, u66, u67], []⟩ v') :
    (Code.region 7 #[{ dst := some 28, op := Op.move (Operand.tmp 6), type := 26, pos := "order.go:24", after := #[], guard := none }, { dst := some 29, op := Op.nilCheck (Operand.tmp 28), type := 0, pos := "order.go:24", after := #[{ on := 0, ground := Ground.data }], guard := none }, { dst := some 30, op := Op.fieldAddr 47 (Operand.tmp 29) 1, type := 0, pos := "order.go:24", after := #[{ on := 1, ground := Ground.data }], guard := none }, { dst := some 31, op := Op.load 45 (Operand.tmp 30), type := 45, pos := "order.go:24", after := #[{ on := 2, ground := Ground.data }], guard := none }, { dst := some 32, op := Op.move (Operand.tmp 8), type := 9, pos := "order.go:24", after := #[], guard := none }, { dst := some 33, op := Op.move (Operand.tmp 6), type := 26, pos := "order.go:24", after := #[], guard := none }, { dst := some 34, op := Op.nilCheck (Operand.tmp 33), type := 0, pos := "order.go:24", after := #[{ on := 5, ground := Ground.data }], guard := none }, { dst := some 35, op := Op.fieldAddr 47 (Operand.tmp 34) 1, type := 0, pos := "order.go:24", after := #[{ on := 6, ground := Ground.data }], guard := none }, { dst := some 36, op := Op.load 45 (Operand.tmp 35), type := 45, pos := "order.go:24", after := #[{ on := 7, ground := Ground.data }], guard := none }, { dst := some 37, op := Op.move (Operand.tmp 8), type := 9, pos := "order.go:24", after := #[], guard := none }, { dst := some 38, op := Op.lookup 45 (Operand.tmp 36) (Operand.tmp 37) false, type := 22, pos := "order.go:24", after := #[{ on := 8, ground := Ground.data }, { on := 9, ground := Ground.data }], guard := none }, { dst := some 39, op := Op.move (Operand.tmp 1), type := 23, pos := "order.go:24", after := #[], guard := none }, { dst := some 40, op := Op.move (Operand.tmp 7), type := 3, pos := "order.go:24", after := #[], guard := none }, { dst := some 41, op := Op.indexAddr 23 (Operand.tmp 39) (Operand.tmp 40), type := 0, pos := "order.go:24", after := #[{ on := 11, ground := Ground.data }, { on := 12, ground := Ground.data }], guard := none }, { dst := some 42, op := Op.load 22 (Operand.tmp 41), type := 22, pos := "order.go:24", after := #[{ on := 13, ground := Ground.data }], guard := none }, { dst := some 43, op := Op.call { callee := Callee.builtin Builtin.append, args := #[Operand.tmp 38, Operand.tmp 42], argTypes := #[22, 22] }, type := 22, pos := "order.go:24", after := #[{ on := 10, ground := Ground.data }, { on := 14, ground := Ground.data }], guard := none }, { dst := none, op := Op.mapUpdate 45 (Operand.tmp 31) (Operand.tmp 32) (Operand.tmp 43), type := 0, pos := "order.go:24", after := #[{ on := 3, ground := Ground.data }, { on := 4, ground := Ground.data }, { on := 15, ground := Ground.data }, { on := 15, ground := Ground.chain }, { on := 0, ground := Ground.phase }, { on := 1, ground := Ground.phase }, { on := 2, ground := Ground.phase }, { on := 3, ground := Ground.phase }, { on := 4, ground := Ground.phase }, { on := 5, ground := Ground.phase }, { on := 6, ground := Ground.phase }, { on := 7, ground := Ground.phase }, { on := 8, ground := Ground.phase }, { on := 9, ground := Ground.phase }, { on := 10, ground := Ground.phase }, { on := 11, ground := Ground.phase }, { on := 12, ground := Ground.phase }, { on := 13, ground := Ground.phase }, { on := 14, ground := Ground.phase }, { on := 15, ground := Ground.phase }], guard := none }] true).wp Try.prog K ⟨#[u0, .slice (some ⟨nb, noff, none⟩) nn nc, u2, u3, u4, u5, .pointer (some ⟨gb, 0, none⟩), .int .i64 (i : Int), .string s, u9, u10, u11, u12, u13, u14, u15, u16, u17, u18, u19, u20, u21, u22, u23, u24, u25, u26, u27, u28, u29, u30, u31, u32, u33, u34, u35, u36, u37, u38, u39, u40, u41, u42, u43, u44, u45, u46, u47, u48, u49, u50, u51, u52, u53, u54, u55, u56, u57, u58, u59, u60, u61, u62, u63, u64, u65, u66, u67], []⟩ v := by
  have HD := Lib.hid hD
  have HSZ := Lib.hid hs
  have HBS := Lib.hid hBs
  have HNB := Lib.hid hn
  have HGB := Lib.hid hgb
  have HGM := Lib.hid hgm
  have HP := Lib.hid hp
  have HKK := Lib.hid hk
  have HMB := Lib.hid hm
  have HNM := Lib.hid hnb
  have HNBB : Hid (nb < B) := Lib.hid (by omega)
  have HL : Hid (IsS v.drew ao m c l) := Lib.hid (hI.later (Below.refl _ _).drew)
  obtain ⟨i0, hi0, hz0, hz1, hz2⟩ := info_parts info_str
  have HI := Lib.hid hi0
  have HZ0 := Lib.hid hz0
  have HZ1 := Lib.hid hz1
  have HZ2 := Lib.hid hz2
  have HS0 : Hid (v.cell? ⟨gb, 1, none⟩ = some (.map (some mb)) ∧ v.cell? ⟨nb, noff + i, none⟩ = some (.slice ao m c)) := Lib.hid ⟨hH.cellAt (i := 1) rfl, hc⟩
  have hki : (i : Int) < (nn : Int) := by omega
  have hk0 : (0 : Int) ≤ (i : Int) := by omega
  clear hD hH hs hc hI hi hm hn hBs hgb hgm hnb hnn hi0 hz0 hz1 hz2 hp hk
  refine wp_region_held_drew (S := fun Y => Y.cell? ⟨gb, 1, none⟩ = some (.map (some mb)) ∧ Y.cell? ⟨nb, noff + i, none⟩ = some (.slice ao m c)) (by kernel_rfl) HS0.out (fun hHeld => ?_)
  obtain ⟨v0, hv0⟩ : ∃ v0, v0 = v.drew := ⟨_, rfl⟩
  have D0 : Hid (NM v0 mb B n M N) := Lib.hid (by rw [hv0]; exact HD.out.drewN 1)
  have B0 : Hid (But B mb v v0) := Lib.hid (by rw [hv0]; exact (But.refl _ _ _).drew)
  have HBB : Hid (B ≤ v0.heap.size) := Lib.hid (by rw [hv0]; exact HBS.out)
  rw [← hv0] at HL hHeld ⊢
  have S0 : Hid (v0.cell? ⟨gb, 1, none⟩ = some (.map (some mb)) ∧ v0.cell? ⟨nb, noff + i, none⟩ = some (.slice ao m c)) := Lib.hid (by rw [hv0]; exact HS0.out)
  clear hv0
  refine wpAnyH_take (i := 0) (oi := { dst := some 28, op := Op.move (Operand.tmp 6), type := 26, pos := "order.go:24", after := #[], guard := none }) (v := .pointer (some ⟨gb, 0, none⟩)) rfl (by kernel_rfl) (by kernel_rfl) (by kernel_rfl) (fun _ _ _ h => HP.out _ _ _ _ h)
    (Or.inl ⟨by rfl, by intro w hSw;  clear hSw; go_simp⟩) hHeld ?_
  try simp only [Act.put, List.setIfInBounds_toArray, List.set_cons_zero, List.set_cons_succ]
  refine wpAnyH_take (i := 1) (oi := { dst := some 29, op := Op.nilCheck (Operand.tmp 28), type := 0, pos := "order.go:24", after := #[{ on := 0, ground := Ground.data }], guard := none }) (v := .pointer (some ⟨gb, 0, none⟩)) rfl (by kernel_rfl) (by kernel_rfl) (by kernel_rfl) (fun _ _ _ h => HP.out _ _ _ _ h)
    (Or.inl ⟨by rfl, by intro w hSw;  clear hSw; go_simp⟩) hHeld ?_
  try simp only [Act.put, List.setIfInBounds_toArray, List.set_cons_zero, List.set_cons_succ]
  refine wpAnyH_take (i := 2) (oi := { dst := some 30, op := Op.fieldAddr 47 (Operand.tmp 29) 1, type := 0, pos := "order.go:24", after := #[{ on := 1, ground := Ground.data }], guard := none }) (v := .pointer (some ⟨gb, 1, none⟩)) rfl (by kernel_rfl) (by kernel_rfl) (by kernel_rfl) (fun _ _ _ h => HP.out _ _ _ _ h)
    (Or.inl ⟨by rfl, by intro w hSw;  clear hSw; go_simp⟩) hHeld ?_
  try simp only [Act.put, List.setIfInBounds_toArray, List.set_cons_zero, List.set_cons_succ]
  refine wpAnyH_take (i := 3) (oi := { dst := some 31, op := Op.load 45 (Operand.tmp 30), type := 45, pos := "order.go:24", after := #[{ on := 2, ground := Ground.data }], guard := none }) (v := .map (some mb)) rfl (by kernel_rfl) (by kernel_rfl) (by kernel_rfl) (fun _ _ _ h => HP.out _ _ _ _ h)
    (Or.inl ⟨by rfl, by intro w hSw; have hq := hSw.1; clear hSw; go_simp⟩) hHeld ?_
  try simp only [Act.put, List.setIfInBounds_toArray, List.set_cons_zero, List.set_cons_succ]
  refine wpAnyH_take (i := 4) (oi := { dst := some 32, op := Op.move (Operand.tmp 8), type := 9, pos := "order.go:24", after := #[], guard := none }) (v := .string s) rfl (by kernel_rfl) (by kernel_rfl) (by kernel_rfl) (fun _ _ _ h => HP.out _ _ _ _ h)
    (Or.inl ⟨by rfl, by intro w hSw;  clear hSw; go_simp⟩) hHeld ?_
  try simp only [Act.put, List.setIfInBounds_toArray, List.set_cons_zero, List.set_cons_succ]
  refine wpAnyH_take (i := 5) (oi := { dst := some 33, op := Op.move (Operand.tmp 6), type := 26, pos := "order.go:24", after := #[], guard := none }) (v := .pointer (some ⟨gb, 0, none⟩)) rfl (by kernel_rfl) (by kernel_rfl) (by kernel_rfl) (fun _ _ _ h => HP.out _ _ _ _ h)
    (Or.inl ⟨by rfl, by intro w hSw;  clear hSw; go_simp⟩) hHeld ?_
  try simp only [Act.put, List.setIfInBounds_toArray, List.set_cons_zero, List.set_cons_succ]
  refine wpAnyH_take (i := 6) (oi := { dst := some 34, op := Op.nilCheck (Operand.tmp 33), type := 0, pos := "order.go:24", after := #[{ on := 5, ground := Ground.data }], guard := none }) (v := .pointer (some ⟨gb, 0, none⟩)) rfl (by kernel_rfl) (by kernel_rfl) (by kernel_rfl) (fun _ _ _ h => HP.out _ _ _ _ h)
    (Or.inl ⟨by rfl, by intro w hSw;  clear hSw; go_simp⟩) hHeld ?_
  try simp only [Act.put, List.setIfInBounds_toArray, List.set_cons_zero, List.set_cons_succ]
  refine wpAnyH_take (i := 7) (oi := { dst := some 35, op := Op.fieldAddr 47 (Operand.tmp 34) 1, type := 0, pos := "order.go:24", after := #[{ on := 6, ground := Ground.data }], guard := none }) (v := .pointer (some ⟨gb, 1, none⟩)) rfl (by kernel_rfl) (by kernel_rfl) (by kernel_rfl) (fun _ _ _ h => HP.out _ _ _ _ h)
    (Or.inl ⟨by rfl, by intro w hSw;  clear hSw; go_simp⟩) hHeld ?_
  try simp only [Act.put, List.setIfInBounds_toArray, List.set_cons_zero, List.set_cons_succ]
  refine wpAnyH_take (i := 8) (oi := { dst := some 36, op := Op.load 45 (Operand.tmp 35), type := 45, pos := "order.go:24", after := #[{ on := 7, ground := Ground.data }], guard := none }) (v := .map (some mb)) rfl (by kernel_rfl) (by kernel_rfl) (by kernel_rfl) (fun _ _ _ h => HP.out _ _ _ _ h)
    (Or.inl ⟨by rfl, by intro w hSw; have hq := hSw.1; clear hSw; go_simp⟩) hHeld ?_
  try simp only [Act.put, List.setIfInBounds_toArray, List.set_cons_zero, List.set_cons_succ]
  refine wpAnyH_take (i := 9) (oi := { dst := some 37, op := Op.move (Operand.tmp 8), type := 9, pos := "order.go:24", after := #[], guard := none }) (v := .string s) rfl (by kernel_rfl) (by kernel_rfl) (by kernel_rfl) (fun _ _ _ h => HP.out _ _ _ _ h)
    (Or.inl ⟨by rfl, by intro w hSw;  clear hSw; go_simp⟩) hHeld ?_
  try simp only [Act.put, List.setIfInBounds_toArray, List.set_cons_zero, List.set_cons_succ]
  refine wpAnyH_take (i := 11) (oi := { dst := some 39, op := Op.move (Operand.tmp 1), type := 23, pos := "order.go:24", after := #[], guard := none }) (v := .slice (some ⟨nb, noff, none⟩) nn nc) rfl (by kernel_rfl) (by kernel_rfl) (by kernel_rfl) (fun _ _ _ h => HP.out _ _ _ _ h)
    (Or.inl ⟨by rfl, by intro w hSw;  clear hSw; go_simp⟩) hHeld ?_
  try simp only [Act.put, List.setIfInBounds_toArray, List.set_cons_zero, List.set_cons_succ]
  refine wpAnyH_take (i := 12) (oi := { dst := some 40, op := Op.move (Operand.tmp 7), type := 3, pos := "order.go:24", after := #[], guard := none }) (v := .int .i64 (i : Int)) rfl (by kernel_rfl) (by kernel_rfl) (by kernel_rfl) (fun _ _ _ h => HP.out _ _ _ _ h)
    (Or.inl ⟨by rfl, by intro w hSw;  clear hSw; go_simp⟩) hHeld ?_
  try simp only [Act.put, List.setIfInBounds_toArray, List.set_cons_zero, List.set_cons_succ]
  refine wpAnyH_take (i := 13) (oi := { dst := some 41, op := Op.indexAddr 23 (Operand.tmp 39) (Operand.tmp 40), type := 0, pos := "order.go:24", after := #[{ on := 11, ground := Ground.data }, { on := 12, ground := Ground.data }], guard := none }) (v := .pointer (some ⟨nb, noff + i, none⟩)) rfl (by kernel_rfl) (by kernel_rfl) (by kernel_rfl) (fun _ _ _ h => HP.out _ _ _ _ h)
    (Or.inl ⟨by rfl, by intro w hSw;  clear hSw; go_simp⟩) hHeld ?_
  try simp only [Act.put, List.setIfInBounds_toArray, List.set_cons_zero, List.set_cons_succ]
  refine wpAnyH_take (i := 14) (oi := { dst := some 42, op := Op.load 22 (Operand.tmp 41), type := 22, pos := "order.go:24", after := #[{ on := 13, ground := Ground.data }], guard := none }) (v := .slice ao m c) rfl (by kernel_rfl) (by kernel_rfl) (by kernel_rfl) (fun _ _ _ h => HP.out _ _ _ _ h)
    (Or.inl ⟨by rfl, by intro w hSw; have hq := hSw.2; clear hSw; go_simp⟩) hHeld ?_
  try simp only [Act.put, List.setIfInBounds_toArray, List.set_cons_zero, List.set_cons_succ]
  refine wpAnyH_ready (rs := [10]) (by kernel_rfl) (by simp) ?_
  refine AllReadyH.cons (o := { dst := some 38, op := Op.lookup 45 (Operand.tmp 36) (Operand.tmp 37) false, type := 22, pos := "order.go:24", after := #[{ on := 8, ground := Ground.data }, { on := 9, ground := Ground.data }], guard := none }) rfl (fun K hK => ?_) AllReadyH.nil
  rw [if_pos (by rfl)]
  refine wp_lookup _ _ _ _ rfl (.map (some mb)) (.string s) _ rfl rfl (D0.out.get HSZ.out) ?_
  refine hK.out _ _ S0.out (fun hHw1 => ?_)
  clear hK K hHeld
  try simp only [Act.put, List.setIfInBounds_toArray, List.set_cons_zero, List.set_cons_succ]
  refine wpAnyH_ready (rs := [15]) (by kernel_rfl) (by simp) ?_
  refine AllReadyH.cons (o := { dst := some 43, op := Op.call { callee := Callee.builtin Builtin.append, args := #[Operand.tmp 38, Operand.tmp 42], argTypes := #[22, 22] }, type := 22, pos := "order.go:24", after := #[{ on := 10, ground := Ground.data }, { on := 14, ground := Ground.data }], guard := none }) rfl (fun K hK => ?_) AllReadyH.nil
  rw [if_pos (by rfl)]
  refine wp_append_srcL (.tmp 38) (.tmp 42) 22 rfl B 9 i0 (.string ByteArray.empty) 1 16 Try.underlying22 HI.out HZ0.out HZ1.out HZ2.out rfl (by omega) (getV M s) (getN N s).length ((getN N s).map Value.string) rfl (D0.out.own s) ao m c (l.map Value.string) rfl (by rw [List.length_map, HL.out.length, Nat.mul_one]) (fun e => HL.out.nil e) HL.out.news (fun u hu => by obtain ⟨x, _, rfl⟩ := List.mem_map.1 hu; rfl) (by have := HMB.out; unfold maxLen; omega) (by have := HMB.out; omega) HBB.out (fun vr w4 h4o h4g h4b => ?_)
  have G4 := Lib.hid h4g
  have O4 : Hid (w4.ownsRow B 9 1 vr (getN N s ++ l).length ((getN N s ++ l).map Value.string)) := Lib.hid (by rw [List.length_append, HL.out.length, List.map_append]; exact h4o)
  have F4 : Hid (∀ q, vr.ownBlock = some q → (getV M s).ownBlock = some q ∨ v0.heap.size ≤ q) := Lib.hid (fun q hq => (h4b q hq).imp id (fun e => by omega))
  have X4 : Below B v0 w4 := ⟨h4g.os, h4g.tape, h4g.output, h4g.size, fun k hk => h4g.block k (Nat.lt_of_lt_of_le hk HBB.out) (fun e => by have := ((D0.out.own s).lt k e.symm).1; omega)⟩
  have B4 : Hid (But B mb v w4) := Lib.hid (B0.out.trans (.of_below X4))
  have LB4 : Hid (B ≤ w4.heap.size) := Lib.hid (Nat.le_trans HBB.out h4g.size)
  have S4 : Hid (w4.cell? ⟨gb, 1, none⟩ = some (.map (some mb)) ∧ w4.cell? ⟨nb, noff + i, none⟩ = some (.slice ao m c)) := Lib.hid ⟨(X4.cell HGB.out).trans S0.out.1, (X4.cell HNBB.out).trans S0.out.2⟩
  clear h4o h4g h4b X4
  refine hK.out _ _ S4.out (fun hHw2 => ?_)
  clear hK K hHw1
  try simp only [Act.put, List.setIfInBounds_toArray, List.set_cons_zero, List.set_cons_succ]
  refine wpAnyH_ready (rs := [16]) (by kernel_rfl) (by simp) ?_
  refine AllReadyH.cons (o := { dst := none, op := Op.mapUpdate 45 (Operand.tmp 31) (Operand.tmp 32) (Operand.tmp 43), type := 0, pos := "order.go:24", after := #[{ on := 3, ground := Ground.data }, { on := 4, ground := Ground.data }, { on := 15, ground := Ground.data }, { on := 15, ground := Ground.chain }, { on := 0, ground := Ground.phase }, { on := 1, ground := Ground.phase }, { on := 2, ground := Ground.phase }, { on := 3, ground := Ground.phase }, { on := 4, ground := Ground.phase }, { on := 5, ground := Ground.phase }, { on := 6, ground := Ground.phase }, { on := 7, ground := Ground.phase }, { on := 8, ground := Ground.phase }, { on := 9, ground := Ground.phase }, { on := 10, ground := Ground.phase }, { on := 11, ground := Ground.phase }, { on := 12, ground := Ground.phase }, { on := 13, ground := Ground.phase }, { on := 14, ground := Ground.phase }, { on := 15, ground := Ground.phase }], guard := none }) rfl (fun K hK => ?_) AllReadyH.nil
  obtain ⟨w5, hr5, hn5, hg5, hs5⟩ := D0.out.put (by have := HNB.out; unfold maxLen; omega) HSZ.out G4.out O4.out F4.out
  have N5 := Lib.hid hn5
  have B5 : Hid (But B mb v w5) := Lib.hid (B4.out.trans ⟨hg5.os, hg5.tape, hg5.output, hg5.size, fun k hk hb => hg5.block k (Nat.lt_of_lt_of_le hk LB4.out) (fun e => hb (Option.some.inj e))⟩)
  rw [if_pos (by rfl)]
  refine wp_mapUpdate _ _ _ _ rfl (.map (some mb)) (.string s) vr rfl rfl rfl w5 hr5 ?_
  have S5 : Hid (w5.cell? ⟨gb, 1, none⟩ = some (.map (some mb)) ∧ w5.cell? ⟨nb, noff + i, none⟩ = some (.slice ao m c)) := Lib.hid (⟨(World.cell?_of_block (w := w4) (a := ⟨gb, 1, none⟩) (hg5.block gb (Nat.lt_of_lt_of_le HGB.out LB4.out) (fun e => by have := Option.some.inj e; have := HGM.out; omega))).trans S4.out.1, (World.cell?_of_block (w := w4) (a := ⟨nb, noff + i, none⟩) (hg5.block nb (Nat.lt_of_lt_of_le HNBB.out LB4.out) (fun e => by have := Option.some.inj e; have := HNM.out; omega))).trans S4.out.2⟩)
  clear hr5 hn5 hg5 hs5
  refine hK.out _ _ S5.out (fun hHw3 => ?_)
  clear hK K hHw2
  try simp only [Act.put]
  refine wpAnyH_done (by kernel_rfl) ?_ _
  clear hHw3
  exact HKK.out _ _ _ N5.out B5.out

set_option maxRecDepth 100000 in
set_option maxHeartbeats 8000000 in
theorem new_rs {v : World} {gb mb B n : Nat} {M : ByteArray → Option Value} {N : ByteArray → Option (List ByteArray)} {vns : Value} {s : ByteArray} {ra : Option Addr} {rc : Nat} (hg : getV M s = .slice ra (getN N s).length rc) (hI : IsS v ra (getN N s).length rc (getN N s)) (hD : NM v mb B n M N) (hH : Has v gb [vns, .map (some mb)] 47) (hs : s.size ≤ maxLen) (hm : (getN N s).length ≤ 100000) (hn : n < 200000) (hBs : B ≤ v.heap.size) (hgb : gb < B) (hgm : mb < gb)
    {u0 u1 u2 u3 u4 u5 u7 u8 u9 u11 u12 u13 u14 u15 u16 u17 u18 u19 u20 u21 u22 u23 u24 u25 u26 u27 u28 u29 u30 u31 u32 u33 u34 u35 u36 u37 u38 u39 u40 u41 u42 u43 u44 u45 u46 u47 u48 u49 u50 u51 u52 u53 u54 u55 u56 u57 u58 u59 u60 u61 u62 u63 u64 u65 u66 u67 : Value} {K : Exit → Act → World → Prop} (hp : ∀ c (a : Act) ts w, K (.panic c) { a with tmps := ts } w → K (.panic c) a w)
    (hk : ∀ (v' : World) (M' : ByteArray → Option Value) (vr : Value) (out : List ByteArray), out.map btsOf = sortT ((getN N s).map btsOf) → NM v' mb B (n + 1) M' (putN N s out) → But B mb v v' → K .normal ⟨#[u0, u1, u2, u3, u4, u5, .pointer (some ⟨gb, 0, none⟩), u7, u8, u9, .string s, u11, u12, u13, u14, u15, u16, u17, u18, u19, u20, u21, u22, u23, u24, u25, u26, u27, u28, u29, u30, u31, u32, u33, u34, u35, u36, u37, u38, u39, u40, u41, u42, u43, u44, u45, u46, u47, u48, u49, u50, u51, u52, u53, .pointer (some ⟨gb, 0, none⟩), .pointer (some ⟨gb, 0, none⟩), .pointer (some ⟨gb, 1, none⟩), .map (some mb), .string s, .pointer (some ⟨gb, 0, none⟩), .pointer (some ⟨gb, 0, none⟩), .pointer (some ⟨gb, 1, none⟩), .map (some mb), .string s, .slice ra (getN N s).length rc, vr, u66, u67], []⟩ v') :
    (Code.region 12 #[{ dst := some 54, op := Op.move (Operand.tmp 6), type := 26, pos := "order.go:27", after := #[], guard := none }, { dst := some 55, op := Op.nilCheck (Operand.tmp 54), type := 0, pos := "order.go:27", after := #[{ on := 0, ground := Ground.data }], guard := none }, { dst := some 56, op := Op.fieldAddr 47 (Operand.tmp 55) 1, type := 0, pos := "order.go:27", after := #[{ on := 1, ground := Ground.data }], guard := none }, { dst := some 57, op := Op.load 45 (Operand.tmp 56), type := 45, pos := "order.go:27", after := #[{ on := 2, ground := Ground.data }], guard := none }, { dst := some 58, op := Op.move (Operand.tmp 10), type := 9, pos := "order.go:27", after := #[], guard := none }, { dst := some 59, op := Op.move (Operand.tmp 6), type := 26, pos := "order.go:27", after := #[], guard := none }, { dst := some 60, op := Op.nilCheck (Operand.tmp 59), type := 0, pos := "order.go:27", after := #[{ on := 5, ground := Ground.data }], guard := none }, { dst := some 61, op := Op.fieldAddr 47 (Operand.tmp 60) 1, type := 0, pos := "order.go:27", after := #[{ on := 6, ground := Ground.data }], guard := none }, { dst := some 62, op := Op.load 45 (Operand.tmp 61), type := 45, pos := "order.go:27", after := #[{ on := 7, ground := Ground.data }], guard := none }, { dst := some 63, op := Op.move (Operand.tmp 10), type := 9, pos := "order.go:27", after := #[], guard := none }, { dst := some 64, op := Op.lookup 45 (Operand.tmp 62) (Operand.tmp 63) false, type := 22, pos := "order.go:27", after := #[{ on := 8, ground := Ground.data }, { on := 9, ground := Ground.data }], guard := none }, { dst := some 65, op := Op.call { callee := Callee.value (Operand.func 19), args := #[Operand.tmp 64], argTypes := #[22] }, type := 22, pos := "order.go:27", after := #[{ on := 10, ground := Ground.data }], guard := none }, { dst := none, op := Op.mapUpdate 45 (Operand.tmp 57) (Operand.tmp 58) (Operand.tmp 65), type := 0, pos := "order.go:27", after := #[{ on := 3, ground := Ground.data }, { on := 4, ground := Ground.data }, { on := 11, ground := Ground.data }, { on := 11, ground := Ground.chain }, { on := 0, ground := Ground.phase }, { on := 1, ground := Ground.phase }, { on := 2, ground := Ground.phase }, { on := 3, ground := Ground.phase }, { on := 4, ground := Ground.phase }, { on := 5, ground := Ground.phase }, { on := 6, ground := Ground.phase }, { on := 7, ground := Ground.phase }, { on := 8, ground := Ground.phase }, { on := 9, ground := Ground.phase }, { on := 10, ground := Ground.phase }, { on := 11, ground := Ground.phase }], guard := none }] true).wp Try.prog K ⟨#[u0, u1, u2, u3, u4, u5, .pointer (some ⟨gb, 0, none⟩), u7, u8, u9, .string s, u11, u12, u13, u14, u15, u16, u17, u18, u19, u20, u21, u22, u23, u24, u25, u26, u27, u28, u29, u30, u31, u32, u33, u34, u35, u36, u37, u38, u39, u40, u41, u42, u43, u44, u45, u46, u47, u48, u49, u50, u51, u52, u53, u54, u55, u56, u57, u58, u59, u60, u61, u62, u63, u64, u65, u66, u67], []⟩ v := by
  have HD := Lib.hid hD
  have HSZ := Lib.hid hs
  have HBS := Lib.hid hBs
  have HNB := Lib.hid hn
  have HGB := Lib.hid hgb
  have HGM := Lib.hid hgm
  have HP := Lib.hid hp
  have HKK := Lib.hid hk
  have HMB := Lib.hid hm
  have HG := Lib.hid hg
  have HIS : Hid (IsS v.drew ra (getN N s).length rc (getN N s)) := Lib.hid (hI.later (Below.refl _ _).drew)
  have HS0 : Hid (v.cell? ⟨gb, 1, none⟩ = some (.map (some mb))) := Lib.hid (hH.cellAt (i := 1) rfl)
  clear hg hI hD hH hs hm hn hBs hgb hgm hp hk
  refine wp_region_held_drew (S := fun Y => Y.cell? ⟨gb, 1, none⟩ = some (.map (some mb))) (by kernel_rfl) HS0.out (fun hHeld => ?_)
  obtain ⟨v0, hv0⟩ : ∃ v0, v0 = v.drew := ⟨_, rfl⟩
  have D0 : Hid (NM v0 mb B n M N) := Lib.hid (by rw [hv0]; exact HD.out.drewN 1)
  have B0 : Hid (But B mb v v0) := Lib.hid (by rw [hv0]; exact (But.refl _ _ _).drew)
  have HBB : Hid (B ≤ v0.heap.size) := Lib.hid (by rw [hv0]; exact HBS.out)
  rw [← hv0] at HIS hHeld ⊢
  have S0 : Hid (v0.cell? ⟨gb, 1, none⟩ = some (.map (some mb))) := Lib.hid (by rw [hv0]; exact HS0.out)
  clear hv0
  refine wpAnyH_take (i := 0) (oi := { dst := some 54, op := Op.move (Operand.tmp 6), type := 26, pos := "order.go:27", after := #[], guard := none }) (v := .pointer (some ⟨gb, 0, none⟩)) rfl (by kernel_rfl) (by kernel_rfl) (by kernel_rfl) (fun _ _ _ h => HP.out _ _ _ _ h)
    (Or.inl ⟨by rfl, by intro w hSw;  clear hSw; go_simp⟩) hHeld ?_
  try simp only [Act.put, List.setIfInBounds_toArray, List.set_cons_zero, List.set_cons_succ]
  refine wpAnyH_take (i := 1) (oi := { dst := some 55, op := Op.nilCheck (Operand.tmp 54), type := 0, pos := "order.go:27", after := #[{ on := 0, ground := Ground.data }], guard := none }) (v := .pointer (some ⟨gb, 0, none⟩)) rfl (by kernel_rfl) (by kernel_rfl) (by kernel_rfl) (fun _ _ _ h => HP.out _ _ _ _ h)
    (Or.inl ⟨by rfl, by intro w hSw;  clear hSw; go_simp⟩) hHeld ?_
  try simp only [Act.put, List.setIfInBounds_toArray, List.set_cons_zero, List.set_cons_succ]
  refine wpAnyH_take (i := 2) (oi := { dst := some 56, op := Op.fieldAddr 47 (Operand.tmp 55) 1, type := 0, pos := "order.go:27", after := #[{ on := 1, ground := Ground.data }], guard := none }) (v := .pointer (some ⟨gb, 1, none⟩)) rfl (by kernel_rfl) (by kernel_rfl) (by kernel_rfl) (fun _ _ _ h => HP.out _ _ _ _ h)
    (Or.inl ⟨by rfl, by intro w hSw;  clear hSw; go_simp⟩) hHeld ?_
  try simp only [Act.put, List.setIfInBounds_toArray, List.set_cons_zero, List.set_cons_succ]
  refine wpAnyH_take (i := 3) (oi := { dst := some 57, op := Op.load 45 (Operand.tmp 56), type := 45, pos := "order.go:27", after := #[{ on := 2, ground := Ground.data }], guard := none }) (v := .map (some mb)) rfl (by kernel_rfl) (by kernel_rfl) (by kernel_rfl) (fun _ _ _ h => HP.out _ _ _ _ h)
    (Or.inl ⟨by rfl, by intro w hSw; have hq := hSw; clear hSw; go_simp⟩) hHeld ?_
  try simp only [Act.put, List.setIfInBounds_toArray, List.set_cons_zero, List.set_cons_succ]
  refine wpAnyH_take (i := 4) (oi := { dst := some 58, op := Op.move (Operand.tmp 10), type := 9, pos := "order.go:27", after := #[], guard := none }) (v := .string s) rfl (by kernel_rfl) (by kernel_rfl) (by kernel_rfl) (fun _ _ _ h => HP.out _ _ _ _ h)
    (Or.inl ⟨by rfl, by intro w hSw;  clear hSw; go_simp⟩) hHeld ?_
  try simp only [Act.put, List.setIfInBounds_toArray, List.set_cons_zero, List.set_cons_succ]
  refine wpAnyH_take (i := 5) (oi := { dst := some 59, op := Op.move (Operand.tmp 6), type := 26, pos := "order.go:27", after := #[], guard := none }) (v := .pointer (some ⟨gb, 0, none⟩)) rfl (by kernel_rfl) (by kernel_rfl) (by kernel_rfl) (fun _ _ _ h => HP.out _ _ _ _ h)
    (Or.inl ⟨by rfl, by intro w hSw;  clear hSw; go_simp⟩) hHeld ?_
  try simp only [Act.put, List.setIfInBounds_toArray, List.set_cons_zero, List.set_cons_succ]
  refine wpAnyH_take (i := 6) (oi := { dst := some 60, op := Op.nilCheck (Operand.tmp 59), type := 0, pos := "order.go:27", after := #[{ on := 5, ground := Ground.data }], guard := none }) (v := .pointer (some ⟨gb, 0, none⟩)) rfl (by kernel_rfl) (by kernel_rfl) (by kernel_rfl) (fun _ _ _ h => HP.out _ _ _ _ h)
    (Or.inl ⟨by rfl, by intro w hSw;  clear hSw; go_simp⟩) hHeld ?_
  try simp only [Act.put, List.setIfInBounds_toArray, List.set_cons_zero, List.set_cons_succ]
  refine wpAnyH_take (i := 7) (oi := { dst := some 61, op := Op.fieldAddr 47 (Operand.tmp 60) 1, type := 0, pos := "order.go:27", after := #[{ on := 6, ground := Ground.data }], guard := none }) (v := .pointer (some ⟨gb, 1, none⟩)) rfl (by kernel_rfl) (by kernel_rfl) (by kernel_rfl) (fun _ _ _ h => HP.out _ _ _ _ h)
    (Or.inl ⟨by rfl, by intro w hSw;  clear hSw; go_simp⟩) hHeld ?_
  try simp only [Act.put, List.setIfInBounds_toArray, List.set_cons_zero, List.set_cons_succ]
  refine wpAnyH_take (i := 8) (oi := { dst := some 62, op := Op.load 45 (Operand.tmp 61), type := 45, pos := "order.go:27", after := #[{ on := 7, ground := Ground.data }], guard := none }) (v := .map (some mb)) rfl (by kernel_rfl) (by kernel_rfl) (by kernel_rfl) (fun _ _ _ h => HP.out _ _ _ _ h)
    (Or.inl ⟨by rfl, by intro w hSw; have hq := hSw; clear hSw; go_simp⟩) hHeld ?_
  try simp only [Act.put, List.setIfInBounds_toArray, List.set_cons_zero, List.set_cons_succ]
  refine wpAnyH_take (i := 9) (oi := { dst := some 63, op := Op.move (Operand.tmp 10), type := 9, pos := "order.go:27", after := #[], guard := none }) (v := .string s) rfl (by kernel_rfl) (by kernel_rfl) (by kernel_rfl) (fun _ _ _ h => HP.out _ _ _ _ h)
    (Or.inl ⟨by rfl, by intro w hSw;  clear hSw; go_simp⟩) hHeld ?_
  try simp only [Act.put, List.setIfInBounds_toArray, List.set_cons_zero, List.set_cons_succ]
  refine wpAnyH_ready (rs := [10]) (by kernel_rfl) (by simp) ?_
  refine AllReadyH.cons (o := { dst := some 64, op := Op.lookup 45 (Operand.tmp 62) (Operand.tmp 63) false, type := 22, pos := "order.go:27", after := #[{ on := 8, ground := Ground.data }, { on := 9, ground := Ground.data }], guard := none }) rfl (fun K hK => ?_) AllReadyH.nil
  rw [if_pos (by rfl)]
  refine wp_lookup _ _ _ _ rfl (.map (some mb)) (.string s) (.slice ra (getN N s).length rc) rfl rfl (by rw [← HG.out]; exact D0.out.get HSZ.out) ?_
  refine hK.out _ _ S0.out (fun hHw1 => ?_)
  clear hK K hHeld
  try simp only [Act.put, List.setIfInBounds_toArray, List.set_cons_zero, List.set_cons_succ]
  refine wpAnyH_ready (rs := [11]) (by kernel_rfl) (by simp) ?_
  refine AllReadyH.cons (o := { dst := some 65, op := Op.call { callee := Callee.value (Operand.func 19), args := #[Operand.tmp 64], argTypes := #[22] }, type := 22, pos := "order.go:27", after := #[{ on := 10, ground := Ground.data }], guard := none }) rfl (fun K hK => ?_) AllReadyH.nil
  go_simp
  refine (rising_any ra (getN N s).length rc (getN N s) v0 HIS.out (by have := HMB.out; omega)).mono ?_
  rintro e w4 ⟨vr, out, rfl, ho4, hl4, h4o, h4b⟩
  have HO := Lib.hid ho4
  have G4 : Hid (v0.grownBy w4 (getV M s).ownBlock) := Lib.hid ⟨h4b.os, h4b.tape, h4b.output, h4b.size, fun i hi _ => h4b.block i hi⟩
  have O4 : Hid (w4.ownsRow B 9 1 vr out.length (out.map Value.string)) := Lib.hid (owns_down h4o HBB.out)
  have F4 : Hid (∀ q, vr.ownBlock = some q → (getV M s).ownBlock = some q ∨ v0.heap.size ≤ q) := Lib.hid (fun q hq => .inr (h4o.lt q hq).1)
  have X4 : Below B v0 w4 := h4b.mono HBB.out
  have B4 : Hid (But B mb v w4) := Lib.hid (B0.out.trans (.of_below X4))
  have LB4 : Hid (B ≤ w4.heap.size) := Lib.hid (Nat.le_trans HBB.out h4b.size)
  have S4 : Hid (w4.cell? ⟨gb, 1, none⟩ = some (.map (some mb))) := Lib.hid ((X4.cell HGB.out).trans S0.out)
  clear ho4 hl4 h4o h4b X4
  go_wp2_with fail
  refine hK.out _ _ S4.out (fun hHw2 => ?_)
  clear hK K hHw1
  try simp only [Act.put, List.setIfInBounds_toArray, List.set_cons_zero, List.set_cons_succ]
  refine wpAnyH_ready (rs := [12]) (by kernel_rfl) (by simp) ?_
  refine AllReadyH.cons (o := { dst := none, op := Op.mapUpdate 45 (Operand.tmp 57) (Operand.tmp 58) (Operand.tmp 65), type := 0, pos := "order.go:27", after := #[{ on := 3, ground := Ground.data }, { on := 4, ground := Ground.data }, { on := 11, ground := Ground.data }, { on := 11, ground := Ground.chain }, { on := 0, ground := Ground.phase }, { on := 1, ground := Ground.phase }, { on := 2, ground := Ground.phase }, { on := 3, ground := Ground.phase }, { on := 4, ground := Ground.phase }, { on := 5, ground := Ground.phase }, { on := 6, ground := Ground.phase }, { on := 7, ground := Ground.phase }, { on := 8, ground := Ground.phase }, { on := 9, ground := Ground.phase }, { on := 10, ground := Ground.phase }, { on := 11, ground := Ground.phase }], guard := none }) rfl (fun K hK => ?_) AllReadyH.nil
  obtain ⟨w5, hr5, hn5, hg5, hs5⟩ := D0.out.put (by have := HNB.out; unfold maxLen; omega) HSZ.out G4.out O4.out F4.out
  have N5 := Lib.hid hn5
  have B5 : Hid (But B mb v w5) := Lib.hid (B4.out.trans ⟨hg5.os, hg5.tape, hg5.output, hg5.size, fun k hk hb => hg5.block k (Nat.lt_of_lt_of_le hk LB4.out) (fun e => hb (Option.some.inj e))⟩)
  rw [if_pos (by rfl)]
  refine wp_mapUpdate _ _ _ _ rfl (.map (some mb)) (.string s) vr rfl rfl rfl w5 hr5 ?_
  have S5 : Hid (w5.cell? ⟨gb, 1, none⟩ = some (.map (some mb))) := Lib.hid ((World.cell?_of_block (w := w4) (a := ⟨gb, 1, none⟩) (hg5.block gb (Nat.lt_of_lt_of_le HGB.out LB4.out) (fun e => by have := Option.some.inj e; have := HGM.out; omega))).trans S4.out)
  clear hr5 hn5 hg5 hs5
  refine hK.out _ _ S5.out (fun hHw3 => ?_)
  clear hK K hHw2
  try simp only [Act.put]
  refine wpAnyH_done (by kernel_rfl) ?_ _
  clear hHw3
  exact HKK.out _ _ _ _ HO.out N5.out B5.out

end Go.Proofs.Ytdliecailkkciaa
