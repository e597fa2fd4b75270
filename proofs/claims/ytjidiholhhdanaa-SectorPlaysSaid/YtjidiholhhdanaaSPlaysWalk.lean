/-
  The walk of the law SectorPlays. Conditions: the calls lie in old memory.
-/
import Derived.Test.YtjidiholhhdanaaSDo
namespace Go.Proofs.Ytjidiholhhdanaa
open Go.RowKit
set_option linter.unusedVariables false
set_option maxRecDepth 100000

/-- Six cells that read as a call. -/
def ActOk (W : World) (cs : List Value) : Prop :=
  ∃ (z N : Int) (a : Option Addr) (len cap : Nat) (l : List UInt8) (ka : Option Addr) (kl kc : Nat) (ks : List Bool) (torn cut : Int), cs = actL z N a len cap ka kl kc torn cut ∧ 0 ≤ z ∧ z ≤ 255 ∧ -9223372036854775808 ≤ N ∧ N ≤ 9223372036854775807 ∧
    IsB W a len cap l ∧ IsO W W.heap.size ka kl kc ks
/-- A slice of calls. -/
structure IsActs (W : World) (a : Option Addr) (len cap : Nat) : Prop where
  at_ : len = 0 ∨ ∃ b off, a = some ⟨b, off, none⟩ ∧ b < W.heap.size ∧ ∀ i, i < len → ∃ cs, ActOk W cs ∧ W.rangeAt b (off + i * 6) cs
  room : len ≤ maxLen

theorem oldB_of {W : World} {a : Option Addr} {len cap : Nat} {l : List UInt8} (h : IsB W a len cap l) : OldB W W.heap.size a len cap l := by
  refine ⟨h, fun b off e h0 => ?_⟩
  rcases h.at_ with h1 | ⟨b', off', e', hlt, _⟩
  · omega
  · rw [e] at e'; cases e'; exact hlt
theorem OldB.up {w : World} {B B' : Nat} {a : Option Addr} {len cap : Nat} {l : List UInt8} (h : OldB w B a len cap l) (hB : B ≤ B') : OldB w B' a len cap l := ⟨h.1, fun b off e h0 => Nat.lt_of_lt_of_le (h.2 b off e h0) hB⟩
theorem IsO.up {w : World} {B B' : Nat} {a : Option Addr} {len cap : Nat} {l : List Bool} (h : IsO w B a len cap l) (hB : B ≤ B') : IsO w B' a len cap l := by
  refine ⟨h.length, ?_, h.room⟩
  rcases h.at_ with h0 | ⟨b, off, e, hlt, hb, hc⟩
  · exact .inl h0
  · exact .inr ⟨b, off, e, hlt, hb.imp (fun h => Nat.lt_of_lt_of_le h hB) id, hc⟩
theorem RDev.up {w : World} {B B' rp : Nat} {vl vw : Value} {n : Nat} {D : List UInt8} {way : List Wr} {left : Nat} {off : Bool} {ops : Nat} (h : RDev w B rp vl vw n D way left off ops) (hB : B' ≤ B) : RDev w B' rp vl vw n D way left off ops :=
  ⟨h.box, Joins.ownsRow_le h.strs hB, Joins.ownsRow_le h.wrs hB, h.dl, h.good, Nat.le_trans hB h.rpB, h.room⟩
theorem kp_old {W w : World} (h : Below W.heap.size W w) : Kp [] W.heap.size W w := Kp.of_below h
theorem infoAct (z N : Int) (a : Option Addr) (len cap : Nat) (ka : Option Addr) (kl kc : Nat) (torn cut : Int) : (Try.prog.info? 34).map (·.size) = some (actL z N a len cap ka kl kc torn cut).length := by
  show _ = some 6
  kernel_rfl

set_option maxHeartbeats 8000000 in
theorem walk_SectorPlays (W : World) (x : UInt8) (sa : Option Addr) (sl sc : Nat) (hacts : IsActs W sa sl sc) :
    Calls Try.prog 3 #[.int .u8 (x.toNat : Int), .slice sa sl sc] W fun e w' => e = .returned (.bool true) ∧ Below W.heap.size W w' := by
  have HACT := Lib.hid hacts
  have hsl : sl ≤ 9223372036854775807 := by have := hacts.room; unfold maxLen at this; omega
  clear hacts
  have hx : x.toNat < 256 := x.toNat_lt
  obtain ⟨r, hr⟩ : ∃ r, r = x.toNat % 9 := ⟨_, rfl⟩
  have hm1 : ((x.toNat : Nat) : Int).tmod 9 = (r : Int) := by rw [hr, Int.tmod_eq_emod_of_nonneg (by omega)]; omega
  have hm2 : ((x.toNat : Nat) : Int) % 9 = (r : Int) := by omega
  have hr9 : r < 9 := by omega
  have hwr : IntKind.i64.wrap ((x.toNat : Nat) : Int) = ((x.toNat : Nat) : Int) := by rw [IntKind.wrap_i64]; omega
  clear hr
  go_enter Try.func3, Try.ntmps3
  go_wp2_with fail
  refine (awake_any _).mono ?_
  rintro e w1 ⟨rfl, b1⟩
  have B1 := Lib.hid b1
  clear b1
  go_upto_region 4 with fail
  clear hm1 hm2 hwr hx
  obtain ⟨kn, hkn⟩ : ∃ kn, kn = 1 + r := ⟨_, rfl⟩
  have e1 : ((1 : Int) + (r : Int)) = (kn : Int) := by omega
  rw [e1]
  have k1 : 1 ≤ kn := by omega
  have k9 : kn ≤ 9 := by omega
  clear e1 hkn hr9
  go_wp2_with fail
  refine (new_any kn w1 k1 (by omega)).mono ?_
  rintro e w2 ⟨pb, bd, bl, rfl, hd, hb⟩
  have D2 := Lib.hid hd
  have B2 := Lib.hid hb
  clear hd hb
  go_wp2_with fail
  refine (rnew_any kn w2 (by omega)).mono ?_
  rintro e w3 ⟨rp, vl, rfl, hd, hb⟩
  have HREL : Hid (Rel w3 w1.heap.size pb rp kn 0) := Lib.hid ⟨bd, bl, _, _, _, _, _, _, _, _, _, _, D2.out.kp (ts := []) (B' := 0) (Kp.of_below hb) (by simp) (by simp) (by simp), hd.up B2.out.size, fun i hi => rfl, .inl ⟨rfl, Nat.le_refl _⟩, by omega, Nat.le_refl _, by simp⟩
  have B3 : Hid (Below W.heap.size W w3) := Lib.hid (B1.out.trans ((B2.out.mono B1.out.size).trans (hb.mono (Nat.le_trans B1.out.size B2.out.size))))
  have S3 : Hid (w1.heap.size ≤ w3.heap.size) := Lib.hid (Nat.le_trans B2.out.size hb.size)
  clear hd hb D2
  have HW1 : Hid (W.heap.size ≤ w1.heap.size) := Lib.hid B1.out.size
  go_wp2_with fail
  go_loopw [9] (fun ii wr => ∃ i : Nat, i ≤ sl ∧ i ≤ 100 ∧ ii = .int .i64 i ∧ Hid (Rel wr w1.heap.size pb rp kn i) ∧ Hid (Below W.heap.size W wr) ∧ Hid (w1.heap.size ≤ wr.heap.size)) (fun ii _ => 100 - (intOf ii).toNat)
  case atStart => exact ⟨0, Nat.zero_le _, Nat.zero_le _, rfl, HREL, B3, S3⟩
  case round =>
    clear HREL B3 S3
    obtain ⟨i, hi1, hi2, rfl, hrel, hB, hS⟩ := hrel
    by_cases hlt : i < sl ∧ i < 100
    · obtain ⟨h1, h2⟩ := hlt
      have h1i : (i : Int) < (sl : Int) := by omega
      have h2i : (i : Int) < 100 := by omega
      obtain ⟨b, off, rfl, hbW, cs, hok, hat⟩ : ∃ b off, sa = some ⟨b, off, none⟩ ∧ b < W.heap.size ∧ ∃ cs, ActOk W cs ∧ W.rangeAt b (off + i * 6) cs := by
        rcases HACT.out.at_ with h0 | ⟨b, off, e, hb, h⟩
        · omega
        · obtain ⟨cs, c1, c2⟩ := h i h1
          exact ⟨b, off, e, hb, cs, c1, c2⟩
      obtain ⟨z, N, a, len, cap, l, ka, kl, kc, ks, torn, cut, rfl, z0, z1, n0, n1, hIB, hIO⟩ := hok
      have RA : Hid (∀ w : World, w.heap[b]? = W.heap[b]? → w.rangeAt b (off + i * 6) (actL z N a len cap ka kl kc torn cut)) := Lib.hid (fun w e j u hj => (World.cell?_of_block (w := W) e).trans (hat j u hj))
      have EB : Hid (wr.heap[b]? = W.heap[b]?) := Lib.hid (hB.out.block b hbW)
      have hbr : b < w1.heap.size := Nat.lt_of_lt_of_le hbW HW1.out
      have HBR := Lib.hid hbr
      have HDO := Lib.hid (fun (hB1 : w1.heap.size ≤ wr.drew.heap.size) (hr : Rel wr.drew w1.heap.size pb rp kn i) => do_any hr (show i ≤ 900 by omega) (by omega) hB1 z N a len cap l ka kl kc ks torn cut (((oldB_of hIB).kp (kp_old hB.out.drew)).up HW1.out) ((hIO.kp (kp_old hB.out.drew) (by simp)).up HW1.out) z0 z1 n0 n1)
      have IA := Lib.hid (infoAct z N a len cap ka kl kc torn cut)
      clear hat hIB hIO hbr
      go_upto_region 11 with fail
      refine wp_region_held_drew (S := fun w => w.rangeAt b (off + i * 6) (actL z N a len cap ka kl kc torn cut)) (by kernel_rfl) (RA.out wr.drew EB.out) (fun hHeld => ?_)
      refine wpAnyH_take (i := 0) (oi := { dst := some 42, op := Op.move (Operand.tmp 6), type := 24, pos := "law.go:75", after := #[], guard := none }) (v := .pointer (some ⟨pb, 0, none⟩)) rfl (by kernel_rfl) (by kernel_rfl) (by kernel_rfl) (fun _ _ _ h => h)
        (Or.inl ⟨by rfl, by intro w hSw;  clear hSw; go_simp⟩) hHeld ?_
      try simp only [Act.put, List.setIfInBounds_toArray, List.set_cons_zero, List.set_cons_succ]
      refine wpAnyH_take (i := 1) (oi := { dst := some 43, op := Op.move (Operand.tmp 8), type := 28, pos := "law.go:75", after := #[], guard := none }) (v := .pointer (some ⟨rp, 0, none⟩)) rfl (by kernel_rfl) (by kernel_rfl) (by kernel_rfl) (fun _ _ _ h => h)
        (Or.inl ⟨by rfl, by intro w hSw;  clear hSw; go_simp⟩) hHeld ?_
      try simp only [Act.put, List.setIfInBounds_toArray, List.set_cons_zero, List.set_cons_succ]
      refine wpAnyH_take (i := 2) (oi := { dst := some 44, op := Op.move (Operand.tmp 1), type := 22, pos := "law.go:75", after := #[], guard := none }) (v := .slice (some ⟨b, off, none⟩) sl sc) rfl (by kernel_rfl) (by kernel_rfl) (by kernel_rfl) (fun _ _ _ h => h)
        (Or.inl ⟨by rfl, by intro w hSw;  clear hSw; go_simp⟩) hHeld ?_
      try simp only [Act.put, List.setIfInBounds_toArray, List.set_cons_zero, List.set_cons_succ]
      refine wpAnyH_take (i := 3) (oi := { dst := some 45, op := Op.move (Operand.tmp 9), type := 3, pos := "law.go:75", after := #[], guard := none }) (v := .int .i64 (i : Int)) rfl (by kernel_rfl) (by kernel_rfl) (by kernel_rfl) (fun _ _ _ h => h)
        (Or.inl ⟨by rfl, by intro w hSw;  clear hSw; go_simp⟩) hHeld ?_
      try simp only [Act.put, List.setIfInBounds_toArray, List.set_cons_zero, List.set_cons_succ]
      refine wpAnyH_take (i := 4) (oi := { dst := some 46, op := Op.indexAddr 22 (Operand.tmp 44) (Operand.tmp 45), type := 0, pos := "law.go:75", after := #[{ on := 2, ground := Ground.data }, { on := 3, ground := Ground.data }], guard := none }) (v := .pointer (some ⟨b, off + i * 6, none⟩)) rfl (by kernel_rfl) (by kernel_rfl) (by kernel_rfl) (fun _ _ _ h => h)
        (Or.inl ⟨by rfl, by intro w hSw;  clear hSw; go_simp⟩) hHeld ?_
      try simp only [Act.put, List.setIfInBounds_toArray, List.set_cons_zero, List.set_cons_succ]
      refine wpAnyH_take (i := 5) (oi := { dst := some 47, op := Op.load 34 (Operand.tmp 46), type := 34, pos := "law.go:75", after := #[{ on := 4, ground := Ground.data }], guard := none }) rfl (by kernel_rfl) (by kernel_rfl) (by kernel_rfl) (fun _ _ _ h => h)
        (yieldsIf_load_mid (by rfl) 34 (.tmp 46) rfl b (off + i * 6) rfl (actL z N a len cap ka kl kc torn cut) _ (fun _ h => h) Try.underlying34 rfl IA.out) hHeld ?_
      try simp only [Act.put, List.setIfInBounds_toArray, List.set_cons_zero, List.set_cons_succ]
      refine wpAnyH_ready (rs := [6]) (by kernel_rfl) (by simp) ?_
      refine AllReadyH.cons (o := { dst := some 48, op := Op.call { callee := Callee.value (Operand.func 10), args := #[Operand.tmp 42, Operand.tmp 43, Operand.tmp 47], argTypes := #[24, 28, 34] }, type := 4, pos := "law.go:75", after := #[{ on := 0, ground := Ground.data }, { on := 1, ground := Ground.data }, { on := 5, ground := Ground.data }], guard := none }) rfl (fun K hK => ?_) AllReadyH.nil
      go_simp
      refine (HDO.out hS.out (rel_below hrel.out (Below.refl _ _).drew)).mono ?_
      rintro e w4 ⟨rfl, hr4, hk4⟩
      have EB4 : Hid (w4.heap[b]? = W.heap[b]?) := Lib.hid ((hk4.block b (Nat.lt_of_lt_of_le HBR.out hS.out) (.inl HBR.out)).trans EB.out)
      have B4 : Hid (Below W.heap.size W w4) := Lib.hid (hB.out.drew.trans ((hk4.below hS.out).mono HW1.out))
      have S4 : Hid (w1.heap.size ≤ w4.heap.size) := Lib.hid (Nat.le_trans hS.out hk4.size)
      have R4 := Lib.hid hr4
      obtain ⟨bd4, bl4, v4, vl4, vw4, D4, L4, way4, ops4, fall4, left4, off4, hd, hr, _, _, _, ho4, hw4⟩ := hr4
      obtain ⟨va, vc, rfl⟩ := hr.vform
      have HON := Lib.hid (on_any hd)
      have HWY := Lib.hid (way_any hd)
      have HOP := Lib.hid (ops_any hd (by omega))
      have XR := Lib.hid hr.box
      clear hk4 hd hr
      refine hK.out _ _ (RA.out w4 EB4.out) (fun hHw1 => ?_)
      clear hK K hHeld
      try simp only [Act.put, List.setIfInBounds_toArray, List.set_cons_zero, List.set_cons_succ]
      refine wpAnyH_mono (S' := fun w => w.rangeAt b (off + i * 6) (actL z N a len cap ka kl kc torn cut) ∧ Has w rp (rboxL vl4 (.slice va way4.length vc) left4 off4 ops4) 38) (fun _ h => h.1) _ _ _ _ ?_
      have hHm : w4.rangeAt b (off + i * 6) (actL z N a len cap ka kl kc torn cut) ∧ Has w4 rp (rboxL vl4 (.slice va way4.length vc) left4 off4 ops4) 38 := ⟨RA.out w4 EB4.out, XR.out⟩
      clear hHw1
      refine wpAnyH_take (i := 7) (oi := { dst := some 49, op := Op.unOp UnOp.not 4 (Operand.tmp 48), type := 4, pos := "law.go:75", after := #[{ on := 6, ground := Ground.data }], guard := none }) (v := .bool false) rfl (by kernel_rfl) (by kernel_rfl) (by kernel_rfl) (fun _ _ _ h => h)
        (Or.inl ⟨by rfl, by intro w hSw;  clear hSw; go_simp⟩) hHm ?_
      try simp only [Act.put, List.setIfInBounds_toArray, List.set_cons_zero, List.set_cons_succ]
      refine wpAnyH_take (i := 8) (oi := { dst := some 50, op := Op.move (Operand.tmp 49), type := 4, pos := "law.go:75", after := #[{ on := 7, ground := Ground.data }, { on := 6, ground := Ground.chain }], guard := none }) (v := .bool false) rfl (by kernel_rfl) (by kernel_rfl) (by kernel_rfl) (fun _ _ _ h => h)
        (Or.inl ⟨by rfl, by intro w hSw;  clear hSw; go_simp⟩) hHm ?_
      try simp only [Act.put, List.setIfInBounds_toArray, List.set_cons_zero, List.set_cons_succ]
      refine wpAnyH_take (i := 9) (oi := { dst := some 51, op := Op.move (Operand.tmp 6), type := 24, pos := "law.go:75", after := #[{ on := 8, ground := Ground.guard }], guard := some (8, false) }) (v := .pointer (some ⟨pb, 0, none⟩)) rfl (by kernel_rfl) (by kernel_rfl) (by kernel_rfl) (fun _ _ _ h => h)
        (Or.inl ⟨by rfl, by intro w hSw;  clear hSw; go_simp⟩) hHm ?_
      try simp only [Act.put, List.setIfInBounds_toArray, List.set_cons_zero, List.set_cons_succ]
      refine wpAnyH_take (i := 11) (oi := { dst := some 53, op := Op.move (Operand.tmp 8), type := 28, pos := "law.go:75", after := #[{ on := 8, ground := Ground.guard }], guard := some (8, false) }) (v := .pointer (some ⟨rp, 0, none⟩)) rfl (by kernel_rfl) (by kernel_rfl) (by kernel_rfl) (fun _ _ _ h => h)
        (Or.inl ⟨by rfl, by intro w hSw;  clear hSw; go_simp⟩) hHm ?_
      try simp only [Act.put, List.setIfInBounds_toArray, List.set_cons_zero, List.set_cons_succ]
      refine wpAnyH_take (i := 12) (oi := { dst := some 54, op := Op.nilCheck (Operand.tmp 53), type := 0, pos := "law.go:75", after := #[{ on := 11, ground := Ground.data }, { on := 8, ground := Ground.guard }], guard := some (8, false) }) (v := .pointer (some ⟨rp, 0, none⟩)) rfl (by kernel_rfl) (by kernel_rfl) (by kernel_rfl) (fun _ _ _ h => h)
        (Or.inl ⟨by rfl, by intro w hSw;  clear hSw; go_simp⟩) hHm ?_
      try simp only [Act.put, List.setIfInBounds_toArray, List.set_cons_zero, List.set_cons_succ]
      refine wpAnyH_take (i := 13) (oi := { dst := some 55, op := Op.fieldAddr 38 (Operand.tmp 54) 3, type := 0, pos := "law.go:75", after := #[{ on := 12, ground := Ground.data }, { on := 8, ground := Ground.guard }], guard := some (8, false) }) (v := .pointer (some ⟨rp, 3, none⟩)) rfl (by kernel_rfl) (by kernel_rfl) (by kernel_rfl) (fun _ _ _ h => h)
        (Or.inl ⟨by rfl, by intro w hSw;  clear hSw; go_simp⟩) hHm ?_
      try simp only [Act.put, List.setIfInBounds_toArray, List.set_cons_zero, List.set_cons_succ]
      refine wpAnyH_take (i := 14) (oi := { dst := some 56, op := Op.load 4 (Operand.tmp 55), type := 4, pos := "law.go:75", after := #[{ on := 13, ground := Ground.data }, { on := 8, ground := Ground.guard }], guard := some (8, false) }) (v := .bool off4) rfl (by kernel_rfl) (by kernel_rfl) (by kernel_rfl) (fun _ _ _ h => h)
        (Or.inl ⟨by rfl, by intro w hSw; have s3 := hSw.2.cellAt (i := 3) rfl; clear hSw; go_simp⟩) hHm ?_
      try simp only [Act.put, List.setIfInBounds_toArray, List.set_cons_zero, List.set_cons_succ]
      refine wpAnyH_ready (rs := [10]) (by kernel_rfl) (by simp) ?_
      refine AllReadyH.cons (o := { dst := some 52, op := Op.call { callee := Callee.value (Operand.func 11), args := #[Operand.tmp 51], argTypes := #[24] }, type := 4, pos := "law.go:75", after := #[{ on := 9, ground := Ground.data }, { on := 8, ground := Ground.chain }, { on := 8, ground := Ground.guard }], guard := some (8, false) }) rfl (fun K hK => ?_) AllReadyH.nil
      go_simp
      refine HON.out.mono ?_
      rintro e w5 ⟨rfl, rfl⟩
      refine hK.out _ _ hHm (fun hHw2 => ?_)
      clear hK K hHm
      try simp only [Act.put, List.setIfInBounds_toArray, List.set_cons_zero, List.set_cons_succ]
      refine wpAnyH_take (i := 15) (oi := { dst := some 57, op := Op.binOp BinOp.eql 4 (Operand.tmp 52) (Operand.tmp 56) 4, type := 4, pos := "law.go:75", after := #[{ on := 10, ground := Ground.data }, { on := 14, ground := Ground.data }, { on := 8, ground := Ground.guard }], guard := some (8, false) }) (v := .bool false) rfl (by kernel_rfl) (by kernel_rfl) (by kernel_rfl) (fun _ _ _ h => h)
        (Or.inl ⟨by rfl, by intro w hSw;  clear hSw; go_simp; try (cases off4 <;> rfl)⟩) hHw2 ?_
      try simp only [Act.put, List.setIfInBounds_toArray, List.set_cons_zero, List.set_cons_succ]
      refine wpAnyH_take (i := 16) (oi := { dst := some 58, op := Op.pick (Operand.tmp 50) (Operand.const (Value.bool true)) (Operand.tmp 57), type := 4, pos := "law.go:75", after := #[{ on := 8, ground := Ground.data }, { on := 15, ground := Ground.data }], guard := none }) (v := .bool false) rfl (by kernel_rfl) (by kernel_rfl) (by kernel_rfl) (fun _ _ _ h => h)
        (Or.inl ⟨by rfl, by intro w hSw;  clear hSw; go_simp⟩) hHw2 ?_
      try simp only [Act.put, List.setIfInBounds_toArray, List.set_cons_zero, List.set_cons_succ]
      refine wpAnyH_take (i := 17) (oi := { dst := some 59, op := Op.move (Operand.tmp 58), type := 4, pos := "law.go:75", after := #[{ on := 16, ground := Ground.data }, { on := 10, ground := Ground.chain }], guard := none }) (v := .bool false) rfl (by kernel_rfl) (by kernel_rfl) (by kernel_rfl) (fun _ _ _ h => h)
        (Or.inl ⟨by rfl, by intro w hSw;  clear hSw; go_simp⟩) hHw2 ?_
      try simp only [Act.put, List.setIfInBounds_toArray, List.set_cons_zero, List.set_cons_succ]
      refine wpAnyH_take (i := 18) (oi := { dst := some 60, op := Op.move (Operand.tmp 6), type := 24, pos := "law.go:75", after := #[{ on := 17, ground := Ground.guard }], guard := some (17, false) }) (v := .pointer (some ⟨pb, 0, none⟩)) rfl (by kernel_rfl) (by kernel_rfl) (by kernel_rfl) (fun _ _ _ h => h)
        (Or.inl ⟨by rfl, by intro w hSw;  clear hSw; go_simp⟩) hHw2 ?_
      try simp only [Act.put, List.setIfInBounds_toArray, List.set_cons_zero, List.set_cons_succ]
      refine wpAnyH_take (i := 20) (oi := { dst := some 62, op := Op.move (Operand.tmp 8), type := 28, pos := "law.go:75", after := #[{ on := 17, ground := Ground.guard }], guard := some (17, false) }) (v := .pointer (some ⟨rp, 0, none⟩)) rfl (by kernel_rfl) (by kernel_rfl) (by kernel_rfl) (fun _ _ _ h => h)
        (Or.inl ⟨by rfl, by intro w hSw;  clear hSw; go_simp⟩) hHw2 ?_
      try simp only [Act.put, List.setIfInBounds_toArray, List.set_cons_zero, List.set_cons_succ]
      refine wpAnyH_take (i := 21) (oi := { dst := some 63, op := Op.nilCheck (Operand.tmp 62), type := 0, pos := "law.go:75", after := #[{ on := 20, ground := Ground.data }, { on := 17, ground := Ground.guard }], guard := some (17, false) }) (v := .pointer (some ⟨rp, 0, none⟩)) rfl (by kernel_rfl) (by kernel_rfl) (by kernel_rfl) (fun _ _ _ h => h)
        (Or.inl ⟨by rfl, by intro w hSw;  clear hSw; go_simp⟩) hHw2 ?_
      try simp only [Act.put, List.setIfInBounds_toArray, List.set_cons_zero, List.set_cons_succ]
      refine wpAnyH_take (i := 22) (oi := { dst := some 64, op := Op.fieldAddr 38 (Operand.tmp 63) 1, type := 0, pos := "law.go:75", after := #[{ on := 21, ground := Ground.data }, { on := 17, ground := Ground.guard }], guard := some (17, false) }) (v := .pointer (some ⟨rp, 1, none⟩)) rfl (by kernel_rfl) (by kernel_rfl) (by kernel_rfl) (fun _ _ _ h => h)
        (Or.inl ⟨by rfl, by intro w hSw;  clear hSw; go_simp⟩) hHw2 ?_
      try simp only [Act.put, List.setIfInBounds_toArray, List.set_cons_zero, List.set_cons_succ]
      refine wpAnyH_take (i := 23) (oi := { dst := some 65, op := Op.load 36 (Operand.tmp 64), type := 36, pos := "law.go:75", after := #[{ on := 22, ground := Ground.data }, { on := 17, ground := Ground.guard }], guard := some (17, false) }) (v := .slice va way4.length vc) rfl (by kernel_rfl) (by kernel_rfl) (by kernel_rfl) (fun _ _ _ h => h)
        (Or.inl ⟨by rfl, by intro w hSw; have s1 := hSw.2.cellAt (i := 1) rfl; clear hSw; go_simp⟩) hHw2 ?_
      try simp only [Act.put, List.setIfInBounds_toArray, List.set_cons_zero, List.set_cons_succ]
      refine wpAnyH_take (i := 24) (oi := { dst := some 66, op := Op.call { callee := Callee.builtin Builtin.len, args := #[Operand.tmp 65], argTypes := #[36] }, type := 3, pos := "law.go:75", after := #[{ on := 23, ground := Ground.data }, { on := 17, ground := Ground.guard }], guard := some (17, false) }) (v := .int .i64 (way4.length : Int)) rfl (by kernel_rfl) (by kernel_rfl) (by kernel_rfl) (fun _ _ _ h => h)
        (Or.inl ⟨by rfl, by intro w hSw;  clear hSw; go_simp⟩) hHw2 ?_
      try simp only [Act.put, List.setIfInBounds_toArray, List.set_cons_zero, List.set_cons_succ]
      refine wpAnyH_ready (rs := [19]) (by kernel_rfl) (by simp) ?_
      refine AllReadyH.cons (o := { dst := some 61, op := Op.call { callee := Callee.value (Operand.func 12), args := #[Operand.tmp 60], argTypes := #[24] }, type := 3, pos := "law.go:75", after := #[{ on := 18, ground := Ground.data }, { on := 17, ground := Ground.chain }, { on := 17, ground := Ground.guard }], guard := some (17, false) }) rfl (fun K hK => ?_) AllReadyH.nil
      go_simp
      refine HWY.out.mono ?_
      rintro e w5 ⟨rfl, rfl⟩
      refine hK.out _ _ hHw2 (fun hHw3 => ?_)
      clear hK K hHw2
      try simp only [Act.put, List.setIfInBounds_toArray, List.set_cons_zero, List.set_cons_succ]
      refine wpAnyH_take (i := 25) (oi := { dst := some 67, op := Op.binOp BinOp.neq 3 (Operand.tmp 61) (Operand.tmp 66) 3, type := 4, pos := "law.go:75", after := #[{ on := 19, ground := Ground.data }, { on := 24, ground := Ground.data }, { on := 17, ground := Ground.guard }], guard := some (17, false) }) (v := .bool false) rfl (by kernel_rfl) (by kernel_rfl) (by kernel_rfl) (fun _ _ _ h => h)
        (Or.inl ⟨by rfl, by intro w hSw;  clear hSw; go_simp⟩) hHw3 ?_
      try simp only [Act.put, List.setIfInBounds_toArray, List.set_cons_zero, List.set_cons_succ]
      refine wpAnyH_take (i := 26) (oi := { dst := some 68, op := Op.pick (Operand.tmp 59) (Operand.const (Value.bool true)) (Operand.tmp 67), type := 4, pos := "law.go:75", after := #[{ on := 17, ground := Ground.data }, { on := 25, ground := Ground.data }], guard := none }) (v := .bool false) rfl (by kernel_rfl) (by kernel_rfl) (by kernel_rfl) (fun _ _ _ h => h)
        (Or.inl ⟨by rfl, by intro w hSw;  clear hSw; go_simp⟩) hHw3 ?_
      try simp only [Act.put, List.setIfInBounds_toArray, List.set_cons_zero, List.set_cons_succ]
      refine wpAnyH_take (i := 27) (oi := { dst := some 69, op := Op.move (Operand.tmp 68), type := 4, pos := "law.go:75", after := #[{ on := 26, ground := Ground.data }, { on := 19, ground := Ground.chain }], guard := none }) (v := .bool false) rfl (by kernel_rfl) (by kernel_rfl) (by kernel_rfl) (fun _ _ _ h => h)
        (Or.inl ⟨by rfl, by intro w hSw;  clear hSw; go_simp⟩) hHw3 ?_
      try simp only [Act.put, List.setIfInBounds_toArray, List.set_cons_zero, List.set_cons_succ]
      refine wpAnyH_take (i := 28) (oi := { dst := some 70, op := Op.move (Operand.tmp 6), type := 24, pos := "law.go:75", after := #[{ on := 27, ground := Ground.guard }], guard := some (27, false) }) (v := .pointer (some ⟨pb, 0, none⟩)) rfl (by kernel_rfl) (by kernel_rfl) (by kernel_rfl) (fun _ _ _ h => h)
        (Or.inl ⟨by rfl, by intro w hSw;  clear hSw; go_simp⟩) hHw3 ?_
      try simp only [Act.put, List.setIfInBounds_toArray, List.set_cons_zero, List.set_cons_succ]
      refine wpAnyH_take (i := 30) (oi := { dst := some 72, op := Op.move (Operand.tmp 8), type := 28, pos := "law.go:75", after := #[{ on := 27, ground := Ground.guard }], guard := some (27, false) }) (v := .pointer (some ⟨rp, 0, none⟩)) rfl (by kernel_rfl) (by kernel_rfl) (by kernel_rfl) (fun _ _ _ h => h)
        (Or.inl ⟨by rfl, by intro w hSw;  clear hSw; go_simp⟩) hHw3 ?_
      try simp only [Act.put, List.setIfInBounds_toArray, List.set_cons_zero, List.set_cons_succ]
      refine wpAnyH_take (i := 31) (oi := { dst := some 73, op := Op.nilCheck (Operand.tmp 72), type := 0, pos := "law.go:75", after := #[{ on := 30, ground := Ground.data }, { on := 27, ground := Ground.guard }], guard := some (27, false) }) (v := .pointer (some ⟨rp, 0, none⟩)) rfl (by kernel_rfl) (by kernel_rfl) (by kernel_rfl) (fun _ _ _ h => h)
        (Or.inl ⟨by rfl, by intro w hSw;  clear hSw; go_simp⟩) hHw3 ?_
      try simp only [Act.put, List.setIfInBounds_toArray, List.set_cons_zero, List.set_cons_succ]
      refine wpAnyH_take (i := 32) (oi := { dst := some 74, op := Op.fieldAddr 38 (Operand.tmp 73) 4, type := 0, pos := "law.go:75", after := #[{ on := 31, ground := Ground.data }, { on := 27, ground := Ground.guard }], guard := some (27, false) }) (v := .pointer (some ⟨rp, 4, none⟩)) rfl (by kernel_rfl) (by kernel_rfl) (by kernel_rfl) (fun _ _ _ h => h)
        (Or.inl ⟨by rfl, by intro w hSw;  clear hSw; go_simp⟩) hHw3 ?_
      try simp only [Act.put, List.setIfInBounds_toArray, List.set_cons_zero, List.set_cons_succ]
      refine wpAnyH_take (i := 33) (oi := { dst := some 75, op := Op.load 3 (Operand.tmp 74), type := 3, pos := "law.go:75", after := #[{ on := 32, ground := Ground.data }, { on := 27, ground := Ground.guard }], guard := some (27, false) }) (v := .int .i64 (ops4 : Int)) rfl (by kernel_rfl) (by kernel_rfl) (by kernel_rfl) (fun _ _ _ h => h)
        (Or.inl ⟨by rfl, by intro w hSw; have s4 := hSw.2.cellAt (i := 4) rfl; clear hSw; go_simp⟩) hHw3 ?_
      try simp only [Act.put, List.setIfInBounds_toArray, List.set_cons_zero, List.set_cons_succ]
      refine wpAnyH_ready (rs := [29]) (by kernel_rfl) (by simp) ?_
      refine AllReadyH.cons (o := { dst := some 71, op := Op.call { callee := Callee.value (Operand.func 13), args := #[Operand.tmp 70], argTypes := #[24] }, type := 3, pos := "law.go:75", after := #[{ on := 28, ground := Ground.data }, { on := 27, ground := Ground.chain }, { on := 27, ground := Ground.guard }], guard := some (27, false) }) rfl (fun K hK => ?_) AllReadyH.nil
      go_simp
      refine HOP.out.mono ?_
      rintro e w5 ⟨rfl, rfl⟩
      refine hK.out _ _ hHw3 (fun hHw4 => ?_)
      clear hK K hHw3
      try simp only [Act.put, List.setIfInBounds_toArray, List.set_cons_zero, List.set_cons_succ]
      refine wpAnyH_take (i := 34) (oi := { dst := some 76, op := Op.binOp BinOp.neq 3 (Operand.tmp 71) (Operand.tmp 75) 3, type := 4, pos := "law.go:75", after := #[{ on := 29, ground := Ground.data }, { on := 33, ground := Ground.data }, { on := 27, ground := Ground.guard }], guard := some (27, false) }) (v := .bool false) rfl (by kernel_rfl) (by kernel_rfl) (by kernel_rfl) (fun _ _ _ h => h)
        (Or.inl ⟨by rfl, by intro w hSw;  clear hSw; go_simp⟩) hHw4 ?_
      try simp only [Act.put, List.setIfInBounds_toArray, List.set_cons_zero, List.set_cons_succ]
      refine wpAnyH_take (i := 35) (oi := { dst := some 77, op := Op.pick (Operand.tmp 69) (Operand.const (Value.bool true)) (Operand.tmp 76), type := 4, pos := "law.go:75", after := #[{ on := 27, ground := Ground.data }, { on := 34, ground := Ground.data }], guard := none }) (v := .bool false) rfl (by kernel_rfl) (by kernel_rfl) (by kernel_rfl) (fun _ _ _ h => h)
        (Or.inl ⟨by rfl, by intro w hSw;  clear hSw; go_simp⟩) hHw4 ?_
      try simp only [Act.put, List.setIfInBounds_toArray, List.set_cons_zero, List.set_cons_succ]
      refine wpAnyH_done (by kernel_rfl) ?_ _
      clear hHw4
      go_wp2_with fail
      go_roundw
      case rel => exact ⟨i + 1, by omega, by omega, by go_num, R4, B4, S4⟩
      case measure => simp [intOf]; omega
    · obtain ⟨bd4, bl4, v4, vl4, vw4, D4, L4, way4, ops4, fall4, left4, off4, hd, hr, hlat, hf, hleft, ho4, hw4⟩ := hrel.out
      obtain ⟨D', L', hl2, hwr, hpu⟩ := restart_pair (rp := rp) (vl := vl4) (vw := vw4) (left := left4) hd hlat (by omega) (by omega) (by omega) none 0 0 [] (-1) 0
      have HWR := Lib.hid (hwr wr hd (isO_nil _ _))
      have HPU := Lib.hid hpu
      have HL2 := Lib.hid hl2
      have R4 := Lib.hid hr
      clear hwr hpu hl2 hd hr hlat hf hleft hrel
      by_cases h1 : i < sl
      · have h1i : (i : Int) < (sl : Int) := by omega
        have h2i : ¬ (i : Int) < 100 := by omega
        go_wp2_with fail
        refine HWR.out.mono ?_
        rintro e w5 ⟨rfl, ⟨v5, hd5⟩, hk5⟩
        have D5 := Lib.hid hd5
        have R5 := Lib.hid (R4.out.kp hk5 (by decide) (by decide) (by decide))
        have B5 : Hid (Below W.heap.size W w5) := Lib.hid (hB.out.trans ((hk5.below hS.out).mono HW1.out))
        have S5 : Hid (w1.heap.size ≤ w5.heap.size) := Lib.hid (Nat.le_trans hS.out hk5.size)
        clear hd5 hk5 hB hS R4 HWR
        go_wp2_with fail
        refine (HPU.out w5 R5.out (isO_nil _ _) S5.out).mono ?_
        rintro e w6 ⟨rfl, ⟨vw6, hr6⟩, hk6⟩
        have D6 := Lib.hid (D5.out.kp hk6 (by decide) (by decide) (by decide))
        have R6 := Lib.hid hr6
        have B6 : Hid (Below W.heap.size W w6) := Lib.hid (B5.out.trans ((hk6.below S5.out).mono HW1.out))
        clear hr6 hk6 D5 R5 B5 S5 HPU
        go_wp2_with fail
        go_loopw [10] (fun ii wr => ∃ i : Nat, i ≤ kn ∧ ii = .int .i64 i ∧ Hid (Dev wr w1.heap.size pb bd4 bl4 v5 kn D' L' [] ops4 0 false) ∧ Hid (RDev wr w1.heap.size rp vl4 vw6 kn D' [] 0 false ops4) ∧ Hid (Below W.heap.size W wr)) (fun ii _ => kn - (intOf ii).toNat)
        case atStart => exact ⟨0, Nat.zero_le _, rfl, D6, R6, B6⟩
        case round =>
          clear D6 R6 B6
          obtain ⟨i, hi, rfl, hd, hr, hb⟩ := hrel
          by_cases hlt : i < kn
          · have hki : (i : Int) < (kn : Int) := by omega
            have HRD := Lib.hid (read_ok hd.out i hlt)
            have hq := HL2.out i hlt
            have HQ := Lib.hid hq
            clear hq
            go_wp2_with fail
            refine HRD.out.mono ?_
            rintro e w7 ⟨b7, rfl, hx, hlo, hb7⟩
            have D7 := Lib.hid (hd.out.kp (ts := []) (B' := 0) (Kp.of_below hb7) (by simp) (by simp) (by simp))
            have R7 := Lib.hid (hr.out.kp (ts := []) (B' := 0) (Kp.of_below hb7) (by simp) (by simp) (by simp))
            have B7 : Hid (Below W.heap.size W w7) := Lib.hid (hb.out.trans (hb7.mono hb.out.size))
            obtain ⟨G, hG⟩ : ∃ G, G = bs (getW [] i (sec D' i)) := ⟨_, rfl⟩
            have HCV : Hid ((convert 31 9 (.slice (some ⟨b7, 0, none⟩) 256 256)).run Try.prog w7 = .ok (.string G) w7) := Lib.hid (by rw [hG, ← HQ.out]; exact conv_str hx 256 256 (sec_length hd.out.ll hlt))
            have HGT := Lib.hid (rget_ok R7.out (by simp) i hlt)
            rw [← hG] at HGT
            clear hx hlo hb7 hG HRD hd hr hb
            go_wp2_with fail
            refine HGT.out.mono ?_
            rintro e w8 ⟨rfl, rfl⟩
            have hcv := HCV.out
            go_wp2_with fail
            go_roundw
            case rel => exact ⟨i + 1, by omega, by go_num, D7, R7, B7⟩
            case measure => simp [intOf]; omega
          · have hki : ¬ (i : Int) < (kn : Int) := by omega
            go_wp2_with fail
            go_ret
            exact ⟨rfl, hb.out⟩
      · have h1i : ¬ (i : Int) < (sl : Int) := by omega
        go_wp2_with fail
        refine HWR.out.mono ?_
        rintro e w5 ⟨rfl, ⟨v5, hd5⟩, hk5⟩
        have D5 := Lib.hid hd5
        have R5 := Lib.hid (R4.out.kp hk5 (by decide) (by decide) (by decide))
        have B5 : Hid (Below W.heap.size W w5) := Lib.hid (hB.out.trans ((hk5.below hS.out).mono HW1.out))
        have S5 : Hid (w1.heap.size ≤ w5.heap.size) := Lib.hid (Nat.le_trans hS.out hk5.size)
        clear hd5 hk5 hB hS R4 HWR
        go_wp2_with fail
        refine (HPU.out w5 R5.out (isO_nil _ _) S5.out).mono ?_
        rintro e w6 ⟨rfl, ⟨vw6, hr6⟩, hk6⟩
        have D6 := Lib.hid (D5.out.kp hk6 (by decide) (by decide) (by decide))
        have R6 := Lib.hid hr6
        have B6 : Hid (Below W.heap.size W w6) := Lib.hid (B5.out.trans ((hk6.below S5.out).mono HW1.out))
        clear hr6 hk6 D5 R5 B5 S5 HPU
        go_wp2_with fail
        go_loopw [10] (fun ii wr => ∃ i : Nat, i ≤ kn ∧ ii = .int .i64 i ∧ Hid (Dev wr w1.heap.size pb bd4 bl4 v5 kn D' L' [] ops4 0 false) ∧ Hid (RDev wr w1.heap.size rp vl4 vw6 kn D' [] 0 false ops4) ∧ Hid (Below W.heap.size W wr)) (fun ii _ => kn - (intOf ii).toNat)
        case atStart => exact ⟨0, Nat.zero_le _, rfl, D6, R6, B6⟩
        case round =>
          clear D6 R6 B6
          obtain ⟨i, hi, rfl, hd, hr, hb⟩ := hrel
          by_cases hlt : i < kn
          · have hki : (i : Int) < (kn : Int) := by omega
            have HRD := Lib.hid (read_ok hd.out i hlt)
            have hq := HL2.out i hlt
            have HQ := Lib.hid hq
            clear hq
            go_wp2_with fail
            refine HRD.out.mono ?_
            rintro e w7 ⟨b7, rfl, hx, hlo, hb7⟩
            have D7 := Lib.hid (hd.out.kp (ts := []) (B' := 0) (Kp.of_below hb7) (by simp) (by simp) (by simp))
            have R7 := Lib.hid (hr.out.kp (ts := []) (B' := 0) (Kp.of_below hb7) (by simp) (by simp) (by simp))
            have B7 : Hid (Below W.heap.size W w7) := Lib.hid (hb.out.trans (hb7.mono hb.out.size))
            obtain ⟨G, hG⟩ : ∃ G, G = bs (getW [] i (sec D' i)) := ⟨_, rfl⟩
            have HCV : Hid ((convert 31 9 (.slice (some ⟨b7, 0, none⟩) 256 256)).run Try.prog w7 = .ok (.string G) w7) := Lib.hid (by rw [hG, ← HQ.out]; exact conv_str hx 256 256 (sec_length hd.out.ll hlt))
            have HGT := Lib.hid (rget_ok R7.out (by simp) i hlt)
            rw [← hG] at HGT
            clear hx hlo hb7 hG HRD hd hr hb
            go_wp2_with fail
            refine HGT.out.mono ?_
            rintro e w8 ⟨rfl, rfl⟩
            have hcv := HCV.out
            go_wp2_with fail
            go_roundw
            case rel => exact ⟨i + 1, by omega, by go_num, D7, R7, B7⟩
            case measure => simp [intOf]; omega
          · have hki : ¬ (i : Int) < (kn : Int) := by omega
            go_wp2_with fail
            go_ret
            exact ⟨rfl, hb.out⟩

end Go.Proofs.Ytjidiholhhdanaa
