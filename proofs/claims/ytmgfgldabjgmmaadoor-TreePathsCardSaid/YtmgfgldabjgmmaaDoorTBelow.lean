/-
  All paths of a tree: the program's below. Conditions: the tree is one; the bounds that follow.
-/
import Derived.Test.YtmgfgldabjgmmaaDoorTSize
import Derived.Test.YtmgfgldabjgmmaaDoorTRSplit
import Derived.Deep.RegionHeld3
namespace Go.Proofs.YtmgfgldabjgmmaaDoor
open Go.RowKit
set_option linter.unusedVariables false

mutual
/-- All paths below a tree, each behind what stands ahead. -/
def pathsT : T → ByteArray → List ByteArray
  | .mk k x d ns ks, ahead => pathsL ks ns ahead
def pathsL : List T → List ByteArray → ByteArray → List ByteArray
  | k :: r, nm :: s, ahead => (ahead ++ nm) :: (pathsT k (ahead ++ nm ++ ⟨#[47]⟩) ++ pathsL r s ahead)
  | _, _, _ => []
end

theorem pathsL_append (p : List T) : ∀ (ns ms : List ByteArray) (q : List T) (a : ByteArray), ns.length = p.length → pathsL (p ++ q) (ns ++ ms) a = pathsL p ns a ++ pathsL q ms a := by
  induction p with
  | nil => intro ns ms q a h; cases ns with
    | nil => simp [pathsL]
    | cons x y => simp at h
  | cons k p ih => intro ns ms q a h; cases ns with
    | nil => simp at h
    | cons x y =>
      rw [List.cons_append, List.cons_append, pathsL, pathsL, ih y ms q a (by simpa using h)]
      simp

theorem takeT_facts {k : UInt8} {x : Bool} {d : List UInt8} {ns : List ByteArray} {ks : List T} {D n b : Nat} {r : Nat × Nat} (h : takeT (.mk k x d ns ks) D n b = some r) :
    D ≤ 16 ∧ n + 1 ≤ 4096 ∧ formedT (.mk k x d ns ks) = true ∧ takeL ks (D + 1) (n + 1) (b + d.length) = some r := by
  rw [takeT_mk] at h
  split at h
  · rename_i hc; exact ⟨hc.1, hc.2.1, hc.2.2.2, h⟩
  · cases h

theorem formed_lens {k : UInt8} {x : Bool} {d : List UInt8} {ns : List ByteArray} {ks : List T} (h : formedT (.mk k x d ns ks) = true) : ns.length = ks.length ∧ ∀ i, i < ns.length → (ns.getD i ⟨#[]⟩).size ≤ 80 := by
  by_cases h3 : k = 3
  · subst h3
    rw [formedT_dir] at h
    simp only [Bool.and_eq_true, decide_eq_true_eq] at h
    refine ⟨h.1.2, fun i hi => ?_⟩
    have hr := h.2
    unfold risingT at hr
    rw [List.all_eq_true] at hr
    have := hr i (List.mem_range.2 hi)
    simp only [Bool.and_eq_true] at this
    have hn := this.1
    unfold tName at hn
    simp only [Bool.and_eq_true, decide_eq_true_eq] at hn
    have h80 := hn.1.1.1.1.2
    have : (ns.getD i ⟨#[]⟩).data.toList.length = (ns.getD i ⟨#[]⟩).size := by simp
    omega
  · rw [formedT_other h3] at h
    simp only [Bool.and_eq_true, List.isEmpty_iff] at h
    obtain ⟨⟨rfl, rfl⟩, _⟩ := h
    exact ⟨rfl, fun i hi => by simp at hi⟩

theorem grown_trans {w x y : World} {r r' : Option Nat} (h : w.grownBy x r) (k : x.grownBy y r') (hr : ∀ q, r' = some q → r = some q ∨ w.heap.size ≤ q) : w.grownBy y r :=
  ⟨k.os.trans h.os, k.tape.trans h.tape, k.output.trans h.output, Nat.le_trans h.size k.size, fun q hq hne => (k.block q (Nat.lt_of_lt_of_le hq h.size) (fun e => by
    rcases hr q e.symm with h' | h'
    · exact hne h'.symm
    · omega)).trans (h.block q hq hne)⟩
theorem grown_alloc (w : World) (o : Obj) (r : Option Nat) : w.grownBy (w.drew.alloc o) r :=
  ⟨rfl, rfl, rfl, by simp, fun q hq _ => Go.RowKit.Below.heap_alloc w.drew o q hq⟩
theorem grown_drew (w : World) (o : Obj) (r : Option Nat) : w.grownBy (w.alloc o).drew r :=
  ⟨rfl, rfl, rfl, by simp, fun q hq _ => Go.RowKit.Below.heap_alloc w o q hq⟩
theorem pathsL_step {ks : List T} {ns : List ByteArray} {i : Nat} (a : ByteArray) (h : ns.length = ks.length) (hi : i < ks.length) :
    pathsL (ks.take (i + 1)) (ns.take (i + 1)) a = pathsL (ks.take i) (ns.take i) a ++ ((a ++ ns.getD i ⟨#[]⟩) :: pathsT (ks.getD i default) (a ++ ns.getD i ⟨#[]⟩ ++ ⟨#[47]⟩)) := by
  have hn : i < ns.length := by omega
  rw [List.take_succ_eq_append_getElem hi, List.take_succ_eq_append_getElem hn, pathsL_append _ _ _ _ _ (by simp [h])]
  rw [List.getD_eq_getElem?_getD, List.getElem?_eq_getElem hn, List.getD_eq_getElem?_getD, List.getElem?_eq_getElem hi]
  simp [pathsL]
theorem grown_alloc' (w : World) (o : Obj) (r : Option Nat) : w.grownBy (w.alloc o) r :=
  ⟨rfl, rfl, rfl, by simp, fun q hq _ => Go.RowKit.Below.heap_alloc w o q hq⟩

set_option maxRecDepth 100000 in
set_option maxHeartbeats 20000000 in
theorem below_any (w0 : World) : ∀ (n : Nat) (cs : List Value) (t : T), IsT w0 n cs t → ∀ (w : World) (v0 : Value) (Ls : List ByteArray) (ahead : ByteArray) (D c0 b0 : Nat) (r : Nat × Nat), Below w0.heap.size w0 w →
    w.ownsRow w0.heap.size 9 1 v0 Ls.length (Ls.map Value.string) → takeT t D c0 b0 = some r → Ls.length ≤ c0 → ahead.size ≤ 81 * D →
    Calls Tryd.prog 35 #[v0, .string ahead, .agg cs.toArray] w fun e w' => ∃ v', e = .returned v' ∧ w'.ownsRow w0.heap.size 9 1 v' (Ls ++ pathsT t ahead).length ((Ls ++ pathsT t ahead).map Value.string) ∧ w.grownBy w' v0.ownBlock ∧ (∀ q, v'.ownBlock = some q → v0.ownBlock = some q ∨ w.heap.size ≤ q) ∧ (Ls ++ pathsT t ahead).length + 1 ≤ r.1
  | 0, _, _, ht => absurd ht (by simp [IsT])
  | n + 1, cs, .mk k x d ns ks, ht => by
    intro w v0 Ls ahead D c0 b0 r hbel hown htk hLc hah
    have HT := Lib.hid ht
    obtain ⟨ad, nd, cd, an, nn, cn, ak, nk, ck, rfl, hB, hS, hK⟩ := ht
    obtain ⟨hD, hc1, hform, htl⟩ := takeT_facts htk
    obtain ⟨hlen, h80⟩ := formed_lens hform
    have HS := Lib.hid hS
    have HK := Lib.hid hK
    have H80 := Lib.hid h80
    have hnn : nn = nk := by rw [← hS.length, ← hK.length]; exact hlen
    subst hnn
    have HLEN := Lib.hid hlen
    have HTL := Lib.hid htl
    have HOWN := Lib.hid hown
    have HBEL := Lib.hid hbel
    have hbs := hbel.size
    obtain ⟨i0, hi, hz0, hz1, hz2⟩ := info_str_parts
    have HI := Lib.hid hi
    have HZ0 := Lib.hid hz0
    have HZ1 := Lib.hid hz1
    have HZ2 := Lib.hid hz2
    have hroomS := hS.room
    unfold maxLen at hroomS
    clear hbel hown hB hS hK hlen h80 htl hform htk hi hz0 hz1 hz2
    go_enter Tryd.func35, Tryd.ntmps35
    go_upto_region 1 with fail
    obtain ⟨w1, hw1⟩ : ∃ w1, w1 = w.alloc (.cells #[.int .u8 (k.toNat : Int), .bool x, .slice ad nd cd, .slice an nn cn, .slice ak nn ck] 26) := ⟨_, rfl⟩
    have g1 : Has w1 w.heap.size [.int .u8 (k.toNat : Int), .bool x, .slice ad nd cd, .slice an nn cn, .slice ak nn ck] 26 := by rw [hw1]; exact Has.new w _ _
    have b1 : Below w0.heap.size w0 w1 := by rw [hw1]; exact HBEL.out.alloc hbs _
    have o1 : w1.ownsRow w0.heap.size 9 1 v0 Ls.length (Ls.map Value.string) := by rw [hw1]; exact HOWN.out.alloc _
    have s1 : w1.heap.size = w.heap.size + 1 := by rw [hw1]; simp
    rw [← hw1]
    obtain ⟨g, hg⟩ : ∃ g, g = w.heap.size := ⟨_, rfl⟩
    rw [← hg] at g1 s1 hbs ⊢
    have HG := Lib.hid hg
    have G1 := Lib.hid g1
    have B1 := Lib.hid b1
    have O1 := Lib.hid o1
    have W1 : Hid (w.grownBy w1 v0.ownBlock) := Lib.hid (by rw [hw1]; exact grown_alloc' _ _ _)
    have cg3 := g1.cellAt (i := 3) rfl
    clear hg hw1 g1 b1 o1
    go_wp2_with fail
    go_loopw [0, 13] (fun v ii wr => ∃ (i : Nat) (t' b' : Nat) (Q : List ByteArray), i ≤ nn ∧ ii = .int .i64 i ∧ takeL (ks.take i) (D + 1) (c0 + 1) (b0 + d.length) = some (t', b') ∧ Q = Ls ++ pathsL (ks.take i) (ns.take i) ahead ∧ wr.ownsRow w0.heap.size 9 1 v Q.length (Q.map Value.string) ∧ w.grownBy wr v0.ownBlock ∧ (∀ q, v.ownBlock = some q → v0.ownBlock = some q ∨ g < q) ∧ Q.length + 1 ≤ t' ∧ t' ≤ 4096 ∧ Has wr g [.int .u8 (k.toNat : Int), .bool x, .slice ad nd cd, .slice an nn cn, .slice ak nn ck] 26 ∧ Below w0.heap.size w0 wr ∧ g + 1 ≤ wr.heap.size) (fun _ ii _ => nn - (intOf ii).toNat)
    case atStart => exact ⟨0, c0 + 1, b0 + d.length, Ls, Nat.zero_le _, rfl, by simp [takeL], by simp [pathsL], O1.out, W1.out, (fun q hq => .inl hq), by omega, by omega, G1.out, B1.out, by omega⟩
    case round =>
      clear G1 B1 O1 cg3
      obtain ⟨i, t', b', Q, hi, rfl, hpre, hQ, hown, hgr, hvg, hQt, ht4, hg5, hbel, hsz⟩ := hrel
      by_cases hlt : i < nn
      · rcases HK.out.at_ with h0 | ⟨b, off, rfl, hb, hc⟩
        · omega
        rcases HS.out.at_ with h0 | ⟨bs, offs, rfl, hbss, hcs⟩
        · omega
        obtain ⟨e0, e1, e2, e3, e4, hR, k0, k1, k2, k3, k4⟩ := hc i hlt
        have hkl : i < ks.length := by rw [HK.out.length]; exact hlt
        have hnl : i < ns.length := by rw [HS.out.length]; exact hlt
        obtain ⟨nm, hnm⟩ : ∃ nm, nm = ns.getD i ⟨#[]⟩ := ⟨_, rfl⟩
        have hcn : wr.cell? ⟨bs, offs + i, none⟩ = some (.string nm) := by rw [hnm]; exact (hbel.cell (p := ⟨bs, offs + i, none⟩) hbss).trans (hcs i hlt)
        have hn80 : nm.size ≤ 80 := by rw [hnm]; exact H80.out i hnl
        have hstep := takeL_step hkl hpre
        obtain ⟨rq, hrq⟩ : ∃ rq, takeT (ks.getD i default) (D + 1) t' b' = some rq := by
          cases hk : takeT (ks.getD i default) (D + 1) t' b' with
          | none =>
            have := takeL_none (ks := ks) (i := i + 1) (by rw [hstep]; exact hk)
            rw [HTL.out] at this; cases this
          | some rq => exact ⟨rq, rfl⟩
        have HRQ := Lib.hid hrq
        have HST : Hid (takeL (ks.take (i + 1)) (D + 1) (c0 + 1) (b0 + d.length) = some rq) := Lib.hid (by rw [hstep, hrq])
        have hrle := takeT_le _ _ _ _ _ hrq
        have hrange : wr.rangeAt b (off + i * 5) [e0, e1, e2, e3, e4] := fun j v hv => by
          rw [Nat.add_assoc]
          match j, hv with
          | 0, hv => cases hv; exact (hbel.cell (p := ⟨b, off + (i * 5 + 0), none⟩) hb).trans k0
          | 1, hv => cases hv; exact (hbel.cell (p := ⟨b, off + (i * 5 + 1), none⟩) hb).trans k1
          | 2, hv => cases hv; exact (hbel.cell (p := ⟨b, off + (i * 5 + 2), none⟩) hb).trans k2
          | 3, hv => cases hv; exact (hbel.cell (p := ⟨b, off + (i * 5 + 3), none⟩) hb).trans k3
          | 4, hv => cases hv; exact (hbel.cell (p := ⟨b, off + (i * 5 + 4), none⟩) hb).trans k4
          | j + 5, hv => simp at hv
        obtain ⟨L5, hL5⟩ : ∃ L, L = [e0, e1, e2, e3, e4] := ⟨_, rfl⟩
        rw [← hL5] at hrange hR
        have hl5 : L5.length = 5 := by rw [hL5]; rfl
        have hu26 := Tryd.underlying26
        have hi26 : (Tryd.prog.info? 26).map (·.size) = some L5.length := by rw [info5, hl5]
        have HRG := Lib.hid hrange
        have HRK := Lib.hid hR
        have HG4 := Lib.hid (hg5.cellAt (i := 4) rfl)
        obtain ⟨G5, hG5⟩ : ∃ G5 : List Value, G5 = [.int .u8 (k.toNat : Int), .bool x, .slice ad nd cd, .slice (some ⟨bs, offs, none⟩) nn cn, .slice (some ⟨b, off, none⟩) nn ck] := ⟨_, rfl⟩
        have HG5L := Lib.hid hG5
        have HG5 : Hid (Has wr g G5 26) := Lib.hid (by rw [hG5]; exact hg5)
        have HBE := Lib.hid hbel
        have HOW := Lib.hid hown
        have HVG := Lib.hid hvg
        have HGR := Lib.hid hgr
        have HBW : Hid (b < wr.heap.size) := Lib.hid (by have := hbel.size; omega)
        have HQ := Lib.hid hQ
        have HNM := Lib.hid hnm
        have HKL := Lib.hid hkl
        have hki : (i : Int) < (nn : Int) := by omega
        have hni : (i : Int) + 1 ≤ 9223372036854775807 := by omega
        have hcat : ¬ 9223372036854775807 < ahead.size + nm.size := by omega
        obtain ⟨PT, hPT⟩ : ∃ PT, PT = ahead ++ nm := ⟨_, rfl⟩
        have hPTs : PT.size ≤ 81 * D + 80 := by rw [hPT, ByteArray.size_append]; omega
        have hcat2 : ¬ 9223372036854775807 < PT.size + 1 := by omega
        have HPT := Lib.hid hPT
        have hbsz := hbel.size
        clear hpre hQ hown hvg hgr hg5 hG5 hstep hrq hbel hc hcs k0 k1 k2 k3 k4 hrange hR hL5 hl5 hnm hPT
        go_upto_region 5 with fail
        rw [← HPT.out]
        refine wp_region_held_drew (S := fun W => Has W g G5 26 ∧ W.rangeAt b (off + i * 5) L5) (by kernel_rfl) ⟨HG5.out.drew, HRG.out⟩ (fun hHeld => ?_)
        refine wpAnyH_take (i := 0) (oi := { dst := some 21, op := Op.move (Operand.tmp 0), type := 23, pos := "tree.go:178", after := #[], guard := none }) (v := u0) rfl (by kernel_rfl) (by kernel_rfl) (by kernel_rfl) (fun _ _ _ h => h)
          (Or.inl ⟨by rfl, by intro w hSw; have hSc := Has.cellAt hSw.1 (i := 4) (v := .slice (some ⟨b, off, none⟩) nn ck) (by rw [HG5L.out]; rfl); clear hSw; go_simp⟩) hHeld ?_
        try simp only [Act.put, List.setIfInBounds_toArray, List.set_cons_zero, List.set_cons_succ]
        refine wpAnyH_take (i := 1) (oi := { dst := some 22, op := Op.move (Operand.tmp 9), type := 9, pos := "tree.go:178", after := #[], guard := none }) (v := .string PT) rfl (by kernel_rfl) (by kernel_rfl) (by kernel_rfl) (fun _ _ _ h => h)
          (Or.inl ⟨by rfl, by intro w hSw; have hSc := Has.cellAt hSw.1 (i := 4) (v := .slice (some ⟨b, off, none⟩) nn ck) (by rw [HG5L.out]; rfl); clear hSw; go_simp⟩) hHeld ?_
        try simp only [Act.put, List.setIfInBounds_toArray, List.set_cons_zero, List.set_cons_succ]
        refine wpAnyH_take (i := 4) (oi := { dst := some 25, op := Op.move (Operand.tmp 9), type := 9, pos := "tree.go:178", after := #[], guard := none }) (v := .string PT) rfl (by kernel_rfl) (by kernel_rfl) (by kernel_rfl) (fun _ _ _ h => h)
          (Or.inl ⟨by rfl, by intro w hSw; have hSc := Has.cellAt hSw.1 (i := 4) (v := .slice (some ⟨b, off, none⟩) nn ck) (by rw [HG5L.out]; rfl); clear hSw; go_simp⟩) hHeld ?_
        try simp only [Act.put, List.setIfInBounds_toArray, List.set_cons_zero, List.set_cons_succ]
        refine wpAnyH_take (i := 5) (oi := { dst := some 26, op := Op.binOp BinOp.add 9 (Operand.tmp 25) (Operand.const (Value.string { data := #[47] })) 9, type := 9, pos := "tree.go:178", after := #[{ on := 4, ground := Ground.data }], guard := none }) (v := .string (PT ++ ⟨#[47]⟩)) rfl (by kernel_rfl) (by kernel_rfl) (by kernel_rfl) (fun _ _ _ h => h)
          (Or.inl ⟨by rfl, by intro w hSw; have hSc := Has.cellAt hSw.1 (i := 4) (v := .slice (some ⟨b, off, none⟩) nn ck) (by rw [HG5L.out]; rfl); clear hSw; go_simp⟩) hHeld ?_
        try simp only [Act.put, List.setIfInBounds_toArray, List.set_cons_zero, List.set_cons_succ]
        refine wpAnyH_take (i := 6) (oi := { dst := some 27, op := Op.fieldAddr 26 (Operand.tmp 5) 4, type := 0, pos := "tree.go:178", after := #[], guard := none }) (v := .pointer (some ⟨g, 4, none⟩)) rfl (by kernel_rfl) (by kernel_rfl) (by kernel_rfl) (fun _ _ _ h => h)
          (Or.inl ⟨by rfl, by intro w hSw; have hSc := Has.cellAt hSw.1 (i := 4) (v := .slice (some ⟨b, off, none⟩) nn ck) (by rw [HG5L.out]; rfl); clear hSw; go_simp⟩) hHeld ?_
        try simp only [Act.put, List.setIfInBounds_toArray, List.set_cons_zero, List.set_cons_succ]
        refine wpAnyH_take (i := 7) (oi := { dst := some 28, op := Op.load 24 (Operand.tmp 27), type := 24, pos := "tree.go:178", after := #[{ on := 6, ground := Ground.data }], guard := none }) (v := .slice (some ⟨b, off, none⟩) nn ck) rfl (by kernel_rfl) (by kernel_rfl) (by kernel_rfl) (fun _ _ _ h => h)
          (Or.inl ⟨by rfl, by intro w hSw; have hSc := Has.cellAt hSw.1 (i := 4) (v := .slice (some ⟨b, off, none⟩) nn ck) (by rw [HG5L.out]; rfl); clear hSw; go_simp⟩) hHeld ?_
        try simp only [Act.put, List.setIfInBounds_toArray, List.set_cons_zero, List.set_cons_succ]
        refine wpAnyH_take (i := 8) (oi := { dst := some 29, op := Op.move (Operand.tmp 7), type := 3, pos := "tree.go:178", after := #[], guard := none }) (v := .int .i64 (i : Int)) rfl (by kernel_rfl) (by kernel_rfl) (by kernel_rfl) (fun _ _ _ h => h)
          (Or.inl ⟨by rfl, by intro w hSw; have hSc := Has.cellAt hSw.1 (i := 4) (v := .slice (some ⟨b, off, none⟩) nn ck) (by rw [HG5L.out]; rfl); clear hSw; go_simp⟩) hHeld ?_
        try simp only [Act.put, List.setIfInBounds_toArray, List.set_cons_zero, List.set_cons_succ]
        refine wpAnyH_take (i := 9) (oi := { dst := some 30, op := Op.indexAddr 24 (Operand.tmp 28) (Operand.tmp 29), type := 0, pos := "tree.go:178", after := #[{ on := 7, ground := Ground.data }, { on := 8, ground := Ground.data }], guard := none }) (v := .pointer (some ⟨b, off + i * 5, none⟩)) rfl (by kernel_rfl) (by kernel_rfl) (by kernel_rfl) (fun _ _ _ h => h)
          (Or.inl ⟨by rfl, by intro w hSw; have hSc := Has.cellAt hSw.1 (i := 4) (v := .slice (some ⟨b, off, none⟩) nn ck) (by rw [HG5L.out]; rfl); clear hSw; go_simp⟩) hHeld ?_
        try simp only [Act.put, List.setIfInBounds_toArray, List.set_cons_zero, List.set_cons_succ]
        refine wpAnyH_take (i := 10) (oi := { dst := some 31, op := Op.load 26 (Operand.tmp 30), type := 26, pos := "tree.go:178", after := #[{ on := 9, ground := Ground.data }], guard := none }) rfl (by kernel_rfl) (by kernel_rfl) (by kernel_rfl) (fun _ _ _ h => h)
          (yieldsIf_load_mid (by rfl) 26 (.tmp 30) rfl b (off + i * 5) rfl L5 _ (fun _ h => h.2) hu26 rfl hi26) hHeld ?_
        try simp only [Act.put, List.setIfInBounds_toArray, List.set_cons_zero, List.set_cons_succ]
        refine wpAnyH_ready (rs := [2]) (by kernel_rfl) (by simp) ?_
        refine AllReadyH.cons (o := { dst := some 23, op := Op.buildSlice 23 1 #[(0, Operand.tmp 22)], type := 23, pos := "tree.go:178", after := #[{ on := 1, ground := Ground.data }], guard := none }) rfl (fun K hK => ?_) AllReadyH.nil
        go_simp
        obtain ⟨w3, hw3⟩ : ∃ w3, w3 = (wr.alloc (.cells #[.string PT] 9)).drew := ⟨_, rfl⟩
        have h3g : wr.grownBy w3 u0.ownBlock := by rw [hw3]; exact grown_drew _ _ _
        have p3 : Has w3 wr.heap.size [.string PT] 9 := by rw [hw3]; exact (Has.new wr [.string PT] _).drew
        have o3 : w3.ownsRow w0.heap.size 9 1 u0 Q.length (Q.map Value.string) := by rw [hw3]; exact HOW.out.alloc _
        have g3 : Has w3 g G5 26 := by rw [hw3]; exact (HG5.out.alloc _).drew
        have r3 : w3.rangeAt b (off + i * 5) L5 := fun j v hv => by rw [hw3]; exact (World.cell?_alloc_lt _ _ _ HBW.out).trans (HRG.out j v hv)
        have s3 : w3.heap.size = wr.heap.size + 1 := by rw [hw3]; simp
        rw [← hw3]
        have H3G := Lib.hid h3g
        have O3 := Lib.hid o3
        have P3 := Lib.hid p3
        have G3 := Lib.hid g3
        have R3 := Lib.hid r3
        clear hw3 h3g o3 p3 g3 r3
        refine hK.out _ _ ⟨G3.out, R3.out⟩ (fun hHeld2 => ?_)
        clear hK K hHeld
        try simp only [Act.put, List.setIfInBounds_toArray, List.set_cons_zero, List.set_cons_succ]
        refine wpAnyH_ready (rs := [3]) (by kernel_rfl) (by simp) ?_
        refine AllReadyH.cons (o := { dst := some 24, op := Op.call { callee := Callee.builtin Builtin.append, args := #[Operand.tmp 21, Operand.tmp 23], argTypes := #[23, 23] }, type := 23, pos := "tree.go:178", after := #[{ on := 0, ground := Ground.data }, { on := 2, ground := Ground.data }], guard := none }) rfl (fun K hK => ?_) AllReadyH.nil
        rw [if_pos (by rfl)]
        refine wp_append_lies _ (.tmp 21) (.tmp 23) 23 rfl w0.heap.size 9 i0 (.string ByteArray.empty) 1 16 Tryd.underlying23 HI.out HZ0.out HZ1.out HZ2.out rfl (by omega) u0 Q.length (Q.map Value.string) rfl O3.out ⟨wr.heap.size, 0, none⟩ 1 1 [.string PT] rfl rfl (fun j u hj => ?_) (fun u hu => ?_) (by omega) (by unfold maxLen; omega) (by omega) (by omega) w3.heap.size rfl (fun ga capa w4 h4o h4g h4b h4s => ?_)
        · match j, hj with
          | 0, hj => cases hj; rw [Addr.add_mid]; exact P3.out.cellAt (i := 0) rfl
          | j + 1, hj => simp at hj
        · simp at hu; subst hu; rfl
        have hga : ga ≠ g := by
          rcases h4b with h | h
          · have := HVG.out ga h; rcases this with h' | h'
            · have := (HOWN.out.lt ga h').2; rw [← HG.out] at this; omega
            · omega
          · omega
        have hu0g : some g ≠ u0.ownBlock := fun e => by
          rcases HVG.out g e.symm with h' | h'
          · have := (HOWN.out.lt g h').2; rw [← HG.out] at this; omega
          · omega
        have g4 : Has w4 g G5 26 := (h4g.block g (by omega) hu0g).trans G3.out
        have hbu : ∀ q, u0.ownBlock = some q → w0.heap.size ≤ q := fun q hq => (HOW.out.lt q hq).1
        have r4 : w4.rangeAt b (off + i * 5) L5 := fun j v hv => (World.cell?_of_block (w := w3) (a := ⟨b, off + i * 5 + j, none⟩) (h4g.block b (by have := HBW.out; omega) (fun e => by have := hbu b e.symm; omega))).trans (R3.out j v hv)
        have H4G := Lib.hid (grown_trans H3G.out h4g (fun q hq => .inl hq))
        have O4 : Hid (w4.ownsRow w0.heap.size 9 1 (.slice (some ⟨ga, 0, none⟩) (Q.length + 1) capa) (Q ++ [PT]).length ((Q ++ [PT]).map Value.string)) := Lib.hid (by simpa using h4o)
        have HGA : Hid (u0.ownBlock = some ga ∨ wr.heap.size ≤ ga) := Lib.hid (h4b.imp id (fun h => by omega))
        have s4 := h4g.size
        have G4 := Lib.hid g4
        have R4 := Lib.hid r4
        clear h4o h4g h4b g4 r4
        refine hK.out _ _ ⟨G4.out, R4.out⟩ (fun hHeld3 => ?_)
        clear hK K hHeld2
        try simp only [Act.put, List.setIfInBounds_toArray, List.set_cons_zero, List.set_cons_succ]
        refine wpAnyH_ready (rs := [11]) (by kernel_rfl) (by simp) ?_
        refine AllReadyH.cons (o := { dst := some 32, op := Op.call { callee := Callee.value (Operand.func 35), args := #[Operand.tmp 24, Operand.tmp 26, Operand.tmp 31], argTypes := #[23, 9, 26] }, type := 23, pos := "tree.go:178", after := #[{ on := 3, ground := Ground.data }, { on := 5, ground := Ground.data }, { on := 10, ground := Ground.data }, { on := 3, ground := Ground.chain }], guard := none }) rfl (fun K hK => ?_) AllReadyH.nil
        go_simp
        have hbel4 : Below w0.heap.size w0 w4 := HBE.out.grown H4G.out hbsz (fun q hq => hbu q hq)
        refine (below_any w0 n L5 (ks.getD i default) HRK.out w4 (.slice (some ⟨ga, 0, none⟩) (Q.length + 1) capa) (Q ++ [PT]) (PT ++ ⟨#[47]⟩) (D + 1) t' b' rq hbel4 O4.out HRQ.out (by simp; omega) (by rw [ByteArray.size_append]; show PT.size + 1 ≤ _; omega)).mono ?_
        rintro e w9 ⟨v9, rfl, o9, g9, q9, n9⟩
        go_wp2_with fail
        have hg9 : Has w9 g G5 26 := (g9.block g (by omega) (fun e => by simp [Value.ownBlock] at e; omega)).trans G4.out
        have r9 : w9.rangeAt b (off + i * 5) L5 := fun j v hv => (World.cell?_of_block (w := w4) (a := ⟨b, off + i * 5 + j, none⟩) (g9.block b (by have := HBW.out; omega) (fun e => by have := (O4.out.lt b e.symm).1; omega))).trans (R4.out j v hv)
        refine hK.out _ _ ⟨hg9, r9⟩ (fun hHeld4 => ?_)
        clear hK K hHeld3
        try simp only [Act.put, List.setIfInBounds_toArray, List.set_cons_zero, List.set_cons_succ]
        refine wpAnyH_take (i := 12) (oi := { dst := some 0, op := Op.assign (Operand.tmp 32), type := 23, pos := "tree.go:178", after := #[{ on := 11, ground := Ground.data }, { on := 11, ground := Ground.chain }, { on := 0, ground := Ground.phase }, { on := 1, ground := Ground.phase }, { on := 2, ground := Ground.phase }, { on := 3, ground := Ground.phase }, { on := 4, ground := Ground.phase }, { on := 5, ground := Ground.phase }, { on := 6, ground := Ground.phase }, { on := 7, ground := Ground.phase }, { on := 8, ground := Ground.phase }, { on := 9, ground := Ground.phase }, { on := 10, ground := Ground.phase }, { on := 11, ground := Ground.phase }], guard := none }) (v := v9) rfl (by kernel_rfl) (by kernel_rfl) (by kernel_rfl) (fun _ _ _ h => h)
          (Or.inl ⟨by rfl, by intro w hSw; have hSc := Has.cellAt hSw.1 (i := 4) (v := .slice (some ⟨b, off, none⟩) nn ck) (by rw [HG5L.out]; rfl); clear hSw; go_simp⟩) hHeld4 ?_
        try simp only [Act.put, List.setIfInBounds_toArray, List.set_cons_zero]
        refine wpAnyH_done (by kernel_rfl) ?_ _
        have hV9 : ∀ q, v9.ownBlock = some q → v0.ownBlock = some q ∨ g < q := fun q hq => by
          rcases q9 q hq with h | h
          · simp only [Value.ownBlock, Option.some.injEq] at h
            subst h
            rcases HGA.out with h' | h'
            · exact HVG.out _ h'
            · right; omega
          · right; omega
        have hG9 : w.grownBy w9 v0.ownBlock := grown_trans (grown_trans HGR.out H4G.out (fun q hq => by
          rcases HVG.out q hq with h | h
          · exact .inl h
          · right; have := HG.out; omega)) g9 (fun q hq => by
          simp only [Value.ownBlock, Option.some.injEq] at hq
          subst hq
          rcases HGA.out with h' | h'
          · rcases HVG.out _ h' with h | h
            · exact .inl h
            · right; have := HG.out; omega
          · right; have := HG.out; omega)
        have hB9 : Below w0.heap.size w0 w9 := hbel4.grown g9 (by omega) (fun q hq => (O4.out.lt q hq).1)
        have hQ9 : Q ++ [PT] ++ pathsT (ks.getD i default) (PT ++ ⟨#[47]⟩) = Ls ++ pathsL (ks.take (i + 1)) (ns.take (i + 1)) ahead := by
          rw [pathsL_step ahead HLEN.out HKL.out, ← HNM.out, ← HPT.out, HQ.out]
          simp
        have HV9 := Lib.hid hV9
        have HG9 := Lib.hid hG9
        have HB9 := Lib.hid hB9
        have HQ9 := Lib.hid hQ9
        have HO9 := Lib.hid o9
        have HN9 := Lib.hid n9
        have HX9 := Lib.hid hg9
        have HS9 : Hid (g + 1 ≤ w9.heap.size) := Lib.hid (by have := g9.size; omega)
        have HR9 := Lib.hid hrle
        have HLT := Lib.hid hlt
        clear hV9 hG9 hB9 hQ9 o9 n9 hg9 r9 q9 g9 hbel4 hHeld4 hrle
        go_wp2_with fail
        go_roundw
        case rel => exact ⟨i + 1, rq.1, rq.2, _, by have := HLT.out; omega, by go_num, HST.out, HQ9.out, HO9.out, HG9.out, HV9.out, HN9.out, HR9.out.1, by rw [← HG5L.out]; exact HX9.out, HB9.out, HS9.out⟩
        case measure =>
          have := HLT.out
          simp only [intOf]; omega
      · obtain rfl : i = nn := by omega
        have e1 : ks.take i = ks := List.take_of_length_le (by rw [HK.out.length]; exact Nat.le_refl _)
        have e2 : ns.take i = ns := List.take_of_length_le (by rw [HS.out.length]; exact Nat.le_refl _)
        rw [e1] at hpre
        rw [e1, e2] at hQ
        have hrt : r = (t', b') := by have := HTL.out; rw [hpre] at this; exact (Option.some.inj this).symm
        have hQ2 : Q = Ls ++ pathsT (.mk k x d ns ks) ahead := by rw [hQ, pathsT]
        have HQ2 := Lib.hid hQ2
        have HOW := Lib.hid hown
        have HGR := Lib.hid hgr
        have HVG := Lib.hid hvg
        have HRT := Lib.hid hrt
        have HQT := Lib.hid hQt
        clear hpre hQ hown hgr hvg hg5 hbel hrt hQ2 e1 e2 hQt
        go_wp2_with fail
        go_ret
        refine ⟨_, rfl, by rw [← HQ2.out]; exact HOW.out, HGR.out, (fun q hq => ?_), by rw [← HQ2.out, HRT.out]; exact HQT.out⟩
        rcases HVG.out q hq with h | h
        · exact .inl h
        · right; have := HG.out; omega

end Go.Proofs.YtmgfgldabjgmmaaDoor
