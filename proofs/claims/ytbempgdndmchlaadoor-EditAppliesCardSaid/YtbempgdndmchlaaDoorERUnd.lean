/-
  What the reference's change tells, case by case. No program text.
-/
import Derived.Test.YtbempgdndmchlaaDoorEWou
import Derived.Test.YtbempgdndmchlaaDoorEWth
namespace Go.Proofs.YtbempgdndmchlaaDoor
open Go.RowKit
set_option linter.unusedVariables false

theorem dir_plain {x : Bool} {d : List UInt8} {ns : List ByteArray} {ks : List T} (h : fmA (.mk 3 x d ns ks)) : x = false ∧ d = [] := by
  rw [fmA_mk, formedT_dir] at h
  simp only [Bool.and_eq_true, Bool.not_eq_true', List.isEmpty_iff] at h
  exact ⟨h.1.1.1.1, h.1.1.1.2⟩

/-- How the reference is told what is done. -/
def howE : Ed → Nat | .mk => 0 | .put _ => 1 | .drop => 2
def kidE : Ed → T | .mk => emptyDir | .put k => k | .drop => zeroT

theorem chgR_not (e : Ed) (nm : ByteArray) (r : List ByteArray) (k : UInt8) (hk : k ≠ 3) (x : Bool) (d : List UInt8) (ns : List ByteArray) (ks : List T) : (chgR e (nm :: r) (.mk k x d ns ks)).1 = 8 := by
  unfold chgR
  rw [chg_not _ _ _ _ _ hk]
  rfl
theorem chgR_in (e : Ed) (nm : ByteArray) (r : List ByteArray) (hr : r ≠ []) (x : Bool) (d : List UInt8) (ns : List ByteArray) (ks : List T) (ht : tkn ns nm = true) :
    chgR e (nm :: r) (.mk 3 x d ns ks) = ((chgR e r (ks.getD (plc ns nm) default)).1, .mk 3 x d ns (ks.set (plc ns nm) (chgR e r (ks.getD (plc ns nm) default)).2)) := by
  unfold chgR
  rw [chg_dir _ _ _ hr, if_pos ht]
  have h := chg_free e r (ks.getD (plc ns nm) default) 2 0 0 1 0 0
  have h1 : cd (chgE e r 2 (ks.getD (plc ns nm) default) 0 0) = cd (chgE e r 1 (ks.getD (plc ns nm) default) 0 0) := h.1
  rw [← h1, ← h.2]
  rfl
theorem chgR_miss (e : Ed) (nm : ByteArray) (r : List ByteArray) (hr : r ≠ []) (x : Bool) (d : List UInt8) (ns : List ByteArray) (ks : List T) (ht : ¬ tkn ns nm = true) : (chgR e (nm :: r) (.mk 3 x d ns ks)).1 = 6 := by
  unfold chgR
  rw [chg_dir _ _ _ hr, if_neg ht]
  rfl
theorem chgR_one (e : Ed) (nm : ByteArray) (x : Bool) (d : List UInt8) (ns : List ByteArray) (ks : List T) : chgR e [nm] (.mk 3 x d ns ks) = (cd (actE e nm 1 (.mk 3 x d ns ks) 0 0), (actE e nm 1 (.mk 3 x d ns ks) 0 0).2.1) := by
  unfold chgR
  rw [chg_one]
theorem chgR_mk_there (nm : ByteArray) (x : Bool) (d : List UInt8) (ns : List ByteArray) (ks : List T) (ht : tkn ns nm = true) : (chgR .mk [nm] (.mk 3 x d ns ks)).1 = 7 := by
  rw [chgR_one]
  unfold actE
  simp only [namesT, ht, if_true]
  rfl
theorem chgR_drop_miss (nm : ByteArray) (x : Bool) (d : List UInt8) (ns : List ByteArray) (ks : List T) (ht : ¬ tkn ns nm = true) : (chgR .drop [nm] (.mk 3 x d ns ks)).1 = 6 := by
  rw [chgR_one, drop_one, if_neg ht]
  rfl
theorem chgR_drop {x : Bool} {d : List UInt8} {ns : List ByteArray} {ks : List T} (hf : fmA (.mk 3 x d ns ks)) {nm : ByteArray} (ht : tkn ns nm = true) : chgR .drop [nm] (.mk 3 x d ns ks) = (0, .mk 3 false [] (wouN nm ns ks ns.length).1 (wouN nm ns ks ns.length).2) := by
  obtain ⟨rfl, rfl⟩ := dir_plain hf
  obtain ⟨hl, hp, _⟩ := dir_pw hf
  rw [chgR_one, drop_one, if_pos ht, wou_all hl hp ht]
  rfl
theorem mk_one (nm : ByteArray) (dep : Nat) (x : Bool) (d : List UInt8) (ns : List ByteArray) (ks : List T) (a b : Nat) : actE .mk nm dep (.mk 3 x d ns ks) a b = if tkn ns nm = true then (7, .mk 3 x d ns ks, a, b) else layE nm (plc ns nm) dep (.mk 3 x d ns ks) emptyDir a b := rfl
theorem put_one' (k : T) (nm : ByteArray) (dep : Nat) (x : Bool) (d : List UInt8) (ns : List ByteArray) (ks : List T) (a b : Nat) : actE (.put k) nm dep (.mk 3 x d ns ks) a b = if tkn ns nm = true then layE nm (plc ns nm) dep (.mk 3 x d (ns.take (plc ns nm) ++ ns.drop (plc ns nm + 1)) (ks.take (plc ns nm) ++ ks.drop (plc ns nm + 1))) k (a - sizeN (ks.getD (plc ns nm) default)) (b - bytesT (ks.getD (plc ns nm) default)) else layE nm (plc ns nm) dep (.mk 3 x d ns ks) k a b := rfl
theorem lay_res (nm : ByteArray) (i dep : Nat) (t k : T) (a b : Nat) : (layE nm i dep t k a b).2.1 = insT t i nm k := rfl
/-- A name is laid down, or a kid is changed: what with makes. -/
theorem chgR_with {x : Bool} {d : List UInt8} {ns : List ByteArray} {ks : List T} (hf : fmA (.mk 3 x d ns ks)) {nm : ByteArray} (e : Ed) (he : (e = .mk ∧ ¬ tkn ns nm = true) ∨ ∃ k, e = .put k) :
    chgR e [nm] (.mk 3 x d ns ks) = (0, .mk 3 false [] (wthAll nm (kidE e) ns ks).1 (wthAll nm (kidE e) ns ks).2) := by
  obtain ⟨rfl, rfl⟩ := dir_plain hf
  obtain ⟨hl, hp, _⟩ := dir_pw hf
  rw [chgR_one, wth_all hl hp]
  rcases he with ⟨rfl, ht⟩ | ⟨k, rfl⟩
  · rw [if_neg ht, mk_one, if_neg ht, cd_lay, lay_res]
    rfl
  · rw [put_one']
    by_cases ht : tkn ns nm = true
    · rw [if_pos ht, if_pos ht, cd_lay, lay_res]
      obtain ⟨h1, h2⟩ := tkn_spec ht
      have h3 : plc ns nm < ks.length := by omega
      show ((0 : Nat), T.mk 3 false [] (((ns.take (plc ns nm) ++ ns.drop (plc ns nm + 1))).take (plc ns nm) ++ nm :: (ns.take (plc ns nm) ++ ns.drop (plc ns nm + 1)).drop (plc ns nm)) ((ks.take (plc ns nm) ++ ks.drop (plc ns nm + 1)).take (plc ns nm) ++ k :: (ks.take (plc ns nm) ++ ks.drop (plc ns nm + 1)).drop (plc ns nm))) = _
      have e1 : (ns.take (plc ns nm)).length = plc ns nm := by rw [List.length_take]; omega
      have e2 : (ks.take (plc ns nm)).length = plc ns nm := by rw [List.length_take]; omega
      rw [List.take_left' e1, List.drop_left' e1, List.take_left' e2, List.drop_left' e2, ← set_at h3]
      have en : nm = ns[plc ns nm] := by rw [← getD_ns h1]; exact h2.symm
      have : ns.take (plc ns nm) ++ nm :: ns.drop (plc ns nm + 1) = ns := by
        conv => lhs; rhs; lhs; rw [en]
        rw [← List.drop_eq_getElem_cons h1, List.take_append_drop]
      rw [this]
      rfl
    · rw [if_neg ht, if_neg ht, cd_lay, lay_res]
      rfl
theorem size_names {k : UInt8} {x : Bool} {d : List UInt8} {ns : List ByteArray} {ks : List T} (hl : ns.length = ks.length) (h : sizeN (.mk k x d ns ks) ≤ 4096) : ns.length ≤ 4095 := by
  have h2 := sizeNL_len ks
  rw [sizeN_mk] at h
  omega
end Go.Proofs.YtbempgdndmchlaaDoor

namespace Go.Proofs.YtbempgdndmchlaaDoor
open Go.RowKit
set_option linter.unusedVariables false

/-- An answer with a tree: the error's number, and the tree if there is none. -/
def CP (F : List Nat) (r : Nat × T) (w : World) (e : Ending) (w' : World) : Prop := ∃ m vs tt, e = .returned (.tuple #[.agg vs.toArray, .int .i64 (r.1 : Int)]) ∧ Sta F w' m vs tt ∧ (r.1 = 0 → tt = r.2) ∧ Below w.heap.size w w'
theorem below_drew {w w' : World} {B : Nat} (h : Below B w w') : Below B w w'.drew := h.drew
theorem cell_setRow {w : World} {b o R : Nat} {v : Value} (cs : Array Value) (h : w.cell? ⟨b, o, none⟩ = some v) (hb : b ≠ R) : (w.setRow R cs).cell? ⟨b, o, none⟩ = some v := (World.cell?_of_block (w := w) (a := ⟨b, o, none⟩) (setRow_other _ _ _ _ hb)).trans h

set_option maxRecDepth 100000 in
set_option maxHeartbeats 20000000 in
theorem rchange_any (e : Ed) : ∀ (l : List ByteArray), l ≠ [] → ∀ (F : List Nat) (t : T) (w : World) (n : Nat) (cs : List Value) (na : Option Addr) (kn c m : Nat) (kc : List Value), (∀ g ∈ F, g < w.heap.size) → fmA t → sizeN t ≤ 4096 → Sta F w n cs t → IsS w na kn c l → Sta F w m kc (kidE e) →
    Calls Tryd.prog 32 #[.agg cs.toArray, .slice na kn c, .int .i64 (howE e : Int), .agg kc.toArray] w (CP F (chgR e l t) w)
  | [], hne, _, _, _, _, _, _, _, _, _, _, _, _, _, _, _, _ => absurd rfl hne
  | nm :: l2, _, F, .mk k x d ns ks, w, n, cs, na, kn, c, m, kc, hF, hf, hsz, ht, hl, hk => by
    obtain ⟨b, off, rfl, hb, hnc⟩ : ∃ b off, na = some ⟨b, off, none⟩ ∧ b < w.heap.size ∧ ∀ i, i < kn → w.cell? ⟨b, off + i, none⟩ = some (.string ((nm :: l2).getD i ⟨#[]⟩)) := by
      rcases hl.at_ with h0 | ⟨nb, off, e, h1, h2⟩
      · have := hl.length; simp only [List.length_cons] at this; omega
      · exact ⟨nb, off, e, h1, h2⟩
    have hnl : kn = l2.length + 1 := by have := hl.length; simp only [List.length_cons] at this; omega
    have hc0 : w.cell? ⟨b, off, none⟩ = some (.string nm) := by have := hnc 0 (by omega); simpa using this
    have hroom := hl.room
    cases n with
    | zero => exact absurd ht.self (by simp [IsT])
    | succ n =>
    obtain ⟨ad, nd, cd', an, nn, cn, ak, nk, ck, hcs, hB, hS, hK⟩ := ht.self
    obtain rfl : nn = ns.length := hS.length.symm
    obtain rfl : nk = ks.length := hK.length.symm
    obtain ⟨RR, hRR⟩ : ∃ r, r = chgR e (nm :: l2) (.mk k x d ns ks) := ⟨_, rfl⟩
    obtain ⟨hw, hhw⟩ : ∃ z : Int, z = (howE e : Int) := ⟨_, rfl⟩
    rw [← hRR, ← hhw]
    have HRR := Lib.hid hRR
    have HHW := Lib.hid hhw
    have HFF := Lib.hid hF
    have HFM := Lib.hid hf
    have HSZ := Lib.hid hsz
    have HT := Lib.hid ht
    have HL := Lib.hid hl
    have HK := Lib.hid hk
    have HBL := Lib.hid hb
    have HCS := Lib.hid hcs
    have HNL := Lib.hid hnl
    have HNC := Lib.hid hnc
    have HIC := Lib.hid (infoL (isT_five ht.self))
    have HOC := Lib.hid (isT_one ht.self)
    have HZC : Hid (zT.toArray.size = cs.toArray.size) := Lib.hid (by simp [zT, isT_five ht.self])
    have HI5 : Hid ((Tryd.prog.info? 26).map (·.size) = some cs.length) := Lib.hid (by rw [info5, isT_five ht.self])
    have HK5 : Hid ((Tryd.prog.info? 26).map (·.size) = some kc.length) := Lib.hid (by rw [info5, isT_five hk.self])
    have hkn0 : (0 : Int) < (kn : Int) := by omega
    have hkz : ¬ kn = 0 := by omega
    have hkc : (kn : Int) ≤ (c : Int) ∧ (c : Int) ≤ 9223372036854775807 := by have := hroom.2; unfold maxLen at this; have := hroom.1; omega
    have HKC := Lib.hid hkc
    clear hRR hhw hF hf hsz ht hl hk hb hcs hnl hnc hB hS hK hroom hkc
    go_enter Tryd.func32, Tryd.ntmps32
    go_upto_region 1 with fail
    obtain ⟨w1, hw1⟩ : ∃ w1, w1 = ((w.alloc (.cells cs.toArray 26)).alloc (.cells kc.toArray 26)).alloc (.cells #[.int .u8 0, .bool false, .slice none 0 0, .slice none 0 0, .slice none 0 0] 26) := ⟨_, rfl⟩
    have z1 : (w.alloc (.cells cs.toArray 26)).heap.size = w.heap.size + 1 := by simp
    have z2 : ((w.alloc (.cells cs.toArray 26)).alloc (.cells kc.toArray 26)).heap.size = w.heap.size + 1 + 1 := by simp
    have gT : Has w1 w.heap.size cs 26 := by rw [hw1]; exact ((Has.new w cs _).alloc _).alloc _
    have gK : Has w1 (w.heap.size + 1) kc 26 := by rw [hw1, ← z1]; exact (Has.new _ kc _).alloc _
    have gR : Has w1 (w.heap.size + 1 + 1) zT 26 := by rw [hw1, ← z2]; exact Has.new _ zT _
    have b1 : Below w.heap.size w w1 := by rw [hw1]; exact (((Below.refl _ _).alloc (Nat.le_refl _) _).alloc (by simp) _).alloc (by simp; omega) _
    have s1 : w1.heap.size = w.heap.size + 1 + 1 + 1 := by rw [hw1]; simp
    rw [← hw1]
    have GT := Lib.hid gT
    have GK := Lib.hid gK
    have GR := Lib.hid gR
    have B1 := Lib.hid b1
    have S1 := Lib.hid s1
    have KP : Hid (∀ Y, Below w1.heap.size w1 Y → Has Y w.heap.size cs 26 ∧ Has Y (w.heap.size + 1) kc 26 ∧ Y.cell? ⟨b, off, none⟩ = some (.string nm)) := Lib.hid (fun Y hY => ⟨GT.out.below hY GT.out.lt, GK.out.below hY GK.out.lt, (hY.cell (p := ⟨b, off, none⟩) (Nat.lt_of_lt_of_le HBL.out b1.size)).trans ((b1.cell (p := ⟨b, off, none⟩) HBL.out).trans hc0)⟩)
    have VTw1 : Hid (w1.heap[w.heap.size]? = some (.cells cs.toArray 26 (0, 0))) := Lib.hid (show _ from gT)
    have VRw1 : Hid (w1.heap[w.heap.size + 1 + 1]? = some (.cells zT.toArray 26 (0, 0))) := Lib.hid (show _ from gR)
    have BWw1 := Lib.hid b1
    have HFB : Hid (∀ g ∈ (w.heap.size + 1 + 1) :: F, g < w1.heap.size) := Lib.hid (fun g hg => by
      have := S1.out
      rcases List.mem_cons.1 hg with rfl | hg
      · omega
      · have := HFF.out g hg; omega)
    have HT1 : Hid (Sta ((w.heap.size + 1 + 1) :: F) w1 (n + 1) cs (.mk k x d ns ks)) := Lib.hid ((HT.out.more (fun g hg hlt => by
      rcases List.mem_cons.1 hg with rfl | hg
      · omega
      · exact hg)).later b1)
    have HK1 : Hid (Sta ((w.heap.size + 1 + 1) :: F) w1 m kc (kidE e)) := Lib.hid ((HK.out.more (fun g hg hlt => by
      rcases List.mem_cons.1 hg with rfl | hg
      · omega
      · exact hg)).later b1)
    have c0 : w1.cell? ⟨w.heap.size, 0, none⟩ = some (.int .u8 (k.toNat : Int)) := gT.cellAt (i := 0) (by rw [HCS.out]; rfl)
    clear hw1 z1 z2 gT gK gR b1 s1
    by_cases hk3 : k = 3
    rotate_left
    · have HCR : Hid (RR.1 = 8) := Lib.hid (by rw [HRR.out]; exact chgR_not e nm l2 k hk3 x d ns ks)
      obtain ⟨z, hz⟩ : ∃ z : Int, z = (k.toNat : Int) := ⟨_, rfl⟩
      rw [← hz] at c0
      have hz3 : (z == 3) = false := by
        have : k.toNat ≠ 3 := fun h => hk3 (UInt8.toNat_inj.1 h)
        rw [beq_eq_false_iff_ne]; omega
      have hz3' : ¬ z = 3 := by simpa using hz3
      have hz4 : (z != 3) = true := by rw [bne_iff_ne]; exact hz3'
      clear hk3 hz
      go_wp2_with (first
        | (refine wpList_load_row rfl 26 _ rfl w.heap.size rfl 26 cs.toArray (0, 0) _ VTw1.out Tryd.underlying26 rfl HIC.out ?_)
        | (refine wpList_store_row rfl 26 _ _ rfl (w.heap.size + 1 + 1) cs.toArray rfl rfl 26 zT.toArray VRw1.out HIC.out HZC.out HOC.out ?_))
      refine bodyPost_ret (at_ret (fn := Tryd.f32) (p := 8) (u := 9) (ty := 26) Tryd.results32 _ _ (w.heap.size + 1 + 1) 26 cs.toArray (0, 0) _ rfl (setRow_heap _ _ _ _ _ _ VRw1.out) Tryd.underlying26 rfl HIC.out) rfl ?_
      exact ⟨n + 1, cs, _, by rw [HCR.out]; rfl, HT.out.go ((Fr.of_below BWw1.out).setRow (.inr (by omega)) _), fun h0 => absurd h0 (by rw [HCR.out]; first | decide | exact HC0.out), below_setRow BWw1.out (by omega) _⟩
    subst hk3
    have c0' : w1.cell? ⟨w.heap.size, 0, none⟩ = some (.int .u8 3) := c0
    clear c0
    obtain ⟨hlen, hp, hris⟩ := dir_pw HFM.out
    have HLEN := Lib.hid hlen
    have HPW := Lib.hid hp
    clear hlen hp hris
    go_upto_region 3 with fail
    clear c0'
    have hiL := HI5.out
    have hiK := HK5.out
    have hu26 := Tryd.underlying26
    obtain ⟨j, hj⟩ : ∃ j, j = plc ns nm := ⟨_, rfl⟩
    have HJ : Hid (plc ns nm = j) := Lib.hid hj.symm
    by_cases htk : tkn ns nm = true
    · have HTK := Lib.hid htk
      have HJK : Hid (j < ks.length) := Lib.hid (by rw [hj, ← HLEN.out]; exact (tkn_spec htk).1)
      have HFI : Hid (∀ Y, IsT Y (n + 1) cs (.mk 3 x d ns ks) → Calls Tryd.prog 23 #[.agg cs.toArray, .string nm] Y fun e w' => e = .returned (.int .i64 (j : Int)) ∧ Below Y.heap.size Y w') := Lib.hid (fun Y hY => by
        have h := find_any (n + 1) cs 3 x d ns ks nm Y hY
        rw [idx_tkn HPW.out, if_pos htk, ← hj] at h
        exact h)
      clear htk hj
      refine wp_region_held_drew (S := fun Y => Has Y w.heap.size cs 26 ∧ Has Y (w.heap.size + 1) kc 26 ∧ Y.cell? ⟨b, off, none⟩ = some (.string nm)) (by kernel_rfl) (KP.out _ (Below.refl _ _).drew) (fun hHeld => ?_)
      refine wpAnyH_take (i := 0) (oi := { dst := some 17, op := Op.load 26 (Operand.tmp 4), type := 26, pos := "ref.go:49", after := #[], guard := none }) rfl (by kernel_rfl) (by kernel_rfl) (by kernel_rfl) (fun _ _ _ h => h)
        (yieldsIf_load_mid (by rfl) 26 (.tmp 4) rfl w.heap.size (0) rfl cs _ (fun _ h => rangeAt_has h.1) hu26 rfl hiL) hHeld ?_
      try simp only [Act.put, List.setIfInBounds_toArray, List.set_cons_zero, List.set_cons_succ]
      refine wpAnyH_take (i := 1) (oi := { dst := some 18, op := Op.move (Operand.tmp 1), type := 23, pos := "ref.go:49", after := #[], guard := none }) (v := .slice (some ⟨b, off, none⟩) kn c) rfl (by kernel_rfl) (by kernel_rfl) (by kernel_rfl) (fun _ _ _ h => h)
        (Or.inl ⟨by rfl, by intro w hSw;  clear hSw; go_simp⟩) hHeld ?_
      try simp only [Act.put, List.setIfInBounds_toArray, List.set_cons_zero, List.set_cons_succ]
      refine wpAnyH_take (i := 2) (oi := { dst := some 19, op := Op.indexAddr 23 (Operand.tmp 18) (Operand.const (Value.int IntKind.i64 0)), type := 0, pos := "ref.go:49", after := #[{ on := 1, ground := Ground.data }], guard := none }) (v := .pointer (some ⟨b, off, none⟩)) rfl (by kernel_rfl) (by kernel_rfl) (by kernel_rfl) (fun _ _ _ h => h)
        (Or.inl ⟨by rfl, by intro w hSw;  clear hSw; go_simp⟩) hHeld ?_
      try simp only [Act.put, List.setIfInBounds_toArray, List.set_cons_zero, List.set_cons_succ]
      refine wpAnyH_take (i := 3) (oi := { dst := some 20, op := Op.load 9 (Operand.tmp 19), type := 9, pos := "ref.go:49", after := #[{ on := 2, ground := Ground.data }], guard := none }) (v := .string nm) rfl (by kernel_rfl) (by kernel_rfl) (by kernel_rfl) (fun _ _ _ h => h)
        (Or.inl ⟨by rfl, by intro w hSw; have hq := hSw.2.2; clear hSw; go_simp⟩) hHeld ?_
      try simp only [Act.put, List.setIfInBounds_toArray, List.set_cons_zero, List.set_cons_succ]
      refine wpAnyH_ready (rs := [4]) (by kernel_rfl) (by simp) ?_
      refine AllReadyH.cons (o := { dst := some 21, op := Op.call { callee := Callee.value (Operand.func 23), args := #[Operand.tmp 17, Operand.tmp 20], argTypes := #[26, 9] }, type := 3, pos := "ref.go:49", after := #[{ on := 0, ground := Ground.data }, { on := 3, ground := Ground.data }], guard := none }) rfl (fun K hK => ?_) AllReadyH.nil
      go_simp
      refine (HFI.out w1.drew (HT1.out.later (Below.refl _ _).drew).self).mono ?_
      rintro e w3 ⟨rfl, b3⟩
      have B3 := Lib.hid ((Below.refl w1.heap.size w1).drew.trans b3)
      clear b3
      go_wp2_with fail
      refine hK.out _ _ (KP.out _ B3.out) (fun hHw1 => ?_)
      clear hK K hHeld
      try simp only [Act.put, List.setIfInBounds_toArray, List.set_cons_zero, List.set_cons_succ]
      refine wpAnyH_take (i := 5) (oi := { dst := some 10, op := Op.assign (Operand.tmp 21), type := 3, pos := "ref.go:49", after := #[{ on := 4, ground := Ground.data }, { on := 4, ground := Ground.chain }, { on := 0, ground := Ground.phase }, { on := 1, ground := Ground.phase }, { on := 2, ground := Ground.phase }, { on := 3, ground := Ground.phase }, { on := 4, ground := Ground.phase }], guard := none }) (v := .int .i64 (j : Int)) rfl (by kernel_rfl) (by kernel_rfl) (by kernel_rfl) (fun _ _ _ h => h)
        (Or.inl ⟨by rfl, by intro w hSw;  clear hSw; go_simp⟩) hHw1 ?_
      try simp only [Act.put, List.setIfInBounds_toArray, List.set_cons_zero, List.set_cons_succ]
      refine wpAnyH_done (by kernel_rfl) ?_ _
      clear hHw1
      have VTw3 : Hid (w3.heap[w.heap.size]? = some (.cells cs.toArray 26 (0, 0))) := Lib.hid ((B3.out.block _ (by have := S1.out; omega)).trans VTw1.out)
      have VRw3 : Hid (w3.heap[w.heap.size + 1 + 1]? = some (.cells zT.toArray 26 (0, 0))) := Lib.hid ((B3.out.block _ (by have := S1.out; omega)).trans VRw1.out)
      have BWw3 := Lib.hid (B1.out.trans (B3.out.mono B1.out.size))
      have hjn : ¬ (j : Int) < 0 := by omega
      have hjp : (0 : Int) ≤ (j : Int) := by omega
      by_cases hl2 : l2 = []
      · skip
        obtain rfl : kn = 1 := by have := HNL.out; rw [hl2] at this; exact this
        subst hl2
        cases e with
        | mk =>
          have hz : hw = 0 := by rw [HHW.out]; rfl
          subst hz
          have HCR : Hid (RR.1 = 7) := Lib.hid (by rw [HRR.out]; exact chgR_mk_there nm x d ns ks HTK.out)
          go_wp2_with (first
            | (refine wpList_load_row rfl 26 _ rfl w.heap.size rfl 26 cs.toArray (0, 0) _ VTw3.out Tryd.underlying26 rfl HIC.out ?_)
            | (refine wpList_store_row rfl 26 _ _ rfl (w.heap.size + 1 + 1) cs.toArray rfl rfl 26 zT.toArray VRw3.out HIC.out HZC.out HOC.out ?_))
          refine bodyPost_ret (at_ret (fn := Tryd.f32) (p := 8) (u := 9) (ty := 26) Tryd.results32 _ _ (w.heap.size + 1 + 1) 26 cs.toArray (0, 0) _ rfl (setRow_heap _ _ _ _ _ _ VRw3.out) Tryd.underlying26 rfl HIC.out) rfl ?_
          exact ⟨n + 1, cs, _, by rw [HCR.out]; rfl, HT.out.go ((Fr.of_below BWw3.out).setRow (.inr (by omega)) _), fun h0 => absurd h0 (by rw [HCR.out]; first | decide | exact HC0.out), below_setRow BWw3.out (by omega) _⟩
        | put kk =>
          have hz : hw = 1 := by rw [HHW.out]; rfl
          subst hz
          have HCR : Hid (RR = (0, .mk 3 false [] (wthAll nm (kidE (Ed.put kk)) ns ks).1 (wthAll nm (kidE (Ed.put kk)) ns ks).2)) := Lib.hid (by rw [HRR.out]; exact chgR_with HFM.out (Ed.put kk) (.inr ⟨kk, rfl⟩))
          go_upto_region 17 with fail
          refine wp_region_held_drew (S := fun Y => Has Y w.heap.size cs 26 ∧ Has Y (w.heap.size + 1) kc 26 ∧ Y.cell? ⟨b, off, none⟩ = some (.string nm)) (by kernel_rfl) (KP.out _ (B3.out.drew)) (fun hHeld => ?_)
          refine wpAnyH_take (i := 0) (oi := { dst := some 75, op := Op.load 26 (Operand.tmp 4), type := 26, pos := "ref.go:68", after := #[], guard := none }) rfl (by kernel_rfl) (by kernel_rfl) (by kernel_rfl) (fun _ _ _ h => h)
            (yieldsIf_load_mid (by rfl) 26 (.tmp 4) rfl w.heap.size (0) rfl cs _ (fun _ h => rangeAt_has h.1) hu26 rfl hiL) hHeld ?_
          try simp only [Act.put, List.setIfInBounds_toArray, List.set_cons_zero, List.set_cons_succ]
          refine wpAnyH_take (i := 1) (oi := { dst := some 76, op := Op.move (Operand.tmp 1), type := 23, pos := "ref.go:68", after := #[], guard := none }) (v := .slice (some ⟨b, off, none⟩) 1 c) rfl (by kernel_rfl) (by kernel_rfl) (by kernel_rfl) (fun _ _ _ h => h)
            (Or.inl ⟨by rfl, by intro w hSw;  clear hSw; go_simp⟩) hHeld ?_
          try simp only [Act.put, List.setIfInBounds_toArray, List.set_cons_zero, List.set_cons_succ]
          refine wpAnyH_take (i := 2) (oi := { dst := some 77, op := Op.indexAddr 23 (Operand.tmp 76) (Operand.const (Value.int IntKind.i64 0)), type := 0, pos := "ref.go:68", after := #[{ on := 1, ground := Ground.data }], guard := none }) (v := .pointer (some ⟨b, off, none⟩)) rfl (by kernel_rfl) (by kernel_rfl) (by kernel_rfl) (fun _ _ _ h => h)
            (Or.inl ⟨by rfl, by intro w hSw;  clear hSw; go_simp⟩) hHeld ?_
          try simp only [Act.put, List.setIfInBounds_toArray, List.set_cons_zero, List.set_cons_succ]
          refine wpAnyH_take (i := 3) (oi := { dst := some 78, op := Op.load 9 (Operand.tmp 77), type := 9, pos := "ref.go:68", after := #[{ on := 2, ground := Ground.data }], guard := none }) (v := .string nm) rfl (by kernel_rfl) (by kernel_rfl) (by kernel_rfl) (fun _ _ _ h => h)
            (Or.inl ⟨by rfl, by intro w hSw; have hq := hSw.2.2; clear hSw; go_simp⟩) hHeld ?_
          try simp only [Act.put, List.setIfInBounds_toArray, List.set_cons_zero, List.set_cons_succ]
          refine wpAnyH_take (i := 4) (oi := { dst := some 79, op := Op.load 26 (Operand.tmp 7), type := 26, pos := "ref.go:68", after := #[], guard := none }) rfl (by kernel_rfl) (by kernel_rfl) (by kernel_rfl) (fun _ _ _ h => h)
            (yieldsIf_load_mid (by rfl) 26 (.tmp 7) rfl (w.heap.size + 1) (0) rfl kc _ (fun _ h => rangeAt_has h.2.1) hu26 rfl hiK) hHeld ?_
          try simp only [Act.put, List.setIfInBounds_toArray, List.set_cons_zero, List.set_cons_succ]
          refine wpAnyH_ready (rs := [5]) (by kernel_rfl) (by simp) ?_
          refine AllReadyH.cons (o := { dst := some 80, op := Op.call { callee := Callee.value (Operand.func 48), args := #[Operand.tmp 75, Operand.tmp 78, Operand.tmp 79], argTypes := #[26, 9, 26] }, type := 26, pos := "ref.go:68", after := #[{ on := 0, ground := Ground.data }, { on := 3, ground := Ground.data }, { on := 4, ground := Ground.data }], guard := none }) rfl (fun K hK => ?_) AllReadyH.nil
          go_simp
          refine (with_any ((w.heap.size + 1 + 1) :: F) (n + 1) cs 3 x d ns ks nm _ (fun g hg => Nat.lt_of_lt_of_le (HFB.out g hg) (B3.out.drew).size) (HT1.out.later (B3.out.drew)) HLEN.out (size_names HLEN.out HSZ.out) _ kc _ (HK1.out.later (B3.out.drew))).mono ?_
          rintro e w5 ⟨⟨m5, vs, rfl, hv⟩, b5⟩
          have B5 := Lib.hid ((B3.out.drew).trans (b5.mono (B3.out.drew).size))
          have HV := Lib.hid hv
          have HIV := Lib.hid (infoL (isT_five hv.self))
          have HOV := Lib.hid (isT_one hv.self)
          have HZV : Hid (zT.toArray.size = vs.toArray.size) := Lib.hid (by simp [zT, isT_five hv.self])
          clear b5 hv
          go_wp2_with fail
          refine hK.out _ _ (KP.out _ B5.out) (fun hHw1 => ?_)
          clear hK K hHeld
          try simp only [Act.put, List.setIfInBounds_toArray, List.set_cons_zero, List.set_cons_succ]
          refine wpAnyH_ready (rs := [6]) (by kernel_rfl) (by simp) ?_
          refine AllReadyH.cons (o := { dst := none, op := Op.store 26 (Operand.tmp 8) (Operand.tmp 80), type := 0, pos := "ref.go:68", after := #[{ on := 5, ground := Ground.data }, { on := 5, ground := Ground.chain }, { on := 0, ground := Ground.phase }, { on := 1, ground := Ground.phase }, { on := 2, ground := Ground.phase }, { on := 3, ground := Ground.phase }, { on := 4, ground := Ground.phase }, { on := 5, ground := Ground.phase }], guard := none }) rfl (fun K hK => ?_) AllReadyH.nil
          rw [if_pos (by rfl)]
          refine wp_store_row 26 (.tmp 8) (.tmp 80) rfl (w.heap.size + 1 + 1) vs.toArray rfl rfl 26 zT.toArray ((B5.out.block _ (by have := S1.out; omega)).trans VRw1.out) HIV.out HZV.out HOV.out ?_
          refine hK.out _ _ (⟨has_setRow_other (KP.out _ B5.out).1 (by omega) _, has_setRow_other (KP.out _ B5.out).2.1 (by omega) _, cell_setRow _ (KP.out _ B5.out).2.2 (by have := HBL.out; omega)⟩) (fun hHw2 => ?_)
          clear hK K hHw1
          try simp only [Act.put]
          refine wpAnyH_take (i := 7) (oi := { dst := some 9, op := Op.assign (Operand.const (Value.int IntKind.i64 0)), type := 3, pos := "ref.go:68", after := #[{ on := 6, ground := Ground.chain }, { on := 0, ground := Ground.phase }, { on := 1, ground := Ground.phase }, { on := 2, ground := Ground.phase }, { on := 3, ground := Ground.phase }, { on := 4, ground := Ground.phase }, { on := 5, ground := Ground.phase }, { on := 6, ground := Ground.phase }], guard := none }) (v := .int .i64 0) rfl (by kernel_rfl) (by kernel_rfl) (by kernel_rfl) (fun _ _ _ h => h)
            (Or.inl ⟨by rfl, by intro w hSw;  clear hSw; go_simp⟩) hHw2 ?_
          try simp only [Act.put, List.setIfInBounds_toArray, List.set_cons_zero, List.set_cons_succ]
          refine wpAnyH_done (by kernel_rfl) ?_ _
          clear hHw2
          have BW5 := Lib.hid (B1.out.trans (B5.out.mono B1.out.size))
          have VR5 : Hid (w5.heap[w.heap.size + 1 + 1]? = some (.cells zT.toArray 26 (0, 0))) := Lib.hid ((B5.out.block _ (by have := S1.out; omega)).trans VRw1.out)
          go_wp2_with fail
          refine bodyPost_ret (at_ret (fn := Tryd.f32) (p := 8) (u := 9) (ty := 26) Tryd.results32 _ _ (w.heap.size + 1 + 1) 26 vs.toArray (0, 0) _ rfl (setRow_heap _ _ _ _ _ _ VR5.out) Tryd.underlying26 rfl HIV.out) rfl ?_
          refine ⟨m5, vs, _, by rw [HCR.out]; rfl, (HV.out.go ((Fr.refl _ _).setRow (.inl (List.mem_cons_self ..)) _)).more (fun g hg _ => List.mem_cons_of_mem _ hg), fun _ => by rw [HCR.out], below_setRow BW5.out (by omega) _⟩
        | drop =>
          have hz : hw = 2 := by rw [HHW.out]; rfl
          subst hz
          have HCR : Hid (RR = (0, .mk 3 false [] (wouN nm ns ks ns.length).1 (wouN nm ns ks ns.length).2)) := Lib.hid (by rw [HRR.out]; exact chgR_drop HFM.out HTK.out)
          go_upto_region 16 with fail
          refine wp_region_held_drew (S := fun Y => Has Y w.heap.size cs 26 ∧ Has Y (w.heap.size + 1) kc 26 ∧ Y.cell? ⟨b, off, none⟩ = some (.string nm)) (by kernel_rfl) (KP.out _ (B3.out.drew)) (fun hHeld => ?_)
          refine wpAnyH_take (i := 0) (oi := { dst := some 70, op := Op.load 26 (Operand.tmp 4), type := 26, pos := "ref.go:66", after := #[], guard := none }) rfl (by kernel_rfl) (by kernel_rfl) (by kernel_rfl) (fun _ _ _ h => h)
            (yieldsIf_load_mid (by rfl) 26 (.tmp 4) rfl w.heap.size (0) rfl cs _ (fun _ h => rangeAt_has h.1) hu26 rfl hiL) hHeld ?_
          try simp only [Act.put, List.setIfInBounds_toArray, List.set_cons_zero, List.set_cons_succ]
          refine wpAnyH_take (i := 1) (oi := { dst := some 71, op := Op.move (Operand.tmp 1), type := 23, pos := "ref.go:66", after := #[], guard := none }) (v := .slice (some ⟨b, off, none⟩) 1 c) rfl (by kernel_rfl) (by kernel_rfl) (by kernel_rfl) (fun _ _ _ h => h)
            (Or.inl ⟨by rfl, by intro w hSw;  clear hSw; go_simp⟩) hHeld ?_
          try simp only [Act.put, List.setIfInBounds_toArray, List.set_cons_zero, List.set_cons_succ]
          refine wpAnyH_take (i := 2) (oi := { dst := some 72, op := Op.indexAddr 23 (Operand.tmp 71) (Operand.const (Value.int IntKind.i64 0)), type := 0, pos := "ref.go:66", after := #[{ on := 1, ground := Ground.data }], guard := none }) (v := .pointer (some ⟨b, off, none⟩)) rfl (by kernel_rfl) (by kernel_rfl) (by kernel_rfl) (fun _ _ _ h => h)
            (Or.inl ⟨by rfl, by intro w hSw;  clear hSw; go_simp⟩) hHeld ?_
          try simp only [Act.put, List.setIfInBounds_toArray, List.set_cons_zero, List.set_cons_succ]
          refine wpAnyH_take (i := 3) (oi := { dst := some 73, op := Op.load 9 (Operand.tmp 72), type := 9, pos := "ref.go:66", after := #[{ on := 2, ground := Ground.data }], guard := none }) (v := .string nm) rfl (by kernel_rfl) (by kernel_rfl) (by kernel_rfl) (fun _ _ _ h => h)
            (Or.inl ⟨by rfl, by intro w hSw; have hq := hSw.2.2; clear hSw; go_simp⟩) hHeld ?_
          try simp only [Act.put, List.setIfInBounds_toArray, List.set_cons_zero, List.set_cons_succ]
          refine wpAnyH_ready (rs := [4]) (by kernel_rfl) (by simp) ?_
          refine AllReadyH.cons (o := { dst := some 74, op := Op.call { callee := Callee.value (Operand.func 49), args := #[Operand.tmp 70, Operand.tmp 73], argTypes := #[26, 9] }, type := 26, pos := "ref.go:66", after := #[{ on := 0, ground := Ground.data }, { on := 3, ground := Ground.data }], guard := none }) rfl (fun K hK => ?_) AllReadyH.nil
          go_simp
          refine (without_any ((w.heap.size + 1 + 1) :: F) (n + 1) cs 3 x d ns ks nm _ (fun g hg => Nat.lt_of_lt_of_le (HFB.out g hg) (B3.out.drew).size) (HT1.out.later (B3.out.drew)) HLEN.out (by have := size_names HLEN.out HSZ.out; omega)).mono ?_
          rintro e w5 ⟨⟨m5, vs, rfl, hv⟩, b5⟩
          have B5 := Lib.hid ((B3.out.drew).trans (b5.mono (B3.out.drew).size))
          have HV := Lib.hid hv
          have HIV := Lib.hid (infoL (isT_five hv.self))
          have HOV := Lib.hid (isT_one hv.self)
          have HZV : Hid (zT.toArray.size = vs.toArray.size) := Lib.hid (by simp [zT, isT_five hv.self])
          clear b5 hv
          go_wp2_with fail
          refine hK.out _ _ (KP.out _ B5.out) (fun hHw1 => ?_)
          clear hK K hHeld
          try simp only [Act.put, List.setIfInBounds_toArray, List.set_cons_zero, List.set_cons_succ]
          refine wpAnyH_ready (rs := [5]) (by kernel_rfl) (by simp) ?_
          refine AllReadyH.cons (o := { dst := none, op := Op.store 26 (Operand.tmp 8) (Operand.tmp 74), type := 0, pos := "ref.go:66", after := #[{ on := 4, ground := Ground.data }, { on := 4, ground := Ground.chain }, { on := 0, ground := Ground.phase }, { on := 1, ground := Ground.phase }, { on := 2, ground := Ground.phase }, { on := 3, ground := Ground.phase }, { on := 4, ground := Ground.phase }], guard := none }) rfl (fun K hK => ?_) AllReadyH.nil
          rw [if_pos (by rfl)]
          refine wp_store_row 26 (.tmp 8) (.tmp 74) rfl (w.heap.size + 1 + 1) vs.toArray rfl rfl 26 zT.toArray ((B5.out.block _ (by have := S1.out; omega)).trans VRw1.out) HIV.out HZV.out HOV.out ?_
          refine hK.out _ _ (⟨has_setRow_other (KP.out _ B5.out).1 (by omega) _, has_setRow_other (KP.out _ B5.out).2.1 (by omega) _, cell_setRow _ (KP.out _ B5.out).2.2 (by have := HBL.out; omega)⟩) (fun hHw2 => ?_)
          clear hK K hHw1
          try simp only [Act.put]
          refine wpAnyH_take (i := 6) (oi := { dst := some 9, op := Op.assign (Operand.const (Value.int IntKind.i64 0)), type := 3, pos := "ref.go:66", after := #[{ on := 5, ground := Ground.chain }, { on := 0, ground := Ground.phase }, { on := 1, ground := Ground.phase }, { on := 2, ground := Ground.phase }, { on := 3, ground := Ground.phase }, { on := 4, ground := Ground.phase }, { on := 5, ground := Ground.phase }], guard := none }) (v := .int .i64 0) rfl (by kernel_rfl) (by kernel_rfl) (by kernel_rfl) (fun _ _ _ h => h)
            (Or.inl ⟨by rfl, by intro w hSw;  clear hSw; go_simp⟩) hHw2 ?_
          try simp only [Act.put, List.setIfInBounds_toArray, List.set_cons_zero, List.set_cons_succ]
          refine wpAnyH_done (by kernel_rfl) ?_ _
          clear hHw2
          have BW5 := Lib.hid (B1.out.trans (B5.out.mono B1.out.size))
          have VR5 : Hid (w5.heap[w.heap.size + 1 + 1]? = some (.cells zT.toArray 26 (0, 0))) := Lib.hid ((B5.out.block _ (by have := S1.out; omega)).trans VRw1.out)
          go_wp2_with fail
          refine bodyPost_ret (at_ret (fn := Tryd.f32) (p := 8) (u := 9) (ty := 26) Tryd.results32 _ _ (w.heap.size + 1 + 1) 26 vs.toArray (0, 0) _ rfl (setRow_heap _ _ _ _ _ _ VR5.out) Tryd.underlying26 rfl HIV.out) rfl ?_
          refine ⟨m5, vs, _, by rw [HCR.out]; rfl, (HV.out.go ((Fr.refl _ _).setRow (.inl (List.mem_cons_self ..)) _)).more (fun g hg _ => List.mem_cons_of_mem _ hg), fun _ => by rw [HCR.out], below_setRow BW5.out (by omega) _⟩
      · skip
        have hk1 : (1 : Int) < (kn : Int) := by
          have := HNL.out
          have := List.length_pos_iff.2 hl2
          omega
        have hk1' : (1 : Int) ≤ (kn : Int) := by omega
        have hcn1 : ¬ c = 1 := by have := HKC.out; omega
        obtain ⟨C, UT⟩ : ∃ r, r = chgR e l2 (ks.getD j default) := ⟨_, rfl⟩
        have HCU := Lib.hid UT
        have HCR : Hid (RR = (C.1, .mk 3 x d ns (ks.set j C.2))) := Lib.hid (by rw [HRR.out, chgR_in e nm l2 hl2 x d ns ks HTK.out, HJ.out, ← UT])
        have hkj : j < ks.length := HJK.out
        have htj : Sta ((w.heap.size + 1 + 1) :: F) w1 (n + 1) [.int .u8 ((3 : UInt8).toNat : Int), .bool x, .slice ad nd cd', .slice an ns.length cn, .slice ak ks.length ck] (.mk 3 x d ns ks) := by rw [← HCS.out]; exact HT1.out
        obtain ⟨kb, ko, e0, e1, e2, e3, e4, rfl, hkb, hrg, hst⟩ := htj.kid hkj
        have HKB := Lib.hid hkb
        have HRG := Lib.hid hrg
        have HST := Lib.hid hst
        have HIE : Hid ((Tryd.prog.info? 26).map (·.size) = some ([e0, e1, e2, e3, e4] : List Value).length) := Lib.hid (by rw [info5]; rfl)
        have hjj : (j : Int) < (ks.length : Int) := by omega
        have hj0 : (0 : Int) ≤ (j : Int) := by omega
        have hjn : ¬ (j : Int) < 0 := by omega
        have hc4 : Hid (∀ Y, Has Y w.heap.size cs 26 → Y.cell? ⟨w.heap.size, 4, none⟩ = some (.slice (some ⟨kb, ko, none⟩) ks.length ck)) := Lib.hid (fun Y hY => hY.cellAt (i := 4) (by rw [HCS.out]; rfl))
        have HTL : Hid (IsS w (some ⟨b, off + 1, none⟩) (kn - 1) (c - 1) l2) := Lib.hid (isS_tail HL.out HBL.out HNC.out)
        have HIE2 := HIE.out
        have hkc2 := HKC.out
        have HREC : Hid (∀ (F2 : List Nat) (Y : World), (∀ g ∈ F2, g < Y.heap.size) → Sta F2 Y n [e0, e1, e2, e3, e4] (ks.getD j default) → Sta F2 Y m kc (kidE e) → Below w1.heap.size w1 Y → Calls Tryd.prog 32 #[.agg #[e0, e1, e2, e3, e4], .slice (some ⟨b, off + 1, none⟩) (kn - 1) (c - 1), .int .i64 hw, .agg kc.toArray] Y (CP F2 C Y)) := Lib.hid (fun F2 Y h1 h2 h3 h4 => by
          rw [HCU.out, HHW.out]
          exact rchange_any e l2 hl2 F2 (ks.getD j default) Y n [e0, e1, e2, e3, e4] (some ⟨b, off + 1, none⟩) (kn - 1) (c - 1) m kc h1 (fmL_getD ((fmA_mk _ _ _ _ _).1 HFM.out).2 HJK.out) (by have h5 := sizeNL_get HJK.out; have h6 := HSZ.out; rw [sizeN_mk] at h6; omega) h2 (HTL.out.later (B1.out.trans (h4.mono B1.out.size))) h3)
        clear UT htj hkb hrg hst hkj
        go_upto_region 7 with fail
        refine wp_region_held_drew (S := fun Y => (Has Y w.heap.size cs 26 ∧ Has Y (w.heap.size + 1) kc 26 ∧ Y.cell? ⟨b, off, none⟩ = some (.string nm)) ∧ Y.rangeAt kb (ko + j * 5) [e0, e1, e2, e3, e4]) (by kernel_rfl) (⟨KP.out _ ((B3.out.drew)), fun q v hv => (((B3.out.drew)).cell (p := ⟨kb, ko + j * 5 + q, none⟩) HKB.out).trans (HRG.out q v hv)⟩) (fun hHeld => ?_)
        refine wpAnyH_take (i := 0) (oi := { dst := some 29, op := Op.fieldAddr 26 (Operand.tmp 4) 4, type := 0, pos := "ref.go:54", after := #[], guard := none }) (v := .pointer (some ⟨w.heap.size, 4, none⟩)) rfl (by kernel_rfl) (by kernel_rfl) (by kernel_rfl) (fun _ _ _ h => h)
          (Or.inl ⟨by rfl, by intro w hSw;  clear hSw; go_simp⟩) hHeld ?_
        try simp only [Act.put, List.setIfInBounds_toArray, List.set_cons_zero, List.set_cons_succ]
        refine wpAnyH_take (i := 1) (oi := { dst := some 30, op := Op.load 24 (Operand.tmp 29), type := 24, pos := "ref.go:54", after := #[{ on := 0, ground := Ground.data }], guard := none }) (v := .slice (some ⟨kb, ko, none⟩) ks.length ck) rfl (by kernel_rfl) (by kernel_rfl) (by kernel_rfl) (fun _ _ _ h => h)
          (Or.inl ⟨by rfl, by intro w hSw; have hq := hc4.out _ hSw.1.1; clear hSw; go_simp⟩) hHeld ?_
        try simp only [Act.put, List.setIfInBounds_toArray, List.set_cons_zero, List.set_cons_succ]
        refine wpAnyH_take (i := 2) (oi := { dst := some 31, op := Op.move (Operand.tmp 10), type := 3, pos := "ref.go:54", after := #[], guard := none }) (v := .int .i64 (j : Int)) rfl (by kernel_rfl) (by kernel_rfl) (by kernel_rfl) (fun _ _ _ h => h)
          (Or.inl ⟨by rfl, by intro w hSw;  clear hSw; go_simp⟩) hHeld ?_
        try simp only [Act.put, List.setIfInBounds_toArray, List.set_cons_zero, List.set_cons_succ]
        refine wpAnyH_take (i := 3) (oi := { dst := some 32, op := Op.indexAddr 24 (Operand.tmp 30) (Operand.tmp 31), type := 0, pos := "ref.go:54", after := #[{ on := 1, ground := Ground.data }, { on := 2, ground := Ground.data }], guard := none }) (v := .pointer (some ⟨kb, ko + j * 5, none⟩)) rfl (by kernel_rfl) (by kernel_rfl) (by kernel_rfl) (fun _ _ _ h => h)
          (Or.inl ⟨by rfl, by intro w hSw;  clear hSw; go_simp⟩) hHeld ?_
        try simp only [Act.put, List.setIfInBounds_toArray, List.set_cons_zero, List.set_cons_succ]
        refine wpAnyH_take (i := 4) (oi := { dst := some 33, op := Op.load 26 (Operand.tmp 32), type := 26, pos := "ref.go:54", after := #[{ on := 3, ground := Ground.data }], guard := none }) rfl (by kernel_rfl) (by kernel_rfl) (by kernel_rfl) (fun _ _ _ h => h)
          (yieldsIf_load_mid (by rfl) 26 (.tmp 32) rfl kb (ko + j * 5) rfl [e0, e1, e2, e3, e4] _ (fun _ h => h.2) hu26 rfl HIE2) hHeld ?_
        try simp only [Act.put, List.setIfInBounds_toArray, List.set_cons_zero, List.set_cons_succ]
        refine wpAnyH_take (i := 5) (oi := { dst := some 34, op := Op.move (Operand.tmp 1), type := 23, pos := "ref.go:54", after := #[], guard := none }) (v := .slice (some ⟨b, off, none⟩) kn c) rfl (by kernel_rfl) (by kernel_rfl) (by kernel_rfl) (fun _ _ _ h => h)
          (Or.inl ⟨by rfl, by intro w hSw;  clear hSw; go_simp⟩) hHeld ?_
        try simp only [Act.put, List.setIfInBounds_toArray, List.set_cons_zero, List.set_cons_succ]
        refine wpAnyH_take (i := 6) (oi := { dst := some 35, op := Op.slice 23 (Operand.tmp 34) (some (Operand.const (Value.int IntKind.i64 1))) none none, type := 23, pos := "ref.go:54", after := #[{ on := 5, ground := Ground.data }], guard := none }) (v := .slice (some ⟨b, off + 1, none⟩) (kn - 1) (c - 1)) rfl (by kernel_rfl) (by kernel_rfl) (by kernel_rfl) (fun _ _ _ h => h)
          (Or.inl ⟨by rfl, by intro w hSw;  clear hSw; go_simp⟩) hHeld ?_
        try simp only [Act.put, List.setIfInBounds_toArray, List.set_cons_zero, List.set_cons_succ]
        refine wpAnyH_take (i := 7) (oi := { dst := some 36, op := Op.move (Operand.tmp 2), type := 3, pos := "ref.go:54", after := #[], guard := none }) (v := .int .i64 hw) rfl (by kernel_rfl) (by kernel_rfl) (by kernel_rfl) (fun _ _ _ h => h)
          (Or.inl ⟨by rfl, by intro w hSw;  clear hSw; go_simp⟩) hHeld ?_
        try simp only [Act.put, List.setIfInBounds_toArray, List.set_cons_zero, List.set_cons_succ]
        refine wpAnyH_take (i := 8) (oi := { dst := some 37, op := Op.load 26 (Operand.tmp 7), type := 26, pos := "ref.go:54", after := #[], guard := none }) rfl (by kernel_rfl) (by kernel_rfl) (by kernel_rfl) (fun _ _ _ h => h)
          (yieldsIf_load_mid (by rfl) 26 (.tmp 7) rfl (w.heap.size + 1) (0) rfl kc _ (fun _ h => rangeAt_has h.1.2.1) hu26 rfl hiK) hHeld ?_
        try simp only [Act.put, List.setIfInBounds_toArray, List.set_cons_zero, List.set_cons_succ]
        refine wpAnyH_ready (rs := [9, 13]) (by kernel_rfl) (by simp) ?_
        refine AllReadyH.cons (o := { dst := some 38, op := Op.call { callee := Callee.value (Operand.func 32), args := #[Operand.tmp 33, Operand.tmp 35, Operand.tmp 36, Operand.tmp 37], argTypes := #[26, 23, 3, 26] }, type := 34, pos := "ref.go:54", after := #[{ on := 4, ground := Ground.data }, { on := 6, ground := Ground.data }, { on := 7, ground := Ground.data }, { on := 8, ground := Ground.data }], guard := none }) rfl (fun K hK => ?_) (AllReadyH.cons (o := { dst := some 11, op := Op.alloc 26, type := 0, pos := "ref.go:54", after := #[], guard := none }) rfl (fun K hK => ?_) AllReadyH.nil)
        · go_simp
          refine (HREC.out ((w.heap.size + 1 + 1) :: F) w3.drew (fun g hg => Nat.lt_of_lt_of_le (HFB.out g hg) ((B3.out.drew)).size) (HST.out.later ((B3.out.drew))) (HK1.out.later ((B3.out.drew))) ((B3.out.drew))).mono ?_
          rintro e7 w7 ⟨m7, vs, tt, rfl, hv, htt, b7⟩
          have B7 := Lib.hid (((B3.out.drew)).trans (b7.mono ((B3.out.drew)).size))
          have HV := Lib.hid hv
          have HTT := Lib.hid htt
          clear hv htt b7
          go_wp2_with fail
          refine hK.out _ _ (⟨KP.out _ (B7.out), fun q v hv => ((B7.out).cell (p := ⟨kb, ko + j * 5 + q, none⟩) HKB.out).trans (HRG.out q v hv)⟩) (fun hHw1 => ?_)
          clear hK K hHeld
          try simp only [Act.put, List.setIfInBounds_toArray, List.set_cons_zero, List.set_cons_succ]
          refine wpAnyH_take (i := 10) (oi := { dst := some 28, op := Op.move (Operand.tmp 38), type := 34, pos := "ref.go:54", after := #[{ on := 9, ground := Ground.data }], guard := none }) (v := .tuple #[.agg vs.toArray, .int .i64 (C.1 : Int)]) rfl (by kernel_rfl) (by kernel_rfl) (by kernel_rfl) (fun _ _ _ h => h)
            (Or.inl ⟨by rfl, by intro w hSw;  clear hSw; go_simp⟩) hHw1 ?_
          try simp only [Act.put, List.setIfInBounds_toArray, List.set_cons_zero, List.set_cons_succ]
          refine wpAnyH_take (i := 11) (oi := { dst := some 39, op := Op.extract (Operand.tmp 28) 0, type := 26, pos := "ref.go:54", after := #[{ on := 10, ground := Ground.data }], guard := none }) (v := .agg vs.toArray) rfl (by kernel_rfl) (by kernel_rfl) (by kernel_rfl) (fun _ _ _ h => h)
            (Or.inl ⟨by rfl, by intro w hSw;  clear hSw; go_simp⟩) hHw1 ?_
          try simp only [Act.put, List.setIfInBounds_toArray, List.set_cons_zero, List.set_cons_succ]
          refine wpAnyH_take (i := 12) (oi := { dst := some 40, op := Op.extract (Operand.tmp 28) 1, type := 3, pos := "ref.go:54", after := #[{ on := 10, ground := Ground.data }, { on := 14, ground := Ground.gcOnly Departure.lateStores }], guard := none }) (v := .int .i64 (C.1 : Int)) rfl (by kernel_rfl) (by kernel_rfl) (by kernel_rfl) (fun _ _ _ h => h)
            (Or.inl ⟨by rfl, by intro w hSw;  clear hSw; go_simp⟩) hHw1 ?_
          try simp only [Act.put, List.setIfInBounds_toArray, List.set_cons_zero, List.set_cons_succ]
          refine wpAnyH_ready (rs := [13]) (by kernel_rfl) (by simp) ?_
          refine AllReadyH.cons (o := { dst := some 11, op := Op.alloc 26, type := 0, pos := "ref.go:54", after := #[], guard := none }) rfl (fun K hK => ?_) AllReadyH.nil
          go_simp
          obtain ⟨w8, hw8⟩ : ∃ X, X = w7.alloc (.cells #[.int .u8 0, .bool false, .slice none 0 0, .slice none 0 0, .slice none 0 0] 26) := ⟨_, rfl⟩
          have b8 : Below w7.heap.size w7 w8 := by rw [hw8]; exact (Below.refl _ _).alloc (Nat.le_refl _) _
          obtain ⟨U, hU⟩ : ∃ U, U = w7.heap.size := ⟨_, rfl⟩
          have GU : Hid (Has w8 U zT 26) := Lib.hid (by rw [hw8, hU]; exact Has.new _ zT _)
          have B8 := Lib.hid ((B7.out).trans (b8.mono (B7.out).size))
          have HU7 : Hid (w7.heap.size ≤ U) := Lib.hid (by rw [hU]; exact Nat.le_refl _)
          have F78 : Hid (Fr ((w.heap.size + 1 + 1) :: F) w7 w8) := Lib.hid (Fr.of_below b8)
          have HU1 : Hid (w1.heap.size ≤ U) := Lib.hid (by rw [hU]; exact (B7.out).size)
          have HUW : Hid (U = w7.heap.size) := Lib.hid hU
          first | rw [← hw8, ← hU] | rw [← hw8] | skip
          have HV8 := Lib.hid (HV.out.later b8)
          clear hw8 b8 hU
          refine hK.out _ _ (⟨KP.out _ (B8.out), fun q v hv => ((B8.out).cell (p := ⟨kb, ko + j * 5 + q, none⟩) HKB.out).trans (HRG.out q v hv)⟩) (fun hHw2 => ?_)
          clear hK K hHw1
          try simp only [Act.put, List.setIfInBounds_toArray, List.set_cons_zero, List.set_cons_succ]
          refine wpAnyH_ready (rs := [14]) (by kernel_rfl) (by simp) ?_
          refine AllReadyH.cons (o := { dst := none, op := Op.store 26 (Operand.tmp 11) (Operand.tmp 39), type := 0, pos := "ref.go:54", after := #[{ on := 13, ground := Ground.data }, { on := 11, ground := Ground.data }, { on := 9, ground := Ground.chain }, { on := 0, ground := Ground.phase }, { on := 1, ground := Ground.phase }, { on := 2, ground := Ground.phase }, { on := 3, ground := Ground.phase }, { on := 4, ground := Ground.phase }, { on := 5, ground := Ground.phase }, { on := 6, ground := Ground.phase }, { on := 7, ground := Ground.phase }, { on := 8, ground := Ground.phase }, { on := 9, ground := Ground.phase }, { on := 10, ground := Ground.phase }, { on := 11, ground := Ground.phase }, { on := 12, ground := Ground.textOnly Departure.lateStores }, { on := 13, ground := Ground.phase }], guard := none }) rfl (fun K hK => ?_) AllReadyH.nil
          rw [if_pos (by rfl)]
          have HIV := Lib.hid (infoL (isT_five HV.out.self))
          have HOV := Lib.hid (isT_one HV.out.self)
          have HZV : Hid (zT.toArray.size = vs.toArray.size) := Lib.hid (by simp [zT, isT_five HV.out.self])
          have GU9 : Hid (Has w8 U zT 26) := Lib.hid GU.out
          refine wp_store_row 26 (.tmp 11) (.tmp 39) rfl U vs.toArray rfl rfl 26 zT.toArray (show _ from GU9.out) HIV.out HZV.out HOV.out ?_
          obtain ⟨w9, hw9⟩ : ∃ X, X = w8.setRow U vs.toArray := ⟨_, rfl⟩
          have B9 : Hid (Below w1.heap.size w1 w9) := Lib.hid (by rw [hw9]; exact below_setRow B8.out HU1.out _)
          have GV : Hid (Has w9 U vs 26) := Lib.hid (by rw [hw9]; exact has_setRow GU9.out)
          have HV9 : Hid (Sta ((w.heap.size + 1 + 1) :: F) w9 m7 vs tt) := Lib.hid (by rw [hw9]; exact HV.out.go (((Fr.of_below (Below.refl _ _)).trans (F78.out) (fun g hg _ => hg)).setRow (.inr HU7.out) _))
          rw [← hw9]
          clear hw9
          refine hK.out _ _ (⟨KP.out _ (B9.out), fun q v hv => ((B9.out).cell (p := ⟨kb, ko + j * 5 + q, none⟩) HKB.out).trans (HRG.out q v hv)⟩) (fun hHw3 => ?_)
          clear hK K hHw2
          try simp only [Act.put]
          refine wpAnyH_take (i := 15) (oi := { dst := some 12, op := Op.assign (Operand.tmp 40), type := 3, pos := "ref.go:54", after := #[{ on := 12, ground := Ground.data }, { on := 14, ground := Ground.chain }, { on := 0, ground := Ground.phase }, { on := 1, ground := Ground.phase }, { on := 2, ground := Ground.phase }, { on := 3, ground := Ground.phase }, { on := 4, ground := Ground.phase }, { on := 5, ground := Ground.phase }, { on := 6, ground := Ground.phase }, { on := 7, ground := Ground.phase }, { on := 8, ground := Ground.phase }, { on := 9, ground := Ground.phase }, { on := 10, ground := Ground.phase }, { on := 11, ground := Ground.phase }, { on := 12, ground := Ground.phase }, { on := 13, ground := Ground.phase }, { on := 14, ground := Ground.phase }], guard := none }) (v := .int .i64 (C.1 : Int)) rfl (by kernel_rfl) (by kernel_rfl) (by kernel_rfl) (fun _ _ _ h => h)
            (Or.inl ⟨by rfl, by intro w hSw;  clear hSw; go_simp⟩) hHw3 ?_
          try simp only [Act.put, List.setIfInBounds_toArray, List.set_cons_zero, List.set_cons_succ]
          refine wpAnyH_done (by kernel_rfl) ?_ _
          clear hHw3
          have VTw9 : Hid (w9.heap[w.heap.size]? = some (.cells cs.toArray 26 (0, 0))) := Lib.hid ((B9.out.block _ (by have := S1.out; omega)).trans VTw1.out)
          have VRw9 : Hid (w9.heap[w.heap.size + 1 + 1]? = some (.cells zT.toArray 26 (0, 0))) := Lib.hid ((B9.out.block _ (by have := S1.out; omega)).trans VRw1.out)
          have BWw9 := Lib.hid (B1.out.trans (B9.out.mono B1.out.size))
          by_cases hC : C.1 = 0
          · rw [hC]
            have HTE := HTT.out hC
            have HCR2 : Hid (RR = (0, .mk 3 false [] (wthAll nm C.2 ns ks).1 (wthAll nm C.2 ns ks).2)) := Lib.hid (by
              obtain ⟨hx, hd⟩ := dir_plain HFM.out
              rw [HCR.out, hC, wth_all HLEN.out HPW.out, if_pos HTK.out, HJ.out, hx, hd])
            have HCR := HCR2
            have HV10 : Hid (Sta ((w.heap.size + 1 + 1) :: F) w9 m7 vs C.2) := Lib.hid (by rw [← HTE]; exact HV9.out)
            have hiV : (Tryd.prog.info? 26).map (·.size) = some vs.length := by rw [info5, isT_five HV9.out.self]
            have HUB : Hid (U ≠ w.heap.size + 1 + 1) := Lib.hid (by have := HU1.out; have := S1.out; omega)
            clear HTE hC HCR2
            go_upto_region 10 with fail
            refine wp_region_held_drew (S := fun Y => (Has Y w.heap.size cs 26 ∧ Has Y (w.heap.size + 1) kc 26 ∧ Y.cell? ⟨b, off, none⟩ = some (.string nm)) ∧ Has Y U vs 26) (by kernel_rfl) (⟨KP.out _ (B9.out.drew), GV.out.drew⟩) (fun hHeld => ?_)
            refine wpAnyH_take (i := 0) (oi := { dst := some 45, op := Op.load 26 (Operand.tmp 4), type := 26, pos := "ref.go:58", after := #[], guard := none }) rfl (by kernel_rfl) (by kernel_rfl) (by kernel_rfl) (fun _ _ _ h => h)
              (yieldsIf_load_mid (by rfl) 26 (.tmp 4) rfl w.heap.size (0) rfl cs _ (fun _ h => rangeAt_has h.1.1) hu26 rfl hiL) hHeld ?_
            try simp only [Act.put, List.setIfInBounds_toArray, List.set_cons_zero, List.set_cons_succ]
            refine wpAnyH_take (i := 1) (oi := { dst := some 46, op := Op.move (Operand.tmp 1), type := 23, pos := "ref.go:58", after := #[], guard := none }) (v := .slice (some ⟨b, off, none⟩) kn c) rfl (by kernel_rfl) (by kernel_rfl) (by kernel_rfl) (fun _ _ _ h => h)
              (Or.inl ⟨by rfl, by intro w hSw;  clear hSw; go_simp⟩) hHeld ?_
            try simp only [Act.put, List.setIfInBounds_toArray, List.set_cons_zero, List.set_cons_succ]
            refine wpAnyH_take (i := 2) (oi := { dst := some 47, op := Op.indexAddr 23 (Operand.tmp 46) (Operand.const (Value.int IntKind.i64 0)), type := 0, pos := "ref.go:58", after := #[{ on := 1, ground := Ground.data }], guard := none }) (v := .pointer (some ⟨b, off, none⟩)) rfl (by kernel_rfl) (by kernel_rfl) (by kernel_rfl) (fun _ _ _ h => h)
              (Or.inl ⟨by rfl, by intro w hSw;  clear hSw; go_simp⟩) hHeld ?_
            try simp only [Act.put, List.setIfInBounds_toArray, List.set_cons_zero, List.set_cons_succ]
            refine wpAnyH_take (i := 3) (oi := { dst := some 48, op := Op.load 9 (Operand.tmp 47), type := 9, pos := "ref.go:58", after := #[{ on := 2, ground := Ground.data }], guard := none }) (v := .string nm) rfl (by kernel_rfl) (by kernel_rfl) (by kernel_rfl) (fun _ _ _ h => h)
              (Or.inl ⟨by rfl, by intro w hSw; have hq := hSw.1.2.2; clear hSw; go_simp⟩) hHeld ?_
            try simp only [Act.put, List.setIfInBounds_toArray, List.set_cons_zero, List.set_cons_succ]
            refine wpAnyH_take (i := 4) (oi := { dst := some 49, op := Op.load 26 (Operand.tmp 11), type := 26, pos := "ref.go:58", after := #[], guard := none }) rfl (by kernel_rfl) (by kernel_rfl) (by kernel_rfl) (fun _ _ _ h => h)
              (yieldsIf_load_mid (by rfl) 26 (.tmp 11) rfl U (0) rfl vs _ (fun _ h => rangeAt_has h.2) hu26 rfl hiV) hHeld ?_
            try simp only [Act.put, List.setIfInBounds_toArray, List.set_cons_zero, List.set_cons_succ]
            refine wpAnyH_ready (rs := [5]) (by kernel_rfl) (by simp) ?_
            refine AllReadyH.cons (o := { dst := some 50, op := Op.call { callee := Callee.value (Operand.func 48), args := #[Operand.tmp 45, Operand.tmp 48, Operand.tmp 49], argTypes := #[26, 9, 26] }, type := 26, pos := "ref.go:58", after := #[{ on := 0, ground := Ground.data }, { on := 3, ground := Ground.data }, { on := 4, ground := Ground.data }], guard := none }) rfl (fun K hK => ?_) AllReadyH.nil
            go_simp
            refine (with_any ((w.heap.size + 1 + 1) :: F) (n + 1) cs 3 x d ns ks nm _ (fun g hg => Nat.lt_of_lt_of_le (HFB.out g hg) (B9.out.drew).size) (HT1.out.later (B9.out.drew)) HLEN.out (size_names HLEN.out HSZ.out) _ vs _ (HV10.out.later ((Below.refl w9.heap.size w9).drew))).mono ?_
            rintro e w5 ⟨⟨m5, vs', rfl, hv⟩, b5⟩
            have B95 := Lib.hid ((Below.refl w9.heap.size w9).drew.trans (b5.mono (Below.refl w9.heap.size w9).drew.size))
            have B5 := Lib.hid ((B9.out.drew).trans (b5.mono (B9.out.drew).size))
            have HV := Lib.hid hv
            have HIV := Lib.hid (infoL (isT_five hv.self))
            have HOV := Lib.hid (isT_one hv.self)
            have HZV : Hid (zT.toArray.size = vs'.toArray.size) := Lib.hid (by simp [zT, isT_five hv.self])
            clear b5 hv
            go_wp2_with fail
            refine hK.out _ _ (⟨KP.out _ B5.out, (GV.out.below B95.out GV.out.lt)⟩) (fun hHw1 => ?_)
            clear hK K hHeld
            try simp only [Act.put, List.setIfInBounds_toArray, List.set_cons_zero, List.set_cons_succ]
            refine wpAnyH_ready (rs := [6]) (by kernel_rfl) (by simp) ?_
            refine AllReadyH.cons (o := { dst := none, op := Op.store 26 (Operand.tmp 8) (Operand.tmp 50), type := 0, pos := "ref.go:58", after := #[{ on := 5, ground := Ground.data }, { on := 5, ground := Ground.chain }, { on := 0, ground := Ground.phase }, { on := 1, ground := Ground.phase }, { on := 2, ground := Ground.phase }, { on := 3, ground := Ground.phase }, { on := 4, ground := Ground.phase }, { on := 5, ground := Ground.phase }], guard := none }) rfl (fun K hK => ?_) AllReadyH.nil
            rw [if_pos (by rfl)]
            refine wp_store_row 26 (.tmp 8) (.tmp 50) rfl (w.heap.size + 1 + 1) vs'.toArray rfl rfl 26 zT.toArray ((B5.out.block _ (by have := S1.out; omega)).trans VRw1.out) HIV.out HZV.out HOV.out ?_
            refine hK.out _ _ (⟨⟨has_setRow_other (KP.out _ B5.out).1 (by omega) _, has_setRow_other (KP.out _ B5.out).2.1 (by omega) _, cell_setRow _ (KP.out _ B5.out).2.2 (by have := HBL.out; omega)⟩, has_setRow_other ((GV.out.below B95.out GV.out.lt)) HUB.out _⟩) (fun hHw2 => ?_)
            clear hK K hHw1
            try simp only [Act.put]
            refine wpAnyH_take (i := 7) (oi := { dst := some 9, op := Op.assign (Operand.const (Value.int IntKind.i64 0)), type := 3, pos := "ref.go:58", after := #[{ on := 6, ground := Ground.chain }, { on := 0, ground := Ground.phase }, { on := 1, ground := Ground.phase }, { on := 2, ground := Ground.phase }, { on := 3, ground := Ground.phase }, { on := 4, ground := Ground.phase }, { on := 5, ground := Ground.phase }, { on := 6, ground := Ground.phase }], guard := none }) (v := .int .i64 0) rfl (by kernel_rfl) (by kernel_rfl) (by kernel_rfl) (fun _ _ _ h => h)
              (Or.inl ⟨by rfl, by intro w hSw;  clear hSw; go_simp⟩) hHw2 ?_
            try simp only [Act.put, List.setIfInBounds_toArray, List.set_cons_zero, List.set_cons_succ]
            refine wpAnyH_done (by kernel_rfl) ?_ _
            clear hHw2
            have BW5 := Lib.hid (B1.out.trans (B5.out.mono B1.out.size))
            have VR5 : Hid (w5.heap[w.heap.size + 1 + 1]? = some (.cells zT.toArray 26 (0, 0))) := Lib.hid ((B5.out.block _ (by have := S1.out; omega)).trans VRw1.out)
            go_wp2_with fail
            refine bodyPost_ret (at_ret (fn := Tryd.f32) (p := 8) (u := 9) (ty := 26) Tryd.results32 _ _ (w.heap.size + 1 + 1) 26 vs'.toArray (0, 0) _ rfl (setRow_heap _ _ _ _ _ _ VR5.out) Tryd.underlying26 rfl HIV.out) rfl ?_
            refine ⟨m5, vs', _, by rw [HCR.out]; rfl, (HV.out.go ((Fr.refl _ _).setRow (.inl (List.mem_cons_self ..)) _)).more (fun g hg _ => List.mem_cons_of_mem _ hg), fun _ => by rw [HCR.out], below_setRow BW5.out (by omega) _⟩
          · have HC0 := Lib.hid hC
            have hC1 : ((C.1 : Int) == 0) = false := by rw [beq_eq_false_iff_ne]; omega
            have hC2 : ¬ (C.1 : Int) = 0 := by omega
            have hC3 : ((C.1 : Int) != 0) = true := by rw [bne_iff_ne]; exact hC2
            have HCE : Hid (RR.1 = C.1) := Lib.hid (by rw [HCR.out])
            clear hC
            go_wp2_with (first
              | (refine wpList_load_row rfl 26 _ rfl w.heap.size rfl 26 cs.toArray (0, 0) _ VTw9.out Tryd.underlying26 rfl HIC.out ?_)
              | (refine wpList_store_row rfl 26 _ _ rfl (w.heap.size + 1 + 1) cs.toArray rfl rfl 26 zT.toArray VRw9.out HIC.out HZC.out HOC.out ?_))
            refine bodyPost_ret (at_ret (fn := Tryd.f32) (p := 8) (u := 9) (ty := 26) Tryd.results32 _ _ (w.heap.size + 1 + 1) 26 cs.toArray (0, 0) _ rfl (setRow_heap _ _ _ _ _ _ VRw9.out) Tryd.underlying26 rfl HIC.out) rfl ?_
            exact ⟨n + 1, cs, _, by rw [HCE.out]; rfl, HT.out.go ((Fr.of_below BWw9.out).setRow (.inr (by omega)) _), fun h0 => absurd h0 (by rw [HCE.out]; first | decide | exact HC0.out), below_setRow BWw9.out (by omega) _⟩
        · go_simp
          obtain ⟨w8, hw8⟩ : ∃ X, X = (w3.alloc (.cells #[.int .u8 0, .bool false, .slice none 0 0, .slice none 0 0, .slice none 0 0] 26)).drew := ⟨_, rfl⟩
          have b8 : Below w3.heap.size w3 w8 := by rw [hw8]; exact ((Below.refl _ _).alloc (Nat.le_refl _) _).drew
          obtain ⟨U, hU⟩ : ∃ U, U = w3.heap.size := ⟨_, rfl⟩
          have GU : Hid (Has w8 U zT 26) := Lib.hid (by rw [hw8, hU]; exact (Has.new _ zT _).drew)
          have B8 := Lib.hid ((B3.out).trans (b8.mono (B3.out).size))
          have HU1 : Hid (w1.heap.size ≤ U) := Lib.hid (by rw [hU]; exact (B3.out).size)
          have HUW : Hid (U = w3.heap.size) := Lib.hid hU
          first | rw [← hw8, ← hU] | rw [← hw8] | skip
          clear hw8 b8 hU
          refine hK.out _ _ (⟨KP.out _ (B8.out), fun q v hv => ((B8.out).cell (p := ⟨kb, ko + j * 5 + q, none⟩) HKB.out).trans (HRG.out q v hv)⟩) (fun hHw1 => ?_)
          clear hK K hHeld
          try simp only [Act.put, List.setIfInBounds_toArray, List.set_cons_zero, List.set_cons_succ]
          refine wpAnyH_ready (rs := [9]) (by kernel_rfl) (by simp) ?_
          refine AllReadyH.cons (o := { dst := some 38, op := Op.call { callee := Callee.value (Operand.func 32), args := #[Operand.tmp 33, Operand.tmp 35, Operand.tmp 36, Operand.tmp 37], argTypes := #[26, 23, 3, 26] }, type := 34, pos := "ref.go:54", after := #[{ on := 4, ground := Ground.data }, { on := 6, ground := Ground.data }, { on := 7, ground := Ground.data }, { on := 8, ground := Ground.data }], guard := none }) rfl (fun K hK => ?_) AllReadyH.nil
          go_simp
          refine (HREC.out (U :: (w.heap.size + 1 + 1) :: F) w8 (fun g hg => (List.mem_cons.1 hg).elim (fun h => h ▸ GU.out.lt) (fun h => Nat.lt_of_lt_of_le (HFB.out g h) (B8.out).size)) ((HST.out.more (fun g hg hlt => (List.mem_cons.1 hg).elim (fun h => absurd hlt (by rw [h]; have := HU1.out; omega)) id)).later (B8.out)) ((HK1.out.more (fun g hg hlt => (List.mem_cons.1 hg).elim (fun h => absurd hlt (by rw [h]; have := HU1.out; omega)) id)).later (B8.out)) (B8.out)).mono ?_
          rintro e7 w7 ⟨m7, vs, tt, rfl, hv, htt, b7⟩
          have B7 := Lib.hid ((B8.out).trans (b7.mono (B8.out).size))
          have HVU := Lib.hid hv
          have HV := Lib.hid (hv.more (fun g hg _ => List.mem_cons_of_mem _ hg))
          have B78 := Lib.hid b7
          have HTT := Lib.hid htt
          clear hv htt b7
          go_wp2_with fail
          refine hK.out _ _ (⟨KP.out _ (B7.out), fun q v hv => ((B7.out).cell (p := ⟨kb, ko + j * 5 + q, none⟩) HKB.out).trans (HRG.out q v hv)⟩) (fun hHw2 => ?_)
          clear hK K hHw1
          try simp only [Act.put, List.setIfInBounds_toArray, List.set_cons_zero, List.set_cons_succ]
          refine wpAnyH_take (i := 10) (oi := { dst := some 28, op := Op.move (Operand.tmp 38), type := 34, pos := "ref.go:54", after := #[{ on := 9, ground := Ground.data }], guard := none }) (v := .tuple #[.agg vs.toArray, .int .i64 (C.1 : Int)]) rfl (by kernel_rfl) (by kernel_rfl) (by kernel_rfl) (fun _ _ _ h => h)
            (Or.inl ⟨by rfl, by intro w hSw;  clear hSw; go_simp⟩) hHw2 ?_
          try simp only [Act.put, List.setIfInBounds_toArray, List.set_cons_zero, List.set_cons_succ]
          refine wpAnyH_take (i := 11) (oi := { dst := some 39, op := Op.extract (Operand.tmp 28) 0, type := 26, pos := "ref.go:54", after := #[{ on := 10, ground := Ground.data }], guard := none }) (v := .agg vs.toArray) rfl (by kernel_rfl) (by kernel_rfl) (by kernel_rfl) (fun _ _ _ h => h)
            (Or.inl ⟨by rfl, by intro w hSw;  clear hSw; go_simp⟩) hHw2 ?_
          try simp only [Act.put, List.setIfInBounds_toArray, List.set_cons_zero, List.set_cons_succ]
          refine wpAnyH_take (i := 12) (oi := { dst := some 40, op := Op.extract (Operand.tmp 28) 1, type := 3, pos := "ref.go:54", after := #[{ on := 10, ground := Ground.data }, { on := 14, ground := Ground.gcOnly Departure.lateStores }], guard := none }) (v := .int .i64 (C.1 : Int)) rfl (by kernel_rfl) (by kernel_rfl) (by kernel_rfl) (fun _ _ _ h => h)
            (Or.inl ⟨by rfl, by intro w hSw;  clear hSw; go_simp⟩) hHw2 ?_
          try simp only [Act.put, List.setIfInBounds_toArray, List.set_cons_zero, List.set_cons_succ]
          refine wpAnyH_ready (rs := [14]) (by kernel_rfl) (by simp) ?_
          refine AllReadyH.cons (o := { dst := none, op := Op.store 26 (Operand.tmp 11) (Operand.tmp 39), type := 0, pos := "ref.go:54", after := #[{ on := 13, ground := Ground.data }, { on := 11, ground := Ground.data }, { on := 9, ground := Ground.chain }, { on := 0, ground := Ground.phase }, { on := 1, ground := Ground.phase }, { on := 2, ground := Ground.phase }, { on := 3, ground := Ground.phase }, { on := 4, ground := Ground.phase }, { on := 5, ground := Ground.phase }, { on := 6, ground := Ground.phase }, { on := 7, ground := Ground.phase }, { on := 8, ground := Ground.phase }, { on := 9, ground := Ground.phase }, { on := 10, ground := Ground.phase }, { on := 11, ground := Ground.phase }, { on := 12, ground := Ground.textOnly Departure.lateStores }, { on := 13, ground := Ground.phase }], guard := none }) rfl (fun K hK => ?_) AllReadyH.nil
          rw [if_pos (by rfl)]
          have HIV := Lib.hid (infoL (isT_five HV.out.self))
          have HOV := Lib.hid (isT_one HV.out.self)
          have HZV : Hid (zT.toArray.size = vs.toArray.size) := Lib.hid (by simp [zT, isT_five HV.out.self])
          have GU9 : Hid (Has w7 U zT 26) := Lib.hid (GU.out.below (B78.out) GU.out.lt)
          refine wp_store_row 26 (.tmp 11) (.tmp 39) rfl U vs.toArray rfl rfl 26 zT.toArray (show _ from GU9.out) HIV.out HZV.out HOV.out ?_
          obtain ⟨w9, hw9⟩ : ∃ X, X = w7.setRow U vs.toArray := ⟨_, rfl⟩
          have B9 : Hid (Below w1.heap.size w1 w9) := Lib.hid (by rw [hw9]; exact below_setRow B7.out HU1.out _)
          have GV : Hid (Has w9 U vs 26) := Lib.hid (by rw [hw9]; exact has_setRow GU9.out)
          have HV9 : Hid (Sta ((w.heap.size + 1 + 1) :: F) w9 m7 vs tt) := Lib.hid (by rw [hw9]; exact (HVU.out.go ((Fr.refl _ _).setRow (.inl (List.mem_cons_self ..)) _)).more (fun g hg _ => List.mem_cons_of_mem _ hg))
          rw [← hw9]
          clear hw9
          refine hK.out _ _ (⟨KP.out _ (B9.out), fun q v hv => ((B9.out).cell (p := ⟨kb, ko + j * 5 + q, none⟩) HKB.out).trans (HRG.out q v hv)⟩) (fun hHw3 => ?_)
          clear hK K hHw2
          try simp only [Act.put]
          refine wpAnyH_take (i := 15) (oi := { dst := some 12, op := Op.assign (Operand.tmp 40), type := 3, pos := "ref.go:54", after := #[{ on := 12, ground := Ground.data }, { on := 14, ground := Ground.chain }, { on := 0, ground := Ground.phase }, { on := 1, ground := Ground.phase }, { on := 2, ground := Ground.phase }, { on := 3, ground := Ground.phase }, { on := 4, ground := Ground.phase }, { on := 5, ground := Ground.phase }, { on := 6, ground := Ground.phase }, { on := 7, ground := Ground.phase }, { on := 8, ground := Ground.phase }, { on := 9, ground := Ground.phase }, { on := 10, ground := Ground.phase }, { on := 11, ground := Ground.phase }, { on := 12, ground := Ground.phase }, { on := 13, ground := Ground.phase }, { on := 14, ground := Ground.phase }], guard := none }) (v := .int .i64 (C.1 : Int)) rfl (by kernel_rfl) (by kernel_rfl) (by kernel_rfl) (fun _ _ _ h => h)
            (Or.inl ⟨by rfl, by intro w hSw;  clear hSw; go_simp⟩) hHw3 ?_
          try simp only [Act.put, List.setIfInBounds_toArray, List.set_cons_zero, List.set_cons_succ]
          refine wpAnyH_done (by kernel_rfl) ?_ _
          clear hHw3
          have VTw9 : Hid (w9.heap[w.heap.size]? = some (.cells cs.toArray 26 (0, 0))) := Lib.hid ((B9.out.block _ (by have := S1.out; omega)).trans VTw1.out)
          have VRw9 : Hid (w9.heap[w.heap.size + 1 + 1]? = some (.cells zT.toArray 26 (0, 0))) := Lib.hid ((B9.out.block _ (by have := S1.out; omega)).trans VRw1.out)
          have BWw9 := Lib.hid (B1.out.trans (B9.out.mono B1.out.size))
          by_cases hC : C.1 = 0
          · rw [hC]
            have HTE := HTT.out hC
            have HCR2 : Hid (RR = (0, .mk 3 false [] (wthAll nm C.2 ns ks).1 (wthAll nm C.2 ns ks).2)) := Lib.hid (by
              obtain ⟨hx, hd⟩ := dir_plain HFM.out
              rw [HCR.out, hC, wth_all HLEN.out HPW.out, if_pos HTK.out, HJ.out, hx, hd])
            have HCR := HCR2
            have HV10 : Hid (Sta ((w.heap.size + 1 + 1) :: F) w9 m7 vs C.2) := Lib.hid (by rw [← HTE]; exact HV9.out)
            have hiV : (Tryd.prog.info? 26).map (·.size) = some vs.length := by rw [info5, isT_five HV9.out.self]
            have HUB : Hid (U ≠ w.heap.size + 1 + 1) := Lib.hid (by have := HU1.out; have := S1.out; omega)
            clear HTE hC HCR2
            go_upto_region 10 with fail
            refine wp_region_held_drew (S := fun Y => (Has Y w.heap.size cs 26 ∧ Has Y (w.heap.size + 1) kc 26 ∧ Y.cell? ⟨b, off, none⟩ = some (.string nm)) ∧ Has Y U vs 26) (by kernel_rfl) (⟨KP.out _ (B9.out.drew), GV.out.drew⟩) (fun hHeld => ?_)
            refine wpAnyH_take (i := 0) (oi := { dst := some 45, op := Op.load 26 (Operand.tmp 4), type := 26, pos := "ref.go:58", after := #[], guard := none }) rfl (by kernel_rfl) (by kernel_rfl) (by kernel_rfl) (fun _ _ _ h => h)
              (yieldsIf_load_mid (by rfl) 26 (.tmp 4) rfl w.heap.size (0) rfl cs _ (fun _ h => rangeAt_has h.1.1) hu26 rfl hiL) hHeld ?_
            try simp only [Act.put, List.setIfInBounds_toArray, List.set_cons_zero, List.set_cons_succ]
            refine wpAnyH_take (i := 1) (oi := { dst := some 46, op := Op.move (Operand.tmp 1), type := 23, pos := "ref.go:58", after := #[], guard := none }) (v := .slice (some ⟨b, off, none⟩) kn c) rfl (by kernel_rfl) (by kernel_rfl) (by kernel_rfl) (fun _ _ _ h => h)
              (Or.inl ⟨by rfl, by intro w hSw;  clear hSw; go_simp⟩) hHeld ?_
            try simp only [Act.put, List.setIfInBounds_toArray, List.set_cons_zero, List.set_cons_succ]
            refine wpAnyH_take (i := 2) (oi := { dst := some 47, op := Op.indexAddr 23 (Operand.tmp 46) (Operand.const (Value.int IntKind.i64 0)), type := 0, pos := "ref.go:58", after := #[{ on := 1, ground := Ground.data }], guard := none }) (v := .pointer (some ⟨b, off, none⟩)) rfl (by kernel_rfl) (by kernel_rfl) (by kernel_rfl) (fun _ _ _ h => h)
              (Or.inl ⟨by rfl, by intro w hSw;  clear hSw; go_simp⟩) hHeld ?_
            try simp only [Act.put, List.setIfInBounds_toArray, List.set_cons_zero, List.set_cons_succ]
            refine wpAnyH_take (i := 3) (oi := { dst := some 48, op := Op.load 9 (Operand.tmp 47), type := 9, pos := "ref.go:58", after := #[{ on := 2, ground := Ground.data }], guard := none }) (v := .string nm) rfl (by kernel_rfl) (by kernel_rfl) (by kernel_rfl) (fun _ _ _ h => h)
              (Or.inl ⟨by rfl, by intro w hSw; have hq := hSw.1.2.2; clear hSw; go_simp⟩) hHeld ?_
            try simp only [Act.put, List.setIfInBounds_toArray, List.set_cons_zero, List.set_cons_succ]
            refine wpAnyH_take (i := 4) (oi := { dst := some 49, op := Op.load 26 (Operand.tmp 11), type := 26, pos := "ref.go:58", after := #[], guard := none }) rfl (by kernel_rfl) (by kernel_rfl) (by kernel_rfl) (fun _ _ _ h => h)
              (yieldsIf_load_mid (by rfl) 26 (.tmp 11) rfl U (0) rfl vs _ (fun _ h => rangeAt_has h.2) hu26 rfl hiV) hHeld ?_
            try simp only [Act.put, List.setIfInBounds_toArray, List.set_cons_zero, List.set_cons_succ]
            refine wpAnyH_ready (rs := [5]) (by kernel_rfl) (by simp) ?_
            refine AllReadyH.cons (o := { dst := some 50, op := Op.call { callee := Callee.value (Operand.func 48), args := #[Operand.tmp 45, Operand.tmp 48, Operand.tmp 49], argTypes := #[26, 9, 26] }, type := 26, pos := "ref.go:58", after := #[{ on := 0, ground := Ground.data }, { on := 3, ground := Ground.data }, { on := 4, ground := Ground.data }], guard := none }) rfl (fun K hK => ?_) AllReadyH.nil
            go_simp
            refine (with_any ((w.heap.size + 1 + 1) :: F) (n + 1) cs 3 x d ns ks nm _ (fun g hg => Nat.lt_of_lt_of_le (HFB.out g hg) (B9.out.drew).size) (HT1.out.later (B9.out.drew)) HLEN.out (size_names HLEN.out HSZ.out) _ vs _ (HV10.out.later ((Below.refl w9.heap.size w9).drew))).mono ?_
            rintro e w5 ⟨⟨m5, vs', rfl, hv⟩, b5⟩
            have B95 := Lib.hid ((Below.refl w9.heap.size w9).drew.trans (b5.mono (Below.refl w9.heap.size w9).drew.size))
            have B5 := Lib.hid ((B9.out.drew).trans (b5.mono (B9.out.drew).size))
            have HV := Lib.hid hv
            have HIV := Lib.hid (infoL (isT_five hv.self))
            have HOV := Lib.hid (isT_one hv.self)
            have HZV : Hid (zT.toArray.size = vs'.toArray.size) := Lib.hid (by simp [zT, isT_five hv.self])
            clear b5 hv
            go_wp2_with fail
            refine hK.out _ _ (⟨KP.out _ B5.out, (GV.out.below B95.out GV.out.lt)⟩) (fun hHw1 => ?_)
            clear hK K hHeld
            try simp only [Act.put, List.setIfInBounds_toArray, List.set_cons_zero, List.set_cons_succ]
            refine wpAnyH_ready (rs := [6]) (by kernel_rfl) (by simp) ?_
            refine AllReadyH.cons (o := { dst := none, op := Op.store 26 (Operand.tmp 8) (Operand.tmp 50), type := 0, pos := "ref.go:58", after := #[{ on := 5, ground := Ground.data }, { on := 5, ground := Ground.chain }, { on := 0, ground := Ground.phase }, { on := 1, ground := Ground.phase }, { on := 2, ground := Ground.phase }, { on := 3, ground := Ground.phase }, { on := 4, ground := Ground.phase }, { on := 5, ground := Ground.phase }], guard := none }) rfl (fun K hK => ?_) AllReadyH.nil
            rw [if_pos (by rfl)]
            refine wp_store_row 26 (.tmp 8) (.tmp 50) rfl (w.heap.size + 1 + 1) vs'.toArray rfl rfl 26 zT.toArray ((B5.out.block _ (by have := S1.out; omega)).trans VRw1.out) HIV.out HZV.out HOV.out ?_
            refine hK.out _ _ (⟨⟨has_setRow_other (KP.out _ B5.out).1 (by omega) _, has_setRow_other (KP.out _ B5.out).2.1 (by omega) _, cell_setRow _ (KP.out _ B5.out).2.2 (by have := HBL.out; omega)⟩, has_setRow_other ((GV.out.below B95.out GV.out.lt)) HUB.out _⟩) (fun hHw2 => ?_)
            clear hK K hHw1
            try simp only [Act.put]
            refine wpAnyH_take (i := 7) (oi := { dst := some 9, op := Op.assign (Operand.const (Value.int IntKind.i64 0)), type := 3, pos := "ref.go:58", after := #[{ on := 6, ground := Ground.chain }, { on := 0, ground := Ground.phase }, { on := 1, ground := Ground.phase }, { on := 2, ground := Ground.phase }, { on := 3, ground := Ground.phase }, { on := 4, ground := Ground.phase }, { on := 5, ground := Ground.phase }, { on := 6, ground := Ground.phase }], guard := none }) (v := .int .i64 0) rfl (by kernel_rfl) (by kernel_rfl) (by kernel_rfl) (fun _ _ _ h => h)
              (Or.inl ⟨by rfl, by intro w hSw;  clear hSw; go_simp⟩) hHw2 ?_
            try simp only [Act.put, List.setIfInBounds_toArray, List.set_cons_zero, List.set_cons_succ]
            refine wpAnyH_done (by kernel_rfl) ?_ _
            clear hHw2
            have BW5 := Lib.hid (B1.out.trans (B5.out.mono B1.out.size))
            have VR5 : Hid (w5.heap[w.heap.size + 1 + 1]? = some (.cells zT.toArray 26 (0, 0))) := Lib.hid ((B5.out.block _ (by have := S1.out; omega)).trans VRw1.out)
            go_wp2_with fail
            refine bodyPost_ret (at_ret (fn := Tryd.f32) (p := 8) (u := 9) (ty := 26) Tryd.results32 _ _ (w.heap.size + 1 + 1) 26 vs'.toArray (0, 0) _ rfl (setRow_heap _ _ _ _ _ _ VR5.out) Tryd.underlying26 rfl HIV.out) rfl ?_
            refine ⟨m5, vs', _, by rw [HCR.out]; rfl, (HV.out.go ((Fr.refl _ _).setRow (.inl (List.mem_cons_self ..)) _)).more (fun g hg _ => List.mem_cons_of_mem _ hg), fun _ => by rw [HCR.out], below_setRow BW5.out (by omega) _⟩
          · have HC0 := Lib.hid hC
            have hC1 : ((C.1 : Int) == 0) = false := by rw [beq_eq_false_iff_ne]; omega
            have hC2 : ¬ (C.1 : Int) = 0 := by omega
            have hC3 : ((C.1 : Int) != 0) = true := by rw [bne_iff_ne]; exact hC2
            have HCE : Hid (RR.1 = C.1) := Lib.hid (by rw [HCR.out])
            clear hC
            go_wp2_with (first
              | (refine wpList_load_row rfl 26 _ rfl w.heap.size rfl 26 cs.toArray (0, 0) _ VTw9.out Tryd.underlying26 rfl HIC.out ?_)
              | (refine wpList_store_row rfl 26 _ _ rfl (w.heap.size + 1 + 1) cs.toArray rfl rfl 26 zT.toArray VRw9.out HIC.out HZC.out HOC.out ?_))
            refine bodyPost_ret (at_ret (fn := Tryd.f32) (p := 8) (u := 9) (ty := 26) Tryd.results32 _ _ (w.heap.size + 1 + 1) 26 cs.toArray (0, 0) _ rfl (setRow_heap _ _ _ _ _ _ VRw9.out) Tryd.underlying26 rfl HIC.out) rfl ?_
            exact ⟨n + 1, cs, _, by rw [HCE.out]; rfl, HT.out.go ((Fr.of_below BWw9.out).setRow (.inr (by omega)) _), fun h0 => absurd h0 (by rw [HCE.out]; first | decide | exact HC0.out), below_setRow BWw9.out (by omega) _⟩
    · have HTK := Lib.hid htk
      have HFI : Hid (∀ Y, IsT Y (n + 1) cs (.mk 3 x d ns ks) → Calls Tryd.prog 23 #[.agg cs.toArray, .string nm] Y fun e w' => e = .returned (.int .i64 (-1)) ∧ Below Y.heap.size Y w') := Lib.hid (fun Y hY => by
        have h := find_any (n + 1) cs 3 x d ns ks nm Y hY
        rw [idx_tkn HPW.out, if_neg htk] at h
        exact h)
      clear htk hj
      refine wp_region_held_drew (S := fun Y => Has Y w.heap.size cs 26 ∧ Has Y (w.heap.size + 1) kc 26 ∧ Y.cell? ⟨b, off, none⟩ = some (.string nm)) (by kernel_rfl) (KP.out _ (Below.refl _ _).drew) (fun hHeld => ?_)
      refine wpAnyH_take (i := 0) (oi := { dst := some 17, op := Op.load 26 (Operand.tmp 4), type := 26, pos := "ref.go:49", after := #[], guard := none }) rfl (by kernel_rfl) (by kernel_rfl) (by kernel_rfl) (fun _ _ _ h => h)
        (yieldsIf_load_mid (by rfl) 26 (.tmp 4) rfl w.heap.size (0) rfl cs _ (fun _ h => rangeAt_has h.1) hu26 rfl hiL) hHeld ?_
      try simp only [Act.put, List.setIfInBounds_toArray, List.set_cons_zero, List.set_cons_succ]
      refine wpAnyH_take (i := 1) (oi := { dst := some 18, op := Op.move (Operand.tmp 1), type := 23, pos := "ref.go:49", after := #[], guard := none }) (v := .slice (some ⟨b, off, none⟩) kn c) rfl (by kernel_rfl) (by kernel_rfl) (by kernel_rfl) (fun _ _ _ h => h)
        (Or.inl ⟨by rfl, by intro w hSw;  clear hSw; go_simp⟩) hHeld ?_
      try simp only [Act.put, List.setIfInBounds_toArray, List.set_cons_zero, List.set_cons_succ]
      refine wpAnyH_take (i := 2) (oi := { dst := some 19, op := Op.indexAddr 23 (Operand.tmp 18) (Operand.const (Value.int IntKind.i64 0)), type := 0, pos := "ref.go:49", after := #[{ on := 1, ground := Ground.data }], guard := none }) (v := .pointer (some ⟨b, off, none⟩)) rfl (by kernel_rfl) (by kernel_rfl) (by kernel_rfl) (fun _ _ _ h => h)
        (Or.inl ⟨by rfl, by intro w hSw;  clear hSw; go_simp⟩) hHeld ?_
      try simp only [Act.put, List.setIfInBounds_toArray, List.set_cons_zero, List.set_cons_succ]
      refine wpAnyH_take (i := 3) (oi := { dst := some 20, op := Op.load 9 (Operand.tmp 19), type := 9, pos := "ref.go:49", after := #[{ on := 2, ground := Ground.data }], guard := none }) (v := .string nm) rfl (by kernel_rfl) (by kernel_rfl) (by kernel_rfl) (fun _ _ _ h => h)
        (Or.inl ⟨by rfl, by intro w hSw; have hq := hSw.2.2; clear hSw; go_simp⟩) hHeld ?_
      try simp only [Act.put, List.setIfInBounds_toArray, List.set_cons_zero, List.set_cons_succ]
      refine wpAnyH_ready (rs := [4]) (by kernel_rfl) (by simp) ?_
      refine AllReadyH.cons (o := { dst := some 21, op := Op.call { callee := Callee.value (Operand.func 23), args := #[Operand.tmp 17, Operand.tmp 20], argTypes := #[26, 9] }, type := 3, pos := "ref.go:49", after := #[{ on := 0, ground := Ground.data }, { on := 3, ground := Ground.data }], guard := none }) rfl (fun K hK => ?_) AllReadyH.nil
      go_simp
      refine (HFI.out w1.drew (HT1.out.later (Below.refl _ _).drew).self).mono ?_
      rintro e w3 ⟨rfl, b3⟩
      have B3 := Lib.hid ((Below.refl w1.heap.size w1).drew.trans b3)
      clear b3
      go_wp2_with fail
      refine hK.out _ _ (KP.out _ B3.out) (fun hHw1 => ?_)
      clear hK K hHeld
      try simp only [Act.put, List.setIfInBounds_toArray, List.set_cons_zero, List.set_cons_succ]
      refine wpAnyH_take (i := 5) (oi := { dst := some 10, op := Op.assign (Operand.tmp 21), type := 3, pos := "ref.go:49", after := #[{ on := 4, ground := Ground.data }, { on := 4, ground := Ground.chain }, { on := 0, ground := Ground.phase }, { on := 1, ground := Ground.phase }, { on := 2, ground := Ground.phase }, { on := 3, ground := Ground.phase }, { on := 4, ground := Ground.phase }], guard := none }) (v := .int .i64 (-1)) rfl (by kernel_rfl) (by kernel_rfl) (by kernel_rfl) (fun _ _ _ h => h)
        (Or.inl ⟨by rfl, by intro w hSw;  clear hSw; go_simp⟩) hHw1 ?_
      try simp only [Act.put, List.setIfInBounds_toArray, List.set_cons_zero, List.set_cons_succ]
      refine wpAnyH_done (by kernel_rfl) ?_ _
      clear hHw1
      have VTw3 : Hid (w3.heap[w.heap.size]? = some (.cells cs.toArray 26 (0, 0))) := Lib.hid ((B3.out.block _ (by have := S1.out; omega)).trans VTw1.out)
      have VRw3 : Hid (w3.heap[w.heap.size + 1 + 1]? = some (.cells zT.toArray 26 (0, 0))) := Lib.hid ((B3.out.block _ (by have := S1.out; omega)).trans VRw1.out)
      have BWw3 := Lib.hid (B1.out.trans (B3.out.mono B1.out.size))
      by_cases hl2 : l2 = []
      · skip
        obtain rfl : kn = 1 := by have := HNL.out; rw [hl2] at this; exact this
        subst hl2
        cases e with
        | mk =>
          have hz : hw = 0 := by rw [HHW.out]; rfl
          subst hz
          have HCR : Hid (RR = (0, .mk 3 false [] (wthAll nm (kidE Ed.mk) ns ks).1 (wthAll nm (kidE Ed.mk) ns ks).2)) := Lib.hid (by rw [HRR.out]; exact chgR_with HFM.out Ed.mk (.inl ⟨rfl, HTK.out⟩))
          go_upto_region 17 with fail
          refine wp_region_held_drew (S := fun Y => Has Y w.heap.size cs 26 ∧ Has Y (w.heap.size + 1) kc 26 ∧ Y.cell? ⟨b, off, none⟩ = some (.string nm)) (by kernel_rfl) (KP.out _ (B3.out.drew)) (fun hHeld => ?_)
          refine wpAnyH_take (i := 0) (oi := { dst := some 75, op := Op.load 26 (Operand.tmp 4), type := 26, pos := "ref.go:68", after := #[], guard := none }) rfl (by kernel_rfl) (by kernel_rfl) (by kernel_rfl) (fun _ _ _ h => h)
            (yieldsIf_load_mid (by rfl) 26 (.tmp 4) rfl w.heap.size (0) rfl cs _ (fun _ h => rangeAt_has h.1) hu26 rfl hiL) hHeld ?_
          try simp only [Act.put, List.setIfInBounds_toArray, List.set_cons_zero, List.set_cons_succ]
          refine wpAnyH_take (i := 1) (oi := { dst := some 76, op := Op.move (Operand.tmp 1), type := 23, pos := "ref.go:68", after := #[], guard := none }) (v := .slice (some ⟨b, off, none⟩) 1 c) rfl (by kernel_rfl) (by kernel_rfl) (by kernel_rfl) (fun _ _ _ h => h)
            (Or.inl ⟨by rfl, by intro w hSw;  clear hSw; go_simp⟩) hHeld ?_
          try simp only [Act.put, List.setIfInBounds_toArray, List.set_cons_zero, List.set_cons_succ]
          refine wpAnyH_take (i := 2) (oi := { dst := some 77, op := Op.indexAddr 23 (Operand.tmp 76) (Operand.const (Value.int IntKind.i64 0)), type := 0, pos := "ref.go:68", after := #[{ on := 1, ground := Ground.data }], guard := none }) (v := .pointer (some ⟨b, off, none⟩)) rfl (by kernel_rfl) (by kernel_rfl) (by kernel_rfl) (fun _ _ _ h => h)
            (Or.inl ⟨by rfl, by intro w hSw;  clear hSw; go_simp⟩) hHeld ?_
          try simp only [Act.put, List.setIfInBounds_toArray, List.set_cons_zero, List.set_cons_succ]
          refine wpAnyH_take (i := 3) (oi := { dst := some 78, op := Op.load 9 (Operand.tmp 77), type := 9, pos := "ref.go:68", after := #[{ on := 2, ground := Ground.data }], guard := none }) (v := .string nm) rfl (by kernel_rfl) (by kernel_rfl) (by kernel_rfl) (fun _ _ _ h => h)
            (Or.inl ⟨by rfl, by intro w hSw; have hq := hSw.2.2; clear hSw; go_simp⟩) hHeld ?_
          try simp only [Act.put, List.setIfInBounds_toArray, List.set_cons_zero, List.set_cons_succ]
          refine wpAnyH_take (i := 4) (oi := { dst := some 79, op := Op.load 26 (Operand.tmp 7), type := 26, pos := "ref.go:68", after := #[], guard := none }) rfl (by kernel_rfl) (by kernel_rfl) (by kernel_rfl) (fun _ _ _ h => h)
            (yieldsIf_load_mid (by rfl) 26 (.tmp 7) rfl (w.heap.size + 1) (0) rfl kc _ (fun _ h => rangeAt_has h.2.1) hu26 rfl hiK) hHeld ?_
          try simp only [Act.put, List.setIfInBounds_toArray, List.set_cons_zero, List.set_cons_succ]
          refine wpAnyH_ready (rs := [5]) (by kernel_rfl) (by simp) ?_
          refine AllReadyH.cons (o := { dst := some 80, op := Op.call { callee := Callee.value (Operand.func 48), args := #[Operand.tmp 75, Operand.tmp 78, Operand.tmp 79], argTypes := #[26, 9, 26] }, type := 26, pos := "ref.go:68", after := #[{ on := 0, ground := Ground.data }, { on := 3, ground := Ground.data }, { on := 4, ground := Ground.data }], guard := none }) rfl (fun K hK => ?_) AllReadyH.nil
          go_simp
          refine (with_any ((w.heap.size + 1 + 1) :: F) (n + 1) cs 3 x d ns ks nm _ (fun g hg => Nat.lt_of_lt_of_le (HFB.out g hg) (B3.out.drew).size) (HT1.out.later (B3.out.drew)) HLEN.out (size_names HLEN.out HSZ.out) _ kc _ (HK1.out.later (B3.out.drew))).mono ?_
          rintro e w5 ⟨⟨m5, vs, rfl, hv⟩, b5⟩
          have B5 := Lib.hid ((B3.out.drew).trans (b5.mono (B3.out.drew).size))
          have HV := Lib.hid hv
          have HIV := Lib.hid (infoL (isT_five hv.self))
          have HOV := Lib.hid (isT_one hv.self)
          have HZV : Hid (zT.toArray.size = vs.toArray.size) := Lib.hid (by simp [zT, isT_five hv.self])
          clear b5 hv
          go_wp2_with fail
          refine hK.out _ _ (KP.out _ B5.out) (fun hHw1 => ?_)
          clear hK K hHeld
          try simp only [Act.put, List.setIfInBounds_toArray, List.set_cons_zero, List.set_cons_succ]
          refine wpAnyH_ready (rs := [6]) (by kernel_rfl) (by simp) ?_
          refine AllReadyH.cons (o := { dst := none, op := Op.store 26 (Operand.tmp 8) (Operand.tmp 80), type := 0, pos := "ref.go:68", after := #[{ on := 5, ground := Ground.data }, { on := 5, ground := Ground.chain }, { on := 0, ground := Ground.phase }, { on := 1, ground := Ground.phase }, { on := 2, ground := Ground.phase }, { on := 3, ground := Ground.phase }, { on := 4, ground := Ground.phase }, { on := 5, ground := Ground.phase }], guard := none }) rfl (fun K hK => ?_) AllReadyH.nil
          rw [if_pos (by rfl)]
          refine wp_store_row 26 (.tmp 8) (.tmp 80) rfl (w.heap.size + 1 + 1) vs.toArray rfl rfl 26 zT.toArray ((B5.out.block _ (by have := S1.out; omega)).trans VRw1.out) HIV.out HZV.out HOV.out ?_
          refine hK.out _ _ (⟨has_setRow_other (KP.out _ B5.out).1 (by omega) _, has_setRow_other (KP.out _ B5.out).2.1 (by omega) _, cell_setRow _ (KP.out _ B5.out).2.2 (by have := HBL.out; omega)⟩) (fun hHw2 => ?_)
          clear hK K hHw1
          try simp only [Act.put]
          refine wpAnyH_take (i := 7) (oi := { dst := some 9, op := Op.assign (Operand.const (Value.int IntKind.i64 0)), type := 3, pos := "ref.go:68", after := #[{ on := 6, ground := Ground.chain }, { on := 0, ground := Ground.phase }, { on := 1, ground := Ground.phase }, { on := 2, ground := Ground.phase }, { on := 3, ground := Ground.phase }, { on := 4, ground := Ground.phase }, { on := 5, ground := Ground.phase }, { on := 6, ground := Ground.phase }], guard := none }) (v := .int .i64 0) rfl (by kernel_rfl) (by kernel_rfl) (by kernel_rfl) (fun _ _ _ h => h)
            (Or.inl ⟨by rfl, by intro w hSw;  clear hSw; go_simp⟩) hHw2 ?_
          try simp only [Act.put, List.setIfInBounds_toArray, List.set_cons_zero, List.set_cons_succ]
          refine wpAnyH_done (by kernel_rfl) ?_ _
          clear hHw2
          have BW5 := Lib.hid (B1.out.trans (B5.out.mono B1.out.size))
          have VR5 : Hid (w5.heap[w.heap.size + 1 + 1]? = some (.cells zT.toArray 26 (0, 0))) := Lib.hid ((B5.out.block _ (by have := S1.out; omega)).trans VRw1.out)
          go_wp2_with fail
          refine bodyPost_ret (at_ret (fn := Tryd.f32) (p := 8) (u := 9) (ty := 26) Tryd.results32 _ _ (w.heap.size + 1 + 1) 26 vs.toArray (0, 0) _ rfl (setRow_heap _ _ _ _ _ _ VR5.out) Tryd.underlying26 rfl HIV.out) rfl ?_
          refine ⟨m5, vs, _, by rw [HCR.out]; rfl, (HV.out.go ((Fr.refl _ _).setRow (.inl (List.mem_cons_self ..)) _)).more (fun g hg _ => List.mem_cons_of_mem _ hg), fun _ => by rw [HCR.out], below_setRow BW5.out (by omega) _⟩
        | put kk =>
          have hz : hw = 1 := by rw [HHW.out]; rfl
          subst hz
          have HCR : Hid (RR = (0, .mk 3 false [] (wthAll nm (kidE (Ed.put kk)) ns ks).1 (wthAll nm (kidE (Ed.put kk)) ns ks).2)) := Lib.hid (by rw [HRR.out]; exact chgR_with HFM.out (Ed.put kk) (.inr ⟨kk, rfl⟩))
          go_upto_region 17 with fail
          refine wp_region_held_drew (S := fun Y => Has Y w.heap.size cs 26 ∧ Has Y (w.heap.size + 1) kc 26 ∧ Y.cell? ⟨b, off, none⟩ = some (.string nm)) (by kernel_rfl) (KP.out _ (B3.out.drew)) (fun hHeld => ?_)
          refine wpAnyH_take (i := 0) (oi := { dst := some 75, op := Op.load 26 (Operand.tmp 4), type := 26, pos := "ref.go:68", after := #[], guard := none }) rfl (by kernel_rfl) (by kernel_rfl) (by kernel_rfl) (fun _ _ _ h => h)
            (yieldsIf_load_mid (by rfl) 26 (.tmp 4) rfl w.heap.size (0) rfl cs _ (fun _ h => rangeAt_has h.1) hu26 rfl hiL) hHeld ?_
          try simp only [Act.put, List.setIfInBounds_toArray, List.set_cons_zero, List.set_cons_succ]
          refine wpAnyH_take (i := 1) (oi := { dst := some 76, op := Op.move (Operand.tmp 1), type := 23, pos := "ref.go:68", after := #[], guard := none }) (v := .slice (some ⟨b, off, none⟩) 1 c) rfl (by kernel_rfl) (by kernel_rfl) (by kernel_rfl) (fun _ _ _ h => h)
            (Or.inl ⟨by rfl, by intro w hSw;  clear hSw; go_simp⟩) hHeld ?_
          try simp only [Act.put, List.setIfInBounds_toArray, List.set_cons_zero, List.set_cons_succ]
          refine wpAnyH_take (i := 2) (oi := { dst := some 77, op := Op.indexAddr 23 (Operand.tmp 76) (Operand.const (Value.int IntKind.i64 0)), type := 0, pos := "ref.go:68", after := #[{ on := 1, ground := Ground.data }], guard := none }) (v := .pointer (some ⟨b, off, none⟩)) rfl (by kernel_rfl) (by kernel_rfl) (by kernel_rfl) (fun _ _ _ h => h)
            (Or.inl ⟨by rfl, by intro w hSw;  clear hSw; go_simp⟩) hHeld ?_
          try simp only [Act.put, List.setIfInBounds_toArray, List.set_cons_zero, List.set_cons_succ]
          refine wpAnyH_take (i := 3) (oi := { dst := some 78, op := Op.load 9 (Operand.tmp 77), type := 9, pos := "ref.go:68", after := #[{ on := 2, ground := Ground.data }], guard := none }) (v := .string nm) rfl (by kernel_rfl) (by kernel_rfl) (by kernel_rfl) (fun _ _ _ h => h)
            (Or.inl ⟨by rfl, by intro w hSw; have hq := hSw.2.2; clear hSw; go_simp⟩) hHeld ?_
          try simp only [Act.put, List.setIfInBounds_toArray, List.set_cons_zero, List.set_cons_succ]
          refine wpAnyH_take (i := 4) (oi := { dst := some 79, op := Op.load 26 (Operand.tmp 7), type := 26, pos := "ref.go:68", after := #[], guard := none }) rfl (by kernel_rfl) (by kernel_rfl) (by kernel_rfl) (fun _ _ _ h => h)
            (yieldsIf_load_mid (by rfl) 26 (.tmp 7) rfl (w.heap.size + 1) (0) rfl kc _ (fun _ h => rangeAt_has h.2.1) hu26 rfl hiK) hHeld ?_
          try simp only [Act.put, List.setIfInBounds_toArray, List.set_cons_zero, List.set_cons_succ]
          refine wpAnyH_ready (rs := [5]) (by kernel_rfl) (by simp) ?_
          refine AllReadyH.cons (o := { dst := some 80, op := Op.call { callee := Callee.value (Operand.func 48), args := #[Operand.tmp 75, Operand.tmp 78, Operand.tmp 79], argTypes := #[26, 9, 26] }, type := 26, pos := "ref.go:68", after := #[{ on := 0, ground := Ground.data }, { on := 3, ground := Ground.data }, { on := 4, ground := Ground.data }], guard := none }) rfl (fun K hK => ?_) AllReadyH.nil
          go_simp
          refine (with_any ((w.heap.size + 1 + 1) :: F) (n + 1) cs 3 x d ns ks nm _ (fun g hg => Nat.lt_of_lt_of_le (HFB.out g hg) (B3.out.drew).size) (HT1.out.later (B3.out.drew)) HLEN.out (size_names HLEN.out HSZ.out) _ kc _ (HK1.out.later (B3.out.drew))).mono ?_
          rintro e w5 ⟨⟨m5, vs, rfl, hv⟩, b5⟩
          have B5 := Lib.hid ((B3.out.drew).trans (b5.mono (B3.out.drew).size))
          have HV := Lib.hid hv
          have HIV := Lib.hid (infoL (isT_five hv.self))
          have HOV := Lib.hid (isT_one hv.self)
          have HZV : Hid (zT.toArray.size = vs.toArray.size) := Lib.hid (by simp [zT, isT_five hv.self])
          clear b5 hv
          go_wp2_with fail
          refine hK.out _ _ (KP.out _ B5.out) (fun hHw1 => ?_)
          clear hK K hHeld
          try simp only [Act.put, List.setIfInBounds_toArray, List.set_cons_zero, List.set_cons_succ]
          refine wpAnyH_ready (rs := [6]) (by kernel_rfl) (by simp) ?_
          refine AllReadyH.cons (o := { dst := none, op := Op.store 26 (Operand.tmp 8) (Operand.tmp 80), type := 0, pos := "ref.go:68", after := #[{ on := 5, ground := Ground.data }, { on := 5, ground := Ground.chain }, { on := 0, ground := Ground.phase }, { on := 1, ground := Ground.phase }, { on := 2, ground := Ground.phase }, { on := 3, ground := Ground.phase }, { on := 4, ground := Ground.phase }, { on := 5, ground := Ground.phase }], guard := none }) rfl (fun K hK => ?_) AllReadyH.nil
          rw [if_pos (by rfl)]
          refine wp_store_row 26 (.tmp 8) (.tmp 80) rfl (w.heap.size + 1 + 1) vs.toArray rfl rfl 26 zT.toArray ((B5.out.block _ (by have := S1.out; omega)).trans VRw1.out) HIV.out HZV.out HOV.out ?_
          refine hK.out _ _ (⟨has_setRow_other (KP.out _ B5.out).1 (by omega) _, has_setRow_other (KP.out _ B5.out).2.1 (by omega) _, cell_setRow _ (KP.out _ B5.out).2.2 (by have := HBL.out; omega)⟩) (fun hHw2 => ?_)
          clear hK K hHw1
          try simp only [Act.put]
          refine wpAnyH_take (i := 7) (oi := { dst := some 9, op := Op.assign (Operand.const (Value.int IntKind.i64 0)), type := 3, pos := "ref.go:68", after := #[{ on := 6, ground := Ground.chain }, { on := 0, ground := Ground.phase }, { on := 1, ground := Ground.phase }, { on := 2, ground := Ground.phase }, { on := 3, ground := Ground.phase }, { on := 4, ground := Ground.phase }, { on := 5, ground := Ground.phase }, { on := 6, ground := Ground.phase }], guard := none }) (v := .int .i64 0) rfl (by kernel_rfl) (by kernel_rfl) (by kernel_rfl) (fun _ _ _ h => h)
            (Or.inl ⟨by rfl, by intro w hSw;  clear hSw; go_simp⟩) hHw2 ?_
          try simp only [Act.put, List.setIfInBounds_toArray, List.set_cons_zero, List.set_cons_succ]
          refine wpAnyH_done (by kernel_rfl) ?_ _
          clear hHw2
          have BW5 := Lib.hid (B1.out.trans (B5.out.mono B1.out.size))
          have VR5 : Hid (w5.heap[w.heap.size + 1 + 1]? = some (.cells zT.toArray 26 (0, 0))) := Lib.hid ((B5.out.block _ (by have := S1.out; omega)).trans VRw1.out)
          go_wp2_with fail
          refine bodyPost_ret (at_ret (fn := Tryd.f32) (p := 8) (u := 9) (ty := 26) Tryd.results32 _ _ (w.heap.size + 1 + 1) 26 vs.toArray (0, 0) _ rfl (setRow_heap _ _ _ _ _ _ VR5.out) Tryd.underlying26 rfl HIV.out) rfl ?_
          refine ⟨m5, vs, _, by rw [HCR.out]; rfl, (HV.out.go ((Fr.refl _ _).setRow (.inl (List.mem_cons_self ..)) _)).more (fun g hg _ => List.mem_cons_of_mem _ hg), fun _ => by rw [HCR.out], below_setRow BW5.out (by omega) _⟩
        | drop =>
          have hz : hw = 2 := by rw [HHW.out]; rfl
          subst hz
          have HCR : Hid (RR.1 = 6) := Lib.hid (by rw [HRR.out]; exact chgR_drop_miss nm x d ns ks HTK.out)
          go_wp2_with (first
            | (refine wpList_load_row rfl 26 _ rfl w.heap.size rfl 26 cs.toArray (0, 0) _ VTw3.out Tryd.underlying26 rfl HIC.out ?_)
            | (refine wpList_store_row rfl 26 _ _ rfl (w.heap.size + 1 + 1) cs.toArray rfl rfl 26 zT.toArray VRw3.out HIC.out HZC.out HOC.out ?_))
          refine bodyPost_ret (at_ret (fn := Tryd.f32) (p := 8) (u := 9) (ty := 26) Tryd.results32 _ _ (w.heap.size + 1 + 1) 26 cs.toArray (0, 0) _ rfl (setRow_heap _ _ _ _ _ _ VRw3.out) Tryd.underlying26 rfl HIC.out) rfl ?_
          exact ⟨n + 1, cs, _, by rw [HCR.out]; rfl, HT.out.go ((Fr.of_below BWw3.out).setRow (.inr (by omega)) _), fun h0 => absurd h0 (by rw [HCR.out]; first | decide | exact HC0.out), below_setRow BWw3.out (by omega) _⟩
      · have hk1 : (1 : Int) < (kn : Int) := by
          have := HNL.out
          have := List.length_pos_iff.2 hl2
          omega
        have HCR : Hid (RR.1 = 6) := Lib.hid (by rw [HRR.out]; exact chgR_miss e nm l2 hl2 x d ns ks HTK.out)
        clear hl2
        go_wp2_with (first
          | (refine wpList_load_row rfl 26 _ rfl w.heap.size rfl 26 cs.toArray (0, 0) _ VTw3.out Tryd.underlying26 rfl HIC.out ?_)
          | (refine wpList_store_row rfl 26 _ _ rfl (w.heap.size + 1 + 1) cs.toArray rfl rfl 26 zT.toArray VRw3.out HIC.out HZC.out HOC.out ?_))
        refine bodyPost_ret (at_ret (fn := Tryd.f32) (p := 8) (u := 9) (ty := 26) Tryd.results32 _ _ (w.heap.size + 1 + 1) 26 cs.toArray (0, 0) _ rfl (setRow_heap _ _ _ _ _ _ VRw3.out) Tryd.underlying26 rfl HIC.out) rfl ?_
        exact ⟨n + 1, cs, _, by rw [HCR.out]; rfl, HT.out.go ((Fr.of_below BWw3.out).setRow (.inr (by omega)) _), fun h0 => absurd h0 (by rw [HCR.out]; first | decide | exact HC0.out), below_setRow BWw3.out (by omega) _⟩

end Go.Proofs.YtbempgdndmchlaaDoor

namespace Go.Proofs.YtbempgdndmchlaaDoor
open Go.RowKit
set_option linter.unusedVariables false

theorem und_ext {a b : ByteArray} : (a.data.toList.take b.data.toList.length = b.data.toList) = ((a.extract 0 b.size).toList = b.toList) := by
  have e : (a.extract 0 b.size).data.toList = a.data.toList.take b.size := by
    rw [ByteArray.data_extract, Array.toList_extract]
    simp
  have e2 : b.data.toList.length = b.size := Array.length_toList
  rw [ByteArray.toList_eq, ByteArray.toList_eq, e, e2]
theorem und_short {a b : ByteArray} (h : ¬ b.size < a.size) : undS a.data.toList b.data.toList = false := by
  unfold undS
  rw [decide_eq_false_iff_not]
  rintro ⟨h1, _⟩
  simp only [Array.length_toList] at h1
  exact h h1
theorem und_no {a b : ByteArray} (h : ¬ a.data.toList.take b.data.toList.length = b.data.toList) : undS a.data.toList b.data.toList = false := by
  unfold undS
  rw [decide_eq_false_iff_not]
  rintro ⟨_, h1, _⟩
  exact h h1
theorem und_take {a b : ByteArray} (hlt : b.size < a.size) (h : (a.extract 0 b.size).toList = b.toList) : undS a.data.toList b.data.toList = ((a[b.size].toNat : Int) == 47) := by
  have h2 : a.data.toList.take b.data.toList.length = b.data.toList := by rw [und_ext]; exact h
  have h3 : b.data.toList.length < a.data.toList.length := by simpa using hlt
  have h4 : a.data.toList.getD b.data.toList.length 0 = a[b.size] := by
    rw [List.getD_eq_getElem?_getD, List.getElem?_eq_getElem h3]
    rfl
  unfold undS
  rw [h4]
  by_cases h5 : a[b.size] = 47
  · rw [h5, decide_eq_true ⟨h3, h2, rfl⟩]
    rfl
  · rw [decide_eq_false (fun hh => h5 hh.2.2)]
    symm
    rw [beq_eq_false_iff_ne]
    intro he
    have : a[b.size].toNat = 47 := by omega
    exact h5 (UInt8.toNat_inj.1 this)

set_option maxRecDepth 100000 in
set_option maxHeartbeats 4000000 in
theorem rund_any (a b : ByteArray) (w : World) : Calls Tryd.prog 33 #[.string a, .string b] w fun e w' => e = .returned (.bool (undS a.data.toList b.data.toList)) ∧ w = w' := by
  obtain ⟨R, hR⟩ : ∃ R, R = undS a.data.toList b.data.toList := ⟨_, rfl⟩
  rw [← hR]
  have HR := Lib.hid hR
  clear hR
  go_enter Tryd.func33, Tryd.ntmps33
  by_cases hlt : b.size < a.size
  · have h1 : (b.size : Int) < (a.size : Int) := by omega
    go_wp2_with fail
    · rename_i he
      go_ret
      refine ⟨?_, rfl⟩
      rw [HR.out, und_take hlt he]
      rfl
    · rename_i he
      go_ret
      refine ⟨?_, rfl⟩
      rw [HR.out, und_no (fun h => he (by rw [← und_ext]; exact h))]
      rfl
  · have h1 : ¬ (b.size : Int) < (a.size : Int) := by omega
    go_wp2_with fail
    go_ret
    refine ⟨?_, rfl⟩
    rw [HR.out, und_short hlt]
    rfl
end Go.Proofs.YtbempgdndmchlaaDoor
