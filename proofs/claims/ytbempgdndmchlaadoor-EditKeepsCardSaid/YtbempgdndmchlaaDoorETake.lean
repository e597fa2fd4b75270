/-
  What stood at a spot that was taken: the program's take. Conditions: the directory's rows are its own.
-/
import Derived.Test.YtbempgdndmchlaaDoorEHead
import Derived.Test.YtbempgdndmchlaaDoorEDel
import Derived.Test.YtbempgdndmchlaaDoorESDel
import Derived.Test.YtbempgdndmchlaaDoorECount
import Derived.Deep.RegionHeld3
import Derived.Deep.AppendLies
namespace Go.Proofs.YtbempgdndmchlaaDoor
open Go.RowKit
set_option linter.unusedVariables false

/-- Behind take. -/
def TakeP (w : World) (B p db o : Nat) (X L : List Value) (ty : TypeId) (vn vk c0 c1 c2 c3 c4 : Value) (ns : List ByteArray) (i a b x y : Nat) (e : Ending) (w' : World) : Prop :=
  ∃ un uk, e = .returned (.agg (five L i).toArray) ∧
    (p = db → Has w' p (wkC c0 c1 c2 un uk ((a : Int) + -(x : Int)) ((b : Int) + -(y : Int))) 52) ∧
    (p ≠ db → Has w' db ((X.set (o + 3) un).set (o + 4) uk) ty ∧ Has w' p (wkC c0 c1 c2 c3 c4 ((a : Int) + -(x : Int)) ((b : Int) + -(y : Int))) 52) ∧
    w'.ownsRow B tS 1 un (ns.length - 1) ((ns.take i ++ ns.drop (i + 1)).map Value.string) ∧ w'.ownsRow B tT 5 uk (ns.length - 1) (L.take (i * 5) ++ L.drop ((i + 1) * 5)) ∧
    Fr (p :: db :: (blk vn ++ blk vk)) w w' ∧ un.ownBlock = vn.ownBlock ∧ uk.ownBlock = vk.ownBlock

theorem take_nums (n i : Nat) (hn : n ≤ 100000) (hi : i < n) : IntKind.i64.wrap ((i : Int) + 1) = (i : Int) + 1 := by rw [IntKind.wrap_i64]; omega
/-- The cells of no tree. -/
def zK : List Value := [.int .u8 0, .bool false, .slice none 0 0, .slice none 0 0, .slice none 0 0]

set_option maxRecDepth 100000 in
set_option maxHeartbeats 20000000 in
theorem take_w {w : World} {B p db o i dep a b x y : Nat} {tk : Bool} {nm : ByteArray} {X L : List Value} {ty : TypeId} {vn vk c0 c1 c2 c3 c4 : Value} {ns : List ByteArray} {tt : T} {lv : Nat}
    (hX : Has w db X ty) (hx3 : X[o + 3]? = some vn) (hx4 : X[o + 4]? = some vk) (hn : w.ownsRow B tS 1 vn ns.length (ns.map Value.string)) (hk : w.ownsRow B tT 5 vk ns.length L)
    (hi : i < ns.length) (hl : ns.length ≤ 100000) (hnd : vn.ownBlock ≠ some db) (hkd : vk.ownBlock ≠ some db) (h1L : ∀ u ∈ L, u.oneCell' = true)
    (hpp : (p = db ∧ ty = 52 ∧ o = 0 ∧ X = wkC c0 c1 c2 vn vk (a : Int) (b : Int)) ∨ (p ≠ db ∧ Has w p (wkC c0 c1 c2 c3 c4 (a : Int) (b : Int)) 52))
    (hT : ∀ W, Fr (p :: db :: (blk vn ++ blk vk)) w W → IsT W lv (five L i) tt) (hz : sizeT tt = some (x, y)) (ha : a ≤ 1000000) (hb : b ≤ 1000000) :
    Calls Tryd.prog 45 #[.pointer (some ⟨p, 0, none⟩), .agg (spC db o nm i dep tk).toArray] w (TakeP w B p db o X L ty vn vk c0 c1 c2 c3 c4 ns i a b x y) := by
  have HXX := Lib.hid hX
  have HX3 := Lib.hid hx3
  have HX4 := Lib.hid hx4
  have HN := Lib.hid hn
  have HK := Lib.hid hk
  have HI := Lib.hid hi
  have HL := Lib.hid hl
  have HND := Lib.hid hnd
  have HKD := Lib.hid hkd
  have H1L := Lib.hid h1L
  have HPP := Lib.hid hpp
  have HTT := Lib.hid hT
  have HZZ := Lib.hid hz
  have HBA : Hid (-1000000 ≤ (a : Int) ∧ (a : Int) ≤ 1000000) := Lib.hid ⟨by omega, by omega⟩
  have HBB : Hid (-1000000 ≤ (b : Int) ∧ (b : Int) ≤ 1000000) := Lib.hid ⟨by omega, by omega⟩
  obtain ⟨na, nl, nc, hvn⟩ := slice_owned hn
  have hnn : nl = ns.length := by
    rcases hn.2 with ⟨h1, h2⟩ | ⟨g, cap, cur, h1, _⟩
    · rw [hvn] at h1; cases h1; omega
    · rw [hvn] at h1; cases h1; rfl
  obtain ⟨kb, cap, cur, hvk, hkg, hle, hmx, hcs, hLc⟩ : ∃ kb cap cur, vk = .slice (some ⟨kb, 0, none⟩) ns.length cap ∧ w.heap[kb]? = some (.cells cur tT (0, 0)) ∧ ns.length ≤ cap ∧ cap ≤ maxLen ∧ cur.size = cap * 5 ∧ cur.toList.take (ns.length * 5) = L := by
    rcases hk.2 with ⟨h1, h2⟩ | ⟨g, cap, cur, h1, h2, h3, h4, h5, h6, h7⟩
    · omega
    · exact ⟨g, cap, cur, h1, h3, h4, h5, h6, h7⟩
  obtain ⟨ct, hct⟩ : ∃ ct, ct = five L i := ⟨_, rfl⟩
  have hct5 : ct.length = 5 := by
    rw [hct]; unfold five
    rw [List.length_take, List.length_drop, hk.1]; omega
  have HCE := Lib.hid hct
  have H1C : Hid (ct.toArray.all (·.oneCell') = true) := Lib.hid (by
    rw [Array.all_eq_true_iff_forall_mem]
    intro u hu
    have hu' : u ∈ five L i := by rw [← hct]; simpa using hu
    exact h1L u (List.mem_of_mem_drop (List.mem_of_mem_take hu')))
  have HKG : Hid (Has w kb cur.toList tT) := Lib.hid (show w.heap[kb]? = some (.cells cur.toList.toArray tT (0, 0)) by simpa using hkg)
  have HRG : Hid (∀ W, Has W kb cur.toList tT → W.rangeAt kb (i * 5) ct) := Lib.hid (fun W hW => by rw [hct]; exact range_five hW hLc hi)
  have HI5 : Hid ((Tryd.prog.info? 26).map (·.size) = some ct.length) := Lib.hid (by rw [info5, hct5])
  have HIA : Hid ((Tryd.prog.info? 26).map (·.size) = some ct.toArray.size) := Lib.hid (by rw [info5]; simp [hct5])
  have HC5 := Lib.hid hct5
  have hdl : Hid (db < w.heap.size) := Lib.hid hX.lt
  have HVK := Lib.hid hvk
  have HWI := Lib.hid (take_nums ns.length i hl hi)
  have hnl : nl = ns.length := hnn
  have HVN : Hid (vn = .slice na ns.length nc) := Lib.hid (by rw [hvn, hnl])
  have hin : (i : Int) < (ns.length : Int) := by omega
  clear hX hx3 hx4 hn hk hl hnd hkd h1L hpp hT hz ha hb hct hct5 hkg hle hmx hcs hLc hvk hvn hnn hnl hi
  go_enter Tryd.func45, Tryd.ntmps45
  go_upto_region 1 with fail
  obtain ⟨w1, hw1⟩ : ∃ w1, w1 = (w.alloc (.cells (spC db o nm i dep tk).toArray 82)).alloc (.cells #[.int .u8 0, .bool false, .slice none 0 0, .slice none 0 0, .slice none 0 0] 26) := ⟨_, rfl⟩
  have F1 : Hid (Fr [db] w w1) := Lib.hid (by rw [hw1]; exact ((Fr.refl _ _).alloc _).alloc _)
  have g1 : Has w1 w.heap.size (spC db o nm i dep tk) 82 := by rw [hw1]; exact (Has.new w _ _).alloc _
  have t1 : Has w1 (w.heap.size + 1) zK 26 := by
    have e : (w.alloc (.cells (spC db o nm i dep tk).toArray 82)).heap.size = w.heap.size + 1 := by simp
    rw [hw1, ← e]
    exact Has.new _ zK _
  have S1 : Hid (w1.heap.size = w.heap.size + 1 + 1) := Lib.hid (by rw [hw1]; simp)
  first | rw [← hw1] | skip
  have G1 := Lib.hid g1
  have R1 := Lib.hid t1
  have X1 : Hid (Has w1 db X ty) := Lib.hid (by rw [hw1]; exact (HXX.out.alloc _).alloc _)
  have Q1 : Hid (Has w1 kb cur.toList tT) := Lib.hid (by rw [hw1]; exact (HKG.out.alloc _).alloc _)
  have N1 : Hid (w1.ownsRow B tS 1 vn ns.length (ns.map Value.string)) := Lib.hid (by rw [hw1]; exact owns_alloc (owns_alloc HN.out _) _)
  have K1 : Hid (w1.ownsRow B tT 5 vk ns.length L) := Lib.hid (by rw [hw1]; exact owns_alloc (owns_alloc HK.out _) _)
  clear hw1 g1 t1
  refine wp_region_held_drew (S := fun W => Has W w.heap.size (spC db o nm i dep tk) 82 ∧ Has W db X ty ∧ Has W kb cur.toList tT) (by kernel_rfl) ⟨G1.out.drew, X1.out.drew, Q1.out.drew⟩ (fun hHeld => ?_)
  refine wpAnyH_take (i := 0) (oi := { dst := some 6, op := Op.fieldAddr 82 (Operand.tmp 3) 0, type := 0, pos := "work.go:115", after := #[], guard := none }) (v := .pointer (some ⟨w.heap.size, 0, none⟩)) rfl (by kernel_rfl) (by kernel_rfl) (by kernel_rfl) (fun _ _ _ h => h)
    (Or.inl ⟨by rfl, by intro w hSw;  clear hSw; go_simp⟩) hHeld ?_
  try simp only [Act.put, List.setIfInBounds_toArray, List.set_cons_zero, List.set_cons_succ]
  refine wpAnyH_take (i := 1) (oi := { dst := some 7, op := Op.load 80 (Operand.tmp 6), type := 80, pos := "work.go:115", after := #[{ on := 0, ground := Ground.data }], guard := none }) (v := .pointer (some ⟨db, o, none⟩)) rfl (by kernel_rfl) (by kernel_rfl) (by kernel_rfl) (fun _ _ _ h => h)
    (Or.inl ⟨by rfl, by intro w hSw; have hq := Has.cellAt hSw.1 (i := 0) rfl; clear hSw; go_simp⟩) hHeld ?_
  try simp only [Act.put, List.setIfInBounds_toArray, List.set_cons_zero, List.set_cons_succ]
  refine wpAnyH_take (i := 2) (oi := { dst := some 8, op := Op.nilCheck (Operand.tmp 7), type := 0, pos := "work.go:115", after := #[{ on := 1, ground := Ground.data }], guard := none }) (v := .pointer (some ⟨db, o, none⟩)) rfl (by kernel_rfl) (by kernel_rfl) (by kernel_rfl) (fun _ _ _ h => h)
    (Or.inl ⟨by rfl, by intro w hSw;  clear hSw; go_simp⟩) hHeld ?_
  try simp only [Act.put, List.setIfInBounds_toArray, List.set_cons_zero, List.set_cons_succ]
  refine wpAnyH_take (i := 3) (oi := { dst := some 9, op := Op.fieldAddr 26 (Operand.tmp 8) 4, type := 0, pos := "work.go:115", after := #[{ on := 2, ground := Ground.data }], guard := none }) (v := .pointer (some ⟨db, o + 4, none⟩)) rfl (by kernel_rfl) (by kernel_rfl) (by kernel_rfl) (fun _ _ _ h => h)
    (Or.inl ⟨by rfl, by intro w hSw;  clear hSw; go_simp⟩) hHeld ?_
  try simp only [Act.put, List.setIfInBounds_toArray, List.set_cons_zero, List.set_cons_succ]
  refine wpAnyH_take (i := 4) (oi := { dst := some 10, op := Op.load 24 (Operand.tmp 9), type := 24, pos := "work.go:115", after := #[{ on := 3, ground := Ground.data }], guard := none }) (v := vk) rfl (by kernel_rfl) (by kernel_rfl) (by kernel_rfl) (fun _ _ _ h => h)
    (Or.inl ⟨by rfl, by intro w hSw; have hq := Has.cellAt hSw.2.1 HX4.out; clear hSw; go_simp⟩) hHeld ?_
  try simp only [Act.put, List.setIfInBounds_toArray, List.set_cons_zero, List.set_cons_succ]
  refine wpAnyH_take (i := 5) (oi := { dst := some 11, op := Op.fieldAddr 82 (Operand.tmp 3) 2, type := 0, pos := "work.go:115", after := #[], guard := none }) (v := .pointer (some ⟨w.heap.size, 2, none⟩)) rfl (by kernel_rfl) (by kernel_rfl) (by kernel_rfl) (fun _ _ _ h => h)
    (Or.inl ⟨by rfl, by intro w hSw;  clear hSw; go_simp⟩) hHeld ?_
  try simp only [Act.put, List.setIfInBounds_toArray, List.set_cons_zero, List.set_cons_succ]
  refine wpAnyH_take (i := 6) (oi := { dst := some 12, op := Op.load 3 (Operand.tmp 11), type := 3, pos := "work.go:115", after := #[{ on := 5, ground := Ground.data }], guard := none }) (v := .int .i64 (i : Int)) rfl (by kernel_rfl) (by kernel_rfl) (by kernel_rfl) (fun _ _ _ h => h)
    (Or.inl ⟨by rfl, by intro w hSw; have hq := Has.cellAt hSw.1 (i := 2) rfl; clear hSw; go_simp⟩) hHeld ?_
  try simp only [Act.put, List.setIfInBounds_toArray, List.set_cons_zero, List.set_cons_succ]
  refine wpAnyH_take (i := 7) (oi := { dst := some 13, op := Op.indexAddr 24 (Operand.tmp 10) (Operand.tmp 12), type := 0, pos := "work.go:115", after := #[{ on := 4, ground := Ground.data }, { on := 6, ground := Ground.data }], guard := none }) (v := .pointer (some ⟨kb, i * 5, none⟩)) rfl (by kernel_rfl) (by kernel_rfl) (by kernel_rfl) (fun _ _ _ h => h)
    (Or.inl ⟨by rfl, by intro w hSw; have hq := HVK.out; clear hSw; go_simp⟩) hHeld ?_
  try simp only [Act.put, List.setIfInBounds_toArray, List.set_cons_zero, List.set_cons_succ]
  refine wpAnyH_take (i := 8) (oi := { dst := some 14, op := Op.load 26 (Operand.tmp 13), type := 26, pos := "work.go:115", after := #[{ on := 7, ground := Ground.data }], guard := none }) rfl (by kernel_rfl) (by kernel_rfl) (by kernel_rfl) (fun _ _ _ h => h)
    (yieldsIf_load_mid (by rfl) 26 (.tmp 13) rfl kb (i * 5) rfl ct _ (fun _ h => HRG.out _ h.2.2) Tryd.underlying26 rfl HI5.out) hHeld ?_
  try simp only [Act.put, List.setIfInBounds_toArray, List.set_cons_zero, List.set_cons_succ]
  refine wpAnyH_ready (rs := [9]) (by kernel_rfl) (by simp) ?_
  refine AllReadyH.cons (o := { dst := some 5, op := Op.alloc 26, type := 0, pos := "work.go:115", after := #[], guard := none }) rfl (fun K hK => ?_) AllReadyH.nil
  go_simp
  obtain ⟨w2, hw2⟩ : ∃ w2, w2 = (w1.alloc (.cells #[.int .u8 0, .bool false, .slice none 0 0, .slice none 0 0, .slice none 0 0] 26)).drew := ⟨_, rfl⟩
  have X2 : Hid (Has w2 db X ty) := Lib.hid (by rw [hw2]; exact (X1.out.alloc _).drew)
  have Q2 : Hid (Has w2 kb cur.toList tT) := Lib.hid (by rw [hw2]; exact (Q1.out.alloc _).drew)
  have G2 : Hid (Has w2 w.heap.size (spC db o nm i dep tk) 82) := Lib.hid (by rw [hw2]; exact (G1.out.alloc _).drew)
  have R2 : Hid (Has w2 (w.heap.size + 1) zK 26) := Lib.hid (by rw [hw2]; exact (R1.out.alloc _).drew)
  have N2 : Hid (w2.ownsRow B tS 1 vn ns.length (ns.map Value.string)) := Lib.hid (by rw [hw2]; exact owns_drew (owns_alloc N1.out _))
  have K2 : Hid (w2.ownsRow B tT 5 vk ns.length L) := Lib.hid (by rw [hw2]; exact owns_drew (owns_alloc K1.out _))
  have V2 : Hid (Has w2 w1.heap.size zK 26) := Lib.hid (by rw [hw2]; exact (Has.new w1 zK _).drew)
  have F2 : Hid (Fr [db] w w2) := Lib.hid (by rw [hw2]; exact (F1.out.alloc _).drew)
  have S2 : Hid (w2.heap.size = w.heap.size + 1 + 1 + 1) := Lib.hid (by rw [hw2]; simp [S1.out])
  first | rw [← hw2] | skip
  clear hw2
  refine hK.out _ _ ⟨G2.out, X2.out, Q2.out⟩ (fun hHw1 => ?_)
  clear hK K hHeld
  try simp only [Act.put, List.setIfInBounds_toArray, List.set_cons_zero, List.set_cons_succ]
  refine wpAnyH_ready (rs := [10]) (by kernel_rfl) (by simp) ?_
  refine AllReadyH.cons (o := { dst := none, op := Op.store 26 (Operand.tmp 5) (Operand.tmp 14), type := 0, pos := "work.go:115", after := #[{ on := 9, ground := Ground.data }, { on := 8, ground := Ground.data }, { on := 0, ground := Ground.phase }, { on := 1, ground := Ground.phase }, { on := 2, ground := Ground.phase }, { on := 3, ground := Ground.phase }, { on := 4, ground := Ground.phase }, { on := 5, ground := Ground.phase }, { on := 6, ground := Ground.phase }, { on := 7, ground := Ground.phase }, { on := 8, ground := Ground.phase }, { on := 9, ground := Ground.phase }], guard := none }) rfl (fun K hK => ?_) AllReadyH.nil
  rw [if_pos (by rfl)]
  refine wp_store_row 26 (.tmp 5) (.tmp 14) rfl w1.heap.size ct.toArray rfl rfl 26 zK.toArray V2.out HIA.out (by simp [zK, HC5.out]) H1C.out ?_
  obtain ⟨w3, hw3⟩ : ∃ w3, w3 = w2.setRow w1.heap.size ct.toArray := ⟨_, rfl⟩
  have X3 : Hid (Has w3 db X ty) := Lib.hid (by rw [hw3]; exact has_setRow_other X2.out (by have := S1.out; have := hdl.out; omega) _)
  have Q3 : Hid (Has w3 kb cur.toList tT) := Lib.hid (by rw [hw3]; exact has_setRow_other Q2.out (by have := S1.out; have := HKG.out.lt; omega) _)
  have G3 : Hid (Has w3 w.heap.size (spC db o nm i dep tk) 82) := Lib.hid (by rw [hw3]; exact has_setRow_other G2.out (by have := S1.out; omega) _)
  have R3 : Hid (Has w3 (w.heap.size + 1) zK 26) := Lib.hid (by rw [hw3]; exact has_setRow_other R2.out (by have := S1.out; omega) _)
  have V3 : Hid (Has w3 w1.heap.size ct 26) := Lib.hid (by rw [hw3]; exact has_setRow V2.out)
  have NB1 : Hid (∀ g, g < w.heap.size → g ≠ w1.heap.size) := Lib.hid (fun g hg => by have := S1.out; omega)
  have N3 : Hid (w3.ownsRow B tS 1 vn ns.length (ns.map Value.string)) := Lib.hid (by rw [hw3]; exact owns_fr N2.out ((Fr.refl [w1.heap.size] w2).setRow (.inl (by simp)) _) (fun g hg hm => NB1.out g (blk_lt HN.out (mem_blk.1 hg)) (by simpa using hm)))
  have K3 : Hid (w3.ownsRow B tT 5 vk ns.length L) := Lib.hid (by rw [hw3]; exact owns_fr K2.out ((Fr.refl [w1.heap.size] w2).setRow (.inl (by simp)) _) (fun g hg hm => NB1.out g (blk_lt HK.out (mem_blk.1 hg)) (by simpa using hm)))
  have F3 : Hid (Fr [db] w w3) := Lib.hid (by rw [hw3]; exact F2.out.setRow (.inr (by have := S1.out; omega)) _)
  have S3 : Hid (w3.heap.size = w.heap.size + 1 + 1 + 1) := Lib.hid (by rw [hw3]; simpa [World.setRow] using S2.out)
  first | rw [← hw3] | skip
  clear hw3 X2 Q2 G2 R2 N2 K2 V2 F2 S2 X1 Q1 G1 R1 N1 K1 F1
  refine hK.out _ _ ⟨G3.out, X3.out, Q3.out⟩ (fun hHw2 => ?_)
  clear hK K hHw1
  try simp only [Act.put]
  refine wpAnyH_done (by kernel_rfl) ?_ _
  clear hHw2
  go_upto_region 2 with fail
  refine wp_region_held_drew (S := fun W => Has W w.heap.size (spC db o nm i dep tk) 82) (by kernel_rfl) G3.out.drew (fun hHeld2 => ?_)
  refine wpAnyH_take (i := 0) (oi := { dst := some 15, op := Op.fieldAddr 82 (Operand.tmp 3) 0, type := 0, pos := "work.go:116", after := #[], guard := none }) (v := .pointer (some ⟨w.heap.size, 0, none⟩)) rfl (by kernel_rfl) (by kernel_rfl) (by kernel_rfl) (fun _ _ _ h => h)
    (Or.inl ⟨by rfl, by intro w hSw;  clear hSw; go_simp⟩) hHeld2 ?_
  try simp only [Act.put, List.setIfInBounds_toArray, List.set_cons_zero, List.set_cons_succ]
  refine wpAnyH_take (i := 1) (oi := { dst := some 16, op := Op.load 80 (Operand.tmp 15), type := 80, pos := "work.go:116", after := #[{ on := 0, ground := Ground.data }], guard := none }) (v := .pointer (some ⟨db, o, none⟩)) rfl (by kernel_rfl) (by kernel_rfl) (by kernel_rfl) (fun _ _ _ h => h)
    (Or.inl ⟨by rfl, by intro w hSw; have hq := Has.cellAt hSw (i := 0) rfl; clear hSw; go_simp⟩) hHeld2 ?_
  try simp only [Act.put, List.setIfInBounds_toArray, List.set_cons_zero, List.set_cons_succ]
  refine wpAnyH_take (i := 2) (oi := { dst := some 17, op := Op.fieldAddr 82 (Operand.tmp 3) 0, type := 0, pos := "work.go:116", after := #[], guard := none }) (v := .pointer (some ⟨w.heap.size, 0, none⟩)) rfl (by kernel_rfl) (by kernel_rfl) (by kernel_rfl) (fun _ _ _ h => h)
    (Or.inl ⟨by rfl, by intro w hSw;  clear hSw; go_simp⟩) hHeld2 ?_
  try simp only [Act.put, List.setIfInBounds_toArray, List.set_cons_zero, List.set_cons_succ]
  refine wpAnyH_take (i := 3) (oi := { dst := some 18, op := Op.load 80 (Operand.tmp 17), type := 80, pos := "work.go:116", after := #[{ on := 2, ground := Ground.data }], guard := none }) (v := .pointer (some ⟨db, o, none⟩)) rfl (by kernel_rfl) (by kernel_rfl) (by kernel_rfl) (fun _ _ _ h => h)
    (Or.inl ⟨by rfl, by intro w hSw; have hq := Has.cellAt hSw (i := 0) rfl; clear hSw; go_simp⟩) hHeld2 ?_
  try simp only [Act.put, List.setIfInBounds_toArray, List.set_cons_zero, List.set_cons_succ]
  refine wpAnyH_take (i := 4) (oi := { dst := some 19, op := Op.nilCheck (Operand.tmp 18), type := 0, pos := "work.go:116", after := #[{ on := 3, ground := Ground.data }], guard := none }) (v := .pointer (some ⟨db, o, none⟩)) rfl (by kernel_rfl) (by kernel_rfl) (by kernel_rfl) (fun _ _ _ h => h)
    (Or.inl ⟨by rfl, by intro w hSw;  clear hSw; go_simp⟩) hHeld2 ?_
  try simp only [Act.put, List.setIfInBounds_toArray, List.set_cons_zero, List.set_cons_succ]
  refine wpAnyH_take (i := 5) (oi := { dst := some 20, op := Op.fieldAddr 26 (Operand.tmp 19) 3, type := 0, pos := "work.go:116", after := #[{ on := 4, ground := Ground.data }], guard := none }) (v := .pointer (some ⟨db, o + 3, none⟩)) rfl (by kernel_rfl) (by kernel_rfl) (by kernel_rfl) (fun _ _ _ h => h)
    (Or.inl ⟨by rfl, by intro w hSw;  clear hSw; go_simp⟩) hHeld2 ?_
  try simp only [Act.put, List.setIfInBounds_toArray, List.set_cons_zero, List.set_cons_succ]
  refine wpAnyH_take (i := 7) (oi := { dst := some 22, op := Op.fieldAddr 82 (Operand.tmp 3) 2, type := 0, pos := "work.go:116", after := #[], guard := none }) (v := .pointer (some ⟨w.heap.size, 2, none⟩)) rfl (by kernel_rfl) (by kernel_rfl) (by kernel_rfl) (fun _ _ _ h => h)
    (Or.inl ⟨by rfl, by intro w hSw;  clear hSw; go_simp⟩) hHeld2 ?_
  try simp only [Act.put, List.setIfInBounds_toArray, List.set_cons_zero, List.set_cons_succ]
  refine wpAnyH_take (i := 8) (oi := { dst := some 23, op := Op.load 3 (Operand.tmp 22), type := 3, pos := "work.go:116", after := #[{ on := 7, ground := Ground.data }], guard := none }) (v := .int .i64 (i : Int)) rfl (by kernel_rfl) (by kernel_rfl) (by kernel_rfl) (fun _ _ _ h => h)
    (Or.inl ⟨by rfl, by intro w hSw; have hq := Has.cellAt hSw (i := 2) rfl; clear hSw; go_simp⟩) hHeld2 ?_
  try simp only [Act.put, List.setIfInBounds_toArray, List.set_cons_zero, List.set_cons_succ]
  refine wpAnyH_take (i := 9) (oi := { dst := some 24, op := Op.fieldAddr 82 (Operand.tmp 3) 2, type := 0, pos := "work.go:116", after := #[], guard := none }) (v := .pointer (some ⟨w.heap.size, 2, none⟩)) rfl (by kernel_rfl) (by kernel_rfl) (by kernel_rfl) (fun _ _ _ h => h)
    (Or.inl ⟨by rfl, by intro w hSw;  clear hSw; go_simp⟩) hHeld2 ?_
  try simp only [Act.put, List.setIfInBounds_toArray, List.set_cons_zero, List.set_cons_succ]
  refine wpAnyH_take (i := 10) (oi := { dst := some 25, op := Op.load 3 (Operand.tmp 24), type := 3, pos := "work.go:116", after := #[{ on := 9, ground := Ground.data }], guard := none }) (v := .int .i64 (i : Int)) rfl (by kernel_rfl) (by kernel_rfl) (by kernel_rfl) (fun _ _ _ h => h)
    (Or.inl ⟨by rfl, by intro w hSw; have hq := Has.cellAt hSw (i := 2) rfl; clear hSw; go_simp⟩) hHeld2 ?_
  try simp only [Act.put, List.setIfInBounds_toArray, List.set_cons_zero, List.set_cons_succ]
  refine wpAnyH_take (i := 11) (oi := { dst := some 26, op := Op.binOp BinOp.add 3 (Operand.tmp 25) (Operand.const (Value.int IntKind.i64 1)) 3, type := 3, pos := "work.go:116", after := #[{ on := 10, ground := Ground.data }], guard := none }) (v := .int .i64 ((i : Int) + 1)) rfl (by kernel_rfl) (by kernel_rfl) (by kernel_rfl) (fun _ _ _ h => h)
    (Or.inl ⟨by rfl, by intro w hSw;  clear hSw; go_simp <;> exact HWI.out⟩) hHeld2 ?_
  try simp only [Act.put, List.setIfInBounds_toArray, List.set_cons_zero, List.set_cons_succ]
  refine wpAnyH_ready (rs := [6]) (by kernel_rfl) (by simp) ?_
  refine AllReadyH.cons (o := { dst := some 21, op := Op.load 23 (Operand.tmp 20), type := 23, pos := "work.go:116", after := #[{ on := 5, ground := Ground.data }], guard := none }) rfl (fun K hK => ?_) AllReadyH.nil
  have q3 : World.cell? w3.drew ⟨db, o + 3, none⟩ = some vn := Has.cellAt (X3.out.drew) HX3.out
  go_simp
  clear q3
  refine hK.out _ _ (G3.out.drew) (fun hHw1 => ?_)
  clear hK K hHeld2
  try simp only [Act.put, List.setIfInBounds_toArray, List.set_cons_zero, List.set_cons_succ]
  refine wpAnyH_ready (rs := [12]) (by kernel_rfl) (by simp) ?_
  refine AllReadyH.cons (o := { dst := some 27, op := Op.call { callee := Callee.value (Operand.func 59), args := #[Operand.tmp 21, Operand.tmp 23, Operand.tmp 26], argTypes := #[23, 3, 3] }, type := 23, pos := "work.go:116", after := #[{ on := 6, ground := Ground.data }, { on := 8, ground := Ground.data }, { on := 11, ground := Ground.data }], guard := none }) rfl (fun K hK => ?_) AllReadyH.nil
  go_simp
  have hcl := delS_any (w := w3.drew) (owns_drew N3.out) (by have := HL.out; omega) HI.out
  rw [show ((i + 1 : Nat) : Int) = (i : Int) + 1 by omega] at hcl
  refine hcl.mono ?_
  rintro e w4 ⟨VN0, rfl, ho4, hg4, hb4⟩
  obtain ⟨va, vl, vc, rfl⟩ := slice_owned ho4
  have N4 := Lib.hid ho4
  have HUN : Hid ((Value.slice va vl vc).ownBlock = vn.ownBlock) := Lib.hid hb4
  have K4 : Hid (w4.ownsRow B tT 5 vk ns.length L) := Lib.hid (owns_grown3 (owns_drew K3.out) (owns_drew N3.out) (by decide) hg4)
  have GR4 : Hid (Fr (blk vn) w3.drew w4) := Lib.hid (Fr.of_grown hg4 (fun g h => mem_blk.2 h))
  have NB : Hid (∀ g, w.heap.size ≤ g → g ∉ blk vn) := Lib.hid (fun g h2 h3 => by have := blk_lt HN.out (mem_blk.1 h3); omega)
  have X4 : Hid (Has w4 db X ty) := Lib.hid (has_fr X3.out.drew GR4.out (fun h => HND.out (mem_blk.1 h)))
  have G4 : Hid (Has w4 w.heap.size (spC db o nm i dep tk) 82) := Lib.hid (has_fr G3.out.drew GR4.out (NB.out _ (by omega)))
  have R4 : Hid (Has w4 (w.heap.size + 1) zK 26) := Lib.hid (has_fr R3.out.drew GR4.out (NB.out _ (by omega)))
  have V4 : Hid (Has w4 w1.heap.size ct 26) := Lib.hid (has_fr V3.out.drew GR4.out (NB.out _ (by have := S1.out; omega)))
  have F4 : Hid (Fr (db :: blk vn) w w4) := Lib.hid (((F3.out.drew).mono (S' := db :: blk vn) (fun g hg _ => by simp only [List.mem_cons, List.not_mem_nil, or_false] at hg; simp [hg])).trans GR4.out (fun g hg _ => by simp [hg]))
  have S4 : Hid (w.heap.size + 1 + 1 + 1 ≤ w4.heap.size) := Lib.hid (by have h1 := GR4.out.size; have h2 := S3.out; have h3 : w3.drew.heap.size = w3.heap.size := rfl; omega)
  clear ho4 hg4 hb4 hcl
  go_wp2_with fail
  refine hK.out _ _ (G4.out) (fun hHw2 => ?_)
  clear hK K hHw1
  try simp only [Act.put, List.setIfInBounds_toArray, List.set_cons_zero, List.set_cons_succ]
  refine wpAnyH_take (i := 13) (oi := { dst := some 28, op := Op.nilCheck (Operand.tmp 16), type := 0, pos := "work.go:116", after := #[{ on := 1, ground := Ground.data }, { on := 0, ground := Ground.phase }, { on := 1, ground := Ground.phase }, { on := 2, ground := Ground.phase }, { on := 3, ground := Ground.phase }, { on := 4, ground := Ground.phase }, { on := 5, ground := Ground.phase }, { on := 6, ground := Ground.phase }, { on := 7, ground := Ground.phase }, { on := 8, ground := Ground.phase }, { on := 9, ground := Ground.phase }, { on := 10, ground := Ground.phase }, { on := 11, ground := Ground.phase }, { on := 12, ground := Ground.phase }], guard := none }) (v := .pointer (some ⟨db, o, none⟩)) rfl (by kernel_rfl) (by kernel_rfl) (by kernel_rfl) (fun _ _ _ h => h)
    (Or.inl ⟨by rfl, by intro w hSw;  clear hSw; go_simp⟩) hHw2 ?_
  try simp only [Act.put, List.setIfInBounds_toArray, List.set_cons_zero, List.set_cons_succ]
  refine wpAnyH_take (i := 14) (oi := { dst := some 29, op := Op.fieldAddr 26 (Operand.tmp 28) 3, type := 0, pos := "work.go:116", after := #[{ on := 13, ground := Ground.data }, { on := 0, ground := Ground.phase }, { on := 1, ground := Ground.phase }, { on := 2, ground := Ground.phase }, { on := 3, ground := Ground.phase }, { on := 4, ground := Ground.phase }, { on := 5, ground := Ground.phase }, { on := 6, ground := Ground.phase }, { on := 7, ground := Ground.phase }, { on := 8, ground := Ground.phase }, { on := 9, ground := Ground.phase }, { on := 10, ground := Ground.phase }, { on := 11, ground := Ground.phase }, { on := 12, ground := Ground.phase }], guard := none }) (v := .pointer (some ⟨db, o + 3, none⟩)) rfl (by kernel_rfl) (by kernel_rfl) (by kernel_rfl) (fun _ _ _ h => h)
    (Or.inl ⟨by rfl, by intro w hSw;  clear hSw; go_simp⟩) hHw2 ?_
  try simp only [Act.put, List.setIfInBounds_toArray, List.set_cons_zero, List.set_cons_succ]
  refine wpAnyH_ready (rs := [15]) (by kernel_rfl) (by simp) ?_
  refine AllReadyH.cons (o := { dst := none, op := Op.store 23 (Operand.tmp 29) (Operand.tmp 27), type := 0, pos := "work.go:116", after := #[{ on := 14, ground := Ground.data }, { on := 12, ground := Ground.data }, { on := 12, ground := Ground.chain }, { on := 0, ground := Ground.phase }, { on := 1, ground := Ground.phase }, { on := 2, ground := Ground.phase }, { on := 3, ground := Ground.phase }, { on := 4, ground := Ground.phase }, { on := 5, ground := Ground.phase }, { on := 6, ground := Ground.phase }, { on := 7, ground := Ground.phase }, { on := 8, ground := Ground.phase }, { on := 9, ground := Ground.phase }, { on := 10, ground := Ground.phase }, { on := 11, ground := Ground.phase }, { on := 12, ground := Ground.phase }], guard := none }) rfl (fun K hK => ?_) AllReadyH.nil
  have q3 : w4.cell? ⟨db, o + 3, none⟩ = some vn := Has.cellAt X4.out HX3.out
  have f3 : w4.frozen? ⟨db, o + 3, none⟩ = false := X4.out.frozen (o + 3)
  go_simp
  clear q3 f3
  obtain ⟨w5, hw5⟩ : ∃ w5, w5 = w4.setCell ⟨db, o + 3, none⟩ (.slice va vl vc) := ⟨_, rfl⟩
  have X5 : Hid (Has w5 db (X.set (o + 3) (.slice va vl vc)) ty) := Lib.hid (by rw [hw5]; exact X4.out.set (o + 3) _)
  have ND5 : Hid ((Value.slice va vl vc).ownBlock ≠ some db) := Lib.hid (by rw [HUN.out]; exact HND.out)
  have N5 : Hid (w5.ownsRow B tS 1 (.slice va vl vc) (ns.length - 1) ((ns.take i ++ ns.drop (i + 1)).map Value.string)) := Lib.hid (by rw [hw5]; exact owns_set2 N4.out ND5.out _ _)
  have K5 : Hid (w5.ownsRow B tT 5 vk ns.length L) := Lib.hid (by rw [hw5]; exact owns_set2 K4.out HKD.out _ _)
  have G5 : Hid (Has w5 w.heap.size (spC db o nm i dep tk) 82) := Lib.hid (by rw [hw5]; exact G4.out.setOther (a := ⟨db, o + 3, none⟩) (by have := hdl.out; show w.heap.size ≠ db; omega) _)
  have R5 : Hid (Has w5 (w.heap.size + 1) zK 26) := Lib.hid (by rw [hw5]; exact R4.out.setOther (a := ⟨db, o + 3, none⟩) (by have := hdl.out; show w.heap.size + 1 ≠ db; omega) _)
  have V5 : Hid (Has w5 w1.heap.size ct 26) := Lib.hid (by rw [hw5]; exact V4.out.setOther (a := ⟨db, o + 3, none⟩) (by have := hdl.out; have := S1.out; show w1.heap.size ≠ db; omega) _)
  have F5 : Hid (Fr (db :: blk vn) w w5) := Lib.hid (by rw [hw5]; exact F4.out.setCell (.inl (by simp)) _ _)
  have S5 : Hid (w.heap.size + 1 + 1 + 1 ≤ w5.heap.size) := Lib.hid (by have h2 := S4.out; have h3 : w5.heap.size = w4.heap.size := (by rw [hw5]; simp [World.setCell]); omega)
  first | rw [← hw5] | skip
  clear hw5 X4 N4 K4 G4 R4 V4 F4 S4 GR4 X3 Q3 N3 K3 G3 R3 V3 F3 S3
  refine hK.out _ _ (G5.out) (fun hHw3 => ?_)
  clear hK K hHw2
  try simp only [Act.put, List.setIfInBounds_toArray, List.set_cons_zero, List.set_cons_succ]
  refine wpAnyH_done (by kernel_rfl) ?_ _
  clear hHw3
  have X44 : Hid ((X.set (o + 3) (.slice va vl vc))[o + 4]? = some vk) := Lib.hid (by rw [List.getElem?_set, if_neg (by omega)]; exact HX4.out)
  go_upto_region 3 with fail
  refine wp_region_held_drew (S := fun W => Has W w.heap.size (spC db o nm i dep tk) 82) (by kernel_rfl) G5.out.drew (fun hHeld3 => ?_)
  refine wpAnyH_take (i := 0) (oi := { dst := some 30, op := Op.fieldAddr 82 (Operand.tmp 3) 0, type := 0, pos := "work.go:117", after := #[], guard := none }) (v := .pointer (some ⟨w.heap.size, 0, none⟩)) rfl (by kernel_rfl) (by kernel_rfl) (by kernel_rfl) (fun _ _ _ h => h)
    (Or.inl ⟨by rfl, by intro w hSw;  clear hSw; go_simp⟩) hHeld3 ?_
  try simp only [Act.put, List.setIfInBounds_toArray, List.set_cons_zero, List.set_cons_succ]
  refine wpAnyH_take (i := 1) (oi := { dst := some 31, op := Op.load 80 (Operand.tmp 30), type := 80, pos := "work.go:117", after := #[{ on := 0, ground := Ground.data }], guard := none }) (v := .pointer (some ⟨db, o, none⟩)) rfl (by kernel_rfl) (by kernel_rfl) (by kernel_rfl) (fun _ _ _ h => h)
    (Or.inl ⟨by rfl, by intro w hSw; have hq := Has.cellAt hSw (i := 0) rfl; clear hSw; go_simp⟩) hHeld3 ?_
  try simp only [Act.put, List.setIfInBounds_toArray, List.set_cons_zero, List.set_cons_succ]
  refine wpAnyH_take (i := 2) (oi := { dst := some 32, op := Op.fieldAddr 82 (Operand.tmp 3) 0, type := 0, pos := "work.go:117", after := #[], guard := none }) (v := .pointer (some ⟨w.heap.size, 0, none⟩)) rfl (by kernel_rfl) (by kernel_rfl) (by kernel_rfl) (fun _ _ _ h => h)
    (Or.inl ⟨by rfl, by intro w hSw;  clear hSw; go_simp⟩) hHeld3 ?_
  try simp only [Act.put, List.setIfInBounds_toArray, List.set_cons_zero, List.set_cons_succ]
  refine wpAnyH_take (i := 3) (oi := { dst := some 33, op := Op.load 80 (Operand.tmp 32), type := 80, pos := "work.go:117", after := #[{ on := 2, ground := Ground.data }], guard := none }) (v := .pointer (some ⟨db, o, none⟩)) rfl (by kernel_rfl) (by kernel_rfl) (by kernel_rfl) (fun _ _ _ h => h)
    (Or.inl ⟨by rfl, by intro w hSw; have hq := Has.cellAt hSw (i := 0) rfl; clear hSw; go_simp⟩) hHeld3 ?_
  try simp only [Act.put, List.setIfInBounds_toArray, List.set_cons_zero, List.set_cons_succ]
  refine wpAnyH_take (i := 4) (oi := { dst := some 34, op := Op.nilCheck (Operand.tmp 33), type := 0, pos := "work.go:117", after := #[{ on := 3, ground := Ground.data }], guard := none }) (v := .pointer (some ⟨db, o, none⟩)) rfl (by kernel_rfl) (by kernel_rfl) (by kernel_rfl) (fun _ _ _ h => h)
    (Or.inl ⟨by rfl, by intro w hSw;  clear hSw; go_simp⟩) hHeld3 ?_
  try simp only [Act.put, List.setIfInBounds_toArray, List.set_cons_zero, List.set_cons_succ]
  refine wpAnyH_take (i := 5) (oi := { dst := some 35, op := Op.fieldAddr 26 (Operand.tmp 34) 4, type := 0, pos := "work.go:117", after := #[{ on := 4, ground := Ground.data }], guard := none }) (v := .pointer (some ⟨db, o + 4, none⟩)) rfl (by kernel_rfl) (by kernel_rfl) (by kernel_rfl) (fun _ _ _ h => h)
    (Or.inl ⟨by rfl, by intro w hSw;  clear hSw; go_simp⟩) hHeld3 ?_
  try simp only [Act.put, List.setIfInBounds_toArray, List.set_cons_zero, List.set_cons_succ]
  refine wpAnyH_take (i := 7) (oi := { dst := some 37, op := Op.fieldAddr 82 (Operand.tmp 3) 2, type := 0, pos := "work.go:117", after := #[], guard := none }) (v := .pointer (some ⟨w.heap.size, 2, none⟩)) rfl (by kernel_rfl) (by kernel_rfl) (by kernel_rfl) (fun _ _ _ h => h)
    (Or.inl ⟨by rfl, by intro w hSw;  clear hSw; go_simp⟩) hHeld3 ?_
  try simp only [Act.put, List.setIfInBounds_toArray, List.set_cons_zero, List.set_cons_succ]
  refine wpAnyH_take (i := 8) (oi := { dst := some 38, op := Op.load 3 (Operand.tmp 37), type := 3, pos := "work.go:117", after := #[{ on := 7, ground := Ground.data }], guard := none }) (v := .int .i64 (i : Int)) rfl (by kernel_rfl) (by kernel_rfl) (by kernel_rfl) (fun _ _ _ h => h)
    (Or.inl ⟨by rfl, by intro w hSw; have hq := Has.cellAt hSw (i := 2) rfl; clear hSw; go_simp⟩) hHeld3 ?_
  try simp only [Act.put, List.setIfInBounds_toArray, List.set_cons_zero, List.set_cons_succ]
  refine wpAnyH_take (i := 9) (oi := { dst := some 39, op := Op.fieldAddr 82 (Operand.tmp 3) 2, type := 0, pos := "work.go:117", after := #[], guard := none }) (v := .pointer (some ⟨w.heap.size, 2, none⟩)) rfl (by kernel_rfl) (by kernel_rfl) (by kernel_rfl) (fun _ _ _ h => h)
    (Or.inl ⟨by rfl, by intro w hSw;  clear hSw; go_simp⟩) hHeld3 ?_
  try simp only [Act.put, List.setIfInBounds_toArray, List.set_cons_zero, List.set_cons_succ]
  refine wpAnyH_take (i := 10) (oi := { dst := some 40, op := Op.load 3 (Operand.tmp 39), type := 3, pos := "work.go:117", after := #[{ on := 9, ground := Ground.data }], guard := none }) (v := .int .i64 (i : Int)) rfl (by kernel_rfl) (by kernel_rfl) (by kernel_rfl) (fun _ _ _ h => h)
    (Or.inl ⟨by rfl, by intro w hSw; have hq := Has.cellAt hSw (i := 2) rfl; clear hSw; go_simp⟩) hHeld3 ?_
  try simp only [Act.put, List.setIfInBounds_toArray, List.set_cons_zero, List.set_cons_succ]
  refine wpAnyH_take (i := 11) (oi := { dst := some 41, op := Op.binOp BinOp.add 3 (Operand.tmp 40) (Operand.const (Value.int IntKind.i64 1)) 3, type := 3, pos := "work.go:117", after := #[{ on := 10, ground := Ground.data }], guard := none }) (v := .int .i64 ((i : Int) + 1)) rfl (by kernel_rfl) (by kernel_rfl) (by kernel_rfl) (fun _ _ _ h => h)
    (Or.inl ⟨by rfl, by intro w hSw;  clear hSw; go_simp <;> exact HWI.out⟩) hHeld3 ?_
  try simp only [Act.put, List.setIfInBounds_toArray, List.set_cons_zero, List.set_cons_succ]
  refine wpAnyH_ready (rs := [6]) (by kernel_rfl) (by simp) ?_
  refine AllReadyH.cons (o := { dst := some 36, op := Op.load 24 (Operand.tmp 35), type := 24, pos := "work.go:117", after := #[{ on := 5, ground := Ground.data }], guard := none }) rfl (fun K hK => ?_) AllReadyH.nil
  have q3 : World.cell? w5.drew ⟨db, o + 4, none⟩ = some vk := Has.cellAt (X5.out.drew) X44.out
  go_simp
  clear q3
  refine hK.out _ _ (G5.out.drew) (fun hHw1 => ?_)
  clear hK K hHeld3
  try simp only [Act.put, List.setIfInBounds_toArray, List.set_cons_zero, List.set_cons_succ]
  refine wpAnyH_ready (rs := [12]) (by kernel_rfl) (by simp) ?_
  refine AllReadyH.cons (o := { dst := some 42, op := Op.call { callee := Callee.value (Operand.func 60), args := #[Operand.tmp 36, Operand.tmp 38, Operand.tmp 41], argTypes := #[24, 3, 3] }, type := 24, pos := "work.go:117", after := #[{ on := 6, ground := Ground.data }, { on := 8, ground := Ground.data }, { on := 11, ground := Ground.data }], guard := none }) rfl (fun K hK => ?_) AllReadyH.nil
  go_simp
  have hcl := delT_any (w := w5.drew) (owns_drew K5.out) (by have := HL.out; omega) HI.out H1L.out
  rw [show ((i + 1 : Nat) : Int) = (i : Int) + 1 by omega] at hcl
  refine hcl.mono ?_
  rintro e w6 ⟨VK0, rfl, ho6, hg6, hb6⟩
  obtain ⟨ua, ul, uc, rfl⟩ := slice_owned ho6
  have K6 := Lib.hid ho6
  have HUK : Hid ((Value.slice ua ul uc).ownBlock = vk.ownBlock) := Lib.hid hb6
  have N6 : Hid (w6.ownsRow B tS 1 (.slice va vl vc) (ns.length - 1) ((ns.take i ++ ns.drop (i + 1)).map Value.string)) := Lib.hid (owns_grown3 (owns_drew N5.out) (owns_drew K5.out) (by decide) hg6)
  have GR6 : Hid (Fr (blk vk) w5.drew w6) := Lib.hid (Fr.of_grown hg6 (fun g h => mem_blk.2 h))
  have NK : Hid (∀ g, w.heap.size ≤ g → g ∉ blk vk) := Lib.hid (fun g h2 h3 => by have := blk_lt HK.out (mem_blk.1 h3); omega)
  have X6 : Hid (Has w6 db (X.set (o + 3) (.slice va vl vc)) ty) := Lib.hid (has_fr X5.out.drew GR6.out (fun h => HKD.out (mem_blk.1 h)))
  have G6 : Hid (Has w6 w.heap.size (spC db o nm i dep tk) 82) := Lib.hid (has_fr G5.out.drew GR6.out (NK.out _ (by omega)))
  have R6 : Hid (Has w6 (w.heap.size + 1) zK 26) := Lib.hid (has_fr R5.out.drew GR6.out (NK.out _ (by omega)))
  have V6 : Hid (Has w6 w1.heap.size ct 26) := Lib.hid (has_fr V5.out.drew GR6.out (NK.out _ (by have := S1.out; omega)))
  have F6 : Hid (Fr (db :: (blk vn ++ blk vk)) w w6) := Lib.hid (((F5.out.drew).mono (S' := db :: (blk vn ++ blk vk)) (fun g hg _ => by
    rcases List.mem_cons.1 hg with h | h
    · simp [h]
    · simp [h])).trans GR6.out (fun g hg _ => by simp [hg]))
  have S6 : Hid (w.heap.size + 1 + 1 + 1 ≤ w6.heap.size) := Lib.hid (by have h1 := GR6.out.size; have h2 := S5.out; have h3 : w5.drew.heap.size = w5.heap.size := rfl; omega)
  clear ho6 hg6 hb6 hcl
  go_wp2_with fail
  refine hK.out _ _ (G6.out) (fun hHw2 => ?_)
  clear hK K hHw1
  try simp only [Act.put, List.setIfInBounds_toArray, List.set_cons_zero, List.set_cons_succ]
  refine wpAnyH_take (i := 13) (oi := { dst := some 43, op := Op.nilCheck (Operand.tmp 31), type := 0, pos := "work.go:117", after := #[{ on := 1, ground := Ground.data }, { on := 0, ground := Ground.phase }, { on := 1, ground := Ground.phase }, { on := 2, ground := Ground.phase }, { on := 3, ground := Ground.phase }, { on := 4, ground := Ground.phase }, { on := 5, ground := Ground.phase }, { on := 6, ground := Ground.phase }, { on := 7, ground := Ground.phase }, { on := 8, ground := Ground.phase }, { on := 9, ground := Ground.phase }, { on := 10, ground := Ground.phase }, { on := 11, ground := Ground.phase }, { on := 12, ground := Ground.phase }], guard := none }) (v := .pointer (some ⟨db, o, none⟩)) rfl (by kernel_rfl) (by kernel_rfl) (by kernel_rfl) (fun _ _ _ h => h)
    (Or.inl ⟨by rfl, by intro w hSw;  clear hSw; go_simp⟩) hHw2 ?_
  try simp only [Act.put, List.setIfInBounds_toArray, List.set_cons_zero, List.set_cons_succ]
  refine wpAnyH_take (i := 14) (oi := { dst := some 44, op := Op.fieldAddr 26 (Operand.tmp 43) 4, type := 0, pos := "work.go:117", after := #[{ on := 13, ground := Ground.data }, { on := 0, ground := Ground.phase }, { on := 1, ground := Ground.phase }, { on := 2, ground := Ground.phase }, { on := 3, ground := Ground.phase }, { on := 4, ground := Ground.phase }, { on := 5, ground := Ground.phase }, { on := 6, ground := Ground.phase }, { on := 7, ground := Ground.phase }, { on := 8, ground := Ground.phase }, { on := 9, ground := Ground.phase }, { on := 10, ground := Ground.phase }, { on := 11, ground := Ground.phase }, { on := 12, ground := Ground.phase }], guard := none }) (v := .pointer (some ⟨db, o + 4, none⟩)) rfl (by kernel_rfl) (by kernel_rfl) (by kernel_rfl) (fun _ _ _ h => h)
    (Or.inl ⟨by rfl, by intro w hSw;  clear hSw; go_simp⟩) hHw2 ?_
  try simp only [Act.put, List.setIfInBounds_toArray, List.set_cons_zero, List.set_cons_succ]
  refine wpAnyH_ready (rs := [15]) (by kernel_rfl) (by simp) ?_
  refine AllReadyH.cons (o := { dst := none, op := Op.store 24 (Operand.tmp 44) (Operand.tmp 42), type := 0, pos := "work.go:117", after := #[{ on := 14, ground := Ground.data }, { on := 12, ground := Ground.data }, { on := 12, ground := Ground.chain }, { on := 0, ground := Ground.phase }, { on := 1, ground := Ground.phase }, { on := 2, ground := Ground.phase }, { on := 3, ground := Ground.phase }, { on := 4, ground := Ground.phase }, { on := 5, ground := Ground.phase }, { on := 6, ground := Ground.phase }, { on := 7, ground := Ground.phase }, { on := 8, ground := Ground.phase }, { on := 9, ground := Ground.phase }, { on := 10, ground := Ground.phase }, { on := 11, ground := Ground.phase }, { on := 12, ground := Ground.phase }], guard := none }) rfl (fun K hK => ?_) AllReadyH.nil
  have q3 : w6.cell? ⟨db, o + 4, none⟩ = some vk := Has.cellAt X6.out X44.out
  have f3 : w6.frozen? ⟨db, o + 4, none⟩ = false := X6.out.frozen (o + 4)
  go_simp
  clear q3 f3
  obtain ⟨w7, hw7⟩ : ∃ w7, w7 = w6.setCell ⟨db, o + 4, none⟩ (.slice ua ul uc) := ⟨_, rfl⟩
  have X7 : Hid (Has w7 db ((X.set (o + 3) (.slice va vl vc)).set (o + 4) (.slice ua ul uc)) ty) := Lib.hid (by rw [hw7]; exact X6.out.set (o + 4) _)
  have KD7 : Hid ((Value.slice ua ul uc).ownBlock ≠ some db) := Lib.hid (by rw [HUK.out]; exact HKD.out)
  have K7 : Hid (w7.ownsRow B tT 5 (.slice ua ul uc) (ns.length - 1) (L.take (i * 5) ++ L.drop ((i + 1) * 5))) := Lib.hid (by rw [hw7]; exact owns_set2 K6.out KD7.out _ _)
  have N7 : Hid (w7.ownsRow B tS 1 (.slice va vl vc) (ns.length - 1) ((ns.take i ++ ns.drop (i + 1)).map Value.string)) := Lib.hid (by rw [hw7]; exact owns_set2 N6.out ND5.out _ _)
  have R7 : Hid (Has w7 (w.heap.size + 1) zK 26) := Lib.hid (by rw [hw7]; exact R6.out.setOther (a := ⟨db, o + 4, none⟩) (by have := hdl.out; show w.heap.size + 1 ≠ db; omega) _)
  have V7 : Hid (Has w7 w1.heap.size ct 26) := Lib.hid (by rw [hw7]; exact V6.out.setOther (a := ⟨db, o + 4, none⟩) (by have := hdl.out; have := S1.out; show w1.heap.size ≠ db; omega) _)
  have G7 : Hid (Has w7 w.heap.size (spC db o nm i dep tk) 82) := Lib.hid (by rw [hw7]; exact G6.out.setOther (a := ⟨db, o + 4, none⟩) (by have := hdl.out; show w.heap.size ≠ db; omega) _)
  have F7 : Hid (Fr (db :: (blk vn ++ blk vk)) w w7) := Lib.hid (by rw [hw7]; exact F6.out.setCell (.inl (by simp)) _ _)
  have S7 : Hid (w.heap.size + 1 + 1 + 1 ≤ w7.heap.size) := Lib.hid (by have h2 := S6.out; have h3 : w7.heap.size = w6.heap.size := (by rw [hw7]; simp [World.setCell]); omega)
  first | rw [← hw7] | skip
  clear hw7 X5 N5 K5 G5 R5 V5 F5 S5 X6 N6 K6 G6 R6 V6 F6 S6 GR6
  refine hK.out _ _ (G7.out) (fun hHw3 => ?_)
  clear hK K hHw2
  try simp only [Act.put, List.setIfInBounds_toArray, List.set_cons_zero, List.set_cons_succ]
  refine wpAnyH_done (by kernel_rfl) ?_ _
  clear hHw3
  have PP : Hid (∃ e3 e4, Has w7 p (wkC c0 c1 c2 e3 e4 (a : Int) (b : Int)) 52 ∧ (p = db → e3 = .slice va vl vc ∧ e4 = .slice ua ul uc) ∧ (p ≠ db → e3 = c3 ∧ e4 = c4)) := Lib.hid (by
    rcases HPP.out with ⟨rfl, rfl, rfl, rfl⟩ | ⟨h1, h2⟩
    · exact ⟨_, _, X7.out, fun _ => ⟨rfl, rfl⟩, fun h => absurd rfl h⟩
    · refine ⟨c3, c4, has_fr h2 F7.out (fun hm => ?_), fun h => absurd h h1, fun _ => ⟨rfl, rfl⟩⟩
      rcases List.mem_cons.1 hm with h3 | h3
      · exact h1 h3
      · rcases List.mem_append.1 h3 with h4 | h4
        · exact own_type2 HN.out h2 (by decide) (mem_blk.1 h4)
        · exact own_type2 HK.out h2 (by decide) (mem_blk.1 h4))
  obtain ⟨e3, e4, hp7, he1, he2⟩ := PP.out
  have P7 := Lib.hid hp7
  have HE1 := Lib.hid he1
  have HE2 := Lib.hid he2
  have HTC := Lib.hid (show IsT w7 lv ct tt by rw [HCE.out]; exact HTT.out w7 (F7.out.mono (fun g hg _ => List.mem_cons_of_mem _ hg)))
  have V7r : Hid (w7.heap[w1.heap.size]? = some (.cells ct.toArray 26 (0, 0))) := Lib.hid (show _ from V7.out)
  have PW : Hid (p < w.heap.size) := Lib.hid (by
    rcases HPP.out with ⟨rfl, _, _, _⟩ | ⟨h1, h2⟩
    · exact hdl.out
    · exact h2.lt)
  clear hp7 he1 he2 PP
  go_wp2_with (refine wpList_load_row rfl 26 _ rfl w1.heap.size rfl 26 ct.toArray (0, 0) _ V7r.out Tryd.underlying26 rfl HIA.out ?_)
  refine (count_w lv ct tt w7 p c0 c1 c2 e3 e4 (a : Int) (b : Int) (-1) x y HTC.out P7.out HZZ.out (.inr rfl) HBA.out HBB.out).mono ?_
  rintro e w8 ⟨rfl, hp8, hb8⟩
  rw [Int.neg_mul, Int.one_mul, Int.neg_mul, Int.one_mul] at hp8
  have P8 := Lib.hid hp8
  have B8 := Lib.hid hb8
  have F8 : Hid (Fr (p :: db :: (blk vn ++ blk vk)) w w8) := Lib.hid ((F7.out.mono (S' := p :: db :: (blk vn ++ blk vk)) (fun g hg _ => List.mem_cons_of_mem _ hg)).trans (Fr.of_but (S := [p]) hb8 (.inl (by simp))) (fun g hg _ => by simp only [List.mem_cons, List.not_mem_nil, or_false] at hg; simp [hg]))
  have R8 : Hid (Has w8 (w.heap.size + 1) zK 26) := Lib.hid (R7.out.but hb8 R7.out.lt (by have := PW.out; omega))
  have V8 : Hid (Has w8 w1.heap.size ct 26) := Lib.hid (V7.out.but hb8 V7.out.lt (by have := PW.out; have := S1.out; omega))
  have V8r : Hid (w8.heap[w1.heap.size]? = some (.cells ct.toArray 26 (0, 0))) := Lib.hid (show _ from V8.out)
  have R8r : Hid (w8.heap[w.heap.size + 1]? = some (.cells zK.toArray 26 (0, 0))) := Lib.hid (show _ from R8.out)
  have HZ5 : Hid (zK.toArray.size = ct.toArray.size) := Lib.hid (by simp [zK, HC5.out])
  have RES : Hid (TakeP w B p db o X L ty vn vk c0 c1 c2 c3 c4 ns i a b x y (.returned (.agg ct.toArray)) (w8.setRow (w.heap.size + 1) ct.toArray)) := Lib.hid (by
    have hl0 : Fr [w.heap.size + 1] w8 (w8.setRow (w.heap.size + 1) ct.toArray) := (Fr.refl _ _).setRow (.inl (by simp)) _
    have hP8 : Has (w8.setRow (w.heap.size + 1) ct.toArray) p (wkC c0 c1 c2 e3 e4 ((a : Int) + -(x : Int)) ((b : Int) + -(y : Int))) 52 := has_setRow_other P8.out (by have := PW.out; omega) _
    have hl8 : Fr [p, w.heap.size + 1] w7 (w8.setRow (w.heap.size + 1) ct.toArray) := ((Fr.of_but (S := [p]) B8.out (.inl (by simp))).mono (S' := [p, w.heap.size + 1]) (fun g hg _ => by simp only [List.mem_cons, List.not_mem_nil, or_false] at hg; simp [hg])).trans hl0 (fun g hg _ => by simp only [List.mem_cons, List.not_mem_nil, or_false] at hg; simp [hg])
    have hpn : p ∉ blk (Value.slice va vl vc) := fun h => own_type2 N7.out P7.out (by decide) (mem_blk.1 h)
    have hpk : p ∉ blk (Value.slice ua ul uc) := fun h => own_type2 K7.out P7.out (by decide) (mem_blk.1 h)
    refine ⟨.slice va vl vc, .slice ua ul uc, by rw [HCE.out], fun h => ?_, fun h => ⟨has_fr X7.out hl8 (by simp only [List.mem_cons, List.not_mem_nil, or_false]; rintro (e | e); exact h e.symm; have := hdl.out; omega), ?_⟩, owns_fr N7.out hl8 (fun g hg hm => ?_), owns_fr K7.out hl8 (fun g hg hm => ?_), F8.out.setRow (.inr (by omega)) _, HUN.out, HUK.out⟩
    · obtain ⟨rfl, rfl⟩ := HE1.out h
      exact hP8
    · obtain ⟨rfl, rfl⟩ := HE2.out h
      exact hP8
    · simp only [List.mem_cons, List.not_mem_nil, or_false] at hm
      rcases hm with rfl | rfl
      · exact hpn hg
      · have hq := mem_blk.1 hg
        rw [HUN.out] at hq
        have := blk_lt HN.out hq
        omega
    · simp only [List.mem_cons, List.not_mem_nil, or_false] at hm
      rcases hm with rfl | rfl
      · exact hpk hg
      · have hq := mem_blk.1 hg
        rw [HUK.out] at hq
        have := blk_lt HK.out hq
        omega)
  clear hp8 hb8 P7 V7r HTC B8 N7 K7 X7 G7 R7 V7 F7 S7 P8 F8 HE1 HE2
  go_wp2_with (first
    | (refine wpList_load_row rfl 26 _ rfl w1.heap.size rfl 26 ct.toArray (0, 0) _ V8r.out Tryd.underlying26 rfl HIA.out ?_)
    | (refine wpList_store_row rfl 26 _ _ rfl (w.heap.size + 1) ct.toArray rfl rfl 26 zK.toArray R8r.out HIA.out HZ5.out H1C.out ?_))
  refine bodyPost_ret (results_cell_row (fn := Tryd.f45) (p := 4) (ty := 26) Tryd.results45 _ _ (w.heap.size + 1) 26 ct.toArray (0, 0) _ rfl (setRow_heap _ _ _ _ _ _ R8r.out) Tryd.underlying26 rfl HIA.out) rfl ?_
  exact RES.out

end Go.Proofs.YtbempgdndmchlaaDoor
